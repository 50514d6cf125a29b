/-
  The statement EpochWaits holds: ahead of a thing's going each worker has announced at least once behind the moment at which it was retired. No condition.
-/
import Derived.Test.YtjphmiemakmcbaaEa
import Derived.Test.YtjphmiemakmcbaaPureW
import Derived.Test.YtjphmiemakmcbaaRows
import Derived.ProofKit
import Derived.OpenShut
import Derived.ShutString
import Derived.ChangeOld
namespace Go.Proofs.Ytjphmiemakmcbaa.epochWaits
open Go.ChangeShapes Go.WideShapes Go.ChangeAt Go.RowKit
open Go.ChangeMaps (open_string shut_string)

set_option maxHeartbeats 2000000 in
set_option maxRecDepth 100000 in
theorem long (c : Nat) (a1 : Option Addr) (len1 cap1 : Nat) (hl : 200 < len1) (w : World) :
    Calls Try.prog 5 #[.int .u8 (c : Int), .slice a1 len1 cap1] w fun e w' => e = .returned (.bool true) ∧ Fr F0 w w' := by
  have g1 : decide (200 < (len1 : Int)) = true := decide_eq_true (by omega)
  have g2 : decide (200 < len1) = true := decide_eq_true hl
  go_enter Try.func5, Try.ntmps5
  go_wp2_with fail
  go_ret
  exact ⟨rfl, Fr.refl _ _⟩

theorem wmod (z : Int) (n : Nat) (h1 : 1 ≤ n) (h6 : n ≤ 6) : ∃ u : Nat, u < n ∧ (wrap64 (z.tmod (n : Int) + (n : Int))).tmod (n : Int) = (u : Int) := by
  have ha : z.tmod (n : Int) < (n : Int) := Int.tmod_lt_of_pos z (by omega)
  have hb : -(n : Int) < z.tmod (n : Int) := by have := Int.tmod_lt_of_pos (-z) (b := (n : Int)) (by omega); rw [Int.neg_tmod] at this; omega
  obtain ⟨r, hr⟩ : ∃ r, r = z.tmod (n : Int) := ⟨_, rfl⟩
  rw [← hr] at ha hb ⊢
  have hw : wrap64 (r + (n : Int)) = r + (n : Int) := by unfold wrap64; omega
  rw [hw]
  obtain ⟨t, ht⟩ : ∃ t : Nat, r + (n : Int) = t := ⟨(r + (n : Int)).toNat, by omega⟩
  rw [ht]
  refine ⟨t % n, Nat.mod_lt _ (by omega), ?_⟩
  rw [Int.tmod_eq_emod_of_nonneg (by omega)]
  rfl
theorem ic_set (l : List Int) (i : Nat) (z : Int) : (ic l).toArray.setIfInBounds i (.int .i64 z) = (ic (l.set i z)).toArray := by
  simp [ic, List.map_set]
theorem ne_three : 47 ≠ 55 ∧ 47 ≠ 58 ∧ 47 ≠ 60 := by decide
theorem ne_int : 3 ≠ 55 ∧ 3 ≠ 58 ∧ 3 ≠ 60 := by decide

set_option maxHeartbeats 8000000 in
set_option maxRecDepth 100000 in
theorem few (c : Nat) (hc : c < 256) (a1 : Option Addr) (len1 cap1 : Nat) (hl : len1 ≤ 200) (f : Nat → Bool × Int × Int) (w : World) (hA : IsActs w a1 len1 f) :
    Calls Try.prog 5 #[.int .u8 (c : Int), .slice a1 len1 cap1] w fun e w' => e = .returned (.bool true) ∧ Fr F0 w w' := by
  obtain ⟨i0, hi0, hz0, hz1, hz2⟩ := info_parts info_int
  obtain ⟨n, hn⟩ : ∃ n, n = c % 6 + 1 := ⟨_, rfl⟩
  have hn2 : 1 ≤ n := by omega
  have hn6 : n ≤ 6 := by omega
  have e1 : (c : Int) % 6 + 1 = (n : Int) := by omega
  have g1 : decide (200 < (len1 : Int)) = false := decide_eq_false (by omega)
  have g2 : decide (200 < len1) = false := decide_eq_false (by omega)
  have HNEW := Lib.hid (new_yes w n (by omega) (by omega))
  have HA := Lib.hid hA
  clear hn hA
  go_enter Try.func5, Try.ntmps5
  go_wp2_with fail
  refine HNEW.out.mono ?_
  rintro e w1 ⟨rfl, hE1, hF1⟩
  obtain ⟨x, hx⟩ : ∃ x, x = w.heap.size := ⟨_, rfl⟩
  rw [← hx] at hE1 ⊢
  have HE1 := Lib.hid hE1
  have HF1 := Lib.hid hF1
  have HX := Lib.hid hx
  have hfA : Fr F0 w1 (w1.alloc (.cells #[.int .i64 0, .int .i64 0, .int .i64 0, .int .i64 0, .int .i64 0, .int .i64 0] 47)) := (Fr.refl _ _).alloc _
  have HE2 := Lib.hid (hE1.f0 hfA)
  have HF2 := Lib.hid (hF1.trans hfA)
  have HB2 := Lib.hid (Blk.new w1 47 (ic [0, 0, 0, 0, 0, 0]).toArray)
  have HSX : Hid (x ≤ w1.heap.size) := by rw [hx]; exact hF1.size
  clear hE1 hF1 HNEW hx e1 hfA
  go_wp2_with fail
  obtain ⟨L, hL⟩ : ∃ L, L = w1.heap.size := ⟨_, rfl⟩
  rw [← hL] at HB2 HSX ⊢
  clear hL
  go_loopw [10, 9] (fun i v9 wx => ∃ (k now : Nat) (ws : List Wk) (last wh : List Int), k ≤ len1 ∧ i = .int .i64 (k : Int) ∧ Hid (JW n k now ws last wh) ∧ Hid (EpAt wx x x now ws) ∧ Hid (Blk wx L 47 (ic last).toArray) ∧ Hid (wx.ownsRow x 3 1 v9 wh.length (ic wh)) ∧ Hid (Fr F0 w wx)) (fun i _ _ => len1 - (intOf i).toNat)
  case atStart => exact ⟨0, 0, _, _, [], by omega, rfl, Lib.hid (JW.start n), HE2, HB2, Lib.hid (World.ownsRow_nil _ _ _ _), HF2⟩
  case round =>
    obtain ⟨k, now, ws, last, wh, hkn, rfl, HJ, HE, HB, HW, HF⟩ := hrel
    by_cases hk : k < len1
    · have g3 : (k : Int) < (len1 : Int) := by omega
      obtain ⟨b, off, rfl, ca0, ca1, ca2, hf1, hf2⟩ := HA.out.2 k hk
      have HFA := HF
      have hwx : w.heap.size ≤ x := by rw [HX.out]; exact Nat.le_refl _
      have d0 := HFA.out.held ca0 (fun h => h)
      have d1 := HFA.out.held ca1 (fun h => h)
      clear ca0 ca1 ca2
      obtain ⟨p, hp⟩ : ∃ p, p = f k := ⟨_, rfl⟩
      rw [← hp] at d0 d1 hf1
      clear hp hf2
      obtain ⟨ret, wz, tz⟩ := p
      have d0' : wr.cell? ⟨b, off + k * 3, none⟩ = some (.bool ret) := d0
      have d1' : wr.cell? ⟨b, off + k * 3 + 1, none⟩ = some (.int .i64 wz) := d1
      clear d0 d1 hf1
      obtain ⟨u, hun, hu⟩ := wmod wz n hn2 hn6
      obtain ⟨q, hq⟩ := get_lt (l := ws) (i := u) (by rw [HJ.out.len]; exact hun)
      have hq0 : Hid (ws[u]? = some q) := hq
      obtain ⟨A9, c9, rfl⟩ := own_slice HW.out
      have hk6 := HJ.out.nk
      have hwk := HJ.out.whk
      cases ret with
      | true =>
        obtain ⟨wl, hwl⟩ : ∃ wl, wl = wh.length := ⟨_, rfl⟩
        have HRT := Lib.hid (retire_yes wr x x now ws HE.out u q hq (by have := HJ.out.lim u q hq; omega) (by rw [HX.out]; exact HF.out.size) (wl : Int))
        rw [← hwl] at HW ⊢
        have HWL := Lib.hid hwl
        clear hq hwl hwk
        go_wp2_with fail
        refine HRT.out.mono ?_
        rintro e w2 ⟨rfl, hE2, hF2⟩
        have hsz : x ≤ w2.heap.size := Nat.le_trans (by rw [HX.out]; exact HF.out.size) hF2.size
        have hfA : Fr F0 w2 (w2.alloc (.cells #[.int .i64 ((k : Int) + 1)] 3)) := (Fr.refl _ _).alloc _
        have hnb : (w2.alloc (.cells #[.int .i64 ((k : Int) + 1)] 3)).heap[w2.heap.size]? = some (.cells #[.int .i64 ((k : Int) + 1)] 3) := heap_alloc_new _ _
        have HOW := Lib.hid (own_fr (own_frE HW.out hF2 ne_int) hfA (fun _ _ h => h))
        have HB2 := Lib.hid ((HB.out.frE hF2 ne_three).fr hfA (fun h => h))
        have HE2 := Lib.hid (hE2.f0 hfA)
        have HF2 := Lib.hid ((HF.out.thenE hF2 hwx).trans hfA)
        have HNB := Lib.hid hnb
        have HJ2 := Lib.hid (HJ.out.retire hq0.out)
        have hwk2 : wl ≤ 200 := by have h1 := HJ.out.whk; have h2 := HWL.out; omega
        clear hE2 hF2 HRT hfA hnb d0' d1'
        go_wp2_with (at_builtin; refine wpList_append_lies _ rfl (.tmp 58) (.tmp 61) 33 rfl x 3 i0 (.int .i64 0) 1 8 Try.underlying33 hi0 hz0 hz1 hz2 rfl (by decide) _ wl _ rfl HOW.out ⟨w2.heap.size, 0, none⟩ 1 1 [.int .i64 ((k : Int) + 1)] rfl rfl ?c1 ?c2 (by decide) ?c3 ?c4 ?c5 (w2.heap.size + 1) ?c6 ?_)
        case c1 => intro i u hi; exact World.news_of_block HNB.out i u hi
        case c2 => intro u hu; simp at hu; rcases hu with rfl; rfl
        case c3 => unfold maxLen; omega
        case c4 => omega
        case c5 => simp; omega
        case c6 => simp
        intro g cap w3 hown3 hg3 hor3 hlt3
        have HF3 : Hid (Fr F0 w w3) := Fr.then HF2.out (Fr.grown hg3) (fun i hi => .inr (Nat.le_trans hwx (own_low HOW.out i hi.symm)))
        have HE3 := Lib.hid (HE2.out.fr (Fr.grown hg3) (fun q hq he => own_mine HOW.out ne_int q hq he.symm))
        have HB3 := Lib.hid (HB2.out.fr (Fr.grown hg3) (fun he => own_ne HOW.out HB2.out (by decide) he.symm))
        have HW3 := Lib.hid hown3
        clear hown3 hg3 hor3 hlt3
        go_wp2_with fail
        refine ⟨⟨k + 1, now, _, last, wh ++ [((k + 1 : Nat) : Int)], by omega, by go_num, ?_, HE3, HB3, Lib.hid ?_, HF3⟩, by simp [intOf]; omega⟩
        · have := HJ2.out
          rw [← HWL.out] at this
          exact Lib.hid this
        · rw [List.length_append, ← HWL.out]
          simpa [ic] using HW3.out
      | false =>
        have hul : u < last.length := by rw [HJ.out.l6]; omega
        obtain ⟨y0, hy0⟩ := get_lt hul
        have cL : wr.cell? ⟨L, u, none⟩ = some (.int .i64 y0) := by rw [HB.out.cell, List.getElem?_toArray, ic_at hy0]
        have fL := HB.out.frozen u
        have g7 : (u : Int) < 6 := by omega
        have g8 : u < 6 := by omega
        have hfS : Fr (fun q => q = L) wr (wr.setCell ⟨L, u, none⟩ (.int .i64 ((k : Int) + 1))) := (Fr.refl (fun q => q = L) wr).setCell (p := ⟨L, u, none⟩) (.inl rfl) _
        have hE1 := HE.out.fr hfS (fun q hq he => blk_mine HB.out ne_three (he ▸ hq))
        have hB1 := HB.out.set_ u (.int .i64 ((k : Int) + 1))
        rw [ic_set] at hB1
        have HW1 := Lib.hid (own_fr HW.out hfS (fun q hq he => own_ne HW.out HB.out (by decide) (he ▸ hq)))
        have HFS : Hid (Fr F0 w (wr.setCell ⟨L, u, none⟩ (.int .i64 ((k : Int) + 1)))) := Fr.then HF.out hfS (fun i hi => .inr (by rw [hi]; exact Nat.le_trans hwx HSX.out))
        have HAN := Lib.hid (announce_yes _ x x now ws hE1 u q hq (by have := HJ.out.lim u q hq; omega) (by rw [HJ.out.len]; omega) (by omega))
        have hJA := HJ.out.announce hq0.out
        obtain ⟨n1, hn1⟩ : ∃ n1, n1 = annN now ws u q := ⟨_, rfl⟩
        rw [← hn1] at HAN hJA
        obtain ⟨gone, hgone⟩ : ∃ gone, gone = annG n1 q := ⟨_, rfl⟩
        rw [← hgone] at hJA
        obtain ⟨last1, hlast1⟩ : ∃ last1, last1 = last.set u ((k + 1 : Nat) : Int) := ⟨_, rfl⟩
        rw [← hlast1] at hJA
        have hB1' : Blk (wr.setCell ⟨L, u, none⟩ (.int .i64 ((k : Int) + 1))) L 47 (ic last1).toArray := by rw [hlast1]; exact hB1
        have HJA := Lib.hid hJA.1
        have HGA := Lib.hid hJA.2
        have HGONE := Lib.hid hgone
        have HB1 := Lib.hid hB1'
        clear hJA hn1 hgone hq hE1 hB1 hB1' hfS hy0 hul hlast1
        go_wp2_with fail
        refine HAN.out.mono ?_
        rintro e w2 ⟨v, rfl, hO2, hE2, hF2⟩
        rw [← HGONE.out] at hO2
        obtain ⟨gl, hgl⟩ : ∃ gl, gl = gone.length := ⟨_, rfl⟩
        have hgl2 : gl ≤ 200 := by
          rw [hgl, HGONE.out]
          unfold annG
          rw [List.length_map]
          have h1 := (List.takeWhile_prefix (rdy n1) (l := q.limbo)).length_le
          have h2 := HJ.out.lim u q hq0.out
          omega
        rw [← hgl] at hO2
        obtain ⟨vA, vc, rfl⟩ := own_slice hO2
        have HO2 := Lib.hid hO2
        have HE2 := Lib.hid hE2
        have HW2 := Lib.hid (own_frE HW1.out hF2 ne_int)
        have HB2 := Lib.hid (HB1.out.frE hF2 ne_three)
        have HF2 := Lib.hid (HFS.out.thenE hF2 hwx)
        have HGL := Lib.hid hgl
        clear hO2 hE2 hF2 HAN hgl cL fL d0' d1'
        obtain ⟨wl, hwl⟩ : ∃ wl, wl = wh.length := ⟨_, rfl⟩
        rw [← hwl] at HW2 hwk ⊢
        have HWL := Lib.hid hwl
        clear hwl
        go_wp2_with fail
        clear hu
        go_loopw [14] (fun mv wx => ∃ m : Nat, m ≤ gl ∧ mv = .int .i64 (m : Int) ∧ Hid (Fr F0 w2 wx)) (fun mv _ => gl - (intOf mv).toNat)
        case atStart => exact ⟨0, by omega, rfl, Lib.hid (Fr.refl _ _)⟩
        case round =>
          obtain ⟨m, hmg, rfl, HFI⟩ := hrel
          by_cases hm : m < gl
          · have g9 : (m : Int) < (gl : Int) := by omega
            obtain ⟨gz, hgz⟩ := get_lt (l := gone) (i := m) (by have := HGL.out; omega)
            obtain ⟨i, z, rfl, hz, hall⟩ := HGA.out gz (List.mem_of_getElem? hgz)
            obtain ⟨gb, gc, hgv, _, _, _, gcell⟩ := own_at (own_fr HO2.out HFI.out (fun _ _ h => h)) (ic_at hgz)
            injection hgv with hgv1 _ hgv3
            subst hgv1; subst hgv3
            obtain ⟨wb, wc, hwv, _, hiw, _, wcell⟩ := own_at (own_fr HW2.out HFI.out (fun _ _ h => h)) (ic_at hz)
            injection hwv with hwv1 _ hwv3
            subst hwv1; subst hwv3
            have g10 : decide ((i : Int) < 0) = false := decide_eq_false (by omega)
            have g11 : decide ((wl : Int) ≤ (i : Int)) = false := decide_eq_false (by omega)
            have g11n : decide (wl ≤ i) = false := decide_eq_false (by omega)
            have g12 : (i : Int) < (wl : Int) := by omega
            have HALL := Lib.hid hall
            have HBI := Lib.hid (HB2.out.fr HFI.out (fun h => h))
            have HGC := Lib.hid gcell
            have HWC := Lib.hid wcell
            clear hgz hz hall wcell
            go_wp2_with fail
            clear gcell
            go_loopw [15] (fun jv wx => ∃ j : Nat, j ≤ n ∧ jv = .int .i64 (j : Int) ∧ Hid (Fr F0 wr wx)) (fun jv _ => n - (intOf jv).toNat)
            case atStart => exact ⟨0, by omega, rfl, Lib.hid (Fr.refl _ _)⟩
            case round =>
              obtain ⟨j, hjn, rfl, HFJ⟩ := hrel
              by_cases hj : j < n
              · have g13 : (j : Int) < (n : Int) := by omega
                have g14 : (j : Int) < 6 := by omega
                have g15 : j < 6 := by omega
                obtain ⟨y, hy⟩ := get_lt (l := last1) (i := j) (by rw [HJA.out.l6]; omega)
                have hzy := HALL.out j y hj hy
                have cj := (HBI.out.fr HFJ.out (fun h => h)).cell j
                rw [List.getElem?_toArray, ic_at hy] at cj
                have c1 := HFJ.out.held HGC.out (fun h => h)
                have c2 := HFJ.out.held HWC.out (fun h => h)
                have g16 : decide (y ≤ z) = false := decide_eq_false (by omega)
                clear hy hzy
                go_wp2_with fail
                go_quiet (fail)
                go_wp2_with fail
                exact ⟨⟨j + 1, by omega, by go_num, Lib.hid (HFJ.out.drewN _)⟩, by simp [intOf]; omega⟩
              · obtain rfl : j = n := by omega
                go_wp2_with fail
                exact ⟨⟨m + 1, by omega, by go_num, Lib.hid (HFI.out.trans HFJ.out)⟩, by simp [intOf]; omega⟩
          · obtain rfl : m = gl := by omega
            go_wp2_with fail
            exact ⟨⟨k + 1, n1, _, last1, wh, by omega, by go_num, HJA, Lib.hid (HE2.out.f0 HFI.out), Lib.hid (HB2.out.fr HFI.out (fun h => h)), Lib.hid (by rw [← HWL.out]; exact own_fr HW2.out HFI.out (fun _ _ h => h)), Lib.hid (HF2.out.trans HFI.out)⟩, by simp [intOf]; omega⟩
    · obtain rfl : k = len1 := by omega
      go_wp2_with fail
      refine (awake_any _).mono ?_
      rintro e w5 ⟨rfl, hF5⟩
      have HF5 := Lib.hid (HF.out.trans hF5)
      clear hF5
      go_wp2_with fail
      go_ret
      exact ⟨rfl, HF5.out⟩
theorem walk (x : Int) (hx : (Lit.int .u8 x).wf = true) (a1 : Option Addr) (len1 cap1 : Nat) (f : Nat → Bool × Int × Int) {v : World} (hA : IsActs v a1 len1 f) (w : World) (hv : v = w := by rfl) :
    Calls Try.prog 5 #[.int .u8 x, .slice a1 len1 cap1] w fun e w' => e = .returned (.bool true) ∧ Below w.heap.size w w' := by
  subst hv
  obtain ⟨c, rfl, hc⟩ : ∃ c : Nat, x = c ∧ c < 256 := bounds8 hx
  have key : Calls Try.prog 5 #[.int .u8 (c : Int), .slice a1 len1 cap1] v fun e w' => e = .returned (.bool true) ∧ Fr F0 v w' := by
    by_cases h : 200 < len1
    · exact long c a1 len1 cap1 h v
    · exact few c hc a1 len1 cap1 (by omega) f v hA
  exact key.mono fun _ _ ⟨he, hF⟩ => ⟨he, hF.below (Nat.le_refl _) (fun _ h => h.elim)⟩

/-! ### The row's step -/
theorem own : ownKnob Try.prog.godebug = none := by kernel_rfl
theorem laidOut : laidOutB Try.prog = true := by kernel_rfl

set_option maxRecDepth 100000 in
theorem lifted (os : Os) (started : os.Started) (H : Type) (enc : TypeId × Value → H) :
    ReturnsInHanded {} Try.checked os 5 .any (Rows.epochWaitsSpec.pre6 enc Try.prog Try.f5 Rows.epochWaitsRow.domain false) (Rows.epochWaitsSpec.post enc Try.prog Try.f5 false true false false) := by
  refine returnsInHanded_of_change (C := Try.checked) own started (by kernel_rfl) Try.func5
    (ChangeSpec.witness6 (enc := enc) (C := Try.checked) false ⟨#[], #[.int .u8 0, .slice none 0 0], []⟩ 8 (by kernel_rfl) (by kernel_rfl) (by kernel_rfl) (by kernel_rfl)) ?_
  intro W base args ds gs before hval0 hW hcnd _
  have hval : ∀ (j : Nat) t v, Try.f5.params[j]? = some t → args[j]? = some v → Value.okWide Try.prog W .any base t v := hval0
  have hW' := hW
  obtain ⟨p, q, hA0, hV, rfl, hfz, hnd⟩ := hW
  have hA : DataW.TrodAll enc Try.prog W 0 (fun _ => true) true Try.f5.params.toList args.toList ds p := hA0
  rw [Try.params5] at hA hval
  obtain ⟨v0, vs0, d0, ds0, p0, q0, hargs, rfl, rfl, h0, r0⟩ := trodAll_cons hA
  obtain ⟨v1, vs1, d1, ds1, p1, q1, rfl, rfl, rfl, h1, r1⟩ := trodAll_cons r0
  obtain ⟨rfl, rfl, rfl⟩ := trodAll_nil r1
  obtain rfl : args = #[v0, v1] := by cases args; simp_all
  obtain ⟨rfl, rfl⟩ := trodVars_none hV
  obtain ⟨a0, rfl, rfl, rfl, w0⟩ := open_int Try.underlying5 (hval 0 5 v0 rfl rfl) h0
  obtain ⟨a1, len1, cap1, rfl⟩ := okWide_slice Try.underlying22 (hval 1 22 v1 rfl rfl)
  have k1 := h1
  have lt1 : ∀ x ∈ p1, x.block < W.heap.size := by obtain ⟨m, hm⟩ := k1; exact DataW.trod_lt m _ _ _ hm
  obtain ⟨z1, w1⟩ := open_acts h1
  clear hA0 hval0
  refine (walk a0 w0 a1 len1 cap1 z1 w1 W).mono fun e W' ⟨he, bel⟩ => ?_
  subst he
  exact ⟨_, rfl, _, _, _, [], _, [], hW', trodAll_mk1 (shut_bool Try.underlying4 _), (trodAll_cons_mk (shut_int Try.underlying5 w0) (trodAll_cons_mk (Below.trod laidOut (by kernel_rfl) (of_decide_eq_true (by kernel_rfl)) k1 bel lt1) trodAll_mk0)), rfl, bel.frame _, fun h => by cases h⟩

theorem over : Rows.epochWaitsRow.holds Try.pinned (OpenSpec.ofChange Rows.epochWaitsSpec) :=
  OpenClaim.holds_of_wide 5 Try.f5 rfl rfl rfl rfl rfl rfl rfl ⟨rfl, rfl, rfl, rfl, rfl⟩ rfl rfl rfl rfl rfl (by kernel_rfl) Try.func5 (by kernel_rfl)
    (of_decide_eq_true (by kernel_rfl)) (by unfold Func.isWrapper; first | (rw [if_pos (by decide +kernel)]; kernel_rfl) | (rw [if_neg (by decide +kernel)]; exact ⟨rfl, rfl⟩))
    (fun os started H enc _ => lifted os started H enc)

/-- The statement. -/
theorem proved : Rows.EpochWaitsSaid := over
#print axioms proved
end Go.Proofs.Ytjphmiemakmcbaa.epochWaits
