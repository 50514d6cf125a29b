/-
  haymowlaw02.CodeCut returns true for every two lists of bytes and 16-bit number, and each argument reads as it did. No condition.
-/
import Derived.Test.YtlpmnapjipfakaaCommon
import Derived.Test.YtlpmnapjipfakaaApp
import Derived.Test.YtlpmnapjipfakaaPureX
import Derived.Test.YtlpmnapjipfakaaRows
import Derived.ShutString
import Derived.ChangeOld
namespace Go.Proofs.Ytlpmnapjipfakaa.codeCut
open Go.ChangeShapes Go.WideShapes Go.ChangeAt Go.RowKit
open Go.ChangeMaps (open_string shut_string)

theorem own_read {w : World} {base : Nat} {v : Value} {n : Nat} {bs : List Int} (h : w.ownsRow base 5 1 v n (by8 bs)) (hn : 0 < n) :
    ∃ g cap, v = .slice (some ⟨g, 0, none⟩) n cap ∧ n ≤ cap ∧ cap ≤ maxLen ∧ bs.length = n ∧ Rd w (fun b => b < w.heap.size) 1 (some ⟨g, 0, none⟩) n (by8 bs) := by
  have hl : bs.length = n := by have := h.1; simp [by8] at this; exact this
  rcases h.2 with ⟨_, h0⟩ | ⟨g, cap, cur, rfl, hb, hg, h1, h2, _⟩
  · omega
  · exact ⟨g, cap, rfl, h1, h2, hl, (Rd.of_own h).mono (fun b hb => hb.2)⟩

theorem by8_append (a b : List Int) : by8 (a ++ b) = by8 a ++ by8 b := by simp [by8]
theorem by8_one (bs : List Int) : ∀ u ∈ by8 bs, u.oneCell' = true := fun u hu => by
  obtain ⟨x, _, rfl⟩ := List.mem_map.1 hu
  rfl
theorem Rd.take {w : World} {Q : Nat → Prop} {A : Option Addr} {bs : List Int} (h : Rd w Q 1 A bs.length (by8 bs)) (k : Nat) (hk : k ≤ bs.length) : Rd w Q 1 A k (by8 (bs.take k)) := by
  refine ⟨by simp [by8]; omega, fun hn => ?_⟩
  obtain ⟨b, off, e, q, hc⟩ := h.2 (by omega)
  refine ⟨b, off, e, q, fun j u hu => hc j u ?_⟩
  have : by8 (bs.take k) = (by8 bs).take k := by simp [by8, List.map_take]
  rw [this, List.getElem?_take] at hu
  split at hu
  · exact hu
  · cases hu

set_option maxHeartbeats 1000000 in
theorem long (a0 : Option Addr) (len0 cap0 : Nat) (a1 : Option Addr) (len1 cap1 : Nat) (c : Int) (h : 3000 < len0 ∨ 100 < len1) (w : World) :
    Calls Try.prog 7 #[.slice a0 len0 cap0, .slice a1 len1 cap1, .int .u16 c] w fun e w' => e = .returned (.bool true) ∧ Below w.heap.size w w' := by
  by_cases h0 : 3000 < len0
  · have h1 : (3000 : Int) < (len0 : Int) := by omega
    go_enter Try.func7, Try.ntmps7
    go_wp2_with fail
    go_ret
    exact ⟨rfl, Below.refl _ _⟩
  · have h1 : decide ((3000 : Int) < (len0 : Int)) = false := by simp; omega
    have h2 : (100 : Int) < (len1 : Int) := by omega
    go_enter Try.func7, Try.ntmps7
    go_wp2_with fail
    go_ret
    exact ⟨rfl, Below.refl _ _⟩

set_option maxHeartbeats 4000000 in
theorem few (a0 : Option Addr) (cap0 : Nat) (bs : List Int) (a1 : Option Addr) (cap1 : Nat) (ms : List Int) (c : Nat) (w : World)
    (hR : Rd w (fun b => b < w.heap.size) 1 a0 bs.length (by8 bs)) (hfit : AllB bs) (hc : bs.length ≤ cap0) (hc2 : cap0 ≤ maxLen) (h : bs.length ≤ 3000)
    (hR1 : Rd w (fun b => b < w.heap.size) 1 a1 ms.length (by8 ms)) (hfit1 : AllB ms) (h1 : ms.length ≤ 100) (hcc : c < 65536) :
    Calls Try.prog 7 #[.slice a0 bs.length cap0, .slice a1 ms.length cap1, .int .u16 c] w fun e w' => e = .returned (.bool true) ∧ Below w.heap.size w w' := by
  have g0 : decide ((3000 : Int) < (bs.length : Int)) = false := by simp; omega
  have g1 : decide ((100 : Int) < (ms.length : Int)) = false := by simp; omega
  have HR := Lib.hid hR
  have HR1 := Lib.hid hR1
  clear hR hR1
  obtain ⟨i0, hi, hz0, hz1, hz2⟩ := info_parts info_u8
  go_enter Try.func7, Try.ntmps7
  go_wp2_with fail
  refine (read_any w a0 cap0 bs HR.out hfit hc hc2).mono ?_
  rintro e w1 (⟨t, L, g, rfl, hp, rfl, hB, hg, hgw, hF⟩ | ⟨er, he, hn, rfl, hF⟩)
  · have ht : 0 < t.length := by
      cases t with
      | nil => simp [pProg] at hp
      | cons => simp
    obtain ⟨K, hK, hK2⟩ : ∃ K : Nat, (c : Int) % (t.length : Int) = K ∧ K < t.length := ⟨c % t.length, by simp, Nat.mod_lt _ ht⟩
    have hlt3 : t.length ≤ 3000 := by simp at h; omega
    have hlt4 : 0 < (t.length : Int) := by omega
    have hlt5 : ¬ ((t.length : Int) = 0) := by omega
    have HP := Lib.hid hp
    have hK3 : (1 : Int) + (K : Int) ≤ (cap0 : Int) := by simp at hc; omega
    have g2 : ¬ ((t.length : Int) + 1 < 2) := by omega
    clear hp hg hB
    go_wp2_with fail
    have e1 : ((72 :: t).take (1 + K)).length = 1 + K := by simp; omega
    have hread := read_any w1 a0 cap0 ((72 :: t).take (1 + K)) (by rw [e1]; exact ((Rd.take HR.out (1 + K) (by simp; omega)).fr hF (fun _ _ h => h)).mono (fun b hb => Nat.lt_of_lt_of_le hb hF.size)) (fun x hx => hfit x (List.mem_of_mem_take hx)) (by rw [e1]; simp at hc; omega) hc2
    rw [e1] at hread
    refine hread.mono ?_
    have hcut : pProg (t.take K) = none := pProg_cut HP.out K hK2
    have e2 : (72 :: t).take (1 + K) = 72 :: t.take K := by rw [Nat.add_comm]; rfl
    clear hread e1 hK hK3
    rintro e w2 (⟨t', L', g', hb, hp', _⟩ | ⟨er, he, hn, rfl, hF2⟩)
    · exfalso
      rw [e2] at hb
      injection hb with _ hb
      rw [hb, hp'] at hcut
      cases hcut
    have her : er = 2 := by rw [← he, e2]; simp only [readE, if_true, hcut]
    subst her
    clear he hn hcut e2
    have hF12 := hF.trans hF2
    have hRb := HR.out.fr hF12 (fun _ _ h => h)
    have hRm := HR1.out.fr hF12 (fun _ _ h => h)
    have own0 := World.ownsRow_made (base := w.heap.size) (e := 5) (size := 1) w2 #[] 0 hF12.size (by unfold maxLen; omega) rfl
    have hlow : w.heap.size ≤ w2.heap.size := hF12.size
    go_wp2_with (at_builtin; refine app_list _ rfl (.tmp 48) (.tmp 49) 24 rfl w.heap.size 5 i0 (.int .u8 0) 1 1 Try.underlying24 hi hz0 hz1 hz2 rfl (by decide) _ 0 [] rfl own0 (fun b => b < w.heap.size) a0 (t.length + 1) cap0 (by8 (72 :: t)) rfl (hRb.alloc _) (by8_one _) ?c1 ?c2 ?c3 ?_)
    case c1 => unfold maxLen; omega
    case c2 => omega
    case c3 => simp; omega
    intro v3 w3 own3 hg3 hor3
    have hF3 : Fr (fun _ => False) w w3 := (hF12.alloc _).then (Fr.grown hg3) (fun i hi => .inr (by
      have : i = w2.heap.size := by simpa [Value.ownBlock] using hi
      omega))
    have hRm3 := HR1.out.fr hF3 (fun _ _ h => h)
    have HO3 := Lib.hid hor3
    have HG3 := Lib.hid hg3
    have hlow3 : w.heap.size ≤ w3.heap.size := hF3.size
    have hob : ∀ i, v3.ownBlock = some i → w.heap.size ≤ i := fun i hi => (own3.lt i hi).1
    have HOB := Lib.hid hob
    clear hor3 hg3 own0 hRb hRm hob
    go_wp2_with (at_builtin; refine app_list _ rfl (.tmp 50) (.tmp 51) 24 rfl w.heap.size 5 i0 (.int .u8 0) 1 1 Try.underlying24 hi hz0 hz1 hz2 rfl (by decide) v3 (t.length + 1) (by8 (72 :: t)) rfl own3 (fun b => b < w.heap.size) a1 ms.length cap1 (by8 ms) rfl hRm3 (by8_one _) ?d1 ?d2 ?d3 ?_)
    case d1 => unfold maxLen; omega
    case d2 => omega
    case d3 => omega
    intro v4 w4 own4 hg4 hor4
    have hF4 : Fr (fun _ => False) w w4 := hF3.then (Fr.grown hg4) (fun i hi => .inr (HOB.out i hi.symm))
    rw [← by8_append] at own4
    obtain ⟨g4, cap4, rfl, hc4, hc5, hl4, hR4⟩ := own_read own4 (by omega)
    have HR4 := Lib.hid hR4
    have HL4 := Lib.hid hl4
    clear hor4 hg4 own4 own3 hR4 hl4 hRm3
    go_wp2_with fail
    have hread2 := read_any w4 (some ⟨g4, 0, none⟩) cap4 (72 :: t ++ ms) (by rw [HL4.out]; exact HR4.out) (allB_append hfit hfit1) (by rw [HL4.out]; exact hc4) hc5
    rw [HL4.out] at hread2
    refine hread2.mono ?_
    have hext := pProg_ext HP.out ms
    rw [List.nil_append] at hext
    clear hread2
    cases hms : ms with
    | nil =>
      subst hms
      rintro e w5 (⟨t', L', g', hb, hp', rfl, _, _, _, hF5⟩ | ⟨er, he, hn, _, _⟩)
      · have g3 : decide ((0 : Int) < (([] : List Int).length : Int)) = false := rfl
        clear hp' hb hext
        go_wp2_with fail
        refine (awake_any w5).mono ?_
        rintro e w6 ⟨rfl, hF6⟩
        go_wp2_with fail
        go_ret
        exact ⟨rfl, ((hF4.trans hF5).trans hF6).below (Nat.le_refl _) (fun _ h => h.elim)⟩
      · exfalso
        apply hn
        rw [← he]
        simp only [List.cons_append, readE, if_true, hext]
    | cons m0 mr =>
      rw [hms] at hext
      subst hms
      rintro e w5 (⟨t', L', g', hb, hp', _⟩ | ⟨er, he, hn, rfl, hF5⟩)
      · exfalso
        rw [List.cons_append] at hb
        injection hb with _ hb
        rw [hb, hp'] at hext
        simp at hext
      · have her : er = 3 := by rw [← he]; simp only [List.cons_append, readE, if_true, hext]
        subst her
        have g3 : (0 : Int) < ((m0 :: mr).length : Int) := by simp
        clear he hn hext
        go_wp2_with fail
        refine (awake_any w5).mono ?_
        rintro e w6 ⟨rfl, hF6⟩
        go_wp2_with fail
        go_ret
        exact ⟨rfl, ((hF4.trans hF5).trans hF6).below (Nat.le_refl _) (fun _ h => h.elim)⟩
  · have hne : (er != 0) = true := by simp [hn]
    clear he hn
    go_wp2_with fail
    refine (awake_any w1).mono ?_
    rintro e w3 ⟨rfl, hF3⟩
    go_wp2_with fail
    go_ret
    exact ⟨rfl, (hF.trans hF3).below (Nat.le_refl _) (fun _ h => h.elim)⟩

theorem walk (a0 : Option Addr) (len0 cap0 : Nat) (z0 : List Int) (a1 : Option Addr) (len1 cap1 : Nat) (z1 : List Int) (a2 : Int) (h2 : (Lit.int .u16 a2).wf = true) (w : World) (w0 : IsRow .u8 w a0 len0 cap0 z0) (w1 : IsRow .u8 w a1 len1 cap1 z1) :
    Calls Try.prog 7 #[.slice a0 len0 cap0, .slice a1 len1 cap1, .int .u16 a2] w fun e w' => e = .returned (.bool true) ∧ Below w.heap.size w w' := by
  by_cases h : 3000 < len0 ∨ 100 < len1
  · exact long a0 len0 cap0 a1 len1 cap1 a2 h w
  · obtain ⟨bs, rfl, hR, hfit, hc, hc2⟩ := w0.bytes
    obtain ⟨ms, rfl, hR1, hfit1, _, _⟩ := w1.bytes
    have b2 := bounds_u16 h2
    obtain ⟨c, rfl⟩ := Int.eq_ofNat_of_zero_le b2.1
    exact few a0 cap0 bs a1 cap1 ms c w hR hfit hc hc2 (by omega) hR1 hfit1 (by omega) (by omega)


/-! ### The row's step -/
theorem own : ownKnob Try.prog.godebug = none := by kernel_rfl
theorem laidOut : laidOutB Try.prog = true := by kernel_rfl

set_option maxRecDepth 100000 in
theorem lifted (os : Os) (started : os.Started) (H : Type) (enc : TypeId × Value → H) :
    ReturnsInHanded {} Try.checked os 7 .any (Rows.codeCutSpec.pre6 enc Try.prog Try.f7 Rows.codeCutRow.domain false) (Rows.codeCutSpec.post enc Try.prog Try.f7 false true false false) := by
  refine returnsInHanded_of_change (C := Try.checked) own started (by kernel_rfl) Try.func7
    (ChangeSpec.witness6 (enc := enc) (C := Try.checked) false ⟨#[], #[.slice none 0 0, .slice none 0 0, .int .u16 0], []⟩ 8 (by kernel_rfl) (by kernel_rfl) (by kernel_rfl) (by kernel_rfl)) ?_
  intro W base args ds gs before hval0 hW hcnd _
  have hval : ∀ (j : Nat) t v, Try.f7.params[j]? = some t → args[j]? = some v → Value.okWide Try.prog W .any base t v := hval0
  have hW' := hW
  obtain ⟨p, q, hA0, hV, rfl, hfz, hnd⟩ := hW
  have hA : DataW.TrodAll enc Try.prog W 0 (fun _ => true) true Try.f7.params.toList args.toList ds p := hA0
  rw [Try.params7] at hA hval
  obtain ⟨v0, vs0, d0, ds0, p0, q0, hargs, rfl, rfl, h0, r0⟩ := trodAll_cons hA
  obtain ⟨v1, vs1, d1, ds1, p1, q1, rfl, rfl, rfl, h1, r1⟩ := trodAll_cons r0
  obtain ⟨v2, vs2, d2, ds2, p2, q2, rfl, rfl, rfl, h2, r2⟩ := trodAll_cons r1
  obtain ⟨rfl, rfl, rfl⟩ := trodAll_nil r2
  obtain rfl : args = #[v0, v1, v2] := by cases args; simp_all
  obtain ⟨rfl, rfl⟩ := trodVars_none hV
  obtain ⟨a0, len0, cap0, rfl⟩ := okWide_slice Try.underlying24 (hval 0 24 v0 rfl rfl)
  have k0 := h0
  have lt0 : ∀ x ∈ p0, x.block < W.heap.size := by obtain ⟨m, hm⟩ := k0; exact DataW.trod_lt m _ _ _ hm
  obtain ⟨z0, w0⟩ : ∃ zs, IsRow .u8 W a0 len0 cap0 zs := by
    obtain ⟨fuel, hf⟩ := h0
    rcases open_ints Try.underlying24 Try.underlying5 (by kernel_rfl) hf with ⟨hcs, _⟩ | ⟨x, l, c, zs, hcs, _, hl, hm, hz, _, hcell, hwz⟩
    · simp [Value.cells] at hcs
      obtain ⟨rfl, rfl, rfl⟩ := hcs
      exact ⟨[], .inl ⟨rfl, rfl, rfl, rfl⟩⟩
    · simp [Value.cells] at hcs
      obtain ⟨rfl, rfl, rfl⟩ := hcs
      exact ⟨zs, .inr ⟨_, rfl, hl, hm, by simpa using hz, hcell, hwz⟩⟩
  obtain ⟨a1, len1, cap1, rfl⟩ := okWide_slice Try.underlying24 (hval 1 24 v1 rfl rfl)
  have k1 := h1
  have lt1 : ∀ x ∈ p1, x.block < W.heap.size := by obtain ⟨m, hm⟩ := k1; exact DataW.trod_lt m _ _ _ hm
  obtain ⟨z1, w1⟩ : ∃ zs, IsRow .u8 W a1 len1 cap1 zs := by
    obtain ⟨fuel, hf⟩ := h1
    rcases open_ints Try.underlying24 Try.underlying5 (by kernel_rfl) hf with ⟨hcs, _⟩ | ⟨x, l, c, zs, hcs, _, hl, hm, hz, _, hcell, hwz⟩
    · simp [Value.cells] at hcs
      obtain ⟨rfl, rfl, rfl⟩ := hcs
      exact ⟨[], .inl ⟨rfl, rfl, rfl, rfl⟩⟩
    · simp [Value.cells] at hcs
      obtain ⟨rfl, rfl, rfl⟩ := hcs
      exact ⟨zs, .inr ⟨_, rfl, hl, hm, by simpa using hz, hcell, hwz⟩⟩
  obtain ⟨a2, rfl, rfl, rfl, w2⟩ := open_int Try.underlying39 (hval 2 39 v2 rfl rfl) h2
  clear hA0 hval0
  refine (walk a0 len0 cap0 z0 a1 len1 cap1 z1 a2 w2 W w0 w1).mono fun e W' ⟨he, bel⟩ => ?_
  subst he
  exact ⟨_, rfl, _, _, _, [], _, [], hW', trodAll_mk1 (shut_bool Try.underlying4 _), (trodAll_cons_mk (Below.trod laidOut (by kernel_rfl) (of_decide_eq_true (by kernel_rfl)) k0 bel lt0) (trodAll_cons_mk (Below.trod laidOut (by kernel_rfl) (of_decide_eq_true (by kernel_rfl)) k1 bel lt1) (trodAll_cons_mk (shut_int Try.underlying39 w2) trodAll_mk0))), rfl, bel.frame _, fun h => by cases h⟩

theorem over : Rows.codeCutRow.holds Try.pinned (OpenSpec.ofChange Rows.codeCutSpec) :=
  OpenClaim.holds_of_wide 7 Try.f7 rfl rfl rfl rfl rfl rfl rfl ⟨rfl, rfl, rfl, rfl, rfl⟩ rfl rfl rfl rfl rfl (by kernel_rfl) Try.func7 (by kernel_rfl)
    (of_decide_eq_true (by kernel_rfl)) (by unfold Func.isWrapper; first | (rw [if_pos (by decide +kernel)]; kernel_rfl) | (rw [if_neg (by decide +kernel)]; exact ⟨rfl, rfl⟩))
    (fun os started H enc _ => lifted os started H enc)

/-- The statement. -/
theorem proved : Rows.CodeCutSaid := over
#print axioms proved
end Go.Proofs.Ytlpmnapjipfakaa.codeCut
