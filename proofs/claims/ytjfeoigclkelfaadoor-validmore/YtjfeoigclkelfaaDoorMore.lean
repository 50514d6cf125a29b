/-
  haymowlaw03.ValidMore returns true for every program and every number, and the argument reads as it did, with the table of fields as it was laid.
-/
import Derived.Test.YtjfeoigclkelfaaDoorAwkV
import Derived.Test.YtjfeoigclkelfaaDoorPureM
import Derived.Test.YtjfeoigclkelfaaDoorOpnV
import Derived.Test.YtjfeoigclkelfaaDoorLaidV
import Derived.Test.YtjfeoigclkelfaaDoorTie
import Derived.Test.YtjfeoigclkelfaaDoorCards
import Derived.ShutString
import Derived.ChangeOld
import Derived.SevenTiedAt
namespace Go.Proofs.YtjfeoigclkelfaaDoor.validMore
open Go.ChangeShapes Go.WideShapes Go.ChangeAt Go.RowKit
open Go.ChangeMaps (open_string shut_string)

set_option maxHeartbeats 16000000 in
set_option maxRecDepth 100000 in
theorem main (A : Option Addr) (c : Nat) (L : List LFn) (m : Nat) (hm : m < 256) (w : World) (hR : FnRow w (fun b => b < w.heap.size) A L) (hT : FieldsAt w) :
    Calls Tryd.prog 5 #[.slice A L.length c, .int .u8 m] w fun e w' => e = .returned (.bool true) ∧ Below w.heap.size w w' := by
  obtain ⟨i2, hi2, hz20, hz21, hz22⟩ := info_parts info_fn
  have HR := Lib.hid hR
  have HT := Lib.hid hT
  clear hR hT
  go_enter Tryd.func5, Tryd.ntmps5
  go_wp2_with fail
  refine (light_any w _ A c L HR.out).mono ?_
  rintro e w ⟨t, rfl, ht, rfl⟩
  cases t with
  | false =>
    go_wp2_with fail
    go_ret
    exact ⟨rfl, Below.refl _ _⟩
  | true =>
    obtain ⟨hl, hp⟩ := ht rfl
    have HP := Lib.hid hp
    clear ht hp
    go_wp2_with fail
    refine (of_any _ A c L HR.out (by omega) (fun x hx => by have := HP.out x hx; omega)).mono ?_
    rintro e w1 ⟨v, L', rfl, hfn, hM, hF1⟩
    obtain ⟨A', c', rfl, hR'⟩ := hM.row
    have hll : L'.length = L.length := by
      have := congrArg List.length hfn
      simpa [fns] using this
    have hck := check_any w1 A' c' L' hR' (HT.out.fr hF1 (fun h => h)) (by omega)
    have HCK := Lib.hid hck
    have HF1 := Lib.hid hF1
    have HM := Lib.hid hM
    have hl' : L'.length ≤ 20 := by omega
    clear hR' hM hck hF1 hll hfn
    obtain ⟨q, hq⟩ : ∃ q, q = chk (fns L') := ⟨_, rfl⟩
    rw [← hq] at HCK
    have HQ := Lib.hid hq
    clear hq
    go_wp2_with fail
    refine HCK.out.mono ?_
    rintro e w2 ⟨rfl, hF2⟩
    have HF2 := Lib.hid hF2
    have hF12 := HF1.out.trans hF2
    have HF12 := Lib.hid hF12
    clear hF2 hF12 HCK
    by_cases h0 : q.2.2 = 0
    · have hg := chk_nought (fs := fns L') (by rw [← HQ.out]; exact h0)
      have hq0 : q = (0, 0, 0) := by rw [HQ.out]; exact chk_good hg.1 hg.2
      have HZ : Hid ((chk (fns L')).2.2 = 0) := Lib.hid (by rw [← HQ.out]; exact h0)
      clear hg h0 HQ
      subst hq0
      have hMo := own_fr HM.out.1 HF2.out (fun _ _ h => h)
      have HMO := Lib.hid hMo
      have hbw := HF12.out.size
      obtain ⟨n, hn, hn1⟩ : ∃ n : Int, (m : Int) % 6 = n ∧ 0 ≤ n ∧ n ≤ 5 := ⟨_, rfl, by omega, by omega⟩
      have hnb : ((w2.alloc (.cells #[.int .i64 17, .int .i64 7, .int .i64 0, .int .i64 0, .int .i64 0] 38)).alloc (.cells #[.int .i64 ((m : Int) % 6), .slice (some ⟨w2.heap.size, 0, none⟩) 1 1] 41)).heap[w2.heap.size + 1]? = some (.cells #[.int .i64 ((m : Int) % 6), .slice (some ⟨w2.heap.size, 0, none⟩) 1 1] 41) := by
        have := heap_alloc_new (w2.alloc (.cells #[.int .i64 17, .int .i64 7, .int .i64 0, .int .i64 0, .int .i64 0] 38)) (.cells #[.int .i64 ((m : Int) % 6), .slice (some ⟨w2.heap.size, 0, none⟩) 1 1] 41)
        simpa using this
      have HNB := Lib.hid hnb
      have HN := Lib.hid hn
      clear hnb hMo hn
      go_wp2_with (at_builtin; refine wpList_append_lies _ rfl (.tmp 31) (.tmp 36) 27 rfl w.heap.size 41 i2 (.agg #[.int .i64 0, .slice none 0 0]) 2 32 Tryd.underlying27 hi2 hz20 hz21 hz22 rfl (by decide) _ _ _ rfl (own_fr HMO.out (((Fr.refl None' _).alloc _).alloc _) (fun _ _ h => h)) ⟨w2.heap.size + 1, 0, none⟩ 1 1 [.int .i64 ((m : Int) % 6), .slice (some ⟨w2.heap.size, 0, none⟩) 1 1] rfl rfl ?c1 ?c2 (by decide) ?c3 ?c4 ?c5 (w2.heap.size + 1 + 1) ?c6 ?_)
      case c1 => intro i u hi; exact World.news_of_block HNB.out i u hi
      case c2 => intro u hu; simp at hu; rcases hu with rfl | rfl <;> rfl
      case c3 => unfold maxLen; omega
      case c4 => omega
      case c5 => simp; omega
      case c6 => simp
      intro g cap w3 hown1 hg1 hor hlt1
      have hF3 : Fr None' w w3 := ((HF12.out.alloc _).alloc _).grow hg1 (own_low HMO.out)
      have hfr1 : Fr (fun b => some b = (Value.slice A' L'.length c').ownBlock) w2 w3 := (((Fr.refl _ _).alloc _).alloc _).trans (Fr.grown hg1)
      have hI : Blk w3 w2.heap.size 38 #[.int .i64 17, .int .i64 7, .int .i64 0, .int .i64 0, .int .i64 0] := ((Blk.new w2 _ _).alloc _).fr (Fr.grown hg1) (fun h => by have := HMO.out.lt _ h.symm; omega)
      have hrow : FnRow w3 (fun b => b < w3.heap.size) (some ⟨g, 0, none⟩) (L' ++ [⟨⟨(m : Int) % 6, [ret7]⟩, some ⟨w2.heap.size, 0, none⟩, 1⟩]) := by
        refine ⟨?_, fun x hx => ?_⟩
        · have := (Rd.of_own hown1).mono (Q' := fun b => b < w3.heap.size) (fun _ h => h.2)
          rw [List.length_append, List.flatMap_append]
          exact this
        · rcases List.mem_append.1 hx with hx | hx
          · have hrw := own_fr (HM.out.2 x hx) HF2.out (fun _ _ h => h)
            have := own_fr hrw hfr1 (fun g' hg' h => own_apart hrw HMO.out (by decide) g' hg' h.symm)
            exact (Rd.of_own this).mono (fun _ h => h.2)
          · rw [List.mem_singleton.1 hx]
            exact Rd.of_blk (t := 38) (cs := ret7.cells) hI rfl hI.lt
      have hck := check_any w3 _ cap _ hrow (HT.out.fr hF3 (fun h => h)) (by simp; omega)
      have hfe : fns (L' ++ [(⟨⟨(m : Int) % 6, [ret7]⟩, some ⟨w2.heap.size, 0, none⟩, 1⟩ : LFn)]) = fns L' ++ [⟨n, [ret7]⟩] := by
        rw [← HN.out]; simp [fns]
      rw [hfe, chk_more HZ.out hn1.1, fns_length, List.length_append, List.length_singleton] at hck
      have HCK := Lib.hid hck
      have HF3 := Lib.hid hF3
      have hgl : 1 ≤ L'.length := by have := (chk_nought HZ.out).1; rw [fns_length] at this; omega
      clear hor hg1 hown1 hrow hck hF3 hfr1 hI hfe HNB
      go_wp2_with fail
      by_cases h16 : 16 ≤ L'.length
      · rw [moreA_long h16] at HCK
        have g1 : (16 : Int) ≤ L'.length := by omega
        refine HCK.out.mono ?_
        rintro e w4 ⟨rfl, hF4⟩
        have hF5 := HF3.out.trans hF4
        clear HCK hF4
        go_wp2_with fail
        refine (awake_any _ (HT.out.fr hF5 (fun h => h))).mono ?_
        rintro e w5 ⟨rfl, hF6⟩
        go_wp2_with fail
        go_ret
        exact ⟨rfl, (hF5.trans hF6).below (Nat.le_refl _) (fun _ h => h.elim)⟩
      · have g1 : ¬ (16 : Int) ≤ L'.length := by omega
        by_cases h4 : 4 < n
        · rw [moreA_arity h16 h4] at HCK
          have g2 : (4 : Int) < (m : Int) % 6 := by rw [HN.out]; exact h4
          clear h16
          refine HCK.out.mono ?_
          rintro e w4 ⟨rfl, hF4⟩
          have hF5 := HF3.out.trans hF4
          clear HCK hF4
          go_wp2_with fail
          refine (awake_any _ (HT.out.fr hF5 (fun h => h))).mono ?_
          rintro e w5 ⟨rfl, hF6⟩
          go_wp2_with fail
          go_ret
          exact ⟨rfl, (hF5.trans hF6).below (Nat.le_refl _) (fun _ h => h.elim)⟩
        · rw [moreA_ok h16 h4] at HCK
          have g2 : ¬ (4 : Int) < (m : Int) % 6 := by rw [HN.out]; exact h4
          clear h16
          refine HCK.out.mono ?_
          rintro e w4 ⟨rfl, hF4⟩
          have hF5 := HF3.out.trans hF4
          clear HCK hF4
          go_wp2_with fail
          refine (awake_any _ (HT.out.fr hF5 (fun h => h))).mono ?_
          rintro e w5 ⟨rfl, hF6⟩
          go_wp2_with fail
          go_ret
          exact ⟨rfl, (hF5.trans hF6).below (Nat.le_refl _) (fun _ h => h.elim)⟩
    · have h0b : (q.2.2 == 0) = false := by simpa using h0
      have h0c : (q.2.2 != 0) = true := by simp [bne, h0b]
      clear h0
      go_wp2_with fail
      refine (awake_any _ (HT.out.fr HF12.out (fun h => h))).mono ?_
      rintro e w5 ⟨rfl, hF6⟩
      go_wp2_with fail
      go_ret
      exact ⟨rfl, (HF12.out.trans hF6).below (Nat.le_refl _) (fun _ h => h.elim)⟩

theorem walked {w : World} (a0 : Option Addr) (len0 cap0 : Nat) (z0 : List LFn) (w0 : z0.length = len0 ∧ FnRow w (fun b => b < w.heap.size) a0 z0) (x : Int) (hx : (Lit.int .u8 x).wf = true) (hT : FieldsAt w) :
    Calls Tryd.prog 5 #[.slice a0 len0 cap0, .int .u8 x] w fun e w' => e = .returned (.bool true) ∧ Below w.heap.size w w' := by
  obtain ⟨rfl, hR⟩ := w0
  have b1 := bounds_u8 hx
  obtain ⟨a, rfl⟩ := Int.eq_ofNat_of_zero_le b1.1
  exact main a0 cap0 z0 a (by omega) w hR hT

set_option maxRecDepth 100000 in
theorem lifted (os : Os) (started : os.Started) (H : Type) (enc : TypeId × Value → H) :
    ReturnsInHanded {} Tryd.checked os 5 .any (fun w args => (Rows.validMoreSpec.pre enc Tryd.prog Tryd.f5 [] false w args ∧ laidMetH Tryd.prog laidN w) ∧ sizedMet enc Tryd.prog Tryd.f5 (OpenSpec.ofChange Rows.validMoreSpec) false w args)
      (Rows.validMoreSpec.post enc Tryd.prog Tryd.f5 false true false false) := by
  refine returnsInHanded_of_change_and (C := Tryd.checked) (X := fun w _ => laidMetH Tryd.prog laidN w) (fun _ _ _ hh h => h.of_heap hh) own started (by kernel_rfl) Tryd.func5
    (ChangeSpec.witness_shaped (enc := enc) (C := Tryd.checked) (os := os) (X := fun w _ => laidMetH Tryd.prog laidN w) false (World.doorLaid Tryd.prog 400 os) #[.slice none 0 0, .int .u8 0] 8 rfl (World.shaped_of_RefB (by kernel_rfl) (by kernel_rfl)) (by kernel_rfl) (by kernel_rfl) (by kernel_rfl) (door_met os _)) ?_
  intro W base args ds gs before hval0 hW _ _ hL _
  have hval : ∀ (j : Nat) t v, Tryd.f5.params[j]? = some t → args[j]? = some v → Value.okWide Tryd.prog W .any base t v := hval0
  have hW' := hW
  obtain ⟨p, q, hA0, hV, rfl, hfz, hnd⟩ := hW
  have hA : DataW.TrodAll enc Tryd.prog W 0 (fun _ => true) true Tryd.f5.params.toList args.toList ds p := hA0
  rw [Tryd.params5] at hA hval
  obtain ⟨v0, vs0, d0, ds0, p0, q0, hargs, rfl, rfl, h0, r0⟩ := trodAll_cons hA
  obtain ⟨v1, vs1, d1, ds1, p1, q1, rfl, rfl, rfl, h1, r1⟩ := trodAll_cons r0
  obtain ⟨rfl, rfl, rfl⟩ := trodAll_nil r1
  obtain rfl : args = #[v0, v1] := by cases args; simp_all
  obtain ⟨rfl, rfl⟩ := trodVars_none hV
  obtain ⟨a0, len0, cap0, rfl⟩ := okWide_slice Tryd.underlying22 (hval 0 22 v0 rfl rfl)
  have k0 := h0
  have lt0 : ∀ x ∈ p0, x.block < W.heap.size := by obtain ⟨m, hm⟩ := k0; exact DataW.trod_lt m _ _ _ hm
  obtain ⟨z0, w0⟩ := open_prog h0
  obtain ⟨a1, rfl, rfl, rfl, w1⟩ := open_int Tryd.underlying5 (hval 1 5 v1 rfl rfl) h1
  clear hA0 hval0
  refine (walked (w := W) a0 len0 cap0 z0 w0 a1 w1 (of_laid hL)).mono fun e W' ⟨he, bel⟩ => ?_
  subst he
  exact ⟨_, rfl, _, _, _, [], _, [], hW', trodAll_mk1 (shut_bool Tryd.underlying4 _), (trodAll_cons_mk (Below.trod laidOut (by kernel_rfl) (of_decide_eq_true (by kernel_rfl)) k0 bel lt0) (trodAll_cons_mk (shut_int Tryd.underlying5 w1) trodAll_mk0)), rfl, bel.frame _, fun h => by cases h⟩

theorem over : Rows.ValidMoreSaid :=
  OpenClaim.holds_of_wide 5 Tryd.f5 rfl rfl rfl rfl rfl rfl rfl ⟨rfl, rfl, rfl, rfl, rfl⟩ rfl rfl rfl rfl rfl (by kernel_rfl) Tryd.func5 (by kernel_rfl)
    (of_decide_eq_true (by kernel_rfl)) (by unfold Func.isWrapper; first | (rw [if_pos (by decide +kernel)]; kernel_rfl) | (rw [if_neg (by decide +kernel)]; exact ⟨rfl, rfl⟩))
    (fun os started H enc _ => lifted os started H enc)

/-- The statement: the row, and what it lists tied to the program's text. -/
theorem proved : Rows.ValidMoreCardSaid :=
  Claim7.holds_tied_plain_at .later [] [.data] true (true, "b590b14693a41eba65153902b74f9ac5e469322994b986d8ee8add5cc5d2eee4") true
    over (fun _ h => by cases h) (by kernel_rfl) (fun _ h => by cases h) validMore_row_tie rfl ⟨rfl, rfl⟩ (by kernel_rfl) rfl
    (fun f fn hf hfn => by
      obtain rfl : f = 5 := Option.some.inj ((show Tryd.prog.funcNamed "haymow/haymowlaw03.ValidMore" = some 5 by kernel_rfl).symm.trans hf) |>.symm
      obtain rfl : fn = Tryd.f5 := (Option.some.inj (Tryd.func5.symm.trans hfn)).symm
      exact ⟨by kernel_rfl, fun j t ht => by
        rw [Tryd.params5] at ht
        match j, ht with
        | 0, ht =>
          obtain rfl : t = 22 := by simpa using ht.symm
          exact (show Tryd.prog.wantsStandIn 22 = false by kernel_rfl)
        | 1, ht =>
          obtain rfl : t = 5 := by simpa using ht.symm
          exact (show Tryd.prog.wantsStandIn 5 = false by kernel_rfl)
        | j + 2, ht => simp at ht⟩)
    (by kernel_rfl)
#print axioms proved
end Go.Proofs.YtjfeoigclkelfaaDoor.validMore
