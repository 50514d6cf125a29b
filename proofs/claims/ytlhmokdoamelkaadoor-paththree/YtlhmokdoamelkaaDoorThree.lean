/-
  haymowlaw05.PathThree returns true for every three rows of numbers.
-/
import Derived.Test.YtlhmokdoamelkaaDoorAwkP
import Derived.Test.YtlhmokdoamelkaaDoorLaidP
import Derived.Test.YtlhmokdoamelkaaDoorTie
import Derived.Test.YtlhmokdoamelkaaDoorCards
import Derived.ShutString
import Derived.ChangeOld
import Derived.SevenTiedAt
namespace Go.Proofs.YtlhmokdoamelkaaDoor.pathThree
open Go.ChangeShapes Go.WideShapes Go.ChangeAt Go.RowKit
open Go.ChangeMaps (open_string shut_string)

/-- What the loop asks of each beginning. -/
theorem inner (a b c : List Int) (k : Nat) (h1 : underL c (a.take k) = true) (h2 : cmpL a b ≤ 0) (h3 : cmpL b c ≤ 0) : underL b (a.take k) = true :=
  between (a.take k) a b c (underL_take a k) h1 h2 h3

set_option maxHeartbeats 8000000 in
set_option maxRecDepth 100000 in
theorem walk (w : World) (A : Option Addr) (n c : Nat) (xs : List Int) (hx : ArgR w A n c xs) (B : Option Addr) (m d : Nat) (ys : List Int) (hy : ArgR w B m d ys) (C : Option Addr) (l f : Nat) (zs : List Int) (hz : ArgR w C l f zs) :
    Calls Tryd.prog 6 #[.slice A n c, .slice B m d, .slice C l f] w fun e w' => e = .returned (.bool true) ∧ Fr (fun _ => False) w w' := by
  have HX := Lib.hid hx.1
  have HY := Lib.hid hy.1
  have HZ := Lib.hid hz.1
  have hnc := hx.2.1
  have hmd := hy.2.1
  have hlf := hz.2.1
  clear hx hy hz
  by_cases h1 : n ≤ 50
  · by_cases h2 : m ≤ 50
    · by_cases h3 : l ≤ 50
      · have g1 : ¬ (50 : Int) < (n : Int) := by omega
        have g2 : ¬ (50 : Int) < (m : Int) := by omega
        have g3 : ¬ (50 : Int) < (l : Int) := by omega
        obtain ⟨r1, hr1⟩ : ∃ r, cmpL xs ys = r := ⟨_, rfl⟩
        obtain ⟨r2, hr2⟩ : ∃ r, cmpL ys zs = r := ⟨_, rfl⟩
        obtain ⟨r3, hr3⟩ : ∃ r, cmpL xs zs = r := ⟨_, rfl⟩
        have hr4 : cmpL ys xs = -r1 := by rw [cmpL_anti ys xs, hr1]
        have b1 : -1 ≤ r1 ∧ r1 ≤ 1 := by rcases cmpL_range xs ys with h | h | h <;> omega
        have b2 : -1 ≤ r2 ∧ r2 ≤ 1 := by rcases cmpL_range ys zs with h | h | h <;> omega
        have HTR : Hid (r1 ≤ 0 → r2 ≤ 0 → r3 ≤ 0) := Lib.hid (fun p q => by rw [← hr3]; exact cmpL_trans xs ys zs (by omega) (by omega))
        have HIN : Hid (∀ k, underL zs (xs.take k) = true → r1 ≤ 0 → r2 ≤ 0 → underL ys (xs.take k) = true) := Lib.hid (fun k u p q => inner xs ys zs k u (by omega) (by omega))
        have K1 : Hid (∀ wx, Fr (fun _ => False) w wx → Calls Tryd.prog 9 #[.slice A n c, .slice B m d] wx fun e w' => e = .returned (.int .i64 r1) ∧ w' = wx) := Lib.hid fun wx hF => hr1 ▸ cmp_any wx A c xs n (HX.out.fr hF) B d ys m (HY.out.fr hF) (by omega) (by omega)
        have K2 : Hid (∀ wx, Fr (fun _ => False) w wx → Calls Tryd.prog 9 #[.slice B m d, .slice C l f] wx fun e w' => e = .returned (.int .i64 r2) ∧ w' = wx) := Lib.hid fun wx hF => hr2 ▸ cmp_any wx B d ys m (HY.out.fr hF) C f zs l (HZ.out.fr hF) (by omega) (by omega)
        have K3 : Hid (∀ wx, Fr (fun _ => False) w wx → Calls Tryd.prog 9 #[.slice A n c, .slice C l f] wx fun e w' => e = .returned (.int .i64 r3) ∧ w' = wx) := Lib.hid fun wx hF => hr3 ▸ cmp_any wx A c xs n (HX.out.fr hF) C f zs l (HZ.out.fr hF) (by omega) (by omega)
        have K4 : Hid (∀ wx, Fr (fun _ => False) w wx → Calls Tryd.prog 9 #[.slice B m d, .slice A n c] wx fun e w' => e = .returned (.int .i64 (-r1)) ∧ w' = wx) := Lib.hid fun wx hF => hr4 ▸ cmp_any wx B d ys m (HY.out.fr hF) A c xs n (HX.out.fr hF) (by omega) (by omega)
        have K5 : Hid (∀ wx, Fr (fun _ => False) w wx → Calls Tryd.prog 16 #[.slice A n c, .slice B m d] wx fun e w' => e = .returned (.bool (r1 == 0)) ∧ ∃ q, w' = wx.drewN q) := Lib.hid fun wx hF => hr1 ▸ same_any wx A c xs n (HX.out.fr hF) B d ys m (HY.out.fr hF) (by omega) (by omega)
        have KU : Hid (∀ wx (k : Nat), Fr (fun _ => False) w wx → k ≤ n → Calls Tryd.prog 11 #[.slice C l f, .slice A k c] wx fun e w' => e = .returned (.bool (underL zs (xs.take k))) ∧ ∃ q, w' = wx.drewN q) := Lib.hid fun wx k hF hk => under_any wx C f zs l (HZ.out.fr hF) A c (xs.take k) k ((HX.out.take k hk).fr hF) (by omega) (by omega) hlf
        have KV : Hid (∀ wx (k : Nat), Fr (fun _ => False) w wx → k ≤ n → Calls Tryd.prog 11 #[.slice B m d, .slice A k c] wx fun e w' => e = .returned (.bool (underL ys (xs.take k))) ∧ ∃ q, w' = wx.drewN q) := Lib.hid fun wx k hF hk => under_any wx B d ys m (HY.out.fr hF) A c (xs.take k) k ((HX.out.take k hk).fr hF) (by omega) (by omega) hmd
        have s0 : ((r1 == 0) == (r1 == 0)) = true := by simp
        have s1 : (r1 == r1) = true := by simp
        have s2 : (r1 != r1) = false := by simp
        clear HX HY HZ hr1 hr2 hr3 hr4
        go_enter Tryd.func6, Tryd.ntmps6
        go_wp2_with fail
        refine (K1.out _ (Fr.refl _ _)).mono ?_
        rintro e w1 ⟨rfl, rfl⟩
        go_wp2_with fail
        refine (K4.out _ (Fr.refl _ _)).mono ?_
        rintro e w2 ⟨rfl, rfl⟩
        go_wp2_with fail
        refine (K1.out _ (Fr.refl _ _)).mono ?_
        rintro e w3 ⟨rfl, rfl⟩
        by_cases hp1 : r1 ≤ 0
        · go_wp2_with fail
          refine (K2.out _ (Fr.refl _ _)).mono ?_
          rintro e w4 ⟨rfl, rfl⟩
          by_cases hp2 : r2 ≤ 0
          · have hp3 : r3 ≤ 0 := HTR.out hp1 hp2
            go_wp2_with fail
            refine (K3.out _ (Fr.refl _ _)).mono ?_
            rintro e w5 ⟨rfl, rfl⟩
            go_wp2_with fail
            obtain ⟨ws, hws⟩ : ∃ ws, ws = w5 := ⟨_, rfl⟩
            subst hws
            go_loopw [7] (fun i wx => ∃ k : Nat, k ≤ n + 1 ∧ i = .int .i64 k ∧ Hid (Fr (fun _ => False) ws wx)) (fun i _ => n + 1 - (intOf i).toNat)
            case atStart => exact ⟨0, by omega, rfl, Lib.hid (Fr.refl _ _)⟩
            case round =>
              obtain ⟨k, hk, rfl, HF⟩ := hrel
              by_cases hkn : k ≤ n
              · have c1 : (k : Int) ≤ (c : Int) := by omega
                go_wp2_with fail
                refine (KU.out _ k HF.out hkn).mono ?_
                rintro e wu ⟨rfl, q, rfl⟩
                have HFq := Lib.hid (HF.out.drewN q)
                clear HF
                generalize wr.drewN q = wv at HFq ⊢
                cases hb : underL zs (xs.take k) with
                | false =>
                  clear hb
                  go_wp2_with fail
                  exact ⟨⟨k + 1, by omega, by go_num, HFq⟩, by simp [intOf]; omega⟩
                | true =>
                  have HB := Lib.hid hb
                  clear hb
                  go_wp2_with fail
                  refine (K1.out _ HFq.out).mono ?_
                  rintro e wv2 ⟨rfl, rfl⟩
                  go_wp2_with fail
                  refine (K2.out _ HFq.out).mono ?_
                  rintro e wv3 ⟨rfl, rfl⟩
                  go_wp2_with fail
                  refine (KV.out _ k HFq.out hkn).mono ?_
                  rintro e wv4 ⟨rfl, q4, rfl⟩
                  rw [HIN.out k HB.out hp1 hp2]
                  go_wp2_with fail
                  exact ⟨⟨k + 1, by omega, by go_num, Lib.hid (HFq.out.drewN q4)⟩, by simp [intOf]; omega⟩
              · obtain rfl : k = n + 1 := by omega
                have c1 : ¬ ((n : Int) + 1) ≤ (n : Int) := by omega
                go_wp2_with fail
                refine (K1.out _ HF.out).mono ?_
                rintro e wv ⟨rfl, rfl⟩
                go_wp2_with fail
                refine (K5.out _ HF.out).mono ?_
                rintro e wv2 ⟨rfl, q, rfl⟩
                have HFq := Lib.hid (HF.out.drewN q)
                clear HF
                go_wp2_with fail
                refine (awake_any _).mono ?_
                rintro e wv3 ⟨rfl, hF3⟩
                have HF3 := Lib.hid (HFq.out.trans hF3)
                clear hF3
                go_wp2_with fail
                go_ret
                exact ⟨rfl, HF3.out⟩
          · go_wp2_with fail
            obtain ⟨ws, hws⟩ : ∃ ws, ws = w4 := ⟨_, rfl⟩
            subst hws
            go_loopw [7] (fun i wx => ∃ k : Nat, k ≤ n + 1 ∧ i = .int .i64 k ∧ Hid (Fr (fun _ => False) ws wx)) (fun i _ => n + 1 - (intOf i).toNat)
            case atStart => exact ⟨0, by omega, rfl, Lib.hid (Fr.refl _ _)⟩
            case round =>
              obtain ⟨k, hk, rfl, HF⟩ := hrel
              by_cases hkn : k ≤ n
              · have c1 : (k : Int) ≤ (c : Int) := by omega
                go_wp2_with fail
                refine (KU.out _ k HF.out hkn).mono ?_
                rintro e wu ⟨rfl, q, rfl⟩
                have HFq := Lib.hid (HF.out.drewN q)
                clear HF
                generalize wr.drewN q = wv at HFq ⊢
                cases hb : underL zs (xs.take k) with
                | false =>
                  clear hb
                  go_wp2_with fail
                  exact ⟨⟨k + 1, by omega, by go_num, HFq⟩, by simp [intOf]; omega⟩
                | true =>
                  have HB := Lib.hid hb
                  clear hb
                  go_wp2_with fail
                  refine (K1.out _ HFq.out).mono ?_
                  rintro e wv2 ⟨rfl, rfl⟩
                  go_wp2_with fail
                  refine (K2.out _ HFq.out).mono ?_
                  rintro e wv3 ⟨rfl, rfl⟩
                  go_wp2_with fail
                  exact ⟨⟨k + 1, by omega, by go_num, HFq⟩, by simp [intOf]; omega⟩
              · obtain rfl : k = n + 1 := by omega
                have c1 : ¬ ((n : Int) + 1) ≤ (n : Int) := by omega
                go_wp2_with fail
                refine (K1.out _ HF.out).mono ?_
                rintro e wv ⟨rfl, rfl⟩
                go_wp2_with fail
                refine (K5.out _ HF.out).mono ?_
                rintro e wv2 ⟨rfl, q, rfl⟩
                have HFq := Lib.hid (HF.out.drewN q)
                clear HF
                go_wp2_with fail
                refine (awake_any _).mono ?_
                rintro e wv3 ⟨rfl, hF3⟩
                have HF3 := Lib.hid (HFq.out.trans hF3)
                clear hF3
                go_wp2_with fail
                go_ret
                exact ⟨rfl, HF3.out⟩
        · go_wp2_with fail
          obtain ⟨ws, hws⟩ : ∃ ws, ws = w3 := ⟨_, rfl⟩
          subst hws
          go_loopw [7] (fun i wx => ∃ k : Nat, k ≤ n + 1 ∧ i = .int .i64 k ∧ Hid (Fr (fun _ => False) ws wx)) (fun i _ => n + 1 - (intOf i).toNat)
          case atStart => exact ⟨0, by omega, rfl, Lib.hid (Fr.refl _ _)⟩
          case round =>
            obtain ⟨k, hk, rfl, HF⟩ := hrel
            by_cases hkn : k ≤ n
            · have c1 : (k : Int) ≤ (c : Int) := by omega
              go_wp2_with fail
              refine (KU.out _ k HF.out hkn).mono ?_
              rintro e wu ⟨rfl, q, rfl⟩
              have HFq := Lib.hid (HF.out.drewN q)
              clear HF
              generalize wr.drewN q = wv at HFq ⊢
              cases hb : underL zs (xs.take k) with
              | false =>
                clear hb
                go_wp2_with fail
                exact ⟨⟨k + 1, by omega, by go_num, HFq⟩, by simp [intOf]; omega⟩
              | true =>
                have HB := Lib.hid hb
                clear hb
                go_wp2_with fail
                refine (K1.out _ HFq.out).mono ?_
                rintro e wv2 ⟨rfl, rfl⟩
                go_wp2_with fail
                exact ⟨⟨k + 1, by omega, by go_num, HFq⟩, by simp [intOf]; omega⟩
            · obtain rfl : k = n + 1 := by omega
              have c1 : ¬ ((n : Int) + 1) ≤ (n : Int) := by omega
              go_wp2_with fail
              refine (K1.out _ HF.out).mono ?_
              rintro e wv ⟨rfl, rfl⟩
              go_wp2_with fail
              refine (K5.out _ HF.out).mono ?_
              rintro e wv2 ⟨rfl, q, rfl⟩
              have HFq := Lib.hid (HF.out.drewN q)
              clear HF
              go_wp2_with fail
              refine (awake_any _).mono ?_
              rintro e wv3 ⟨rfl, hF3⟩
              have HF3 := Lib.hid (HFq.out.trans hF3)
              clear hF3
              go_wp2_with fail
              go_ret
              exact ⟨rfl, HF3.out⟩
      · have g3 : (50 : Int) < (l : Int) := by omega
        have g2 : ¬ (50 : Int) < (m : Int) := by omega
        have g1 : ¬ (50 : Int) < (n : Int) := by omega
        go_enter Tryd.func6, Tryd.ntmps6
        go_wp2_with fail
        go_ret
        exact ⟨rfl, Fr.refl _ _⟩
    · have g2 : (50 : Int) < (m : Int) := by omega
      have g1 : ¬ (50 : Int) < (n : Int) := by omega
      go_enter Tryd.func6, Tryd.ntmps6
      go_wp2_with fail
      go_ret
      exact ⟨rfl, Fr.refl _ _⟩
  · have g1 : (50 : Int) < (n : Int) := by omega
    go_enter Tryd.func6, Tryd.ntmps6
    go_wp2_with fail
    go_ret
    exact ⟨rfl, Fr.refl _ _⟩

theorem walked {w : World} (a0 : Option Addr) (len0 cap0 : Nat) (z0 : List Int) (w0 : ArgR w a0 len0 cap0 z0) (a1 : Option Addr) (len1 cap1 : Nat) (z1 : List Int) (w1 : ArgR w a1 len1 cap1 z1) (a2 : Option Addr) (len2 cap2 : Nat) (z2 : List Int) (w2 : ArgR w a2 len2 cap2 z2) (_ : Laid w) :
    Calls Tryd.prog 6 #[.slice a0 len0 cap0, .slice a1 len1 cap1, .slice a2 len2 cap2] w fun e w' => e = .returned (.bool true) ∧ Below w.heap.size w w' :=
  (walk w a0 len0 cap0 z0 w0 a1 len1 cap1 z1 w1 a2 len2 cap2 z2 w2).mono fun _ _ ⟨he, hF⟩ => ⟨he, hF.below (Nat.le_refl _) (fun _ h => h.elim)⟩

set_option maxRecDepth 100000 in
theorem lifted (os : Os) (started : os.Started) (H : Type) (enc : TypeId × Value → H) :
    ReturnsInHanded {} Tryd.checked os 6 .any (fun w args => (Rows.pathThreeSpec.pre enc Tryd.prog Tryd.f6 [] false w args ∧ laidMetH Tryd.prog laidN w) ∧ sizedMet enc Tryd.prog Tryd.f6 (OpenSpec.ofChange Rows.pathThreeSpec) false w args)
      (Rows.pathThreeSpec.post enc Tryd.prog Tryd.f6 false true false false) := by
  refine returnsInHanded_of_change_and (C := Tryd.checked) (X := fun w _ => laidMetH Tryd.prog laidN w) (fun _ _ _ hh h => h.of_heap hh) own started (by kernel_rfl) Tryd.func6
    (ChangeSpec.witness_shaped (enc := enc) (C := Tryd.checked) (os := os) (X := fun w _ => laidMetH Tryd.prog laidN w) false (World.doorLaid Tryd.prog 400 os) #[.slice none 0 0, .slice none 0 0, .slice none 0 0] 8 rfl (World.shaped_of_RefB (by kernel_rfl) (by kernel_rfl)) (by kernel_rfl) (by kernel_rfl) (by kernel_rfl) (door_met os _)) ?_
  intro W base args ds gs before hval0 hW _ _ hL _
  have hval : ∀ (j : Nat) t v, Tryd.f6.params[j]? = some t → args[j]? = some v → Value.okWide Tryd.prog W .any base t v := hval0
  have hW' := hW
  obtain ⟨p, q, hA0, hV, rfl, hfz, hnd⟩ := hW
  have hA : DataW.TrodAll enc Tryd.prog W 0 (fun _ => true) true Tryd.f6.params.toList args.toList ds p := hA0
  rw [Tryd.params6] at hA hval
  obtain ⟨v0, vs0, d0, ds0, p0, q0, hargs, rfl, rfl, h0, r0⟩ := trodAll_cons hA
  obtain ⟨v1, vs1, d1, ds1, p1, q1, rfl, rfl, rfl, h1, r1⟩ := trodAll_cons r0
  obtain ⟨v2, vs2, d2, ds2, p2, q2, rfl, rfl, rfl, h2, r2⟩ := trodAll_cons r1
  obtain ⟨rfl, rfl, rfl⟩ := trodAll_nil r2
  obtain rfl : args = #[v0, v1, v2] := by cases args; simp_all
  obtain ⟨rfl, rfl⟩ := trodVars_none hV
  obtain ⟨a0, len0, cap0, rfl⟩ := okWide_slice Tryd.underlying22 (hval 0 22 v0 rfl rfl)
  have k0 := h0
  have lt0 : ∀ x ∈ p0, x.block < W.heap.size := by obtain ⟨m, hm⟩ := k0; exact DataW.trod_lt m _ _ _ hm
  obtain ⟨z0, w0⟩ := open_row h0
  obtain ⟨a1, len1, cap1, rfl⟩ := okWide_slice Tryd.underlying22 (hval 1 22 v1 rfl rfl)
  have k1 := h1
  have lt1 : ∀ x ∈ p1, x.block < W.heap.size := by obtain ⟨m, hm⟩ := k1; exact DataW.trod_lt m _ _ _ hm
  obtain ⟨z1, w1⟩ := open_row h1
  obtain ⟨a2, len2, cap2, rfl⟩ := okWide_slice Tryd.underlying22 (hval 2 22 v2 rfl rfl)
  have k2 := h2
  have lt2 : ∀ x ∈ p2, x.block < W.heap.size := by obtain ⟨m, hm⟩ := k2; exact DataW.trod_lt m _ _ _ hm
  obtain ⟨z2, w2⟩ := open_row h2
  clear hA0 hval0
  refine (walked (w := W) a0 len0 cap0 z0 w0 a1 len1 cap1 z1 w1 a2 len2 cap2 z2 w2 (of_laid hL)).mono fun e W' ⟨he, bel⟩ => ?_
  subst he
  exact ⟨_, rfl, _, _, _, [], _, [], hW', trodAll_mk1 (shut_bool Tryd.underlying4 _), (trodAll_cons_mk (Below.trod laidOut (by kernel_rfl) (of_decide_eq_true (by kernel_rfl)) k0 bel lt0) (trodAll_cons_mk (Below.trod laidOut (by kernel_rfl) (of_decide_eq_true (by kernel_rfl)) k1 bel lt1) (trodAll_cons_mk (Below.trod laidOut (by kernel_rfl) (of_decide_eq_true (by kernel_rfl)) k2 bel lt2) trodAll_mk0))), rfl, bel.frame _, fun h => by cases h⟩

theorem over : Rows.PathThreeSaid :=
  OpenClaim.holds_of_wide 6 Tryd.f6 rfl rfl rfl rfl rfl rfl rfl ⟨rfl, rfl, rfl, rfl, rfl⟩ rfl rfl rfl rfl rfl (by kernel_rfl) Tryd.func6 (by kernel_rfl)
    (of_decide_eq_true (by kernel_rfl)) (by unfold Func.isWrapper; first | (rw [if_pos (by decide +kernel)]; kernel_rfl) | (rw [if_neg (by decide +kernel)]; exact ⟨rfl, rfl⟩))
    (fun os started H enc _ => lifted os started H enc)

/-- The statement: the row, and what it lists tied to the program's text. -/
theorem proved : Rows.PathThreeCardSaid :=
  Claim7.holds_tied_plain_at .later [] [.data, .data, .data] true (true, "3104680c1f228efd10334e66c46e6116db24ee6cb05c0589596e48fdbe4e830e") false
    over (fun _ h => by cases h) (by kernel_rfl) (fun _ h => by cases h) pathThree_row_tie rfl ⟨rfl, rfl⟩ (by kernel_rfl) rfl
    (fun f fn hf hfn => by
      obtain rfl : f = 6 := Option.some.inj ((show Tryd.prog.funcNamed "haymow/haymowlaw05.PathThree" = some 6 by kernel_rfl).symm.trans hf) |>.symm
      obtain rfl : fn = Tryd.f6 := (Option.some.inj (Tryd.func6.symm.trans hfn)).symm
      exact ⟨by kernel_rfl, fun j t ht => by
        rw [Tryd.params6] at ht
        match j, ht with
        | 0, ht =>
          obtain rfl : t = 22 := by simpa using ht.symm
          exact (show Tryd.prog.wantsStandIn 22 = false by kernel_rfl)
        | 1, ht =>
          obtain rfl : t = 22 := by simpa using ht.symm
          exact (show Tryd.prog.wantsStandIn 22 = false by kernel_rfl)
        | 2, ht =>
          obtain rfl : t = 22 := by simpa using ht.symm
          exact (show Tryd.prog.wantsStandIn 22 = false by kernel_rfl)
        | j + 3, ht => simp at ht⟩)
    (by kernel_rfl)
#print axioms proved
end Go.Proofs.YtlhmokdoamelkaaDoor.pathThree
