/-
  haymowlaw01.MemNew returns true for every two 64-bit numbers, and each argument reads as it did. No condition.
-/
import Derived.Test.YtlhhnpbpmjbbaaaAwake
import Derived.Test.YtlhhnpbpmjbbaaaRows
import Derived.ProofKit
import Derived.OpenShut
import Derived.ShutString
import Derived.ChangeOld
namespace Go.Proofs.Ytlhhnpbpmjbbaaa.memNew
open Go.ChangeShapes Go.WideShapes Go.ChangeAt Go.RowKit
open Go.ChangeMaps (open_string shut_string)

set_option maxHeartbeats 1000000 in
theorem early (n a : Int) (h1 : 10000 < n) (h2 : n ≤ 65536) (w : World) :
    Calls Try.prog 4 #[.int .i64 n, .int .i64 a] w fun e w' => e = .returned (.bool true) ∧ Below w.heap.size w w' := by
  by_cases h3 : 64536 < n
  · by_cases h4 : n < 65536
    · go_enter Try.func4, Try.ntmps4
      go_wp2_with fail
      go_ret
      exact ⟨rfl, Below.refl _ _⟩
    · go_enter Try.func4, Try.ntmps4
      go_wp2_with fail
      go_ret
      exact ⟨rfl, Below.refl _ _⟩
  · go_enter Try.func4, Try.ntmps4
    go_wp2_with fail
    go_ret
    exact ⟨rfl, Below.refl _ _⟩

set_option maxHeartbeats 1000000 in
theorem yes (n : Nat) (a : Int) (h1 : n ≤ 10000) (w : World) :
    Calls Try.prog 4 #[.int .i64 n, .int .i64 a] w fun e w' => e = .returned (.bool true) ∧ Below w.heap.size w w' := by
  have g1 : ¬ (64536 < (n : Int)) := by omega
  have g2 : ¬ (10000 < (n : Int)) := by omega
  have g3 : (n : Int) ≤ 65536 := by omega
  have g4 : 0 ≤ (n : Int) := by omega
  go_enter Try.func4, Try.ntmps4
  go_wp2_with (go_at_call 10; refine (new_yes n (by omega) w).mono ?_; rintro e w1 ⟨rfl, hM1, hF1⟩)
  go_wp2_with (go_at_call 16; refine (load_nil w1 a).mono ?_; rintro e w2 ⟨rfl, hF2⟩)
  go_wp2_with (go_at_call 17; refine (swap_nil w2 a 0 0).mono ?_; rintro e w3 ⟨rfl, hF3⟩)
  go_wp2_with (go_at_call 18; refine (add_nil w3 a 0).mono ?_; rintro e w4 ⟨rfl, hF4⟩)
  go_wp2_with (go_at_call 12; refine (words_nil w4).mono ?_; rintro e w5 ⟨rfl, rfl⟩)
  go_wp2_with (go_at_call 14; refine (steps_nil w4).mono ?_; rintro e w5 ⟨rfl, rfl⟩)
  go_wp2_with (go_at_call 19; refine (store_nil w4 a 0).mono ?_; rintro e w5 ⟨rfl, hF5⟩)
  go_wp2_with (go_at_call 20; refine (live_nil w5 a 0).mono ?_; rintro e w6 ⟨rfl, rfl⟩)
  go_wp2_with (go_at_call 21; refine (free_nil w5 a 0).mono ?_; rintro e w6 ⟨rfl, rfl⟩)
  go_wp2_with (go_at_call 15; refine (awake_any w5).mono ?_; rintro e w6 ⟨rfl, hF6⟩)
  go_ret
  exact ⟨rfl, (((((hF1.trans hF2).trans hF3).trans hF4).trans hF5).trans hF6).below (Nat.le_refl _) (fun _ h => h.elim)⟩

set_option maxHeartbeats 1000000 in
theorem no_ (n a : Int) (h1 : n < 0 ∨ 65536 < n) (w : World) :
    Calls Try.prog 4 #[.int .i64 n, .int .i64 a] w fun e w' => e = .returned (.bool true) ∧ Below w.heap.size w w' := by
  have H1 := Lib.hid h1
  rcases h1 with h1 | h1
  · have g0 : decide (0 ≤ n) = false := by simp; omega
    go_enter Try.func4, Try.ntmps4
    go_wp2_with (go_at_call 10; refine (new_no n H1.out w).mono ?_; rintro e w1 ⟨rfl, rfl⟩)
    go_wp2_with (go_at_call 16; refine (load_nil w a).mono ?_; rintro e w2 ⟨rfl, hF2⟩)
    go_wp2_with (go_at_call 17; refine (swap_nil w2 a 0 0).mono ?_; rintro e w3 ⟨rfl, hF3⟩)
    go_wp2_with (go_at_call 18; refine (add_nil w3 a 0).mono ?_; rintro e w4 ⟨rfl, hF4⟩)
    go_wp2_with (go_at_call 12; refine (words_nil w4).mono ?_; rintro e w5 ⟨rfl, rfl⟩)
    go_wp2_with (go_at_call 14; refine (steps_nil w4).mono ?_; rintro e w5 ⟨rfl, rfl⟩)
    go_wp2_with (go_at_call 19; refine (store_nil w4 a 0).mono ?_; rintro e w5 ⟨rfl, hF5⟩)
    go_wp2_with (go_at_call 20; refine (live_nil w5 a 0).mono ?_; rintro e w6 ⟨rfl, rfl⟩)
    go_wp2_with (go_at_call 21; refine (free_nil w5 a 0).mono ?_; rintro e w6 ⟨rfl, rfl⟩)
    go_wp2_with (go_at_call 15; refine (awake_any w5).mono ?_; rintro e w6 ⟨rfl, hF6⟩)
    go_ret
    exact ⟨rfl, ((((hF2).trans hF3).trans hF4).trans hF5 |>.trans hF6).below (Nat.le_refl _) (fun _ h => h.elim)⟩
  · have g0 : decide (0 ≤ n) = true := by simp; omega
    have g1 : decide (n ≤ 65536) = false := by simp; omega
    have g2 : ¬ n < 65536 := by omega
    go_enter Try.func4, Try.ntmps4
    go_wp2_with (go_at_call 10; refine (new_no n H1.out w).mono ?_; rintro e w1 ⟨rfl, rfl⟩)
    go_wp2_with (go_at_call 16; refine (load_nil w a).mono ?_; rintro e w2 ⟨rfl, hF2⟩)
    go_wp2_with (go_at_call 17; refine (swap_nil w2 a 0 0).mono ?_; rintro e w3 ⟨rfl, hF3⟩)
    go_wp2_with (go_at_call 18; refine (add_nil w3 a 0).mono ?_; rintro e w4 ⟨rfl, hF4⟩)
    go_wp2_with (go_at_call 12; refine (words_nil w4).mono ?_; rintro e w5 ⟨rfl, rfl⟩)
    go_wp2_with (go_at_call 14; refine (steps_nil w4).mono ?_; rintro e w5 ⟨rfl, rfl⟩)
    go_wp2_with (go_at_call 19; refine (store_nil w4 a 0).mono ?_; rintro e w5 ⟨rfl, hF5⟩)
    go_wp2_with (go_at_call 20; refine (live_nil w5 a 0).mono ?_; rintro e w6 ⟨rfl, rfl⟩)
    go_wp2_with (go_at_call 21; refine (free_nil w5 a 0).mono ?_; rintro e w6 ⟨rfl, rfl⟩)
    go_wp2_with (go_at_call 15; refine (awake_any w5).mono ?_; rintro e w6 ⟨rfl, hF6⟩)
    go_ret
    exact ⟨rfl, ((((hF2).trans hF3).trans hF4).trans hF5 |>.trans hF6).below (Nat.le_refl _) (fun _ h => h.elim)⟩

theorem walk (a0 : Int) (_ : (Lit.int .i64 a0).wf = true) (a1 : Int) (_ : (Lit.int .i64 a1).wf = true) (w : World) :
    Calls Try.prog 4 #[.int .i64 a0, .int .i64 a1] w fun e w' => e = .returned (.bool true) ∧ Below w.heap.size w w' := by
  by_cases h1 : a0 < 0 ∨ 65536 < a0
  · exact no_ a0 a1 h1 w
  · by_cases h2 : 10000 < a0
    · exact early a0 a1 h2 (by omega) w
    · obtain ⟨n, rfl⟩ := Int.eq_ofNat_of_zero_le (a := a0) (by omega)
      exact yes n a1 (by omega) w

/-! ### The row's step -/
theorem own : ownKnob Try.prog.godebug = none := by kernel_rfl
theorem laidOut : laidOutB Try.prog = true := by kernel_rfl

set_option maxRecDepth 100000 in
theorem lifted (os : Os) (started : os.Started) (H : Type) (enc : TypeId × Value → H) :
    ReturnsInHanded {} Try.checked os 4 .any (Rows.memNewSpec.pre6 enc Try.prog Try.f4 Rows.memNewRow.domain false) (Rows.memNewSpec.post enc Try.prog Try.f4 false true false false) := by
  refine returnsInHanded_of_change (C := Try.checked) own started (by kernel_rfl) Try.func4
    (ChangeSpec.witness6 (enc := enc) (C := Try.checked) false ⟨#[], #[.int .i64 0, .int .i64 0], []⟩ 8 (by kernel_rfl) (by kernel_rfl) (by kernel_rfl) (by kernel_rfl)) ?_
  intro W base args ds gs before hval0 hW hcnd _
  have hval : ∀ (j : Nat) t v, Try.f4.params[j]? = some t → args[j]? = some v → Value.okWide Try.prog W .any base t v := hval0
  have hW' := hW
  obtain ⟨p, q, hA0, hV, rfl, hfz, hnd⟩ := hW
  have hA : DataW.TrodAll enc Try.prog W 0 (fun _ => true) true Try.f4.params.toList args.toList ds p := hA0
  rw [Try.params4] at hA hval
  obtain ⟨v0, vs0, d0, ds0, p0, q0, hargs, rfl, rfl, h0, r0⟩ := trodAll_cons hA
  obtain ⟨v1, vs1, d1, ds1, p1, q1, rfl, rfl, rfl, h1, r1⟩ := trodAll_cons r0
  obtain ⟨rfl, rfl, rfl⟩ := trodAll_nil r1
  obtain rfl : args = #[v0, v1] := by cases args; simp_all
  obtain ⟨rfl, rfl⟩ := trodVars_none hV
  obtain ⟨a0, rfl, rfl, rfl, w0⟩ := open_int Try.underlying3 (hval 0 3 v0 rfl rfl) h0
  obtain ⟨a1, rfl, rfl, rfl, w1⟩ := open_int Try.underlying3 (hval 1 3 v1 rfl rfl) h1
  clear hA0 hval0
  refine (walk a0 w0 a1 w1 W).mono fun e W' ⟨he, bel⟩ => ?_
  subst he
  exact ⟨_, rfl, _, _, _, [], _, [], hW', trodAll_mk1 (shut_bool Try.underlying4 _), (trodAll_cons_mk (shut_int Try.underlying3 w0) (trodAll_cons_mk (shut_int Try.underlying3 w1) trodAll_mk0)), rfl, bel.frame _, fun h => by cases h⟩

theorem over : Rows.memNewRow.holds Try.pinned (OpenSpec.ofChange Rows.memNewSpec) :=
  OpenClaim.holds_of_wide 4 Try.f4 rfl rfl rfl rfl rfl rfl rfl ⟨rfl, rfl, rfl, rfl, rfl⟩ rfl rfl rfl rfl rfl (by kernel_rfl) Try.func4 (by kernel_rfl)
    (of_decide_eq_true (by kernel_rfl)) (by unfold Func.isWrapper; first | (rw [if_pos (by decide +kernel)]; kernel_rfl) | (rw [if_neg (by decide +kernel)]; exact ⟨rfl, rfl⟩))
    (fun os started H enc _ => lifted os started H enc)

/-- The statement. -/
theorem proved : Rows.MemNewSaid := over
#print axioms proved
end Go.Proofs.Ytlhhnpbpmjbbaaa.memNew
