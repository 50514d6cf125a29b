/-
  haymowlaw01.MemSwaps returns true for every three 64-bit numbers, and each argument reads as it did. No condition.
-/
import Derived.Test.YtlhhnpbpmjbbaaaAwake
import Derived.Test.YtlhhnpbpmjbbaaaRows
import Derived.ProofKit
import Derived.OpenShut
import Derived.ShutString
import Derived.ChangeOld
namespace Go.Proofs.Ytlhhnpbpmjbbaaa.memSwaps
open Go.ChangeShapes Go.WideShapes Go.ChangeAt Go.RowKit
open Go.ChangeMaps (open_string shut_string)

set_option maxHeartbeats 1000000 in
theorem same (a0 a2 : Int) (w : World) :
    Calls Try.prog 8 #[.int .i64 a0, .int .i64 a0, .int .i64 a2] w fun e w' => e = .returned (.bool true) ∧ Below w.heap.size w w' := by
  have t1 : turnR (List.replicate 1 (false, 0)) 0 1 true = (0, [(true, 0)]) := rfl
  have T1 := Lib.hid t1
  clear t1
  go_enter Try.func8, Try.ntmps8
  go_wp2_with (go_at_call 10; refine (new_yes 1 (by omega) w).mono ?_; rintro e w1 ⟨rfl, hM1, hF1⟩)
  go_wp2_with (go_at_call 20; refine (live_any w1 _ _ _ _ hM1 0 1 (by simp) (by omega)).mono ?_; rintro e w2 ⟨rfl, hM2, hF2⟩; rw [T1.out] at hM2 ⊢; simp only [] at hM2 ⊢)
  go_wp2_with (go_at_call 19; refine (store_ok w2 _ _ _ _ hM2 0 0 a0 rfl (by omega) (by omega)).mono ?_; rintro e w3 ⟨rfl, hM3, hF3⟩)
  refine (swap_yes w3 _ _ _ _ hM3 0 a0 a0 rfl (by omega) (by omega)).mono ?_
  rintro e w4 ⟨rfl, hM4, hF4⟩
  go_wp2_with fail
  refine (swap_yes w4 _ _ _ _ hM4 0 a0 a2 rfl (by omega) (by omega)).mono ?_
  rintro e w5 ⟨rfl, hM5, hF5⟩
  go_wp2_with (go_at_call 16; refine (load_ok w5 _ _ _ _ hM5 0 a2 rfl (by omega) (by omega)).mono ?_; rintro e w6 ⟨rfl, hM6, hF6⟩)
  go_wp2_with (go_at_call 14; refine (steps_any w6 _ _ _ _ hM6).mono ?_; rintro e w7 ⟨rfl, rfl⟩)
  go_wp2_with (go_at_call 15; refine (awake_any w6).mono ?_; rintro e w8 ⟨rfl, hF8⟩)
  go_ret
  refine ⟨rfl, ?_⟩
  have hB : ∀ i, Two (w.heap.size + 1) w.heap.size i → False ∨ w.heap.size ≤ i := by
    rintro i (rfl | rfl)
    · exact .inr (by omega)
    · exact .inr (by omega)
  have hall := (((((hF1.then hF2 hB).then hF3 hB).then hF4 hB).then hF5 hB).then hF6 hB).trans hF8
  exact hall.below (Nat.le_refl _) (fun _ h => h.elim)

set_option maxHeartbeats 1000000 in
theorem other (a0 a1 a2 : Int) (h : (a1 != a0) = true) (h2 : (a1 == a0) = false) (w : World) :
    Calls Try.prog 8 #[.int .i64 a0, .int .i64 a1, .int .i64 a2] w fun e w' => e = .returned (.bool true) ∧ Below w.heap.size w w' := by
  have t1 : turnR (List.replicate 1 (false, 0)) 0 1 true = (0, [(true, 0)]) := rfl
  have T1 := Lib.hid t1
  clear t1
  go_enter Try.func8, Try.ntmps8
  go_wp2_with (go_at_call 10; refine (new_yes 1 (by omega) w).mono ?_; rintro e w1 ⟨rfl, hM1, hF1⟩)
  go_wp2_with (go_at_call 20; refine (live_any w1 _ _ _ _ hM1 0 1 (by simp) (by omega)).mono ?_; rintro e w2 ⟨rfl, hM2, hF2⟩; rw [T1.out] at hM2 ⊢; simp only [] at hM2 ⊢)
  go_wp2_with (go_at_call 19; refine (store_ok w2 _ _ _ _ hM2 0 0 a0 rfl (by omega) (by omega)).mono ?_; rintro e w3 ⟨rfl, hM3, hF3⟩)
  refine (swap_yes w3 _ _ _ _ hM3 0 a0 a1 rfl (by omega) (by omega)).mono ?_
  rintro e w4 ⟨rfl, hM4, hF4⟩
  go_wp2_with fail
  refine (swap_no w4 _ _ _ _ hM4 0 a1 a0 a2 rfl h (by omega) (by omega)).mono ?_
  rintro e w5 ⟨rfl, hM5, hF5⟩
  go_wp2_with (go_at_call 16; refine (load_ok w5 _ _ _ _ hM5 0 a1 rfl (by omega) (by omega)).mono ?_; rintro e w6 ⟨rfl, hM6, hF6⟩)
  go_wp2_with (go_at_call 14; refine (steps_any w6 _ _ _ _ hM6).mono ?_; rintro e w7 ⟨rfl, rfl⟩)
  go_wp2_with (go_at_call 15; refine (awake_any w6).mono ?_; rintro e w8 ⟨rfl, hF8⟩)
  go_ret
  refine ⟨rfl, ?_⟩
  have hB : ∀ i, Two (w.heap.size + 1) w.heap.size i → False ∨ w.heap.size ≤ i := by
    rintro i (rfl | rfl)
    · exact .inr (by omega)
    · exact .inr (by omega)
  have hall := (((((hF1.then hF2 hB).then hF3 hB).then hF4 hB).then hF5 hB).then hF6 hB).trans hF8
  exact hall.below (Nat.le_refl _) (fun _ h => h.elim)

theorem walk (a0 : Int) (_ : (Lit.int .i64 a0).wf = true) (a1 : Int) (_ : (Lit.int .i64 a1).wf = true) (a2 : Int) (_ : (Lit.int .i64 a2).wf = true) (w : World) :
    Calls Try.prog 8 #[.int .i64 a0, .int .i64 a1, .int .i64 a2] w fun e w' => e = .returned (.bool true) ∧ Below w.heap.size w w' := by
  by_cases h : a1 = a0
  · subst h; exact same a1 a2 w
  · exact other a0 a1 a2 (by simp [h]) (by simp [h]) w

/-! ### The row's step -/
theorem own : ownKnob Try.prog.godebug = none := by kernel_rfl
theorem laidOut : laidOutB Try.prog = true := by kernel_rfl

set_option maxRecDepth 100000 in
theorem lifted (os : Os) (started : os.Started) (H : Type) (enc : TypeId × Value → H) :
    ReturnsInHanded {} Try.checked os 8 .any (Rows.memSwapsSpec.pre6 enc Try.prog Try.f8 Rows.memSwapsRow.domain false) (Rows.memSwapsSpec.post enc Try.prog Try.f8 false true false false) := by
  refine returnsInHanded_of_change (C := Try.checked) own started (by kernel_rfl) Try.func8
    (ChangeSpec.witness6 (enc := enc) (C := Try.checked) false ⟨#[], #[.int .i64 0, .int .i64 0, .int .i64 0], []⟩ 8 (by kernel_rfl) (by kernel_rfl) (by kernel_rfl) (by kernel_rfl)) ?_
  intro W base args ds gs before hval0 hW hcnd _
  have hval : ∀ (j : Nat) t v, Try.f8.params[j]? = some t → args[j]? = some v → Value.okWide Try.prog W .any base t v := hval0
  have hW' := hW
  obtain ⟨p, q, hA0, hV, rfl, hfz, hnd⟩ := hW
  have hA : DataW.TrodAll enc Try.prog W 0 (fun _ => true) true Try.f8.params.toList args.toList ds p := hA0
  rw [Try.params8] at hA hval
  obtain ⟨v0, vs0, d0, ds0, p0, q0, hargs, rfl, rfl, h0, r0⟩ := trodAll_cons hA
  obtain ⟨v1, vs1, d1, ds1, p1, q1, rfl, rfl, rfl, h1, r1⟩ := trodAll_cons r0
  obtain ⟨v2, vs2, d2, ds2, p2, q2, rfl, rfl, rfl, h2, r2⟩ := trodAll_cons r1
  obtain ⟨rfl, rfl, rfl⟩ := trodAll_nil r2
  obtain rfl : args = #[v0, v1, v2] := by cases args; simp_all
  obtain ⟨rfl, rfl⟩ := trodVars_none hV
  obtain ⟨a0, rfl, rfl, rfl, w0⟩ := open_int Try.underlying2 (hval 0 2 v0 rfl rfl) h0
  obtain ⟨a1, rfl, rfl, rfl, w1⟩ := open_int Try.underlying2 (hval 1 2 v1 rfl rfl) h1
  obtain ⟨a2, rfl, rfl, rfl, w2⟩ := open_int Try.underlying2 (hval 2 2 v2 rfl rfl) h2
  clear hA0 hval0
  refine (walk a0 w0 a1 w1 a2 w2 W).mono fun e W' ⟨he, bel⟩ => ?_
  subst he
  exact ⟨_, rfl, _, _, _, [], _, [], hW', trodAll_mk1 (shut_bool Try.underlying4 _), (trodAll_cons_mk (shut_int Try.underlying2 w0) (trodAll_cons_mk (shut_int Try.underlying2 w1) (trodAll_cons_mk (shut_int Try.underlying2 w2) trodAll_mk0))), rfl, bel.frame _, fun h => by cases h⟩

theorem over : Rows.memSwapsRow.holds Try.pinned (OpenSpec.ofChange Rows.memSwapsSpec) :=
  OpenClaim.holds_of_wide 8 Try.f8 rfl rfl rfl rfl rfl rfl rfl ⟨rfl, rfl, rfl, rfl, rfl⟩ rfl rfl rfl rfl rfl (by kernel_rfl) Try.func8 (by kernel_rfl)
    (of_decide_eq_true (by kernel_rfl)) (by unfold Func.isWrapper; first | (rw [if_pos (by decide +kernel)]; kernel_rfl) | (rw [if_neg (by decide +kernel)]; exact ⟨rfl, rfl⟩))
    (fun os started H enc _ => lifted os started H enc)

/-- The statement. -/
theorem proved : Rows.MemSwapsSaid := over
#print axioms proved
end Go.Proofs.Ytlhhnpbpmjbbaaa.memSwaps
