/-
  The chapter's example (awake) holds: the call returns true and turns nothing that was there.
-/
import Derived.Test.YtlhhnpbpmjbbaaaTurn
namespace Go.Proofs.Ytlhhnpbpmjbbaaa
open Go.RowKit

set_option maxHeartbeats 1000000 in
theorem awake_any (w : World) : Calls Try.prog 15 #[] w fun e w' => e = .returned (.bool true) ∧ Fr (fun _ => False) w w' := by
  have t1 : turnR (List.replicate 4 (false, 0)) 1 2 true = (0, [(false, 0), (true, 0), (true, 0), (false, 0)]) := rfl
  have T1 := Lib.hid t1
  clear t1
  have t7 : wrap64 (5 + 2) = 7 := by unfold wrap64; omega
  have T7 := Lib.hid t7
  clear t7
  go_enter Try.func15, Try.ntmps15
  go_wp2_with (go_at_call 10; refine (new_yes 4 (by omega) w).mono ?_; rintro e w1 ⟨rfl, hM1, hF1⟩)
  go_wp2_with (go_at_call 20; refine (live_any w1 _ _ _ _ hM1 1 2 (by simp) (by omega)).mono ?_; rintro e w2 ⟨rfl, hM2, hF2⟩; rw [T1.out] at hM2 ⊢; simp only [] at hM2 ⊢)
  go_wp2_with (go_at_call 19; refine (store_ok w2 _ _ _ _ hM2 1 0 5 rfl (by omega) (by omega)).mono ?_; rintro e w3 ⟨rfl, hM3, hF3⟩)
  go_wp2_with (go_at_call 18; refine (add_ok w3 _ _ _ _ hM3 1 5 2 rfl (by omega) (by omega)).mono ?_; rintro e w4 ⟨rfl, hM4, hF4⟩; rw [T7.out] at hM4 ⊢)
  go_wp2_with (go_at_call 16; refine (load_free w4 _ _ _ _ hM4 0 0 rfl).mono ?_; rintro e w5 ⟨rfl, hM5, hF5⟩)
  go_ret
  refine ⟨rfl, ?_⟩
  have hB : ∀ i, Two (w.heap.size + 1) w.heap.size i → False ∨ w.heap.size ≤ i := by
    rintro i (rfl | rfl)
    · exact .inr (by omega)
    · exact .inr (by omega)
  exact (((hF1.then hF2 hB).then hF3 hB).then hF4 hB).then hF5 hB
end Go.Proofs.Ytlhhnpbpmjbbaaa
