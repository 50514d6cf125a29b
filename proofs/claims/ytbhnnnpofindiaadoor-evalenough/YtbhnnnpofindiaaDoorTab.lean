/-
  What the table of the operations' fields tells.
-/
import Derived.Test.YtbhnnnpofindiaaDoorFld
namespace Go.Proofs.YtbhnnnpofindiaaDoor
open Go.RowKit

/-- The table lies as it was laid. -/
def FieldsAt (w : World) : Prop := ∀ k, k < 18 → ∀ j, j < 4 → w.cell? ⟨0, k * 4 + j, none⟩ = some (.int .i64 (kdAt k j : Nat))
theorem FieldsAt.fr {w w' : World} {B : Nat → Prop} (h : FieldsAt w) (hf : Fr B w w') (hB : ¬ B 0) : FieldsAt w' := fun k hk j hj => hf.held (h k hk j hj) hB
theorem FieldsAt.lt {w : World} (h : FieldsAt w) : 0 < w.heap.size := cell_lt (h 0 (by omega) 0 (by omega))

theorem known_in (w : World) (op : Int) (h1 : 1 ≤ op) (h2 : op ≤ 17) : Calls Tryd.prog 60 #[.int .i64 op] w fun e w' => e = .returned (.bool true) ∧ w = w' := by
  go_enter Tryd.func60, Tryd.ntmps60
  go_wp2
  go_ret
  exact ⟨rfl, rfl⟩
theorem known_no (w : World) (op : Int) (h : ¬ (1 ≤ op ∧ op ≤ 17)) : Calls Tryd.prog 60 #[.int .i64 op] w fun e w' => e = .returned (.bool false) ∧ w = w' := by
  by_cases h1 : 1 ≤ op
  · have h2 : ¬ op ≤ 17 := fun h2 => h ⟨h1, h2⟩
    clear h
    go_enter Tryd.func60, Tryd.ntmps60
    go_wp2
    go_ret
    exact ⟨rfl, rfl⟩
  · clear h
    go_enter Tryd.func60, Tryd.ntmps60
    go_wp2
    go_ret
    exact ⟨rfl, rfl⟩

set_option maxHeartbeats 1000000 in
theorem fields_in (w : World) (hT : FieldsAt w) (op : Nat) (h1 : 1 ≤ op) (h2 : op ≤ 17) :
    Calls Tryd.prog 61 #[.int .i64 op] w fun e w' => e = .returned (.agg #[.int .i64 (kdAt op 0 : Nat), .int .i64 (kdAt op 1 : Nat), .int .i64 (kdAt op 2 : Nat), .int .i64 (kdAt op 3 : Nat)]) ∧ Fr None' w w' := by
  have h0 := hT.lt
  have t0 := hT op (by omega) 0 (by omega)
  have t1 := hT op (by omega) 1 (by omega)
  have t2 := hT op (by omega) 2 (by omega)
  have t3 := hT op (by omega) 3 (by omega)
  rw [Nat.add_zero] at t0
  clear hT
  go_enter Tryd.func61, Tryd.ntmps61
  go_wp2_with fail
  refine (known_in _ op (by omega) (by omega)).mono ?_
  rintro e _ ⟨rfl, rfl⟩
  go_wp2_with fail
  exact bodyPost_ret (v := .agg #[.int .i64 (kdAt op 0 : Nat), .int .i64 (kdAt op 1 : Nat), .int .i64 (kdAt op 2 : Nat), .int .i64 (kdAt op 3 : Nat)]) (by simp [results, Tryd.results61, go_sem]) rfl ⟨rfl, (Fr.refl _ _).alloc _⟩
end Go.Proofs.YtbhnnnpofindiaaDoor
