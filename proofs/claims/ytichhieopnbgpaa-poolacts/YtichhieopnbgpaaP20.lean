/-
  A new pool is at home. No condition.
-/
import Derived.Test.YtichhieopnbgpaaP19
namespace Go.Proofs.Ytichhieopnbgpaa
open Go.RowKit

theorem initL_get (S : Shp) {q : Nat} (h : q < 4 * S.k) : (initL S).getD q [] = rowAt S q := by
  rw [List.getD_eq_getElem?_getD, initL, List.getElem?_map, List.getElem?_range h]
  rfl
theorem miss_init (S : Shp) : missL S (initL S) = false := by
  rw [missL, List.any_eq_false]
  intro i hi
  have hk := List.mem_range.1 hi
  rw [missAt, initL_get S (by omega), initL_get S (by omega), initL_get S (by omega)]
  have e0 : (rowAt S (i * 4)).length = S.m0 := by unfold rowAt; rw [if_pos (by omega), rowL_length]
  have e1 : (rowAt S (i * 4 + 1)).length = S.m1 := by unfold rowAt; rw [if_neg (by omega), if_pos (by omega), rowL_length]
  have e2 : (rowAt S (i * 4 + 2)).length = S.m2 := by unfold rowAt; rw [if_neg (by omega), if_neg (by omega), if_pos (by omega), rowL_length]
  rw [e0, e1, e2]
  simp
end Go.Proofs.Ytichhieopnbgpaa
