/-
  Reading by places: what the bytes at a place make, for the document's Read.
-/
import Derived.Test.YtahojahplpcbiaaPureB
namespace Go.Proofs.Ytahojahplpcbiaa
open Go.RowKit

theorem pIns_at (r : List Int) (h : 8 ≤ r.length) : pIns r = some (⟨r.getD 0 0, r.getD 1 0, r.getD 2 0, r.getD 3 0, kval (r.getD 4 0) (r.getD 5 0) (r.getD 6 0) (r.getD 7 0)⟩, r.drop 8) := by
  match r, h with
  | o :: a :: b :: c :: k0 :: k1 :: k2 :: k3 :: r', _ => rfl
theorem pIns_short (r : List Int) (h : r.length < 8) : pIns r = none := by
  match r, h with
  | [], _ => rfl
  | [_], _ => rfl
  | [_, _], _ => rfl
  | [_, _, _], _ => rfl
  | [_, _, _, _], _ => rfl
  | [_, _, _, _, _], _ => rfl
  | [_, _, _, _, _, _], _ => rfl
  | [_, _, _, _, _, _, _], _ => rfl
  | _ :: _ :: _ :: _ :: _ :: _ :: _ :: _ :: _, h => simp at h; omega
/-- Too few bytes for n instructions. -/
theorem insMany_short (n : Nat) (r : List Int) (h : r.length < 8 * n) : pMany pIns n r = none := by
  induction n generalizing r with
  | zero => omega
  | succ n ih =>
    by_cases h8 : r.length < 8
    · simp only [pMany, pIns_short r h8]
    · simp only [pMany, pIns_at r (by omega)]
      rw [ih (r.drop 8) (by rw [List.length_drop]; omega)]
/-- A function at a place: its arity, its number of instructions, its instructions. -/
theorem pFn_short (r : List Int) (h : r.length < 2) : pFn r = none := by
  match r, h with
  | [], _ => rfl
  | [_], _ => rfl
  | _ :: _ :: _, h => simp at h; omega
theorem pFn_few (r : List Int) (h2 : 2 ≤ r.length) (h : (r.drop 2).length < 8 * (r.getD 1 0).toNat) : pFn r = none := by
  match r, h2, h with
  | a :: n :: r', _, h =>
    have := insMany_short n.toNat r' (by simpa using h)
    simp only [pFn, pCode, this]
theorem pFn_at (r r' : List Int) (l : List Ins) (h2 : 2 ≤ r.length) (h : Part pIns (r.drop 2) l r') (hl : l.length = (r.getD 1 0).toNat) : pFn r = some (⟨r.getD 0 0, l⟩, r') := by
  match r, h2, h, hl with
  | a :: n :: t, _, h, hl =>
    have := h.many
    have hl' : l.length = n.toNat := by simpa using hl
    simp only [List.drop_succ_cons, List.drop_zero] at this
    rw [hl'] at this
    simp only [pFn, pCode, this]
    rfl
theorem drop_getD (l : List Int) (a j : Nat) : (l.drop a).getD j 0 = l.getD (a + j) 0 := by
  simp [List.getD_eq_getElem?_getD, List.getElem?_drop]
end Go.Proofs.Ytahojahplpcbiaa
