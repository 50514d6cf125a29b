/-
  Figures as plain data: which texts are numbers, and which number they are.
-/
import Derived.WalkKit
namespace Go.Proofs.YtafchncdolagdaaDoor
open Go.RowKit

/-- The bytes of a text, as numbers. -/
def byts (s : ByteArray) : List Int := s.data.toList.map fun c => (c.toNat : Int)
theorem byts_length (s : ByteArray) : (byts s).length = s.size := by unfold byts; rw [List.length_map]; rfl
theorem byts_at (s : ByteArray) (k : Nat) (h : k < s.size) : (byts s)[k]? = some ((s[k].toNat : Nat) : Int) := by
  unfold byts
  rw [List.getElem?_map, List.getElem?_eq_getElem (by simpa using h)]
  rfl
def isFig (d : Int) : Prop := 48 ≤ d ∧ d ≤ 57
instance (d : Int) : Decidable (isFig d) := by unfold isFig; infer_instance
/-- The number of some figures. -/
def figV (l : List Int) : Int := l.foldl (fun n d => n * 10 + (d - 48)) 0
theorem figV_snoc (l : List Int) (d : Int) : figV (l ++ [d]) = figV l * 10 + (d - 48) := by simp [figV]
theorem fold_bound : ∀ (l : List Int) (acc : Int), 0 ≤ acc → (∀ d ∈ l, isFig d) → 0 ≤ l.foldl (fun n d => n * 10 + (d - 48)) acc ∧ l.foldl (fun n d => n * 10 + (d - 48)) acc < (acc + 1) * 10 ^ l.length
  | [], acc, h0, _ => by simp; omega
  | d :: l, acc, h0, h => by
    have hd := h d (by simp)
    unfold isFig at hd
    obtain ⟨h1, h2⟩ := fold_bound l (acc * 10 + (d - 48)) (by omega) (fun x hx => h x (by simp [hx]))
    refine ⟨h1, Int.lt_of_lt_of_le h2 ?_⟩
    have e : (acc + 1) * 10 ^ (d :: l).length = ((acc + 1) * 10) * 10 ^ l.length := by
      rw [List.length_cons, Int.pow_succ, Int.mul_comm (10 ^ l.length) 10, ← Int.mul_assoc]
    rw [e]
    exact Int.mul_le_mul_of_nonneg_right (by omega) (Int.pow_nonneg (by decide))
theorem figV_bound (l : List Int) (h : ∀ d ∈ l, isFig d) : 0 ≤ figV l ∧ figV l < 10 ^ l.length := by
  have := fold_bound l 0 (by decide) h
  simpa [figV] using this
theorem figV_ten (l : List Int) (h : ∀ d ∈ l, isFig d) (hl : l.length ≤ 10) : 0 ≤ figV l ∧ figV l < 10000000000 := by
  obtain ⟨h1, h2⟩ := figV_bound l h
  refine ⟨h1, Int.lt_of_lt_of_le h2 ?_⟩
  have : (10 : Int) ^ l.length ≤ 10 ^ 10 := by
    have := Nat.pow_le_pow_right (n := 10) (by decide) hl
    have h3 : ((10 ^ l.length : Nat) : Int) ≤ ((10 ^ 10 : Nat) : Int) := by omega
    simpa using h3
  simpa using this
/-- Which texts are plain figures, at most so many. -/
def figOk (l : List Int) (m : Nat) : Prop := l ≠ [] ∧ l.length ≤ m ∧ (1 < l.length → l.getD 0 0 ≠ 48) ∧ ∀ d ∈ l, isFig d
instance (l : List Int) (m : Nat) : Decidable (figOk l m) := by unfold figOk; infer_instance
/-- Which texts are plain numbers, up to a greatest one. -/
def natOk (l : List Int) (most : Int) : Prop := l ≠ [] ∧ l.length ≤ 10 ∧ (1 < l.length → l.getD 0 0 ≠ 48) ∧ (∀ d ∈ l, isFig d) ∧ figV l ≤ most
instance (l : List Int) (most : Int) : Decidable (natOk l most) := by unfold natOk; infer_instance
theorem byts_mk (l : List UInt8) : byts ⟨l.toArray⟩ = l.map fun c => (c.toNat : Int) := by simp [byts]
end Go.Proofs.YtafchncdolagdaaDoor
