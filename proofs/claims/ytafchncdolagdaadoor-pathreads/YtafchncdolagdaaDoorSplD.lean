/-
  A text's parts between separators of one byte, as plain data.
-/
import Derived.Test.YtafchncdolagdaaDoorCutO
import Derived.Test.YtafchncdolagdaaDoorFigN
namespace Go.Proofs.YtafchncdolagdaaDoor

def conH (b : UInt8) : List (List UInt8) → List (List UInt8)
  | [] => [[b]]
  | p :: ps => (b :: p) :: ps
def splitD (c : UInt8) : List UInt8 → List (List UInt8)
  | [] => [[]]
  | b :: l => if b = c then [] :: splitD c l else conH b (splitD c l)
theorem splitD_ne (c : UInt8) (l : List UInt8) : splitD c l ≠ [] := by
  cases l with
  | nil => simp [splitD]
  | cons b l =>
    rw [splitD]
    split
    · simp
    · cases splitD c l <;> simp [conH]
theorem split_cut (c : UInt8) : ∀ l : List UInt8,
    ((cut1 c l).2.2 = true → splitD c l = (cut1 c l).1 :: splitD c (cut1 c l).2.1 ∧ (cut1 c l).2.1.length < l.length) ∧ ((cut1 c l).2.2 = false → splitD c l = [(cut1 c l).1])
  | [] => by simp [cut1, splitD]
  | b :: l => by
    obtain ⟨h1, h2⟩ := split_cut c l
    rw [cut1, splitD]
    by_cases hb : b = c
    · simp [hb]
    · simp only [if_neg hb]
      refine ⟨fun h => ?_, fun h => ?_⟩
      · obtain ⟨h3, h4⟩ := h1 h
        rw [h3]
        exact ⟨rfl, by simp; omega⟩
      · rw [h2 h]; rfl
theorem cut_rest_len (c : UInt8) (l : List UInt8) : (cut1 c l).2.1.length ≤ l.length := by
  induction l with
  | nil => simp [cut1]
  | cons b l ih =>
    rw [cut1]
    split
    · simp
    · simp; omega

/-- A part's figures. -/
def fgs (p : List UInt8) : List Int := p.map fun c => (c.toNat : Int)
def okP (p : List UInt8) : Prop := figOk (fgs p) 6
instance (p : List UInt8) : Decidable (okP p) := by unfold okP; infer_instance

/-- What Read comes to: the numbers, the error. -/
def readL (l : List UInt8) : List Int × Int :=
  if l = [46] then ([], 0) else if (∀ p ∈ splitD 46 l, okP p) then (if 30 < (splitD 46 l).length then ([], 3) else ((splitD 46 l).map fun p => figV (fgs p), 0)) else ([], 4)
end Go.Proofs.YtafchncdolagdaaDoor
