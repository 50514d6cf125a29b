/-
  Programs as plain data, and their bytes.
-/
import Derived.WalkKit
namespace Go.Proofs.YtbhnnnpofindiaaDoor
open Go.RowKit

/-- The byte i of a number of 32 bits. -/
def kb (n : Int) (i : Nat) : Int := n / 2 ^ (8 * i) % 256

structure Ins where
  op : Int
  a : Int
  b : Int
  c : Int
  k : Int
structure Fn where
  arity : Int
  code : List Ins

def fit8 (n : Int) : Prop := 0 ≤ n ∧ n ≤ 255
instance (n : Int) : Decidable (fit8 n) := by unfold fit8; infer_instance
def fitK (n : Int) : Prop := -2147483648 ≤ n ∧ n ≤ 2147483647
instance (n : Int) : Decidable (fitK n) := by unfold fitK; infer_instance

def Ins.ok (x : Ins) : Prop := fit8 x.op ∧ fit8 x.a ∧ fit8 x.b ∧ fit8 x.c ∧ fitK x.k
instance (x : Ins) : Decidable x.ok := by unfold Ins.ok; infer_instance
def Ins.bytes (x : Ins) : List Int := [x.op, x.a, x.b, x.c, kb x.k 0, kb x.k 1, kb x.k 2, kb x.k 3]
def codeOk (l : List Ins) : Prop := l.length ≤ 255 ∧ ∀ x ∈ l, x.ok
instance (l : List Ins) : Decidable (codeOk l) := by unfold codeOk; infer_instance
def codeBytes (l : List Ins) : List Int := (l.length : Int) :: l.flatMap Ins.bytes
def Fn.ok (f : Fn) : Prop := fit8 f.arity ∧ codeOk f.code
instance (f : Fn) : Decidable f.ok := by unfold Fn.ok; infer_instance
def Fn.bytes (f : Fn) : List Int := f.arity :: codeBytes f.code
def progOk (l : List Fn) : Prop := l.length ≤ 255 ∧ ∀ f ∈ l, f.ok
instance (l : List Fn) : Decidable (progOk l) := by unfold progOk; infer_instance
def progBytes (l : List Fn) : List Int := (l.length : Int) :: l.flatMap Fn.bytes

/-- How many cells, at most, are written. -/
def size (l : List Fn) : Nat := 1 + (l.map fun f => 2 + 8 * f.code.length).sum

theorem first_of (q : Nat → Prop) [DecidablePred q] (n : Nat) (h : ∃ k, k < n ∧ q k) : ∃ k, k < n ∧ q k ∧ ∀ j, j < k → ¬ q j := by
  induction n with
  | zero => obtain ⟨k, hk, _⟩ := h; omega
  | succ n ih =>
    by_cases h' : ∃ k, k < n ∧ q k
    · obtain ⟨k, hk, r⟩ := ih h'
      exact ⟨k, by omega, r⟩
    · obtain ⟨k, hk, hq⟩ := h
      have : k = n := by
        rcases Nat.lt_or_ge k n with h1 | h1
        · exact absurd ⟨k, h1, hq⟩ h'
        · omega
      subst this
      exact ⟨k, hk, hq, fun j hj hqj => h' ⟨j, hj, hqj⟩⟩

/-- A list in which not all are as asked has a first one that is not. -/
theorem first_bad {α : Type} (q : α → Prop) [DecidablePred q] (l : List α) (h : ¬ ∀ x ∈ l, q x) : ∃ (k : Nat) (x : α), l[k]? = some x ∧ ¬ q x ∧ ∀ (j : Nat) (y : α), j < k → l[j]? = some y → q y := by
  induction l with
  | nil => exact absurd (fun x hx => by cases hx) h
  | cons a r ih =>
    by_cases ha : q a
    · have h' : ¬ ∀ x ∈ r, q x := fun hr => h (fun x hx => by
        rcases List.mem_cons.1 hx with rfl | hx
        · exact ha
        · exact hr x hx)
      obtain ⟨k, x, hk, hx, hj⟩ := ih h'
      refine ⟨k + 1, x, by simpa using hk, hx, fun j y hjk hy => ?_⟩
      cases j with
      | zero => simp at hy; subst hy; exact ha
      | succ j => exact hj j y (by omega) (by simpa using hy)
    · exact ⟨0, a, rfl, ha, fun j y hj => absurd hj (by omega)⟩

theorem take_snoc {α : Type} (l : List α) (k : Nat) (x : α) (h : l[k]? = some x) : l.take (k + 1) = l.take k ++ [x] := by
  rw [List.take_add_one, h]; rfl
theorem flat_snoc {α β : Type} (f : α → List β) (l : List α) (k : Nat) (x : α) (h : l[k]? = some x) : (l.take (k + 1)).flatMap f = (l.take k).flatMap f ++ f x := by
  rw [take_snoc l k x h, List.flatMap_append]; simp
/-- The cells of element k in a row of elements of one size. -/
theorem flat_at {α β : Type} (f : α → List β) (m : Nat) (hm : ∀ x, (f x).length = m) (l : List α) (k j : Nat) (x : α) (h : l[k]? = some x) (hj : j < m) : (l.flatMap f)[k * m + j]? = (f x)[j]? := by
  induction l generalizing k with
  | nil => simp at h
  | cons a r ih =>
    cases k with
    | zero =>
      simp at h; subst h
      rw [List.flatMap_cons, Nat.zero_mul, Nat.zero_add, List.getElem?_append_left (by rw [hm]; exact hj)]
    | succ k =>
      rw [List.flatMap_cons, List.getElem?_append_right (by rw [hm, Nat.succ_mul]; omega), hm, show (k + 1) * m + j - m = k * m + j by rw [Nat.succ_mul]; omega]
      exact ih k (by simpa using h)
theorem flat_length {α β : Type} (f : α → List β) (m : Nat) (hm : ∀ x, (f x).length = m) (l : List α) : (l.flatMap f).length = l.length * m := by
  induction l with
  | nil => simp
  | cons a r ih => rw [List.flatMap_cons, List.length_append, hm, ih, List.length_cons, Nat.succ_mul]; omega
theorem Ins.bytes_length (x : Ins) : x.bytes.length = 8 := rfl
end Go.Proofs.YtbhnnnpofindiaaDoor
