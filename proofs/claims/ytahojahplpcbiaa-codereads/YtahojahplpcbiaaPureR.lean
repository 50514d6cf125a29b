/-
  The program of bytes, as plain data.
-/
import Derived.Test.YtahojahplpcbiaaPure
import Derived.Laws.BitsAllLaws
namespace Go.Proofs.Ytahojahplpcbiaa
open Go.RowKit

def AllB (bs : List Int) : Prop := ∀ x ∈ bs, 0 ≤ x ∧ x ≤ 255
theorem AllB.tail {x : Int} {r : List Int} (h : AllB (x :: r)) : AllB r := fun y hy => h y (List.mem_cons_of_mem _ hy)
theorem AllB.head {x : Int} {r : List Int} (h : AllB (x :: r)) : 0 ≤ x ∧ x ≤ 255 := h x List.mem_cons_self

/-- The number of four bytes, the lowest first, with a sign. -/
def uval (a b c d : Int) : Int := a + 256 * b + 65536 * c + 16777216 * d
def kval (a b c d : Int) : Int := if uval a b c d < 2147483648 then uval a b c d else uval a b c d - 4294967296

def pIns : List Int → Option (Ins × List Int)
  | o :: a :: b :: c :: k0 :: k1 :: k2 :: k3 :: r => some (⟨o, a, b, c, kval k0 k1 k2 k3⟩, r)
  | _ => none
def pMany {α : Type} (f : List Int → Option (α × List Int)) : Nat → List Int → Option (List α × List Int)
  | 0, r => some ([], r)
  | n + 1, r => match f r with
    | none => none
    | some (x, r') => match pMany f n r' with
      | none => none
      | some (l, r'') => some (x :: l, r'')
def pCode : List Int → Option (List Ins × List Int)
  | [] => none
  | n :: r => pMany pIns n.toNat r
def pFn : List Int → Option (Fn × List Int)
  | [] => none
  | a :: r => match pCode r with
    | none => none
    | some (l, r') => some (⟨a, l⟩, r')
def pProg : List Int → Option (List Fn × List Int)
  | [] => none
  | n :: r => pMany pFn n.toNat r

/-- One behind the other: the first k are read, and this is left. -/
def Part {α : Type} (f : List Int → Option (α × List Int)) : List Int → List α → List Int → Prop
  | bs, [], r => bs = r
  | bs, x :: l, r => ∃ r', f bs = some (x, r') ∧ Part f r' l r

theorem Part.snoc {α : Type} {f : List Int → Option (α × List Int)} {bs r r' : List Int} {l : List α} {x : α} (h : Part f bs l r) (hx : f r = some (x, r')) : Part f bs (l ++ [x]) r' := by
  induction l generalizing bs with
  | nil => cases h; exact ⟨r', hx, rfl⟩
  | cons y l ih => obtain ⟨r1, h1, h2⟩ := h; exact ⟨r1, h1, ih h2⟩
theorem Part.many {α : Type} {f : List Int → Option (α × List Int)} {bs r : List Int} {l : List α} (h : Part f bs l r) : pMany f l.length bs = some (l, r) := by
  induction l generalizing bs with
  | nil => cases h; rfl
  | cons y l ih => obtain ⟨r1, h1, h2⟩ := h; simp only [List.length_cons, pMany, h1, ih h2]
theorem Part.none {α : Type} {f : List Int → Option (α × List Int)} {bs r : List Int} {l : List α} {n : Nat} (h : Part f bs l r) (hn : l.length < n) (hf : f r = .none) : pMany f n bs = .none := by
  induction l generalizing bs n with
  | nil =>
    cases h
    obtain ⟨m, rfl⟩ : ∃ m, n = m + 1 := ⟨n - 1, by simp at hn; omega⟩
    simp only [pMany, hf]
  | cons y l ih =>
    obtain ⟨r1, h1, h2⟩ := h
    obtain ⟨m, rfl⟩ : ∃ m, n = m + 1 := ⟨n - 1, by simp at hn; omega⟩
    simp only [pMany, h1, ih h2 (by simpa using hn)]

theorem allB_ins {bs r : List Int} {x : Ins} (h : AllB bs) (hx : pIns bs = some (x, r)) : AllB r := by
  match bs, hx with
  | o :: a :: b :: c :: k0 :: k1 :: k2 :: k3 :: r', hx =>
    simp only [pIns, Option.some.injEq, Prod.mk.injEq] at hx
    obtain ⟨_, rfl⟩ := hx
    exact h.tail.tail.tail.tail.tail.tail.tail.tail
theorem allB_many {α : Type} {f : List Int → Option (α × List Int)} (hf : ∀ bs x r, AllB bs → f bs = some (x, r) → AllB r) {n : Nat} {bs r : List Int} {l : List α} (h : AllB bs) (hx : pMany f n bs = some (l, r)) : AllB r := by
  induction n generalizing bs l with
  | zero => simp only [pMany, Option.some.injEq, Prod.mk.injEq] at hx; rw [← hx.2]; exact h
  | succ n ih =>
    simp only [pMany] at hx
    split at hx
    · cases hx
    · rename_i x r' h1
      split at hx
      · cases hx
      · rename_i l' r'' h2
        simp only [Option.some.injEq, Prod.mk.injEq] at hx
        obtain ⟨_, rfl⟩ := hx
        exact ih (hf _ _ _ h h1) h2
theorem allB_fn {bs r : List Int} {x : Fn} (h : AllB bs) (hx : pFn bs = some (x, r)) : AllB r := by
  match bs, hx with
  | a :: r', hx =>
    simp only [pFn] at hx
    split at hx
    · cases hx
    · rename_i l r'' h1
      simp only [Option.some.injEq, Prod.mk.injEq] at hx
      rw [← hx.2]
      match r', h1 with
      | m :: r3, h1 => exact allB_many (fun _ _ _ => allB_ins) (h.tail.tail) h1

theorem or_join (k : Nat) (x y : Nat) (hx : x % 2 ^ k = 0) (hy : y < 2 ^ k) : y ||| x = x + y := by
  rw [Nat.or_comm]; exact nat_join k x y hx hy
end Go.Proofs.Ytahojahplpcbiaa
