/-
  What is written is read as it was, and the other way round: on plain data.
-/
import Derived.Test.YtahojahplpcbiaaPureR
namespace Go.Proofs.Ytahojahplpcbiaa
open Go.RowKit

theorem kb_kval (a b c d : Int) (ha : 0 ≤ a ∧ a ≤ 255) (hb : 0 ≤ b ∧ b ≤ 255) (hc : 0 ≤ c ∧ c ≤ 255) (hd : 0 ≤ d ∧ d ≤ 255) :
    fitK (kval a b c d) ∧ kb (kval a b c d) 0 = a ∧ kb (kval a b c d) 1 = b ∧ kb (kval a b c d) 2 = c ∧ kb (kval a b c d) 3 = d := by
  unfold fitK kval kb uval
  simp only [show (2 : Int) ^ (8 * 0) = 1 from rfl, show (2 : Int) ^ (8 * 1) = 256 from rfl, show (2 : Int) ^ (8 * 2) = 65536 from rfl, show (2 : Int) ^ (8 * 3) = 16777216 from rfl]
  split <;> refine ⟨⟨?_, ?_⟩, ?_, ?_, ?_, ?_⟩ <;> omega
theorem kval_kb (k : Int) (h : fitK k) : kval (kb k 0) (kb k 1) (kb k 2) (kb k 3) = k := by
  unfold fitK at h
  unfold kval kb uval
  simp only [show (2 : Int) ^ (8 * 0) = 1 from rfl, show (2 : Int) ^ (8 * 1) = 256 from rfl, show (2 : Int) ^ (8 * 2) = 65536 from rfl, show (2 : Int) ^ (8 * 3) = 16777216 from rfl]
  split <;> omega

theorem pIns_back {bs r : List Int} {x : Ins} (h : AllB bs) (hx : pIns bs = some (x, r)) : x.ok ∧ bs = x.bytes ++ r := by
  match bs, hx, h with
  | o :: a :: b :: c :: k0 :: k1 :: k2 :: k3 :: r', hx, h =>
    simp only [pIns, Option.some.injEq, Prod.mk.injEq] at hx
    obtain ⟨rfl, rfl⟩ := hx
    have b0 := h.head
    have b1 := h.tail.head
    have b2 := h.tail.tail.head
    have b3 := h.tail.tail.tail.head
    have b4 := h.tail.tail.tail.tail.head
    have b5 := h.tail.tail.tail.tail.tail.head
    have b6 := h.tail.tail.tail.tail.tail.tail.head
    have b7 := h.tail.tail.tail.tail.tail.tail.tail.head
    obtain ⟨q, q0, q1, q2, q3⟩ := kb_kval k0 k1 k2 k3 b4 b5 b6 b7
    exact ⟨⟨b0, b1, b2, b3, q⟩, by simp [Ins.bytes, q0, q1, q2, q3]⟩
theorem pMany_back {α : Type} {f : List Int → Option (α × List Int)} {ok : α → Prop} {by_ : α → List Int} (hB : ∀ bs x r, AllB bs → f bs = some (x, r) → AllB r) (hf : ∀ bs x r, AllB bs → f bs = some (x, r) → ok x ∧ bs = by_ x ++ r) :
    ∀ (n : Nat) (bs r : List Int) (l : List α), AllB bs → pMany f n bs = some (l, r) → l.length = n ∧ (∀ x ∈ l, ok x) ∧ bs = l.flatMap by_ ++ r := by
  intro n
  induction n with
  | zero =>
    intro bs r l _ hx
    simp only [pMany, Option.some.injEq, Prod.mk.injEq] at hx
    obtain ⟨rfl, rfl⟩ := hx
    exact ⟨rfl, (fun x hx => by cases hx), rfl⟩
  | succ n ih =>
    intro bs r l h hx
    simp only [pMany] at hx
    split at hx
    · cases hx
    · rename_i x r' h1
      split at hx
      · cases hx
      · rename_i l' r'' h2
        simp only [Option.some.injEq, Prod.mk.injEq] at hx
        obtain ⟨rfl, rfl⟩ := hx
        obtain ⟨e1, e2⟩ := hf _ _ _ h h1
        obtain ⟨e3, e4, e5⟩ := ih _ _ _ (hB _ _ _ h h1) h2
        refine ⟨by simp [e3], fun y hy => ?_, ?_⟩
        · rcases List.mem_cons.1 hy with rfl | hy
          · exact e1
          · exact e4 y hy
        · rw [e2, e5, List.flatMap_cons, List.append_assoc]
theorem pCode_back {bs r : List Int} {l : List Ins} (h : AllB bs) (hx : pCode bs = some (l, r)) : codeOk l ∧ bs = codeBytes l ++ r := by
  match bs, hx, h with
  | n :: t, hx, h =>
    have hn := h.head
    obtain ⟨e1, e2, e3⟩ := pMany_back (ok := Ins.ok) (by_ := Ins.bytes) (fun _ _ _ => allB_ins) (fun _ _ _ => pIns_back) n.toNat t r l h.tail hx
    refine ⟨⟨by omega, e2⟩, ?_⟩
    simp only [codeBytes, List.cons_append]
    rw [e1, ← e3]
    congr 1
    omega
theorem pFn_back {bs r : List Int} {f : Fn} (h : AllB bs) (hx : pFn bs = some (f, r)) : f.ok ∧ bs = f.bytes ++ r := by
  match bs, hx, h with
  | a :: t, hx, h =>
    simp only [pFn] at hx
    split at hx
    · cases hx
    · rename_i l r' h1
      simp only [Option.some.injEq, Prod.mk.injEq] at hx
      obtain ⟨rfl, rfl⟩ := hx
      obtain ⟨e1, e2⟩ := pCode_back h.tail h1
      exact ⟨⟨h.head, e1⟩, by simp [Fn.bytes, e2]⟩
theorem pProg_back {bs r : List Int} {l : List Fn} (h : AllB bs) (hx : pProg bs = some (l, r)) : progOk l ∧ bs = progBytes l ++ r := by
  match bs, hx, h with
  | n :: t, hx, h =>
    have hn := h.head
    obtain ⟨e1, e2, e3⟩ := pMany_back (ok := Fn.ok) (by_ := Fn.bytes) (fun _ _ _ => allB_fn) (fun _ _ _ => pFn_back) n.toNat t r l h.tail hx
    refine ⟨⟨by omega, e2⟩, ?_⟩
    simp only [progBytes, List.cons_append]
    rw [e1, ← e3]
    congr 1
    omega

theorem pIns_of (x : Ins) (h : x.ok) (r : List Int) : pIns (x.bytes ++ r) = some (x, r) := by
  simp [Ins.bytes, pIns, kval_kb x.k h.2.2.2.2]
theorem pMany_of {α : Type} {f : List Int → Option (α × List Int)} {ok : α → Prop} {by_ : α → List Int} (hf : ∀ x r, ok x → f (by_ x ++ r) = some (x, r)) (l : List α) (h : ∀ x ∈ l, ok x) (r : List Int) : pMany f l.length (l.flatMap by_ ++ r) = some (l, r) := by
  induction l with
  | nil => rfl
  | cons x l ih =>
    rw [List.flatMap_cons, List.append_assoc]
    simp only [List.length_cons, pMany, hf x _ (h x List.mem_cons_self), ih (fun y hy => h y (List.mem_cons_of_mem _ hy))]
theorem pCode_of (l : List Ins) (h : codeOk l) (r : List Int) : pCode (codeBytes l ++ r) = some (l, r) := by
  simp only [codeBytes, List.cons_append, pCode, Int.toNat_natCast]
  exact pMany_of (ok := Ins.ok) (by_ := Ins.bytes) (fun x r h => pIns_of x h r) l h.2 r
theorem pFn_of (f : Fn) (h : f.ok) (r : List Int) : pFn (f.bytes ++ r) = some (f, r) := by
  simp only [Fn.bytes, List.cons_append, pFn, pCode_of f.code h.2 r]
theorem pProg_of (l : List Fn) (h : progOk l) (r : List Int) : pProg (progBytes l ++ r) = some (l, r) := by
  simp only [progBytes, List.cons_append, pProg, Int.toNat_natCast]
  exact pMany_of (ok := Fn.ok) (by_ := Fn.bytes) (fun x r h => pFn_of x h r) l h.2 r

theorem ins_allB (x : Ins) (h : x.ok) : AllB x.bytes := by
  obtain ⟨h1, h2, h3, h4, _⟩ := h
  unfold fit8 at h1 h2 h3 h4
  intro y hy
  simp only [Ins.bytes, List.mem_cons, List.not_mem_nil, or_false] at hy
  rcases hy with rfl | rfl | rfl | rfl | rfl | rfl | rfl | rfl
  · omega
  · omega
  · omega
  · omega
  · unfold kb; omega
  · unfold kb; omega
  · unfold kb; omega
  · unfold kb; omega
theorem allB_append {a b : List Int} (ha : AllB a) (hb : AllB b) : AllB (a ++ b) := fun x hx => by
  rcases List.mem_append.1 hx with h | h
  · exact ha x h
  · exact hb x h
theorem allB_flat {α : Type} (f : α → List Int) (l : List α) (h : ∀ x ∈ l, AllB (f x)) : AllB (l.flatMap f) := fun y hy => by
  obtain ⟨x, hx, hy⟩ := List.mem_flatMap.1 hy
  exact h x hx y hy
theorem allB_cons {a : Int} {b : List Int} (ha : 0 ≤ a ∧ a ≤ 255) (hb : AllB b) : AllB (a :: b) := fun x hx => by
  rcases List.mem_cons.1 hx with rfl | h
  · exact ha
  · exact hb x h
theorem fn_allB (f : Fn) (h : f.ok) : AllB f.bytes :=
  allB_cons h.1 (allB_cons ⟨by omega, by have := h.2.1; omega⟩ (allB_flat _ _ (fun x hx => ins_allB x (h.2.2 x hx))))
theorem prog_allB (l : List Fn) (h : progOk l) : AllB (progBytes l) :=
  allB_cons ⟨by omega, by have := h.1; omega⟩ (allB_flat _ _ (fun x hx => fn_allB x (h.2 x hx)))
end Go.Proofs.Ytahojahplpcbiaa
