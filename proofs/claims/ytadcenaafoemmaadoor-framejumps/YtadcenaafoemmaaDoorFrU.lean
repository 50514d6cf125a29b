/-
  A frame's registers and a row of numbers, one cell turned. No condition.
-/
import Derived.Test.YtadcenaafoemmaaDoorF25
namespace Go.Proofs.YtadcenaafoemmaaDoor
open Go.RowKit

theorem fr_setK {fn at_ st kd : Int} {pv : Value} {regs hands : List Int} (h8 : regs.length = 8) {j : Nat} (hj : j < 8) (x : Int) : (frL fn at_ st kd pv regs hands).toArray.setIfInBounds (5 + j) (.int .i64 x) = (frL fn at_ st kd pv (regs.set j x) hands).toArray := by
  match regs, h8 with
  | [r0, r1, r2, r3, r4, r5, r6, r7], _ =>
    have : j = 0 ∨ j = 1 ∨ j = 2 ∨ j = 3 ∨ j = 4 ∨ j = 5 ∨ j = 6 ∨ j = 7 := by omega
    rcases this with rfl | rfl | rfl | rfl | rfl | rfl | rfl | rfl <;> rfl
theorem fr_atK {fn at_ st kd : Int} {pv : Value} {regs hands : List Int} (h8 : regs.length = 8) {j : Nat} (hj : j < 8) : (frL fn at_ st kd pv regs hands).toArray[5 + j]? = some (.int .i64 (regs.getD j 0)) := by
  match regs, h8 with
  | [r0, r1, r2, r3, r4, r5, r6, r7], _ =>
    have : j = 0 ∨ j = 1 ∨ j = 2 ∨ j = 3 ∨ j = 4 ∨ j = 5 ∨ j = 6 ∨ j = 7 := by omega
    rcases this with rfl | rfl | rfl | rfl | rfl | rfl | rfl | rfl <;> rfl
/-- The registers behind k arguments. -/
def regK (args : List Int) (k : Nat) : List Int := args.take k ++ List.replicate (8 - k) 0
theorem regK_len {args : List Int} {k : Nat} (hk : k ≤ 8) (hl : k ≤ args.length) : (regK args k).length = 8 := by
  unfold regK
  simp only [List.length_append, List.length_take, List.length_replicate]
  omega
theorem regK_next {args : List Int} {k : Nat} {x : Int} (hk : k < 8) (hx : args[k]? = some x) : (regK args k).set k x = regK args (k + 1) := by
  have hl := (List.getElem?_eq_some_iff.1 hx).1
  unfold regK
  have h1 : (args.take k).length = k := by rw [List.length_take]; omega
  rw [List.set_append_right _ _ (by omega), h1, Nat.sub_self, show 8 - k = (8 - (k + 1)) + 1 by omega, List.replicate_succ, List.set_cons_zero, List.take_add_one, hx, Option.toList_some, List.append_assoc, List.singleton_append]
theorem regK_end {args : List Int} {k : Nat} (hk : k ≤ 8) (hl : k ≤ args.length) (h : ¬ k < args.length ∨ ¬ k < 8) : regK args k = reg8 args := by
  unfold regK reg8
  rcases h with h | h
  · have : k = args.length := by omega
    subst this
    rw [List.take_of_length_le (Nat.le_refl _), List.take_of_length_le hk]
  · have : k = 8 := by omega
    subst this
    rw [List.length_take, Nat.min_eq_left hl]

section
variable {w : World} {base size n : Nat} {e : TypeId}
theorem own_put {g cap j : Nat} {u : Value} {xs : List Value} (h : w.ownsRow base e size (.slice (some ⟨g, 0, none⟩) n cap) n xs) : (w.setCell ⟨g, j, none⟩ u).ownsRow base e size (.slice (some ⟨g, 0, none⟩) n cap) n (xs.set j u) := by
  refine ⟨by rw [List.length_set]; exact h.1, ?_⟩
  rcases h.2 with ⟨hv, _⟩ | ⟨g', cap', cur, hv, hb, hg, h1, h2, h3, h4⟩
  · cases hv
  · cases hv
    refine .inr ⟨g, cap, cur.setIfInBounds j u, rfl, hb, ?_, h1, h2, by simpa using h3, ?_⟩
    · exact Blk.set_ (t := e) hg j u
    · rw [← h4]
      simp [List.take_set]
theorem own_putI {g cap j : Nat} {xs : List Int} (h : w.ownsRow base e size (.slice (some ⟨g, 0, none⟩) n cap) n (ints xs)) (x : Int) : (w.setCell ⟨g, j, none⟩ (.int .i64 x)).ownsRow base e size (.slice (some ⟨g, 0, none⟩) n cap) n (ints (xs.set j x)) := by
  rw [show ints (xs.set j x) = (ints xs).set j (.int .i64 x) by simp [ints]]
  exact own_put h
end
end Go.Proofs.YtadcenaafoemmaaDoor
