/-
  What Live and Free do, in the forms that the statements' proofs take: all words as asked; one that is not; words that are not there.
-/
import Derived.Test.YtlhhnpbpmjbbaaaAwake
namespace Go.Proofs.Ytlhhnpbpmjbbaaa
open Go.RowKit

theorem turnR_ok (ws : List (Bool × Int)) (a n : Int) (live : Bool) (A N : Nat) (ha : a = A) (hn : n = N) (h : A + N ≤ ws.length) (hall : ∀ j, j < N → ∃ m, ws[A + j]? = some (!live, m)) : turnR ws a n live = (0, setR ws A N (live, 0)) := by
  subst ha hn
  unfold turnR
  rw [if_pos (by omega), if_neg]
  · simp only [Int.toNat_natCast]
  · simp only [Int.toNat_natCast, anyLive, List.any_eq_true, List.mem_range, beq_iff_eq, List.getD_eq_getElem?_getD]
    rintro ⟨j, hj, he⟩
    obtain ⟨m, hm⟩ := hall j hj
    rw [hm] at he
    cases live <;> simp at he
theorem turnR_hit (ws : List (Bool × Int)) (a n : Int) (live : Bool) (A N : Nat) (ha : a = A) (hn : n = N) (h : A + N ≤ ws.length) (j : Nat) (hj : j < N) (m : Int) (hm : ws[A + j]? = some (live, m)) : turnR ws a n live = (11, ws) := by
  subst ha hn
  unfold turnR
  rw [if_pos (by omega), if_pos]
  simp only [Int.toNat_natCast, anyLive, List.any_eq_true, List.mem_range, beq_iff_eq, List.getD_eq_getElem?_getD]
  exact ⟨j, hj, by rw [hm]; rfl⟩
theorem turnR_out (ws : List (Bool × Int)) (a n : Int) (live : Bool) (h : ¬ (0 ≤ n ∧ 0 ≤ a ∧ n ≤ (ws.length : Int) - a)) : turnR ws a n live = (6, ws) := by
  unfold turnR
  rw [if_neg h]

section
variable (w : World) (p s : Nat) (ws : List (Bool × Int)) (st : Int) (hM : MemIs w p s ws st) (a n : Int) (A N : Nat) (ha : a = A) (hn : n = N) (hl : ws.length ≤ 65536) (h : A + N ≤ ws.length)
include hM ha hn hl h
theorem live_ok (hall : ∀ j, j < N → ∃ m, ws[A + j]? = some (false, m)) :
    Calls Try.prog 20 #[.pointer (some ⟨p, 0, none⟩), .int .i64 a, .int .i64 n] w fun e w' => e = .returned (.int .i64 0) ∧ MemIs w' p s (setR ws A N (true, 0)) st ∧ Fr (Two p s) w w' := by
  have := live_any w p s ws st hM a n hl (by omega)
  rwa [turnR_ok ws a n true A N ha hn h hall] at this
theorem free_ok (hall : ∀ j, j < N → ∃ m, ws[A + j]? = some (true, m)) :
    Calls Try.prog 21 #[.pointer (some ⟨p, 0, none⟩), .int .i64 a, .int .i64 n] w fun e w' => e = .returned (.int .i64 0) ∧ MemIs w' p s (setR ws A N (false, 0)) st ∧ Fr (Two p s) w w' := by
  have := free_any w p s ws st hM a n hl (by omega)
  rwa [turnR_ok ws a n false A N ha hn h hall] at this
theorem live_hit (j : Nat) (hj : j < N) (m : Int) (hm : ws[A + j]? = some (true, m)) :
    Calls Try.prog 20 #[.pointer (some ⟨p, 0, none⟩), .int .i64 a, .int .i64 n] w fun e w' => e = .returned (.int .i64 11) ∧ MemIs w' p s ws st ∧ Fr (Two p s) w w' := by
  have := live_any w p s ws st hM a n hl (by omega)
  rwa [turnR_hit ws a n true A N ha hn h j hj m hm] at this
theorem free_hit (j : Nat) (hj : j < N) (m : Int) (hm : ws[A + j]? = some (false, m)) :
    Calls Try.prog 21 #[.pointer (some ⟨p, 0, none⟩), .int .i64 a, .int .i64 n] w fun e w' => e = .returned (.int .i64 11) ∧ MemIs w' p s ws st ∧ Fr (Two p s) w w' := by
  have := free_any w p s ws st hM a n hl (by omega)
  rwa [turnR_hit ws a n false A N ha hn h j hj m hm] at this
end
theorem live_out (w : World) (p s : Nat) (ws : List (Bool × Int)) (st : Int) (hM : MemIs w p s ws st) (a n : Int) (hl : ws.length ≤ 65536) (ha : -9223372036854775808 ≤ a ∧ a ≤ 9223372036854775807) (h : ¬ (0 ≤ n ∧ 0 ≤ a ∧ n ≤ (ws.length : Int) - a)) :
    Calls Try.prog 20 #[.pointer (some ⟨p, 0, none⟩), .int .i64 a, .int .i64 n] w fun e w' => e = .returned (.int .i64 6) ∧ MemIs w' p s ws st ∧ Fr (Two p s) w w' := by
  have := live_any w p s ws st hM a n hl ha
  rwa [turnR_out ws a n true h] at this
end Go.Proofs.Ytlhhnpbpmjbbaaa
