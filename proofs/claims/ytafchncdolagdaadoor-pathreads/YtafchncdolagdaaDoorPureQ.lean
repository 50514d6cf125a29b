/-
  What stands between a text's dots, as plain data, the way the document goes through it.
-/
import Derived.Test.YtafchncdolagdaaDoorPureT
namespace Go.Proofs.YtafchncdolagdaaDoor
open Go.RowKit

/-- Ahead of byte k, the part that is under way began at a; pre are the parts that are read. -/
def RdInv (l : List UInt8) (k a : Nat) (pre : List (List UInt8)) : Prop :=
  (k ≤ l.length ∧ a ≤ k ∧ splitD 46 l = pre ++ splitD 46 (l.drop a) ∧ (46 : UInt8) ∉ (l.drop a).take (k - a)) ∨ (k = l.length + 1 ∧ splitD 46 l = pre)

theorem inv_start (l : List UInt8) : RdInv l 0 0 [] := .inl ⟨by omega, by omega, by simp, by simp⟩

theorem inv_skip {l : List UInt8} {k a : Nat} {pre : List (List UInt8)} (h : RdInv l k a pre) {b : UInt8} (hb : l[k]? = some b) (hne : b ≠ 46) : RdInv l (k + 1) a pre := by
  have hk := (List.getElem?_eq_some_iff.1 hb).1
  rcases h with ⟨_, h2, h3, h4⟩ | ⟨h1, _⟩
  · refine .inl ⟨by omega, by omega, h3, ?_⟩
    rw [show k + 1 - a = (k - a) + 1 by omega, List.take_add_one, List.getElem?_drop, show a + (k - a) = k by omega, hb]
    intro hm
    rcases List.mem_append.1 hm with hm | hm
    · exact h4 hm
    · simp at hm; exact hne hm.symm
  · omega

theorem inv_part {l : List UInt8} {k a : Nat} {pre : List (List UInt8)} (h : RdInv l k a pre) (hk : k ≤ l.length) (hd : k = l.length ∨ l[k]? = some 46) :
    a ≤ k ∧ RdInv l (k + 1) (k + 1) (pre ++ [(l.drop a).take (k - a)]) ∧ ∃ rest, splitD 46 l = pre ++ (l.drop a).take (k - a) :: rest := by
  rcases h with ⟨_, h2, h3, h4⟩ | ⟨h1, _⟩
  · refine ⟨h2, ?_⟩
    by_cases he : k = l.length
    · have e : (l.drop a).take (k - a) = l.drop a := List.take_of_length_le (by rw [List.length_drop]; omega)
      rw [e] at h4 ⊢
      rw [splitD_no 46 _ h4] at h3
      exact ⟨.inr ⟨by omega, h3⟩, [], h3⟩
    · have hb : l[k]? = some 46 := by rcases hd with hd | hd; exact absurd hd he; exact hd
      obtain ⟨hlt, hbb⟩ := List.getElem?_eq_some_iff.1 hb
      have e : l.drop a = (l.drop a).take (k - a) ++ 46 :: l.drop (k + 1) := by
        have h5 := (List.take_append_drop (k - a) (l.drop a)).symm
        rw [List.drop_drop, show a + (k - a) = k by omega, List.drop_eq_getElem_cons hlt, hbb] at h5
        exact h5
      have h6 : splitD 46 (l.drop a) = (l.drop a).take (k - a) :: splitD 46 (l.drop (k + 1)) := by
        have h7 := splitD_at 46 ((l.drop a).take (k - a)) (l.drop (k + 1)) h4
        rw [← e] at h7
        exact h7
      rw [h6] at h3
      refine ⟨.inl ⟨by omega, by omega, by rw [h3]; simp, by simp⟩, _, h3⟩
  · omega

theorem inv_end {l : List UInt8} {a : Nat} {pre : List (List UInt8)} (h : RdInv l (l.length + 1) a pre) : splitD 46 l = pre := by
  rcases h with ⟨h1, _⟩ | ⟨_, h2⟩
  · omega
  · exact h2

theorem readL_bad {l pre' : List UInt8} {pre rest : List (List UInt8)} (hl : l ≠ [46]) (h : splitD 46 l = pre ++ pre' :: rest) (hb : ¬ okP pre') : readL l = ([], 4) := by
  unfold readL
  rw [if_neg hl, if_neg (fun h' => hb (h' pre' (by rw [h]; simp)))]
theorem readL_long {l : List UInt8} {pre : List (List UInt8)} (hl : l ≠ [46]) (h : splitD 46 l = pre) (ho : ∀ q ∈ pre, okP q) (hn : 30 < pre.length) : readL l = ([], 3) := by
  unfold readL
  rw [if_neg hl, h, if_pos ho, if_pos hn]
theorem readL_ok {l : List UInt8} {pre : List (List UInt8)} (hl : l ≠ [46]) (h : splitD 46 l = pre) (ho : ∀ q ∈ pre, okP q) (hn : ¬ 30 < pre.length) : readL l = (pre.map valP, 0) := by
  unfold readL
  rw [if_neg hl, h, if_pos ho, if_neg hn]
  rfl

theorem join_snoc : ∀ (xs : List (List UInt8)) (y : List UInt8), xs ≠ [] → Lib.join (xs ++ [y]) [46] = Lib.join xs [46] ++ 46 :: y
  | [], _, h => absurd rfl h
  | [a], y, _ => by
    rw [show [a] ++ [y] = a :: y :: [] from rfl, join_cons2]
    simp [Lib.join, List.intercalate]
  | a :: b :: r, y, _ => by
    rw [show (a :: b :: r) ++ [y] = a :: b :: (r ++ [y]) from rfl, join_cons2, join_cons2, show b :: (r ++ [y]) = (b :: r) ++ [y] from rfl, join_snoc (b :: r) y (by simp)]
    simp
theorem join_one (a : List UInt8) : Lib.join [a] [46] = a := by simp [Lib.join, List.intercalate]
end Go.Proofs.YtafchncdolagdaaDoor
