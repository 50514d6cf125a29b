/-
  A task that counts its argument down to 0 and tells each number, as plain data: what it comes to with any budget.
-/
import Derived.Test.YtbhnnnpofindiaaDoorPureT
namespace Go.Proofs.YtbhnnnpofindiaaDoor
open Go.RowKit

abbrev loopC : List Ins := [⟨10, 0, 0, 0, 5⟩, ⟨15, 0, 0, 0, 0⟩, ⟨1, 1, 0, 0, -1⟩, ⟨3, 0, 0, 1, 0⟩, ⟨9, 0, 0, 0, 0⟩, ⟨17, 0, 0, 0, 0⟩]
abbrev loopP : List Fn := [⟨1, loopC⟩]
def lst (pc : Nat) (r0 r1 : Int) : Tk := ⟨pc, [r0, r1, 0, 0, 0, 0, 0, 0], 0, [(false, 0), (false, 0), (false, 0), (false, 0)], []⟩
def lsh (l : Int) (T : List Int) (s : Int) : Sh := ⟨l, T, [([], s)]⟩
section
variable {b l s r0 r1 : Int} {T : List Int} {f : Nat}
theorem l_cut (t : Tk) (h : s = b) : run loopP b 0 (f + 1) loopC [] 0 t (lsh l T s) = (.fail 3, lsh l T s) := by
  unfold run
  rw [if_pos (show steps (lsh l T s) 0 = b from h)]
theorem l_go (t : Tk) (hs : s ≠ b) (hl : 0 < l) (r : Out × Sh)
    (h : (match exec (loopC.getD t.pc ⟨0, 0, 0, 0, 0⟩) { t with pc := t.pc + 1 } with
      | .next t' => run loopP b 0 f loopC [] 0 t' (lsh (l - 1) T (s + 1))
      | .tell v t' => run loopP b 0 f loopC [] 0 t' (lsh (l - 1) (T ++ [v]) (s + 1))
      | .fin v _ => (.ok v, lsh (l - 1) T (s + 1))
      | .fail k => (.fail k, lsh (l - 1) T (s + 1))
      | .call => (.fail 4, lsh (l - 1) T (s + 1))) = r) : run loopP b 0 (f + 1) loopC [] 0 t (lsh l T s) = r := by
  rw [← h]
  conv => lhs; unfold run
  rw [if_neg (show ¬ steps (lsh l T s) 0 = b from hs), if_neg (show ¬ (lsh l T s).left ≤ 0 by show ¬ l ≤ 0; omega)]
  rfl
end

/-- The numbers that it tells. -/
def downs : Nat → List Int
  | 0 => []
  | k + 1 => ((k : Int) + 1) :: downs k
theorem downs_len (k : Nat) : (downs k).length = k := by
  induction k with
  | zero => rfl
  | succ k ih => simp [downs, ih]
theorem downs_at (k i : Nat) (h : i < k) : (downs k)[i]? = some ((k : Int) - i) := by
  induction k generalizing i with
  | zero => omega
  | succ k ih =>
    cases i with
    | zero => simp [downs]
    | succ i =>
      have := ih i (by omega)
      simp only [downs, List.getElem?_cons_succ, this]
      congr 1
      omega

theorem loop_any (b : Int) : ∀ (k : Nat), k < 1000000 → ∀ (f : Nat) (l s r1 : Int) (T : List Int), 5 * k + 3 ≤ f → (5 * k + 3 : Int) ≤ l → s ≤ b →
    (s + (5 * k + 2) ≤ b → run loopP b 0 f loopC [] 0 (lst 0 k r1) (lsh l T s) = (.ok 0, lsh (l - (5 * k + 2)) (T ++ downs k) (s + (5 * k + 2)))) ∧
    (b < s + (5 * k + 2) → ∃ T' l', run loopP b 0 f loopC [] 0 (lst 0 k r1) (lsh l T s) = (.fail 3, lsh l' T' b) ∧ T'.length ≤ T.length + k) := by
  intro k
  induction k with
  | zero =>
    intro _ f l s r1 T hf hl hs
    obtain ⟨f, rfl⟩ : ∃ g, f = g + 3 := ⟨f - 3, by omega⟩
    by_cases h0 : s = b
    · refine ⟨fun h => by omega, fun _ => ⟨T, l, ?_, by omega⟩⟩
      rw [l_cut _ h0, h0]
    · by_cases h1 : s + 1 = b
      · refine ⟨fun h => by omega, fun _ => ⟨T, l - 1, ?_, by omega⟩⟩
        refine l_go _ h0 (by omega) _ ?_
        show run loopP b 0 (f + 2) loopC [] 0 (lst 5 0 r1) (lsh (l - 1) T (s + 1)) = _
        rw [l_cut _ h1, h1]
      · refine ⟨fun _ => ?_, fun h => by omega⟩
        refine l_go _ h0 (by omega) _ ?_
        show run loopP b 0 (f + 2) loopC [] 0 (lst 5 0 r1) (lsh (l - 1) T (s + 1)) = _
        refine l_go _ h1 (by omega) _ ?_
        show (Out.ok 0, lsh (l - 1 - 1) T (s + 1 + 1)) = _
        rw [show l - 1 - 1 = l - (5 * ((0 : Nat) : Int) + 2) by omega, show s + 1 + 1 = s + (5 * ((0 : Nat) : Int) + 2) by omega, show T ++ downs 0 = T from List.append_nil T]
  | succ k ih =>
    intro hk f l s r1 T hf hl hs
    obtain ⟨f, rfl⟩ : ∃ g, f = g + 5 := ⟨f - 5, by omega⟩
    have hne : ¬ ((k + 1 : Nat) : Int) = 0 := by omega
    by_cases h0 : s = b
    · refine ⟨fun h => by omega, fun _ => ⟨T, l, ?_, by omega⟩⟩
      rw [l_cut _ h0, h0]
    · have g0 : run loopP b 0 (f + 5) loopC [] 0 (lst 0 (k + 1 : Nat) r1) (lsh l T s) = run loopP b 0 (f + 4) loopC [] 0 (lst 1 (k + 1 : Nat) r1) (lsh (l - 1) T (s + 1)) := by
        refine l_go _ h0 (by omega) _ ?_
        have e : exec (loopC.getD (lst 0 (k + 1 : Nat) r1).pc ⟨0, 0, 0, 0, 0⟩) { lst 0 (k + 1 : Nat) r1 with pc := (lst 0 (k + 1 : Nat) r1).pc + 1 } = .next (lst 1 (k + 1 : Nat) r1) := by
          show (if ((k + 1 : Nat) : Int) = 0 then Stp.next (lst 5 (k + 1 : Nat) r1) else Stp.next (lst 1 (k + 1 : Nat) r1)) = _
          rw [if_neg hne]
        rw [e]
      by_cases h1 : s + 1 = b
      · refine ⟨fun h => by omega, fun _ => ⟨T, l - 1, ?_, by omega⟩⟩
        rw [g0, l_cut _ h1, h1]
      · have g1 : run loopP b 0 (f + 4) loopC [] 0 (lst 1 (k + 1 : Nat) r1) (lsh (l - 1) T (s + 1)) = run loopP b 0 (f + 3) loopC [] 0 (lst 2 (k + 1 : Nat) r1) (lsh (l - 1 - 1) (T ++ [((k + 1 : Nat) : Int)]) (s + 1 + 1)) := l_go _ h1 (by omega) _ rfl
        by_cases h2 : s + 1 + 1 = b
        · refine ⟨fun h => by omega, fun _ => ⟨T ++ [((k + 1 : Nat) : Int)], l - 1 - 1, ?_, by simp⟩⟩
          rw [g0, g1, l_cut _ h2, h2]
        · have g2 : run loopP b 0 (f + 3) loopC [] 0 (lst 2 (k + 1 : Nat) r1) (lsh (l - 1 - 1) (T ++ [((k + 1 : Nat) : Int)]) (s + 1 + 1)) = run loopP b 0 (f + 2) loopC [] 0 (lst 3 (k + 1 : Nat) (-1)) (lsh (l - 1 - 1 - 1) (T ++ [((k + 1 : Nat) : Int)]) (s + 1 + 1 + 1)) := l_go _ h2 (by omega) _ rfl
          by_cases h3 : s + 1 + 1 + 1 = b
          · refine ⟨fun h => by omega, fun _ => ⟨T ++ [((k + 1 : Nat) : Int)], l - 1 - 1 - 1, ?_, by simp⟩⟩
            rw [g0, g1, g2, l_cut _ h3, h3]
          · have hw : wrap64 (((k + 1 : Nat) : Int) + (-1)) = (k : Int) := by
              rw [show ((k + 1 : Nat) : Int) + (-1) = (k : Int) by omega]
              unfold wrap64; omega
            have g3 : run loopP b 0 (f + 2) loopC [] 0 (lst 3 (k + 1 : Nat) (-1)) (lsh (l - 1 - 1 - 1) (T ++ [((k + 1 : Nat) : Int)]) (s + 1 + 1 + 1)) = run loopP b 0 (f + 1) loopC [] 0 (lst 4 k (-1)) (lsh (l - 1 - 1 - 1 - 1) (T ++ [((k + 1 : Nat) : Int)]) (s + 1 + 1 + 1 + 1)) := by
              refine l_go _ h3 (by omega) _ ?_
              show run loopP b 0 (f + 1) loopC [] 0 (lst 4 (wrap64 (((k + 1 : Nat) : Int) + (-1))) (-1)) _ = _
              rw [hw]
            by_cases h4 : s + 1 + 1 + 1 + 1 = b
            · refine ⟨fun h => by omega, fun _ => ⟨T ++ [((k + 1 : Nat) : Int)], l - 1 - 1 - 1 - 1, ?_, by simp⟩⟩
              rw [g0, g1, g2, g3, l_cut _ h4, h4]
            · have g4 : run loopP b 0 (f + 1) loopC [] 0 (lst 4 k (-1)) (lsh (l - 1 - 1 - 1 - 1) (T ++ [((k + 1 : Nat) : Int)]) (s + 1 + 1 + 1 + 1)) = run loopP b 0 f loopC [] 0 (lst 0 k (-1)) (lsh (l - 1 - 1 - 1 - 1 - 1) (T ++ [((k + 1 : Nat) : Int)]) (s + 1 + 1 + 1 + 1 + 1)) := l_go _ h4 (by omega) _ rfl
              have hi := ih (by omega) f (l - 1 - 1 - 1 - 1 - 1) (s + 1 + 1 + 1 + 1 + 1) (-1) (T ++ [((k + 1 : Nat) : Int)]) (by omega) (by omega) (by omega)
              rw [g0, g1, g2, g3, g4]
              refine ⟨fun h => ?_, fun h => ?_⟩
              · rw [hi.1 (by omega)]
                rw [show l - 1 - 1 - 1 - 1 - 1 - (5 * (k : Int) + 2) = l - (5 * ((k + 1 : Nat) : Int) + 2) by omega, show s + 1 + 1 + 1 + 1 + 1 + (5 * (k : Int) + 2) = s + (5 * ((k + 1 : Nat) : Int) + 2) by omega]
                rw [List.append_assoc]
                rfl
              · obtain ⟨T', l', h5, h6⟩ := hi.2 (by omega)
                exact ⟨T', l', h5, by simp at h6; omega⟩
end Go.Proofs.YtbhnnnpofindiaaDoor
