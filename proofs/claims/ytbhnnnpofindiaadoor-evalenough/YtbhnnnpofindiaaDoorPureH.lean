/-
  What a run's log holds, as plain data: no task's count goes beyond the budget, none lies deeper than the depth.
-/
import Derived.Test.YtbhnnnpofindiaaDoorPureG
namespace Go.Proofs.YtbhnnnpofindiaaDoor
open Go.RowKit

/-- Every task's count and place keep to the limits. -/
def InB (bud dep : Int) (l : List (List Int × Int)) : Prop := ∀ e ∈ l, e.2 ≤ bud ∧ (e.1.length : Int) ≤ dep

theorem inB_tick {bud dep : Int} {sh : Sh} {me : Nat} (h : InB bud dep sh.log) (hn : steps sh me ≠ bud) : InB bud dep (tick sh me).log := by
  intro e he
  change e ∈ sh.log.modify me _ at he
  obtain ⟨i, hi⟩ := List.mem_iff_getElem?.mp he
  rw [List.getElem?_modify] at hi
  cases hx : sh.log[i]? with
  | none => rw [hx] at hi; simp at hi
  | some y =>
    have hy := h y (List.mem_iff_getElem?.mpr ⟨i, hx⟩)
    rw [hx] at hi
    by_cases hm : me = i
    · subst hm
      simp at hi
      subst hi
      have hs : steps sh me = y.2 := by simp [steps, hx]
      rw [hs] at hn
      exact ⟨by show y.2 + 1 ≤ bud; omega, hy.2⟩
    · simp [hm] at hi
      subst hi
      exact hy
theorem inB_enter {bud dep : Int} {sh : Sh} {p : List Int} (hb : 0 ≤ bud) (h : InB bud dep sh.log) (hp : (p.length : Int) ≤ dep) : InB bud dep (enter sh p).log := by
  intro e he
  change e ∈ sh.log ++ [(p, 0)] at he
  rcases List.mem_append.mp he with h1 | h1
  · exact h e h1
  · rw [List.mem_singleton.mp h1]
    exact ⟨hb, hp⟩

theorem run_inB (fs : List Fn) (bud dep : Int) (hb : 0 ≤ bud) : ∀ (f : Nat) (code : List Ins) (path : List Int) (me : Nat) (t : Tk) (sh : Sh), (path.length : Int) ≤ dep → InB bud dep sh.log → InB bud dep (run fs bud dep f code path me t sh).2.log := by
  intro f
  induction f with
  | zero => intro code path me t sh _ h; exact h
  | succ f ih =>
    intro code path me t sh hp h
    unfold run
    split
    · exact h
    · rename_i hn
      have ht := inB_tick h hn
      split
      · exact h
      · simp only
        split
        · exact ih _ _ _ _ _ hp ht
        · exact ih _ _ _ _ _ hp ht
        · exact ht
        · exact ht
        · split
          · exact ht
          · rename_i hd
            have hl : ((path ++ [(t.kids : Int)]).length : Int) ≤ dep := by simp; omega
            have hc := ih (codeAt fs (code.getD t.pc ⟨0, 0, 0, 0, 0⟩).c.toNat) (path ++ [(t.kids : Int)]) (tick sh me).log.length (newTk (argsOf fs (code.getD t.pc ⟨0, 0, 0, 0, 0⟩) { t with pc := t.pc + 1 }) t.futs) (enter (tick sh me) (path ++ [(t.kids : Int)])) hl (inB_enter hb ht hl)
            split
            · rename_i v sh2 h2
              rw [h2] at hc
              exact ih _ _ _ _ _ hp hc
            · rename_i k sh2 h2
              rw [h2] at hc
              exact hc
            · rename_i sh2 h2
              rw [h2] at hc
              exact hc
end Go.Proofs.YtbhnnnpofindiaaDoor
