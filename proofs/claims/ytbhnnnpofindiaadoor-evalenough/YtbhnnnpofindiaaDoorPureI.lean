/-
  The places in a run's log rise, as plain data: each task's place comes after all that were there before it.
-/
import Derived.Test.YtbhnnnpofindiaaDoorPureH
namespace Go.Proofs.YtbhnnnpofindiaaDoor
open Go.RowKit

theorem lt_app (p : List Int) {x y : List Int} (h : x < y) : p ++ x < p ++ y := by
  induction p with
  | nil => exact h
  | cons a p ih => exact List.cons_lt_cons_iff.mpr (Or.inr ⟨rfl, ih⟩)
theorem lt_more (p : List Int) (j : Int) (s : List Int) : p < p ++ j :: s := by
  have := lt_app p (show ([] : List Int) < j :: s from List.nil_lt_cons _ _)
  simpa using this
theorem lt_next (p : List Int) {i j : Int} (r s : List Int) (h : i < j) : p ++ i :: r < p ++ j :: s :=
  lt_app p (List.cons_lt_cons_iff.mpr (Or.inl h))

def pths (sh : Sh) : List (List Int) := sh.log.map Prod.fst
theorem pths_tick (sh : Sh) (me : Nat) : pths (tick sh me) = pths sh := by
  unfold pths tick
  simp only
  apply List.ext_getElem?
  intro i
  rw [List.getElem?_map, List.getElem?_map, List.getElem?_modify]
  cases sh.log[i]? with
  | none => simp
  | some y => by_cases h : me = i <;> simp [h]
theorem pths_enter (sh : Sh) (p : List Int) : pths (enter sh p) = pths sh ++ [p] := by simp [pths, enter]

/-- All places come before those that a task has yet to begin. -/
def Und (path : List Int) (k : Nat) (l : List (List Int)) : Prop := ∀ e ∈ l, ∀ j : Int, (k : Int) ≤ j → ∀ s, e < path ++ j :: s

theorem exec_kids_next {x : Ins} {t t' : Tk} (h : exec x t = .next t') : t'.kids = t.kids := by
  unfold exec at h
  simp only at h
  split at h <;> first | (injection h with h; subst h; rfl) | (split at h <;> first | (injection h with h; subst h; rfl) | cases h) | cases h
theorem exec_kids_tell {x : Ins} {t t' : Tk} {v : Int} (h : exec x t = .tell v t') : t'.kids = t.kids := by
  unfold exec at h
  simp only at h
  split at h <;> first | (injection h with _ h; subst h; rfl) | (split at h <;> cases h) | cases h

theorem run_rise (fs : List Fn) (bud dep : Int) : ∀ (f : Nat) (code : List Ins) (path : List Int) (me : Nat) (t : Tk) (sh : Sh), (pths sh).Pairwise (· < ·) → Und path t.kids (pths sh) →
    (pths (run fs bud dep f code path me t sh).2).Pairwise (· < ·) ∧ ∀ e ∈ pths (run fs bud dep f code path me t sh).2, e ∈ pths sh ∨ path <+: e := by
  intro f
  induction f with
  | zero => intro code path me t sh h _; exact ⟨h, fun e he => Or.inl he⟩
  | succ f ih =>
    intro code path me t sh h hu
    have hp := pths_tick sh me
    have h' : (pths (tick sh me)).Pairwise (· < ·) := by rw [hp]; exact h
    have h0 : (pths (tick sh me)).Pairwise (· < ·) ∧ ∀ e ∈ pths (tick sh me), e ∈ pths sh ∨ path <+: e := ⟨h', fun e he => Or.inl (hp ▸ he)⟩
    unfold run
    split
    · exact ⟨h, fun e he => Or.inl he⟩
    · split
      · exact ⟨h, fun e he => Or.inl he⟩
      · simp only
        split
        · rename_i t' hx
          have := ih code path me t' (tick sh me) h' (by rw [hp, exec_kids_next hx]; exact hu)
          rw [hp] at this
          exact this
        · rename_i v t' hx
          have := ih code path me t' { tick sh me with told := (tick sh me).told ++ [v] } h' (by show Und path t'.kids (pths (tick sh me)); rw [hp, exec_kids_tell hx]; exact hu)
          refine ⟨this.1, fun e he => ?_⟩
          rcases this.2 e he with h1 | h1
          · exact Or.inl (hp ▸ (show e ∈ pths (tick sh me) from h1))
          · exact Or.inr h1
        · exact h0
        · exact h0
        · split
          · exact h0
          · have he : pths (enter (tick sh me) (path ++ [(t.kids : Int)])) = pths sh ++ [path ++ [(t.kids : Int)]] := by rw [pths_enter, hp]
            have hc := ih (codeAt fs (code.getD t.pc ⟨0, 0, 0, 0, 0⟩).c.toNat) (path ++ [(t.kids : Int)]) (tick sh me).log.length (newTk (argsOf fs (code.getD t.pc ⟨0, 0, 0, 0, 0⟩) { t with pc := t.pc + 1 }) t.futs) (enter (tick sh me) (path ++ [(t.kids : Int)]))
              (by
                rw [he, List.pairwise_append]
                exact ⟨h, List.pairwise_singleton _ _, fun a ha b hb => by rw [List.mem_singleton.mp hb]; exact hu a ha _ (Int.le_refl _) []⟩)
              (by
                rw [he]
                intro e hm j _ s
                rcases List.mem_append.mp hm with h1 | h1
                · have := hu e h1 (t.kids : Int) (Int.le_refl _) (j :: s)
                  simpa using this
                · rw [List.mem_singleton.mp h1]
                  exact lt_more _ _ _)
            rw [he] at hc
            have hw : ∀ e, (e ∈ pths sh ++ [path ++ [(t.kids : Int)]] ∨ path ++ [(t.kids : Int)] <+: e) → e ∈ pths sh ∨ path ++ [(t.kids : Int)] <+: e := by
              intro e h1
              rcases h1 with h1 | h1
              · rcases List.mem_append.mp h1 with h2 | h2
                · exact Or.inl h2
                · rw [List.mem_singleton.mp h2]; exact Or.inr (List.prefix_refl _)
              · exact Or.inr h1
            have hq : ∀ e, path ++ [(t.kids : Int)] <+: e → path <+: e := fun e h1 => (List.prefix_append _ _).trans h1
            split
            · rename_i v sh2 h2
              rw [h2] at hc
              have := ih code path me (took (code.getD t.pc ⟨0, 0, 0, 0, 0⟩) v { t with pc := t.pc + 1 }) sh2 hc.1 (by
                intro e hm j hj s
                have hj' : (t.kids : Int) + 1 ≤ j := by
                  have : (took (code.getD t.pc ⟨0, 0, 0, 0, 0⟩) v { t with pc := t.pc + 1 }).kids = t.kids + 1 := by
                    unfold took
                    split <;> rfl
                  rw [this] at hj
                  omega
                rcases hw e (hc.2 e hm) with h1 | ⟨r, rfl⟩
                · exact hu e h1 j (by omega) s
                · rw [List.append_assoc]
                  exact lt_next _ _ _ (by omega))
              refine ⟨this.1, fun e hm => ?_⟩
              rcases this.2 e hm with h1 | h1
              · rcases hw e (hc.2 e h1) with h3 | h3
                · exact Or.inl h3
                · exact Or.inr (hq e h3)
              · exact Or.inr h1
            · rename_i k sh2 h2
              rw [h2] at hc
              refine ⟨hc.1, fun e hm => ?_⟩
              rcases hw e (hc.2 e hm) with h3 | h3
              · exact Or.inl h3
              · exact Or.inr (hq e h3)
            · rename_i sh2 h2
              rw [h2] at hc
              refine ⟨hc.1, fun e hm => ?_⟩
              rcases hw e (hc.2 e hm) with h3 | h3
              · exact Or.inl h3
              · exact Or.inr (hq e h3)

theorem run_pre (fs : List Fn) (bud dep : Int) : ∀ (f : Nat) (code : List Ins) (path : List Int) (me : Nat) (t : Tk) (sh : Sh), pths sh <+: pths (run fs bud dep f code path me t sh).2 := by
  intro f
  induction f with
  | zero => intro code path me t sh; exact List.prefix_refl _
  | succ f ih =>
    intro code path me t sh
    have hp := pths_tick sh me
    have h0 : pths sh <+: pths (tick sh me) := by rw [hp]; exact List.prefix_refl _
    unfold run
    split
    · exact List.prefix_refl _
    · split
      · exact List.prefix_refl _
      · simp only
        split
        · exact h0.trans (ih _ _ _ _ _)
        · rename_i v t' hx
          exact h0.trans (ih code path me t' { tick sh me with told := (tick sh me).told ++ [v] })
        · exact h0
        · exact h0
        · split
          · exact h0
          · have hc := ih (codeAt fs (code.getD t.pc ⟨0, 0, 0, 0, 0⟩).c.toNat) (path ++ [(t.kids : Int)]) (tick sh me).log.length (newTk (argsOf fs (code.getD t.pc ⟨0, 0, 0, 0, 0⟩) { t with pc := t.pc + 1 }) t.futs) (enter (tick sh me) (path ++ [(t.kids : Int)]))
            rw [pths_enter] at hc
            have h1 := (h0.trans (List.prefix_append _ [path ++ [(t.kids : Int)]])).trans hc
            split
            · rename_i v sh2 h2
              rw [h2] at h1
              exact h1.trans (ih _ _ _ _ _)
            · rename_i k sh2 h2
              rw [h2] at h1
              exact h1
            · rename_i sh2 h2
              rw [h2] at h1
              exact h1
end Go.Proofs.YtbhnnnpofindiaaDoor
