/-
  What a run's log holds, as plain data: no count is below 0; so what is summed up on the way stays small.
-/
import Derived.Test.YtbhnnnpofindiaaDoorPureL
namespace Go.Proofs.YtbhnnnpofindiaaDoor
open Go.RowKit

/-- No task's count is below 0. -/
def Nng (l : List (List Int × Int)) : Prop := ∀ e ∈ l, 0 ≤ e.2

theorem nng_tick {sh : Sh} {me : Nat} (h : Nng sh.log) : Nng (tick sh me).log := by
  intro e he
  change e ∈ sh.log.modify me _ at he
  obtain ⟨i, hi⟩ := List.mem_iff_getElem?.mp he
  rw [List.getElem?_modify] at hi
  cases hx : sh.log[i]? with
  | none => rw [hx] at hi; simp at hi
  | some y =>
    have hy := h y (List.mem_iff_getElem?.mpr ⟨i, hx⟩)
    rw [hx] at hi
    by_cases hm : me = i
    · subst hm
      simp at hi
      subst hi
      show 0 ≤ y.2 + 1
      omega
    · simp [hm] at hi
      subst hi
      exact hy
theorem nng_enter {sh : Sh} {p : List Int} (h : Nng sh.log) : Nng (enter sh p).log := by
  intro e he
  change e ∈ sh.log ++ [(p, 0)] at he
  rcases List.mem_append.mp he with h1 | h1
  · exact h e h1
  · rw [List.mem_singleton.mp h1]
    exact Int.le_refl _

theorem run_nng (fs : List Fn) (bud dep : Int) : ∀ (f : Nat) (code : List Ins) (path : List Int) (me : Nat) (t : Tk) (sh : Sh), Nng sh.log → Nng (run fs bud dep f code path me t sh).2.log := by
  intro f
  induction f with
  | zero => intro code path me t sh h; exact h
  | succ f ih =>
    intro code path me t sh h
    unfold run
    split
    · exact h
    · have ht := nng_tick (me := me) h
      split
      · exact h
      · simp only
        split
        · exact ih _ _ _ _ _ ht
        · exact ih _ _ _ _ _ ht
        · exact ht
        · exact ht
        · split
          · exact ht
          · have hc := ih (codeAt fs (code.getD t.pc ⟨0, 0, 0, 0, 0⟩).c.toNat) (path ++ [(t.kids : Int)]) (tick sh me).log.length (newTk (argsOf fs (code.getD t.pc ⟨0, 0, 0, 0, 0⟩) { t with pc := t.pc + 1 }) t.futs) (enter (tick sh me) (path ++ [(t.kids : Int)])) (nng_enter ht)
            split
            · rename_i v sh2 h2
              rw [h2] at hc
              exact ih _ _ _ _ _ hc
            · rename_i k sh2 h2
              rw [h2] at hc
              exact hc
            · rename_i sh2 h2
              rw [h2] at hc
              exact hc
theorem runF_nng (fs : List Fn) (bud dep most : Int) (code : List Ins) (t : Tk) : Nng (runF fs bud dep code [] 0 t (enter ⟨most, [], []⟩ [])).2.log :=
  run_nng fs bud dep _ code [] 0 t _ (nng_enter (fun e he => by cases he))

theorem sumS_nng {l : List (List Int × Int)} (h : Nng l) : 0 ≤ sumS l := by
  induction l with
  | nil => exact Int.le_refl _
  | cons a l ih =>
    have h1 := ih (fun e he => h e (List.mem_cons_of_mem _ he))
    have h2 := h a (List.mem_cons_self ..)
    show 0 ≤ sumS (a :: l)
    unfold sumS at h1 ⊢
    simp only [List.map_cons, List.sum_cons]
    omega
/-- What is summed up on the way. -/
theorem sumS_take {l : List (List Int × Int)} (h : Nng l) (k : Nat) : 0 ≤ sumS (l.take k) ∧ sumS (l.take k) ≤ sumS l := by
  have h1 := sumS_nng (l := l.take k) (fun e he => h e (List.mem_of_mem_take he))
  have h2 := sumS_nng (l := l.drop k) (fun e he => h e (List.mem_of_mem_drop he))
  have h3 := sumS_app (l.take k) (l.drop k)
  rw [List.take_append_drop] at h3
  omega
theorem sumS_step {l : List (List Int × Int)} {k : Nat} {p : List Int} {s : Int} (h : l[k]? = some (p, s)) : sumS (l.take (k + 1)) = sumS (l.take k) + s := by
  rw [List.take_add_one, h, sumS_app]
  simp [sumS]
theorem rise_at {l : List (List Int × Int)} (h : (l.map Prod.fst).Pairwise (· < ·)) {k : Nat} {p q : List Int} {s t : Int} (h1 : l[k]? = some (p, s)) (h2 : l[k + 1]? = some (q, t)) : p < q := by
  rw [List.pairwise_iff_getElem] at h
  have i1 := (List.getElem?_eq_some_iff.1 h1).1
  have i2 := (List.getElem?_eq_some_iff.1 h2).1
  have := h k (k + 1) (by simpa using i1) (by simpa using i2) (by omega)
  have e1 := (List.getElem?_eq_some_iff.1 h1).2
  have e2 := (List.getElem?_eq_some_iff.1 h2).2
  simpa [e1, e2] using this
end Go.Proofs.YtbhnnnpofindiaaDoor
