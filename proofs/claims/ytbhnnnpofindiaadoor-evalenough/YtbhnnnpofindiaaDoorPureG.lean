/-
  What follows of a run, as plain data: instructions are neither lost nor made, more of them change nothing, none is owed.
-/
import Derived.Test.YtbhnnnpofindiaaDoorPureF
namespace Go.Proofs.YtbhnnnpofindiaaDoor
open Go.RowKit

def sumS (l : List (List Int × Int)) : Int := (l.map Prod.snd).sum
theorem sumS_app (a b : List (List Int × Int)) : sumS (a ++ b) = sumS a + sumS b := by simp [sumS]
theorem sumS_up (l : List (List Int × Int)) (m : Nat) (h : m < l.length) : sumS (l.modify m fun e => (e.1, e.2 + 1)) = sumS l + 1 := by
  induction l generalizing m with
  | nil => simp at h
  | cons x r ih =>
    cases m with
    | zero => rw [List.modify_zero_cons]; simp [sumS]; omega
    | succ m =>
      have := ih m (by simpa using h)
      rw [List.modify_succ_cons]
      simp [sumS] at this ⊢
      omega

/-- What is left, and what was done. -/
def tot (sh : Sh) : Int := sh.left + sumS sh.log
theorem tot_tick {sh : Sh} {me : Nat} (h : me < sh.log.length) : tot (tick sh me) = tot sh := by
  unfold tot tick
  simp only
  rw [sumS_up _ _ h]
  omega
theorem tot_enter (sh : Sh) (p : List Int) : tot (enter sh p) = tot sh := by
  unfold tot enter
  simp only
  rw [sumS_app]
  simp [sumS]

theorem run_tot (fs : List Fn) (bud dep : Int) : ∀ (f : Nat) (code : List Ins) (path : List Int) (me : Nat) (t : Tk) (sh : Sh), me < sh.log.length → tot (run fs bud dep f code path me t sh).2 = tot sh := by
  intro f
  induction f with
  | zero => intro code path me t sh _; rfl
  | succ f ih =>
    intro code path me t sh hm
    have tl : (tick sh me).log.length = sh.log.length := by simp [tick]
    have ht := tot_tick hm
    unfold run
    split
    · rfl
    · split
      · rfl
      · simp only
        split
        · rw [ih _ _ _ _ _ (by omega)]; exact ht
        · rename_i v t' _
          exact (ih _ _ _ _ { tick sh me with told := (tick sh me).told ++ [v] } (show me < (tick sh me).log.length by omega)).trans ht
        · exact ht
        · exact ht
        · split
          · exact ht
          · have hc := ih (codeAt fs (code.getD t.pc ⟨0, 0, 0, 0, 0⟩).c.toNat) (path ++ [(t.kids : Int)]) (tick sh me).log.length (newTk (argsOf fs (code.getD t.pc ⟨0, 0, 0, 0, 0⟩) { t with pc := t.pc + 1 }) t.futs) (enter (tick sh me) (path ++ [(t.kids : Int)])) (by simp [enter])
            have hk := run_keeps fs bud dep f (codeAt fs (code.getD t.pc ⟨0, 0, 0, 0, 0⟩).c.toNat) (path ++ [(t.kids : Int)]) (tick sh me).log.length (newTk (argsOf fs (code.getD t.pc ⟨0, 0, 0, 0, 0⟩) { t with pc := t.pc + 1 }) t.futs) (enter (tick sh me) (path ++ [(t.kids : Int)]))
            rw [tot_enter, ht] at hc
            split
            · rename_i v sh2 h2
              rw [h2] at hc hk
              have h3 := hk.log
              rw [ih _ _ _ _ _ (by simp [enter] at h3; omega)]
              exact hc
            · rename_i k sh2 h2
              rw [h2] at hc
              exact hc
            · rename_i sh2 h2
              rw [h2] at hc
              exact hc

theorem run_nonneg (fs : List Fn) (bud dep : Int) : ∀ (f : Nat) (code : List Ins) (path : List Int) (me : Nat) (t : Tk) (sh : Sh), 0 ≤ sh.left → 0 ≤ (run fs bud dep f code path me t sh).2.left := by
  intro f
  induction f with
  | zero => intro code path me t sh h; exact h
  | succ f ih =>
    intro code path me t sh h
    unfold run
    split
    · exact h
    · split
      · exact h
      · rename_i h0
        have ht : 0 ≤ (tick sh me).left := by show 0 ≤ sh.left - 1; omega
        simp only
        split
        · exact ih _ _ _ _ _ ht
        · exact ih _ _ _ _ _ ht
        · exact ht
        · exact ht
        · split
          · exact ht
          · have hc := ih (codeAt fs (code.getD t.pc ⟨0, 0, 0, 0, 0⟩).c.toNat) (path ++ [(t.kids : Int)]) (tick sh me).log.length (newTk (argsOf fs (code.getD t.pc ⟨0, 0, 0, 0, 0⟩) { t with pc := t.pc + 1 }) t.futs) (enter (tick sh me) (path ++ [(t.kids : Int)])) ht
            split
            · rename_i v sh2 h2
              rw [h2] at hc
              exact ih _ _ _ _ _ hc
            · rename_i k sh2 h2
              rw [h2] at hc
              exact hc
            · rename_i sh2 h2
              rw [h2] at hc
              exact hc

/-- With more to do. -/
def more (sh : Sh) (d : Nat) : Sh := { sh with left := sh.left + d }
theorem run_more (fs : List Fn) (bud dep : Int) (d : Nat) : ∀ (f : Nat) (code : List Ins) (path : List Int) (me : Nat) (t : Tk) (sh : Sh), (run fs bud dep f code path me t sh).1 ≠ .long →
    run fs bud dep (f + d) code path me t (more sh d) = ((run fs bud dep f code path me t sh).1, more (run fs bud dep f code path me t sh).2 d) := by
  intro f
  induction f with
  | zero => intro code path me t sh h; exact absurd rfl h
  | succ f ih =>
    intro code path me t sh h
    rw [show f + 1 + d = (f + d) + 1 by omega]
    have hst : steps (more sh d) me = steps sh me := rfl
    have htk : tick (more sh d) me = more (tick sh me) d := by
      unfold tick more
      simp only
      congr 1
      omega
    unfold run at h ⊢
    rw [hst]
    by_cases h1 : steps sh me = bud
    · rw [if_pos h1, if_pos h1]
    · rw [if_neg h1] at h ⊢
      rw [if_neg h1]
      by_cases h2 : sh.left ≤ 0
      · rw [if_pos h2] at h
        exact absurd rfl h
      · rw [if_neg h2] at h
        rw [if_neg (show ¬ (more sh d).left ≤ 0 by show ¬ sh.left + d ≤ 0; omega), if_neg h2]
        simp only [htk] at h ⊢
        cases hex : exec (code.getD t.pc ⟨0, 0, 0, 0, 0⟩) { t with pc := t.pc + 1 } with
        | next t' =>
          simp only [hex] at h ⊢
          exact ih _ _ _ _ _ h
        | tell v t' =>
          simp only [hex] at h ⊢
          exact ih _ _ _ _ { tick sh me with told := (tick sh me).told ++ [v] } h
        | fin v t' => simp only
        | fail k => simp only
        | call =>
          simp only [hex] at h ⊢
          by_cases h3 : (path.length : Int) = dep
          · rw [if_pos h3, if_pos h3]
          · rw [if_neg h3] at h
            rw [if_neg h3, if_neg h3]
            have hlog : (more (tick sh me) d).log = (tick sh me).log := rfl
            have hent : enter (more (tick sh me) d) (path ++ [(t.kids : Int)]) = more (enter (tick sh me) (path ++ [(t.kids : Int)])) d := rfl
            have hc := ih (codeAt fs (code.getD t.pc ⟨0, 0, 0, 0, 0⟩).c.toNat) (path ++ [(t.kids : Int)]) (tick sh me).log.length (newTk (argsOf fs (code.getD t.pc ⟨0, 0, 0, 0, 0⟩) { t with pc := t.pc + 1 }) t.futs) (enter (tick sh me) (path ++ [(t.kids : Int)]))
            rw [hlog, hent]
            generalize hr : run fs bud dep f (codeAt fs (code.getD t.pc ⟨0, 0, 0, 0, 0⟩).c.toNat) (path ++ [(t.kids : Int)]) (tick sh me).log.length (newTk (argsOf fs (code.getD t.pc ⟨0, 0, 0, 0, 0⟩) { t with pc := t.pc + 1 }) t.futs) (enter (tick sh me) (path ++ [(t.kids : Int)])) = r at h hc ⊢
            obtain ⟨o, sh2⟩ := r
            cases o with
            | ok v =>
              rw [hc (by simp)]
              simp only at h ⊢
              exact ih _ _ _ _ _ h
            | fail k =>
              rw [hc (by simp)]
            | long => exact absurd rfl h
end Go.Proofs.YtbhnnnpofindiaaDoor
