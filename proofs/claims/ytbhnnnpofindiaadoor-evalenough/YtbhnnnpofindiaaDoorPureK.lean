/-
  With fewer instructions allowed, as plain data: as many as were done suffice, one less does not.
-/
import Derived.Test.YtbhnnnpofindiaaDoorPureJ
namespace Go.Proofs.YtbhnnnpofindiaaDoor
open Go.RowKit

def less (sh : Sh) (d : Int) : Sh := { sh with left := sh.left - d }

theorem run_keeps_tick (fs : List Fn) (bud dep : Int) (f : Nat) (code : List Ins) (path : List Int) (me : Nat) (t : Tk) (sh : Sh) (h1 : ¬ steps sh me = bud) (h2 : ¬ sh.left ≤ 0) : (run fs bud dep (f + 1) code path me t sh).2.left ≤ sh.left - 1 := by
  unfold run
  rw [if_neg h1, if_neg h2]
  simp only
  split
  · exact run_left fs bud dep f _ _ _ _ (tick sh me)
  · rename_i v t' _
    exact run_left fs bud dep f _ _ _ _ { tick sh me with told := (tick sh me).told ++ [v] }
  · exact Int.le_refl _
  · exact Int.le_refl _
  · split
    · exact Int.le_refl _
    · have hc := run_left fs bud dep f (codeAt fs (code.getD t.pc ⟨0, 0, 0, 0, 0⟩).c.toNat) (path ++ [(t.kids : Int)]) (tick sh me).log.length (newTk (argsOf fs (code.getD t.pc ⟨0, 0, 0, 0, 0⟩) { t with pc := t.pc + 1 }) t.futs) (enter (tick sh me) (path ++ [(t.kids : Int)]))
      split
      · rename_i v sh2 h3
        rw [h3] at hc
        exact Int.le_trans (run_left fs bud dep f _ _ _ _ sh2) hc
      · rename_i k sh2 h3
        rw [h3] at hc
        exact hc
      · rename_i sh2 h3
        rw [h3] at hc
        exact hc

theorem run_less (fs : List Fn) (bud dep : Int) (d : Int) : ∀ (f : Nat) (code : List Ins) (path : List Int) (me : Nat) (t : Tk) (sh : Sh), d ≤ sh.left → (run fs bud dep f code path me t sh).1 ≠ .long →
    (d ≤ (run fs bud dep f code path me t sh).2.left → run fs bud dep f code path me t (less sh d) = ((run fs bud dep f code path me t sh).1, less (run fs bud dep f code path me t sh).2 d)) ∧
    ((run fs bud dep f code path me t sh).2.left < d → (run fs bud dep f code path me t (less sh d)).1 = .long) := by
  intro f
  induction f with
  | zero => intro code path me t sh _ h; exact absurd rfl h
  | succ f ih =>
    intro code path me t sh hd h
    have hlt := run_left fs bud dep (f + 1) code path me t sh
    have hst : steps (less sh d) me = steps sh me := rfl
    have htk : tick (less sh d) me = less (tick sh me) d := by
      unfold tick less
      simp only
      congr 1
      omega
    by_cases h1 : steps sh me = bud
    · have e1 : run fs bud dep (f + 1) code path me t sh = (.fail 3, sh) := by unfold run; rw [if_pos h1]
      have e2 : run fs bud dep (f + 1) code path me t (less sh d) = (.fail 3, less sh d) := by unfold run; rw [if_pos (hst.trans h1)]
      rw [e1, e2]
      exact ⟨fun _ => rfl, fun hh => absurd hd (by show ¬ d ≤ sh.left; exact Int.not_le.mpr hh)⟩
    · by_cases h2 : sh.left ≤ 0
      · exact absurd (by unfold run; rw [if_neg h1, if_pos h2]) h
      · have hone : (run fs bud dep (f + 1) code path me t sh).2.left ≤ sh.left - 1 := by
          have := run_keeps_tick fs bud dep f code path me t sh h1 h2
          exact this
        by_cases h3 : sh.left - d ≤ 0
        · refine ⟨fun hh => absurd hh (by omega), fun _ => ?_⟩
          unfold run
          rw [hst, if_neg h1, if_pos (show (less sh d).left ≤ 0 from h3)]
        · have hd' : d ≤ (tick sh me).left := by show d ≤ sh.left - 1; omega
          clear hone hlt
          unfold run at h ⊢
          rw [hst]
          rw [if_neg h1, if_neg h2] at h ⊢
          rw [if_neg h1, if_neg (show ¬ (less sh d).left ≤ 0 from h3)]
          simp only [htk] at h ⊢
          cases hex : exec (code.getD t.pc ⟨0, 0, 0, 0, 0⟩) { t with pc := t.pc + 1 } with
          | next t' =>
            simp only [hex] at h ⊢
            exact ih _ _ _ _ _ hd' h
          | tell v t' =>
            simp only [hex] at h ⊢
            exact ih _ _ _ _ { tick sh me with told := (tick sh me).told ++ [v] } hd' h
          | fin v t' =>
            simp only
            exact ⟨fun _ => trivial, fun hh => absurd hd' (Int.not_le.mpr hh)⟩
          | fail k =>
            simp only
            exact ⟨fun _ => trivial, fun hh => absurd hd' (Int.not_le.mpr hh)⟩
          | call =>
            simp only [hex] at h ⊢
            by_cases h4 : (path.length : Int) = dep
            · rw [if_pos h4]
              rw [if_pos h4]
              exact ⟨fun _ => rfl, fun hh => absurd hd' (Int.not_le.mpr hh)⟩
            · rw [if_neg h4] at h
              rw [if_neg h4]
              rw [if_neg h4]
              have hlog : (less (tick sh me) d).log = (tick sh me).log := rfl
              have hent : enter (less (tick sh me) d) (path ++ [(t.kids : Int)]) = less (enter (tick sh me) (path ++ [(t.kids : Int)])) d := rfl
              have hc := ih (codeAt fs (code.getD t.pc ⟨0, 0, 0, 0, 0⟩).c.toNat) (path ++ [(t.kids : Int)]) (tick sh me).log.length (newTk (argsOf fs (code.getD t.pc ⟨0, 0, 0, 0, 0⟩) { t with pc := t.pc + 1 }) t.futs) (enter (tick sh me) (path ++ [(t.kids : Int)])) hd'
              rw [hlog, hent]
              generalize hr : run fs bud dep f (codeAt fs (code.getD t.pc ⟨0, 0, 0, 0, 0⟩).c.toNat) (path ++ [(t.kids : Int)]) (tick sh me).log.length (newTk (argsOf fs (code.getD t.pc ⟨0, 0, 0, 0, 0⟩) { t with pc := t.pc + 1 }) t.futs) (enter (tick sh me) (path ++ [(t.kids : Int)])) = r at h hc ⊢
              obtain ⟨o, sh2⟩ := r
              cases o with
              | ok v =>
                have hc := hc (by simp)
                by_cases h5 : d ≤ sh2.left
                · rw [hc.1 h5]
                  simp only at h ⊢
                  exact ih _ _ _ _ _ h5 h
                · have h6 := hc.2 (Int.not_le.mp h5)
                  have h7 := run_left fs bud dep f code path me (took (code.getD t.pc ⟨0, 0, 0, 0, 0⟩) v { t with pc := t.pc + 1 }) sh2
                  simp only at h ⊢
                  refine ⟨fun hh => absurd (Int.le_trans hh h7) h5, fun _ => ?_⟩
                  revert h6
                  generalize run fs bud dep f (codeAt fs (code.getD t.pc ⟨0, 0, 0, 0, 0⟩).c.toNat) (path ++ [(t.kids : Int)]) (tick sh me).log.length (newTk (argsOf fs (code.getD t.pc ⟨0, 0, 0, 0, 0⟩) { t with pc := t.pc + 1 }) t.futs) (less (enter (tick sh me) (path ++ [(t.kids : Int)])) d) = q
                  obtain ⟨qo, qs⟩ := q
                  rintro h6
                  simp only at h6
                  subst h6
                  rfl
              | fail k =>
                have hc := hc (by simp)
                simp only
                refine ⟨fun hh => by rw [hc.1 hh], fun hh => ?_⟩
                have h6 := hc.2 hh
                revert h6
                generalize run fs bud dep f (codeAt fs (code.getD t.pc ⟨0, 0, 0, 0, 0⟩).c.toNat) (path ++ [(t.kids : Int)]) (tick sh me).log.length (newTk (argsOf fs (code.getD t.pc ⟨0, 0, 0, 0, 0⟩) { t with pc := t.pc + 1 }) t.futs) (less (enter (tick sh me) (path ++ [(t.kids : Int)])) d) = q
                obtain ⟨qo, qs⟩ := q
                rintro h6
                simp only at h6
                subst h6
                rfl
              | long => exact absurd rfl h
end Go.Proofs.YtbhnnnpofindiaaDoor
