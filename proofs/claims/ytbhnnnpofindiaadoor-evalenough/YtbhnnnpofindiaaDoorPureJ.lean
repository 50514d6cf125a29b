/-
  What a whole run leaves, from its beginning, as plain data: every count within the budget, every place within the depth, the places rise from the root's, and all that was done is told in the log.
-/
import Derived.Test.YtbhnnnpofindiaaDoorPureI
namespace Go.Proofs.YtbhnnnpofindiaaDoor
open Go.RowKit

structure Bound (bud dep most : Int) (r : Sh) : Prop where
  inb : InB bud dep r.log
  rise : (pths r).Pairwise (· < ·)
  root : [[]] <+: pths r
  all : r.left + sumS r.log = most
  nonneg : 0 ≤ r.left

theorem runF_bound (fs : List Fn) (bud dep most : Int) (hb : 0 ≤ bud) (hd : 0 ≤ dep) (hm : 0 ≤ most) (code : List Ins) (t : Tk) :
    Bound bud dep most (runF fs bud dep code [] 0 t (enter ⟨most, [], []⟩ [])).2 := by
  have hlog : (enter ⟨most, [], []⟩ []).log = [([], 0)] := rfl
  have hp : pths (enter ⟨most, [], []⟩ []) = [[]] := rfl
  have hr := run_rise fs bud dep ((enter ⟨most, [], []⟩ []).left.toNat + 1) code [] 0 t (enter ⟨most, [], []⟩ []) (by rw [hp]; exact List.pairwise_singleton _ _) (by
    rw [hp]
    intro e he j _ s
    rw [List.mem_singleton.mp he]
    exact lt_more _ _ _)
  refine ⟨?_, hr.1, ?_, ?_, ?_⟩
  · refine run_inB fs bud dep hb _ code [] 0 t _ (by simpa using hd) ?_
    rw [hlog]
    intro e he
    rw [List.mem_singleton.mp he]
    exact ⟨hb, by simpa using hd⟩
  · rw [← hp]
    exact run_pre fs bud dep _ code [] 0 t _
  · have := run_tot fs bud dep ((enter ⟨most, [], []⟩ []).left.toNat + 1) code [] 0 t (enter ⟨most, [], []⟩ []) (by simp [enter])
    unfold tot at this
    rw [hlog] at this
    have h2 : (enter ⟨most, [], []⟩ []).left + sumS [([], 0)] = most := by simp [enter, sumS]
    rw [h2] at this
    exact this
  · exact run_nonneg fs bud dep _ code [] 0 t _ hm

/-- The count of a log is what was done; so much and more does as well. -/
theorem runF_more (fs : List Fn) (bud dep most : Int) (d : Nat) (hm : 0 ≤ most) (code : List Ins) (t : Tk) (h : (runF fs bud dep code [] 0 t (enter ⟨most, [], []⟩ [])).1 ≠ .long) :
    runF fs bud dep code [] 0 t (enter ⟨most + d, [], []⟩ []) = ((runF fs bud dep code [] 0 t (enter ⟨most, [], []⟩ [])).1, more (runF fs bud dep code [] 0 t (enter ⟨most, [], []⟩ [])).2 d) := by
  have := run_more fs bud dep d (most.toNat + 1) code [] 0 t (enter ⟨most, [], []⟩ []) h
  rw [show more (enter ⟨most, [], []⟩ []) d = enter ⟨most + d, [], []⟩ [] from rfl] at this
  rw [runF_of fs bud dep (most.toNat + 1 + d) code [] 0 t (enter ⟨most + d, [], []⟩ []) (by show (most + d).toNat < _; omega)] at this
  exact this
end Go.Proofs.YtbhnnnpofindiaaDoor
