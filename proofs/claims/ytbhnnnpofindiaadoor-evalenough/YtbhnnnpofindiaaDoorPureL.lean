/-
  A whole run with as many instructions as were done, or more, or one less, as plain data.
-/
import Derived.Test.YtbhnnnpofindiaaDoorPureK
namespace Go.Proofs.YtbhnnnpofindiaaDoor
open Go.RowKit

theorem runF_enough (fs : List Fn) (bud dep most : Int) (code : List Ins) (t : Tk) (r : Out × Sh) (hr : runF fs bud dep code [] 0 t (enter ⟨most, [], []⟩ []) = r) (h : r.1 ≠ .long) (m : Nat) (hm : 0 ≤ most) (h0 : 0 ≤ r.2.left) (hle : r.2.left ≤ most) :
    runF fs bud dep code [] 0 t (enter ⟨most - r.2.left + m, [], []⟩ []) = (r.1, { r.2 with left := m }) := by
  have hs : enter ⟨most - r.2.left + m, [], []⟩ [] = more (less (enter ⟨most, [], []⟩ []) r.2.left) m := rfl
  have e1 : run fs bud dep (most.toNat + 1) code [] 0 t (enter ⟨most, [], []⟩ []) = r := hr
  have h1 := (run_less fs bud dep r.2.left (most.toNat + 1) code [] 0 t (enter ⟨most, [], []⟩ []) hle (by rw [e1]; exact h)).1 (by rw [e1]; exact Int.le_refl _)
  rw [e1] at h1
  have h2 := run_more fs bud dep m (most.toNat + 1) code [] 0 t (less (enter ⟨most, [], []⟩ []) r.2.left) (by rw [h1]; exact h)
  rw [h1, ← hs] at h2
  rw [runF_of fs bud dep (most.toNat + 1 + m) code [] 0 t (enter ⟨most - r.2.left + m, [], []⟩ []) (by show (most - r.2.left + m).toNat < _; omega)] at h2
  rw [h2]
  unfold more less
  simp only
  congr 2
  omega

theorem runF_short (fs : List Fn) (bud dep most : Int) (code : List Ins) (t : Tk) (r : Out × Sh) (hr : runF fs bud dep code [] 0 t (enter ⟨most, [], []⟩ []) = r) (h : r.1 ≠ .long) (h0 : 0 ≤ r.2.left) (hle : r.2.left + 1 ≤ most) :
    (runF fs bud dep code [] 0 t (enter ⟨most - r.2.left - 1, [], []⟩ [])).1 = .long := by
  have hs : enter ⟨most - r.2.left - 1, [], []⟩ [] = less (enter ⟨most, [], []⟩ []) (r.2.left + 1) := by
    unfold enter less
    simp only
    congr 1
    omega
  have e1 : run fs bud dep (most.toNat + 1) code [] 0 t (enter ⟨most, [], []⟩ []) = r := hr
  have h1 := (run_less fs bud dep (r.2.left + 1) (most.toNat + 1) code [] 0 t (enter ⟨most, [], []⟩ []) hle (by rw [e1]; exact h)).2 (by rw [e1]; omega)
  rw [← hs, runF_of fs bud dep (most.toNat + 1) code [] 0 t (enter ⟨most - r.2.left - 1, [], []⟩ []) (by show (most - r.2.left - 1).toNat < _; omega)] at h1
  exact h1

/-- A task that may do one instruction does one. -/
theorem runF_one (fs : List Fn) (bud dep most : Int) (hb : 1 ≤ bud) (hm : 0 < most) (code : List Ins) (t : Tk) :
    (runF fs bud dep code [] 0 t (enter ⟨most, [], []⟩ [])).2.left + 1 ≤ most := by
  have := run_keeps_tick fs bud dep ((enter ⟨most, [], []⟩ []).left.toNat) code [] 0 t (enter ⟨most, [], []⟩ []) (by show ¬ (0 : Int) = bud; omega) (by show ¬ most ≤ 0; omega)
  unfold runF
  have e : (enter ⟨most, [], []⟩ []).left = most := rfl
  rw [e] at this ⊢
  omega
end Go.Proofs.YtbhnnnpofindiaaDoor
