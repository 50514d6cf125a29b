/-
  What the laid table gives: the fields' kinds, cell by cell; and the door's own heap meets the condition.
-/
import Derived.Test.YtadcenaafoemmaaDoorTab
import Derived.Test.YtadcenaafoemmaaDoorRows
import Derived.ProofKit
import Derived.LaidMore
import Derived.OpenShut
import Derived.Stop.Joined
namespace Go.Proofs.YtadcenaafoemmaaDoor
open Go.ChangeShapes Go.WideShapes Go.ChangeAt Go.RowKit

abbrev laidN : List (String × DataW Unit) := [("haymow/ops.fields", Rows.laid_haymow_ops_fields)]
theorem own : ownKnob Tryd.prog.godebug = none := by kernel_rfl
theorem laidOut : laidOutB Tryd.prog = true := by kernel_rfl
theorem gN : Tryd.prog.globalNamed "haymow/ops.fields" = some 0 := by kernel_rfl
theorem tN : (Tryd.prog.globals[0]?).map (·.type) = some 184 := by kernel_rfl

theorem door_met (os : Os) (args : Array Value) : laidMetH Tryd.prog laidN ((World.doorLaid Tryd.prog 400 os).forCall (fun _ _ => 0) ⟨#[], args, []⟩).memory :=
  laidMetH_of_parts3 (fuel := 8) (laidMet_of_run' 8 (by kernel_rfl) (by kernel_rfl)) (by kernel_rfl) (by kernel_rfl)

theorem of_laid {W : World} (h : laidMetH Tryd.prog laidN W) : FieldsAt W := by
  rw [MakeChecks.laidMetH_plain _ _ _ (by kernel_rfl)] at h
  obtain ⟨ps, ⟨g0, t0, cs0, f0, p0, q0, hg0, ht0, hv0, hd0, _, _⟩, _, _⟩ := h
  obtain rfl := Option.some.inj (gN.symm.trans hg0)
  obtain rfl := Option.some.inj (tN.symm.trans ht0)
  obtain ⟨xs, m1, rfl, hx1, hlen, hn3, hel⟩ := DataW.trod_array Tryd.underlying184 hd0
  have c4 : Tryd.prog.cellsOf 181 = 4 := by kernel_rfl
  have c1 : Tryd.prog.cellsOf 180 = 1 := by kernel_rfl
  simp only [Prod.mk.injEq] at hx1
  have hD : (Rows.laid_haymow_ops_fields : DataW Unit) = .agg (kd.map fun r => .agg (r.map fun n : Nat => .lit (.int .i64 n))) := rfl
  rw [hD] at hx1
  have hxs : kd.map (fun r => (DataW.agg (r.map fun n : Nat => .lit (.int .i64 n)) : DataW Unit)) = xs.map (·.1) := by injection hx1.1
  intro k hk j hj
  have hkl : kd.length = 18 := rfl
  have hk' : k < kd.length := by omega
  have hkx : k < xs.length := by
    have := congrArg List.length hxs
    simp at this
    omega
  have h1 := hel k (by omega)
  rw [List.getElem?_eq_getElem hkx] at h1
  obtain ⟨ys, m2, e1, hy1, hlen2, hn4, hel2⟩ := DataW.trod_array Tryd.underlying181 h1
  have h2 := congrArg (fun l => l[k]?) hxs
  simp only [List.getElem?_map, List.getElem?_eq_getElem hk', List.getElem?_eq_getElem hkx, Option.map_some, Option.some.injEq] at h2
  rw [hy1] at h2
  have hys : (kd[k]).map (fun n : Nat => (DataW.lit (.int .i64 n) : DataW Unit)) = ys.map (·.1) := by injection h2
  have hrow : ∀ i (h : i < kd.length), kd[i].length = 4 := by decide
  have hjr : j < kd[k].length := by rw [hrow]; exact hj
  have hjy : j < ys.length := by
    have := congrArg List.length hys
    simp only [List.length_map] at this
    omega
  have h3 := hel2 j (by omega)
  rw [List.getElem?_eq_getElem hjy] at h3
  obtain ⟨s, e2, e3, _⟩ := DataW.trod_int Tryd.underlying180 h3
  have h4 := congrArg (fun l => l[j]?) hys
  simp only [List.getElem?_map, List.getElem?_eq_getElem hjr, List.getElem?_eq_getElem hjy, Option.map_some, e3, Option.some.injEq, DataW.lit.injEq, Lit.int.injEq, true_and] at h4
  have hkd : ((kdAt k j : Nat) : Int) = s := by
    unfold kdAt
    have hg : kd.getD k [] = kd[k] := by rw [List.getD_eq_getElem?_getD, List.getElem?_eq_getElem hk']; rfl
    rw [hg, List.getD_eq_getElem?_getD, List.getElem?_eq_getElem hjr]
    exact h4
  have h5 := World.var?_cell hg0 hv0 (k * 4 + j)
  rw [h5, hkd]
  rw [c1] at e2
  rw [c4] at e2
  have h6 := congrArg (fun l => l[0]?) e2
  simp [List.getElem?_drop, hj] at h6
  exact h6
end Go.Proofs.YtadcenaafoemmaaDoor
