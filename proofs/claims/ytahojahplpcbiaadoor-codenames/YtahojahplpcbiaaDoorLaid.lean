/-
  What the laid table gives: the 18 names, cell by cell; and the door's own heap meets the condition.
-/
import Derived.Test.YtahojahplpcbiaaDoorNam
import Derived.Test.YtahojahplpcbiaaDoorRows
import Derived.ProofKit
import Derived.LaidMore
import Derived.OpenShut
import Derived.Stop.Joined
namespace Go.Proofs.YtahojahplpcbiaaDoor
open Go.ChangeShapes Go.WideShapes Go.ChangeAt Go.RowKit

abbrev laidN : List (String × DataW Unit) := [("haymow/code.names", Rows.laid_haymow_code_names)]
theorem own : ownKnob Tryd.prog.godebug = none := by kernel_rfl
theorem laidOut : laidOutB Tryd.prog = true := by kernel_rfl
theorem gN : Tryd.prog.globalNamed "haymow/code.names" = some 0 := by kernel_rfl
theorem tN : (Tryd.prog.globals[0]?).map (·.type) = some 30 := by kernel_rfl

theorem door_met (os : Os) (args : Array Value) : laidMetH Tryd.prog laidN ((World.doorLaid Tryd.prog 400 os).forCall (fun _ _ => 0) ⟨#[], args, []⟩).memory :=
  laidMetH_of_parts3 (fuel := 8) (laidMet_of_run' 8 (by kernel_rfl) (by kernel_rfl)) (by kernel_rfl) (by kernel_rfl)

theorem of_laid {W : World} (h : laidMetH Tryd.prog laidN W) : NamesAt W := by
  rw [MakeChecks.laidMetH_plain _ _ _ (by kernel_rfl)] at h
  obtain ⟨ps, ⟨g0, t0, cs0, f0, p0, q0, hg0, ht0, hv0, hd0, _, _⟩, _, _⟩ := h
  obtain rfl := Option.some.inj (gN.symm.trans hg0)
  obtain rfl := Option.some.inj (tN.symm.trans ht0)
  obtain ⟨xs, m1, rfl, hx1, hlen, hn3, hel⟩ := DataW.trod_array Tryd.underlying30 hd0
  have c9 : Tryd.prog.cellsOf 9 = 1 := by kernel_rfl
  simp only [Prod.mk.injEq] at hx1
  have hD : (Rows.laid_haymow_code_names : DataW Unit) = .agg (nm.map fun s => .lit (.string s.data.toList)) := rfl
  rw [hD] at hx1
  have hxs : nm.map (fun s => (DataW.lit (.string s.data.toList) : DataW Unit)) = xs.map (·.1) := by injection hx1.1
  intro k hk
  have hk' : k < nm.length := hk
  have hkx : k < xs.length := by
    have := congrArg List.length hxs
    simp at this
    omega
  have h1 := hel k (by omega)
  rw [List.getElem?_eq_getElem hkx] at h1
  obtain ⟨s, e1, e2, _⟩ := DataW.trod_string Tryd.underlying9 h1
  have h2 := congrArg (fun l => l[k]?) hxs
  simp only [List.getElem?_map, List.getElem?_eq_getElem hk', List.getElem?_eq_getElem hkx, Option.map_some, e2, Option.some.injEq, DataW.lit.injEq, Lit.string.injEq] at h2
  have hs : nmAt k = s := by
    unfold nmAt
    rw [List.getD_eq_getElem?_getD, List.getElem?_eq_getElem hk']
    exact bytes_inj h2
  have h3 := World.var?_cell hg0 hv0 k
  rw [h3, hs]
  rw [c9] at e1
  have h4 := congrArg (fun l => l[0]?) e1
  simpa [List.getElem?_take, List.getElem?_drop] using h4
end Go.Proofs.YtahojahplpcbiaaDoor
