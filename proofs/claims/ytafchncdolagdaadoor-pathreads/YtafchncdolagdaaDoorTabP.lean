/-
  The powers of ten, as they were laid; strconv.Itoa tells digits by them.
-/
import Derived.Test.YtafchncdolagdaaDoorPureT
import Derived.Test.YtafchncdolagdaaDoorLaidP
import Derived.Stop.LaidErr
import Derived.Sort.Grow
namespace Go.Proofs.YtafchncdolagdaaDoor
open Go.ChangeShapes Go.WideShapes Go.ChangeAt Go.RowKit

abbrev Tab (w : World) : Prop := Lib.TabIs Tryd.prog w "internal/strconv.uint64pow10" .u64 Lib.pow10Tab
theorem gT : ∃ g, Tryd.prog.globalNamed "internal/strconv.uint64pow10" = some g ∧ (Tryd.prog.globals[g]?).map (·.type) = some 80 := ⟨1, by kernel_rfl, by kernel_rfl⟩

theorem tab_of {W : World} (h : laidMetH Tryd.prog laidN W) : Tab W := by
  rw [MakeChecks.laidMetH_plain _ _ _ (by kernel_rfl)] at h
  obtain ⟨g, hg, ht⟩ := gT
  exact Lib.tabIs_of_head (rest := []) hg ht Tryd.underlying80 Tryd.underlying68 (by kernel_rfl) (by kernel_rfl) (laidMet.tail (laidMet.tail h))

theorem Tab.fr {w w' : World} (h : Tab w) (hf : Fr (fun _ => False) w w') : Tab w' := by
  unfold Tab Lib.TabIs World.var? at h ⊢
  obtain ⟨g, hg, _⟩ := gT
  rw [hg] at h ⊢
  simp only [Option.bind_some] at h ⊢
  have hlt : g < w.heap.size := by
    rcases Nat.lt_or_ge g w.heap.size with h1 | h1
    · exact h1
    · rw [Array.getElem?_eq_none h1] at h; cases h
  rw [hf.block g hlt (fun h => h)]
  exact h

theorem tells_all (w : World) (hT : Tab w) (xs : List Int) (h : ∀ x ∈ xs, (Lit.int .i64 x).wf = true) : Tells w xs := by
  intro wx hF x hx
  have hb := bounds_i64 (h x hx)
  refine (Tryd.strconv_Itoa x (by omega) (by omega) wx (hT.fr hF)).mono ?_
  rintro e w' ⟨rfl, k, os, rfl⟩
  exact ⟨rfl, ⟨rfl, rfl, rfl, by simp, fun i hi _ => Sort.heap_grow_old _ _ hi⟩⟩
end Go.Proofs.YtafchncdolagdaaDoor
