/-
  A program that Read has made, as Write and Check take it.
-/
import Derived.Test.YtjfeoigclkelfaaDoorRd4
import Derived.Test.YtjfeoigclkelfaaDoorPureB
namespace Go.Proofs.YtjfeoigclkelfaaDoor
open Go.RowKit

theorem Good.row {w : World} {base : Nat} {x : LFn} (h : Good w base x) : InsRow w (fun b => b < w.heap.size) x.A x.f.code := by
  obtain ⟨g, h1, _, _, h4⟩ := h
  rw [h1]
  exact Rd.of_blk h4 (flat_length Ins.cells 5 Ins.cells_length _) h4.lt
theorem made_row {w : World} {base g : Nat} {L : List LFn} (hB : Blk w g 41 (L.flatMap LFn.cells).toArray) (hg : ∀ x ∈ L, Good w base x) : FnRow w (fun b => b < w.heap.size) (some ⟨g, 0, none⟩) L :=
  ⟨Rd.of_blk hB (flat_length LFn.cells 2 LFn.cells_length _) hB.lt, fun x hx => (hg x hx).row⟩
theorem room_bytes (L : List LFn) : (progBytes (fns L)).length = 1 + room L := by
  have : (fns L).flatMap Fn.bytes = L.flatMap fun x => x.f.bytes := by simp [fns, List.flatMap_map]
  simp only [progBytes, List.length_cons]
  rw [this, bytes_room]
  omega
end Go.Proofs.YtjfeoigclkelfaaDoor
