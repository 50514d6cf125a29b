/-
  Bytes that came in, and a program that Read has made, as Write and Read take them.
-/
import Derived.Test.YtahojahplpcbiaaRd4
import Derived.Test.YtahojahplpcbiaaAwk
import Derived.Test.YtahojahplpcbiaaPureB
import Derived.ProofKit
import Derived.OpenShut
namespace Go.Proofs.Ytahojahplpcbiaa
open Go.RowKit Go.ChangeShapes Go.WideShapes

/-- A slice of integers that came in: it is nil; or it leads to a row of 'cap' cells, the numbers zs. -/
def IsRow (k : IntKind) (w : World) (a : Option Addr) (len cap : Nat) (zs : List Int) : Prop :=
  (a = none ∧ len = 0 ∧ cap = 0 ∧ zs = []) ∨
  ∃ x, a = some x ∧ len ≤ cap ∧ cap ≤ maxLen ∧ zs.length = cap ∧ (∀ i, i < zs.length → w.cell? (x.add i) = some (.int k (zs.getD i 0))) ∧ ∀ n ∈ zs, (Lit.int k n).wf = true

/-- The bytes of such a slice. -/
theorem IsRow.bytes {w : World} {a : Option Addr} {len cap : Nat} {zs : List Int} (h : IsRow .u8 w a len cap zs) :
    ∃ bs : List Int, bs.length = len ∧ Rd w (fun b => b < w.heap.size) 1 a len (by8 bs) ∧ AllB bs ∧ len ≤ cap ∧ cap ≤ maxLen := by
  rcases h with ⟨rfl, rfl, rfl, rfl⟩ | ⟨x, rfl, hl, hm, hz, hc, hw⟩
  · exact ⟨[], rfl, Rd.nil, (fun x hx => by cases hx), Nat.le_refl _, by omega⟩
  · have htl : (zs.take len).length = len := by rw [List.length_take]; omega
    refine ⟨zs.take len, htl, ⟨by simp [by8]; omega, fun hn => ?_⟩, fun y hy => ?_, hl, hm⟩
    · have hc0 := hc 0 (by omega)
      obtain ⟨b, off, spot⟩ := x
      have hs := World.cell?_spot hc0
      have hspot : spot = none := by simpa [Addr.add] using hs
      subst hspot
      have hb : b < w.heap.size := by
        have := cell_lt hc0
        simpa [Addr.add] using this
      refine ⟨b, off, rfl, hb, fun j u hu => ?_⟩
      have hjl : j < len := by
        have := (List.getElem?_eq_some_iff.1 hu).1
        simp [by8] at this
        omega
      have hcj := hc j (by omega)
      have hadd : (⟨b, off, none⟩ : Addr).add j = ⟨b, off + j, none⟩ := by unfold Addr.add; split <;> simp_all
      rw [hadd] at hcj
      rw [hcj]
      have : u = .int .u8 (zs.getD j 0) := by
        simp only [by8, List.getElem?_map, List.getElem?_take, if_pos hjl] at hu
        rw [List.getD_eq_getElem?_getD]
        cases hz' : zs[j]? with
        | none => rw [hz'] at hu; cases hu
        | some y => rw [hz'] at hu; simp at hu; simp [hu]
      rw [this]
    · have := bounds_u8 (hw y (List.mem_of_mem_take hy))
      omega

theorem Good.row {w : World} {base : Nat} {x : LFn} (h : Good w base x) : InsRow w (fun b => b < w.heap.size) x.A x.f.code := by
  obtain ⟨g, h1, _, _, h4⟩ := h
  rw [h1]
  exact Rd.of_blk h4 (flat_length Ins.cells 5 Ins.cells_length _) h4.lt
theorem made_row {w : World} {base g : Nat} {L : List LFn} (hB : Blk w g 47 (L.flatMap LFn.cells).toArray) (hg : ∀ x ∈ L, Good w base x) : FnRow w (fun b => b < w.heap.size) (some ⟨g, 0, none⟩) L :=
  ⟨Rd.of_blk hB (flat_length LFn.cells 2 LFn.cells_length _) hB.lt, fun x hx => (hg x hx).row⟩
theorem room_bytes (L : List LFn) : (progBytes (fns L)).length = 1 + room L := by
  have : (fns L).flatMap Fn.bytes = L.flatMap fun x => x.f.bytes := by simp [fns, List.flatMap_map]
  simp only [progBytes, List.length_cons]
  rw [this, bytes_room]
  omega
end Go.Proofs.Ytahojahplpcbiaa
