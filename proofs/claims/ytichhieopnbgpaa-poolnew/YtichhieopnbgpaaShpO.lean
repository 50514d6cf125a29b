/-
  A shape as an argument is seven numbers. No condition.
-/
import Derived.Test.YtichhieopnbgpaaP22
import Derived.Deep.AppendLies
import Derived.Deep.Strs
import Derived.Laws.IdiomArrays
import Derived.ProofKit
import Derived.OpenShut
import Derived.ShutString
import Derived.ChangeOld
namespace Go.Proofs.Ytichhieopnbgpaa
open Go.ChangeShapes Go.WideShapes Go.ChangeAt Go.RowKit

def ShI.wf (z : ShI) : Prop := (Lit.int .i64 z.k).wf = true ∧ (Lit.int .i64 z.s0).wf = true ∧ (Lit.int .i64 z.s1).wf = true ∧ (Lit.int .i64 z.s2).wf = true ∧ (Lit.int .i64 z.m0).wf = true ∧ (Lit.int .i64 z.m1).wf = true ∧ (Lit.int .i64 z.m2).wf = true
theorem array7 {α : Type} {cs : Array α} (h : cs.size = 7) : ∃ c0 c1 c2 c3 c4 c5 c6, cs = #[c0, c1, c2, c3, c4, c5, c6] := by
  obtain ⟨l⟩ := cs
  match l, h with
  | [c0, c1, c2, c3, c4, c5, c6], _ => exact ⟨c0, c1, c2, c3, c4, c5, c6, rfl⟩
section
variable {H : Type} {enc : TypeId × Value → H} {W : World} {base b0 : Nat} {spare : Nat → Bool} {held : Bool} {r : Reach} {v : Value} {d : DataW H} {p : List MemPlace}
theorem open_arr3 {n : Nat} {c0 c1 c2 : Value} {y : DataW H × List MemPlace} (h : DataW.trod enc Try.prog W base spare held n 24 [c0, c1, c2] = some y) :
    ∃ a0 a1 a2 : Int, c0 = .int .i64 a0 ∧ c1 = .int .i64 a1 ∧ c2 = .int .i64 a2 ∧ (Lit.int .i64 a0).wf = true ∧ (Lit.int .i64 a1).wf = true ∧ (Lit.int .i64 a2).wf = true := by
  obtain ⟨xs, m, _, _, _, hx, hi⟩ := DataW.trod_array Try.underlying24 h
  have g : ∀ i, i < 3 → ∃ y, xs[i]? = some y := fun i hi' => ⟨xs[i], List.getElem?_eq_getElem (by omega)⟩
  obtain ⟨y0, e0⟩ := g 0 (by decide)
  obtain ⟨y1, e1⟩ := g 1 (by decide)
  obtain ⟨y2, e2⟩ := g 2 (by decide)
  have h0 := hi 0 (by decide)
  have h1 := hi 1 (by decide)
  have h2 := hi 2 (by decide)
  rw [show Try.prog.cellsOf 3 = 1 by kernel_rfl] at h0 h1 h2
  obtain ⟨a0, f0, _, w0⟩ := DataW.trod_int Try.underlying3 (h0.trans e0)
  obtain ⟨a1, f1, _, w1⟩ := DataW.trod_int Try.underlying3 (h1.trans e1)
  obtain ⟨a2, f2, _, w2⟩ := DataW.trod_int Try.underlying3 (h2.trans e2)
  simp at f0 f1 f2
  subst f0 f1 f2
  exact ⟨a0, a1, a2, rfl, rfl, rfl, w0, w1, w2⟩
theorem open_shape (hv : Value.okWide Try.prog W r b0 26 v) (h : DataW.Trod enc Try.prog W base spare held 26 v d p) :
    ∃ z : ShI, v = .agg z.cells ∧ z.wf := by
  have ht := Try.underlying26
  obtain ⟨cs, rfl, hsz⟩ := okWide_struct ht hv
  have hc : Try.prog.cellsOf 26 = 7 := by kernel_rfl
  obtain ⟨c0, c1, c2, c3, c4, c5, c6, rfl⟩ := array7 (hsz.trans hc)
  obtain ⟨fuel, hf⟩ := h
  obtain ⟨y0, y1, y2, n, _, _, h0, h1, h2⟩ := Go.Deep.trod_struct3 ht hf
  rw [show Try.prog.cellsOf 3 = 1 by kernel_rfl] at h0
  rw [show Try.prog.cellsOf 24 = 3 by kernel_rfl] at h1 h2
  obtain ⟨k, f0, _, w0⟩ := DataW.trod_int Try.underlying3 h0
  obtain ⟨s0, s1, s2, e1, e2, e3, w1, w2, w3⟩ := open_arr3 h1
  obtain ⟨m0, m1, m2, e4, e5, e6, w4, w5, w6⟩ := open_arr3 h2
  simp [Value.cells] at f0
  subst f0 e1 e2 e3 e4 e5 e6
  exact ⟨⟨k, s0, s1, s2, m0, m1, m2⟩, rfl, w0, w1, w2, w3, w4, w5, w6⟩
end
end Go.Proofs.Ytichhieopnbgpaa
