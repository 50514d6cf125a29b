/-
  A slice of acts (three 64-bit numbers) that came in: what the walk is told of it.
-/
import Derived.Test.YtichhieopnbgpaaP22
import Derived.Deep.Slices
import Derived.Deep.Fields
import Derived.ChangeSame
namespace Go.Proofs.Ytichhieopnbgpaa
open Go.RowKit Go.ChangeShapes Go.WideShapes Go.Deep

def Fits (z : Int) : Prop := -9223372036854775808 ≤ z ∧ z ≤ 9223372036854775807
/-- Element i is f i; each number fits its kind. -/
def IsActs (w : World) (a : Option Addr) (len : Nat) (f : Nat → Int × Int × Int) : Prop :=
  len ≤ maxLen ∧ ∀ i, i < len → ∃ b off, a = some ⟨b, off, none⟩ ∧ w.cell? ⟨b, off + i * 3, none⟩ = some (.int .i64 (f i).1) ∧ w.cell? ⟨b, off + i * 3 + 1, none⟩ = some (.int .i64 (f i).2.1) ∧ w.cell? ⟨b, off + i * 3 + 2, none⟩ = some (.int .i64 (f i).2.2) ∧ Fits (f i).1 ∧ Fits (f i).2.1 ∧ Fits (f i).2.2

theorem actStruct : ∃ fs : Array Field, Try.prog.underlying 41 = some (.struct fs) ∧ fs.size = 3 ∧ oneCellFields Try.prog fs = true ∧ ∀ j, j < 3 → ∃ f, fs[j]? = some f ∧ Try.prog.underlying f.type = some (.int .i64) := by
  refine ⟨_, Try.underlying41, rfl, by kernel_rfl, fun j hj => ?_⟩
  match j, hj with
  | 0, _ => exact ⟨_, rfl, rfl⟩
  | 1, _ => exact ⟨_, rfl, rfl⟩
  | 2, _ => exact ⟨_, rfl, rfl⟩

section
variable {H : Type} {enc : TypeId × Value → H} {w : World} {base : Nat} {spare : Nat → Bool} {held : Bool}
theorem open_acts {a : Option Addr} {len cap : Nat} {d : DataW H} {p : List MemPlace} (h : DataW.Trod enc Try.prog w base spare held 23 (.slice a len cap) d p) : ∃ f, IsActs w a len f := by
  obtain ⟨fuel, hf⟩ := h
  rcases open_slice Try.underlying23 hf with ⟨h0, _⟩ | ⟨x, l, c, m, n, D, Pl, hcs, hb, hl, hm, hmm, hx, hi⟩
  · simp [Value.cells] at h0
    obtain ⟨rfl, rfl, rfl⟩ := h0
    exact ⟨fun _ => (0, 0, 0), by unfold maxLen; omega, fun i hi => absurd hi (by omega)⟩
  · simp [Value.cells] at hcs
    obtain ⟨rfl, rfl, rfl⟩ := hcs
    have hlm : len ≤ m := by rw [hmm]; split <;> omega
    have key : ∀ i, i < len → ∀ j, j < 3 → ∃ v : Int, w.cell? (x.add (i * 3 + j)) = some (.int .i64 v) ∧ Fits v := by
      intro i hil
      obtain ⟨cs', hc, ht'⟩ := hi i (by omega)
      have hC : Try.prog.cellsOf 41 = 3 := by kernel_rfl
      rw [hC] at hc
      obtain ⟨fs, hst, hfs, hone, hfield⟩ := actStruct
      obtain ⟨ys, n', hn', hy, hlen, hyl, hfld⟩ := DataW.trod_struct hst ht'
      obtain ⟨_, hcl, hat⟩ := World.cells?_some hc
      have hone' : ∀ j (hj : j < 3), (cs'.drop j).take 1 = [cs'[j]'(by omega)] := by
        intro j hj
        rw [List.drop_eq_getElem_cons (by omega)]
        rfl
      have hcell : ∀ j (hj : j < 3), w.cell? (x.add (i * 3 + j)) = some (cs'[j]'(by omega)) := by
        intro j hj
        rw [← Go.Deep.add_add, hat j hj]
        exact List.getElem?_eq_getElem (by omega)
      have hread : ∀ j (hj : j < 3) f, fs[j]? = some f → ∃ y : DataW H × List MemPlace, DataW.trod enc Try.prog w base spare held n' f.type [cs'[j]'(by omega)] = some y := by
        intro j hj f hj'
        obtain ⟨ho, hk⟩ := hone_of (P := Try.prog) hone j f hj'
        have h1 := hfld j f hj'
        rw [ho, hk, hone' j hj] at h1
        exact ⟨_, h1.trans (List.getElem?_eq_getElem (by omega))⟩
      intro j hj
      obtain ⟨f, hfj, hu⟩ := hfield j hj
      obtain ⟨y, hr⟩ := hread j hj f hfj
      obtain ⟨v, e0, _, wv⟩ := DataW.trod_int hu hr
      simp at e0
      refine ⟨v, by rw [hcell j hj, e0], ?_⟩
      have hm : IntKind.i64.min = -9223372036854775808 := rfl
      have hM : IntKind.i64.max = 9223372036854775807 := rfl
      simp [Lit.wf, hm, hM] at wv
      exact wv
    refine ⟨fun i => if h : i < len then ((key i h 0 (by omega)).choose, (key i h 1 (by omega)).choose, (key i h 2 (by omega)).choose) else (0, 0, 0), by omega, fun i hi' => ?_⟩
    obtain ⟨b, off, spot⟩ := x
    have hspot : spot = none := by
      obtain ⟨v, hv, _⟩ := key 0 (by omega) 0 (by omega)
      have := World.cell?_spot hv
      simpa [Addr.add] using this
    subst hspot
    refine ⟨b, off, rfl, ?_⟩
    have k0 := (key i hi' 0 (by omega)).choose_spec
    have k1 := (key i hi' 1 (by omega)).choose_spec
    have k2 := (key i hi' 2 (by omega)).choose_spec
    simp only [hi', dif_pos]
    have hadd : ∀ j, (⟨b, off, none⟩ : Addr).add j = ⟨b, off + j, none⟩ := by
      intro j
      unfold Addr.add
      by_cases e : j = 0
      · rw [if_pos e, e]; rfl
      · rw [if_neg e]
    have e0 : (⟨b, off + i * 3, none⟩ : Addr) = (⟨b, off, none⟩ : Addr).add (i * 3 + 0) := by rw [hadd, Nat.add_zero]
    have e1 : (⟨b, off + i * 3 + 1, none⟩ : Addr) = (⟨b, off, none⟩ : Addr).add (i * 3 + 1) := by rw [hadd, Nat.add_assoc]
    have e2 : (⟨b, off + i * 3 + 2, none⟩ : Addr) = (⟨b, off, none⟩ : Addr).add (i * 3 + 2) := by rw [hadd, Nat.add_assoc]
    rw [e0, e1, e2]
    exact ⟨k0.1, k1.1, k2.1, k0.2, k1.2, k2.2⟩
end
theorem IsActs.fr {w w' : World} {a : Option Addr} {len : Nat} {f : Nat → Int × Int × Int} (h : IsActs w a len f) (hf : Fr F0 w w') : IsActs w' a len f := by
  refine ⟨h.1, fun i hi => ?_⟩
  obtain ⟨b, off, e, c0, c1, c2, r⟩ := h.2 i hi
  exact ⟨b, off, e, hf.held c0 (fun h => h), hf.held c1 (fun h => h), hf.held c2 (fun h => h), r⟩
end Go.Proofs.Ytichhieopnbgpaa
