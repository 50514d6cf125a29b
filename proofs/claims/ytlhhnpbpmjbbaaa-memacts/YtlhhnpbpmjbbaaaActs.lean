/-
  A slice of structs of five 64-bit numbers that came in: what the walk is told of it.
-/
import Derived.Test.YtlhhnpbpmjbbaaaArgs
import Derived.Test.YtlhhnpbpmjbbaaaProg
import Derived.Deep.Slices
import Derived.Deep.Fields
import Derived.ChangeSame
import Derived.KernelRfl
import Derived.OpenShut
namespace Go.Proofs.Ytlhhnpbpmjbbaaa
open Go.RowKit Go.ChangeShapes Go.WideShapes Go.Deep

/-- Element i's field j is f i j; each fits its kind. -/
def IsActs (w : World) (a : Option Addr) (len : Nat) (f : Nat → Nat → Int) : Prop :=
  len ≤ maxLen ∧ ∀ i, i < len → ∃ b off, a = some ⟨b, off, none⟩ ∧ ∀ j, j < 5 → w.cell? ⟨b, off + i * 5 + j, none⟩ = some (.int .i64 (f i j)) ∧ -9223372036854775808 ≤ f i j ∧ f i j ≤ 9223372036854775807

theorem actStruct : ∃ fs : Array Field, Try.prog.underlying 33 = some (.struct fs) ∧ fs.size = 5 ∧ oneCellFields Try.prog fs = true ∧ ∀ j, j < 5 → ∃ f, fs[j]? = some f ∧ Try.prog.underlying f.type = some (.int .i64) := by
  refine ⟨_, Try.underlying33, rfl, by kernel_rfl, fun j hj => ?_⟩
  match j, hj with
  | 0, _ => exact ⟨_, rfl, rfl⟩
  | 1, _ => exact ⟨_, rfl, rfl⟩
  | 2, _ => exact ⟨_, rfl, rfl⟩
  | 3, _ => exact ⟨_, rfl, rfl⟩
  | 4, _ => exact ⟨_, rfl, rfl⟩

section
variable {H : Type} {enc : TypeId × Value → H} {w : World} {base : Nat} {spare : Nat → Bool} {held : Bool}
theorem open_acts {a : Option Addr} {len cap : Nat} {d : DataW H} {p : List MemPlace} (h : DataW.Trod enc Try.prog w base spare held 23 (.slice a len cap) d p) : ∃ f, IsActs w a len f := by
  obtain ⟨fuel, hf⟩ := h
  rcases open_slice Try.underlying23 hf with ⟨h0, _⟩ | ⟨x, l, c, m, n, D, Pl, hcs, hb, hl, hm, hmm, hx, hi⟩
  · simp [Value.cells] at h0
    obtain ⟨rfl, rfl, rfl⟩ := h0
    exact ⟨fun _ _ => 0, by unfold maxLen; omega, fun i hi => absurd hi (by omega)⟩
  · simp [Value.cells] at hcs
    obtain ⟨rfl, rfl, rfl⟩ := hcs
    have hlm : len ≤ m := by rw [hmm]; split <;> omega
    have key : ∀ i, i < len → ∀ j, j < 5 → ∃ v : Int, w.cell? (x.add (i * 5 + j)) = some (.int .i64 v) ∧ -9223372036854775808 ≤ v ∧ v ≤ 9223372036854775807 := by
      intro i hil j hj
      obtain ⟨cs', hc, ht'⟩ := hi i (by omega)
      have hC : Try.prog.cellsOf 33 = 5 := by kernel_rfl
      rw [hC] at hc
      obtain ⟨fs, hst, hfs, hone, hfield⟩ := actStruct
      obtain ⟨ys, n', hn', hy, hlen, hyl, hfld⟩ := DataW.trod_struct hst ht'
      obtain ⟨_, hcl, hat⟩ := World.cells?_some hc
      have hcell := hat j hj
      have hv : cs'[j]? = some (cs'[j]'(by omega)) := List.getElem?_eq_getElem (by omega)
      rw [hv] at hcell
      have hone' : (cs'.drop j).take 1 = [cs'[j]'(by omega)] := by
        rw [List.drop_eq_getElem_cons (by omega)]
        rfl
      have hread : ∃ (t : TypeId) (y : DataW H × List MemPlace), Try.prog.underlying t = some (.int .i64) ∧ DataW.trod enc Try.prog w base spare held n' t [cs'[j]'(by omega)] = some y := by
        obtain ⟨f, hj', hu⟩ := hfield j hj
        obtain ⟨ho, hk⟩ := hone_of (P := Try.prog) hone j f hj'
        have h1 := hfld j f hj'
        rw [ho, hk, hone'] at h1
        exact ⟨f.type, _, hu, h1.trans (List.getElem?_eq_getElem (by omega))⟩
      obtain ⟨t, y, hu, hr⟩ := hread
      obtain ⟨v, e0, _, wv⟩ := DataW.trod_int hu hr
      simp at e0
      refine ⟨v, ?_, ?_⟩
      · rw [← Go.Deep.add_add, hcell, e0]
      · have := bounds_i64 wv; omega
    refine ⟨fun i j => if h : i < len ∧ j < 5 then (key i h.1 j h.2).choose else 0, by omega, fun i hi' => ?_⟩
    have h00 := (key i hi' 0 (by omega)).choose_spec.1
    obtain ⟨b, off, spot⟩ := x
    have hspot : spot = none := by
      obtain ⟨v, hv, _⟩ := key 0 (by omega) 0 (by omega)
      have := World.cell?_spot hv
      simpa [Addr.add] using this
    subst hspot
    refine ⟨b, off, rfl, fun j hj => ?_⟩
    have hk := (key i hi' j hj).choose_spec
    simp only [hi', hj, and_self, dif_pos]
    refine ⟨?_, hk.2⟩
    have hadd : (⟨b, off, none⟩ : Addr).add (i * 5 + j) = ⟨b, off + i * 5 + j, none⟩ := by
      unfold Addr.add
      by_cases e : i * 5 + j = 0
      · rw [if_pos e]
        have e1 : i * 5 = 0 := by omega
        have e2 : j = 0 := by omega
        rw [e1, e2]; rfl
      · rw [if_neg e]; simp [Nat.add_assoc]
    rw [← hadd]
    exact hk.1
end
end Go.Proofs.Ytlhhnpbpmjbbaaa
