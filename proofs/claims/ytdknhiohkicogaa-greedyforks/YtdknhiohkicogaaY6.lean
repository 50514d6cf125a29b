/-
  A slice of numbers, and a slice of such slices, that came in: what the walk is told of them.
-/
import Derived.Test.YtdknhiohkicogaaY5
import Derived.Deep.Slices
import Derived.Deep.Fields
import Derived.ChangeSame
import Derived.OpenShut
namespace Go.Proofs.Ytdknhiohkicogaa
open Go.RowKit Go.ChangeShapes Go.WideShapes Go.Deep

def In64 (z : Int) : Prop := -9223372036854775808 ≤ z ∧ z ≤ 9223372036854775807
/-- A slice of numbers that came in. -/
def NumsIn (w : World) (a : Option Addr) (len : Nat) (l : List Int) : Prop := len = l.length ∧ Rd w (fun b => b < w.heap.size) 1 a len (ic l) ∧ ∀ z ∈ l, In64 z
/-- A slice of slices of numbers that came in. -/
def RowsIn (w : World) (a : Option Addr) (len : Nat) (g : List (List Int)) : Prop := len = g.length ∧ GrAt w (fun b => b < w.heap.size) a g

section
variable {H : Type} {enc : TypeId × Value → H} {w : World} {base : Nat} {spare : Nat → Bool} {held : Bool}
theorem add_none (b off j : Nat) : (⟨b, off, none⟩ : Addr).add j = ⟨b, off + j, none⟩ := by
  unfold Addr.add
  by_cases e : j = 0
  · rw [if_pos e, e]; rfl
  · rw [if_neg e]

/-- A slice whose elements are one cell each. -/
theorem open_ones {α : Type} [Inhabited α] {P : Program} (Pr : α → Value → Prop) {t e : TypeId} (ht : P.underlying t = some (.slice e)) (hC : P.cellsOf e = 1)
    (hel : ∀ n v y', DataW.trod enc P w base spare held n e [v] = some y' → ∃ a, Pr a v) {fuel : Nat} {cs : List Value} {x : DataW H × List MemPlace} (h : DataW.trod enc P w base spare held fuel t cs = some x) :
    ∃ A len cap, cs = [.slice A len cap] ∧ ∃ l : List α, l.length = len ∧ ∀ (i : Nat) (y : α), l[i]? = some y → ∃ b off v, A = some ⟨b, off, none⟩ ∧ b < w.heap.size ∧ w.cell? ⟨b, off + i, none⟩ = some v ∧ Pr y v := by
  rcases open_slice ht h with ⟨h0, _⟩ | ⟨a, len, cap, m, n, D, Pl, hcs, hb, hl, hm, hmm, hx, hi⟩
  · exact ⟨none, 0, 0, h0, [], rfl, fun i y hy => by simp at hy⟩
  · have hlm : len ≤ m := by rw [hmm]; split <;> omega
    have key : ∀ i, i < len → ∃ v y, w.cell? (a.add i) = some v ∧ Pr y v := by
      intro i hil
      obtain ⟨cs', hc, ht'⟩ := hi i (by omega)
      rw [hC] at hc
      obtain ⟨_, hcl, hat⟩ := World.cells?_some hc
      obtain ⟨v, rfl⟩ : ∃ v, cs' = [v] := by
        match cs', hcl with
        | [v], _ => exact ⟨v, rfl⟩
      obtain ⟨y, hP⟩ := hel _ _ _ ht'
      refine ⟨v, y, ?_, hP⟩
      have := hat 0 (by omega)
      rw [Go.Deep.add_add] at this
      simpa using this
    have hne : ∀ i, i < len → ∃ b off, a = ⟨b, off, none⟩ ∧ b < w.heap.size := by
      intro i hil
      obtain ⟨v, y, h1, _⟩ := key 0 (by omega)
      obtain ⟨b, off, spot⟩ := a
      have hspot : spot = none := by
        have := World.cell?_spot h1
        simpa [Addr.add] using this
      subst hspot
      refine ⟨b, off, rfl, ?_⟩
      have := cell_lt h1
      simpa [Addr.add] using this
    let F : Nat → α := fun i => if h : i < len then (key i h).choose_spec.choose else default
    refine ⟨some a, len, cap, hcs, (List.range len).map F, by simp, fun i y hy => ?_⟩
    have hil : i < len := by have := lt_of hy; simpa using this
    rw [List.getElem?_map, List.getElem?_range hil] at hy
    simp only [Option.map_some, Option.some.injEq] at hy
    subst hy
    obtain ⟨b, off, rfl, hlt⟩ := hne i hil
    refine ⟨b, off, (key i hil).choose, rfl, hlt, ?_, ?_⟩
    · exact (congrArg w.cell? (add_none b off i)).symm.trans (key i hil).choose_spec.choose_spec.1
    · have := (key i hil).choose_spec.choose_spec.2
      simp only [F, dif_pos hil]
      exact this

theorem nums_of {fuel : Nat} {v : Value} {x : DataW H × List MemPlace} (h : DataW.trod enc Try.prog w base spare held fuel 24 [v] = some x) : ∃ A len cap l, v = .slice A len cap ∧ NumsIn w A len l := by
  obtain ⟨A, len, cap, hcs, l, hl, hat⟩ := open_ones (P := Try.prog) (fun (z : Int) v => v = .int .i64 z ∧ In64 z) Try.underlying24 (by kernel_rfl) (fun n v y' hv => by
    obtain ⟨z, e0, _, wz⟩ := DataW.trod_int Try.underlying3 hv
    simp at e0
    exact ⟨z, e0, bounds_i64 wz⟩) h
  simp at hcs
  refine ⟨A, len, cap, l, hcs, hl.symm, ⟨by rw [ic_length]; omega, fun hn => ?_⟩, fun z hz => ?_⟩
  · obtain ⟨z, hz⟩ := of_lt (show 0 < l.length by omega)
    obtain ⟨b, off, v', rfl, hlt, _, _⟩ := hat 0 z hz
    refine ⟨b, off, rfl, hlt, fun j u hu => ?_⟩
    obtain ⟨z', hz'⟩ := of_lt (show j < l.length by have := lt_of hu; rw [ic_length] at this; exact this)
    obtain ⟨b', off', v'', he, _, hc, rfl, _⟩ := hat j z' hz'
    injection he with he
    injection he with he1 he2
    subst he1; subst he2
    rw [ic_at hz'] at hu
    injection hu with hu
    subst hu
    exact hc
  · obtain ⟨i, hi⟩ := List.getElem?_of_mem hz
    obtain ⟨_, _, _, _, _, _, _, h64⟩ := hat i z hi
    exact h64

theorem open_nums {a : Option Addr} {len cap : Nat} {d : DataW H} {p : List MemPlace} (h : DataW.Trod enc Try.prog w base spare held 24 (.slice a len cap) d p) : ∃ l, NumsIn w a len l := by
  obtain ⟨fuel, hf⟩ := h
  obtain ⟨A, len', cap', l, hv, hN⟩ := nums_of (v := .slice a len cap) (by simpa [Value.cells] using hf)
  injection hv with h1 h2 h3
  subst h1; subst h2
  exact ⟨l, hN⟩

theorem open_rows {a : Option Addr} {len cap : Nat} {d : DataW H} {p : List MemPlace} (h : DataW.Trod enc Try.prog w base spare held 22 (.slice a len cap) d p) : ∃ g, RowsIn w a len g := by
  obtain ⟨fuel, hf⟩ := h
  obtain ⟨A, len', cap', hcs, l, hl, hat⟩ := open_ones (P := Try.prog) (fun (r : List Int) v => ∃ A n c, v = .slice A n c ∧ NumsIn w A n r) Try.underlying22 (by kernel_rfl) (fun n v y' hv => by
    obtain ⟨A, n, c, r, h1, h2⟩ := nums_of hv
    exact ⟨r, A, n, c, h1, h2⟩) hf
  simp [Value.cells] at hcs
  obtain ⟨rfl, rfl, rfl⟩ := hcs
  refine ⟨l, hl.symm, fun i row hi => ?_⟩
  obtain ⟨b, off, v, rfl, hlt, hc, A', n, c, rfl, hn, hr, _⟩ := hat i row hi
  subst hn
  exact ⟨b, off, A', c, rfl, hlt, hc, hr⟩
end
end Go.Proofs.Ytdknhiohkicogaa
