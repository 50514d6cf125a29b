/-
  A slice of the document's functions that came in, opened.
-/
import Derived.Test.YtadcenaafoemmaaDoorOfV
import Derived.Deep.Slices
import Derived.Deep.Fields
import Derived.ChangeSame
import Derived.OpenShut
namespace Go.Proofs.YtadcenaafoemmaaDoor
open Go.ChangeShapes Go.WideShapes Go.Deep Go.RowKit

theorem Made.row {w : World} {base : Nat} {v : Value} {L : List LFn} (h : Made w base v L) : ∃ A c, v = .slice A L.length c ∧ FnRow w (fun b => b < w.heap.size) A L := by
  obtain ⟨A, c, rfl⟩ := own_slice h.1
  exact ⟨A, c, rfl, (Rd.of_own h.1).mono (fun _ h => h.2), fun x hx => (Rd.of_own (h.2 x hx)).mono (fun _ h => h.2)⟩

section
variable {H : Type} {enc : TypeId × Value → H} {w : World} {base : Nat} {spare : Nat → Bool} {held : Bool}

/-- A field of one cell, in a struct that is read by its cells. -/
theorem field_one {P : Program} {fs : Array Field} {cs : List Value} {xs : List (DataW H × List MemPlace)} {n : Nat} (hlen : xs.length = fs.size)
    (hg : ∀ (i : Nat) (f : Field), fs[i]? = some f → DataW.trod enc P w base spare held n f.type ((cs.drop f.offset).take (P.cellsOf f.type)) = xs[i]?)
    {i : Nat} {f : Field} (hf : fs[i]? = some f) (ho : f.offset = i) (hc : P.cellsOf f.type = 1) (hi : i < cs.length) : ∃ u y, cs[i]? = some u ∧ DataW.trod enc P w base spare held n f.type [u] = some y := by
  have hlt : i < fs.size := (Array.getElem?_eq_some_iff.1 hf).1
  have h := hg i f hf
  rw [ho, hc, List.getElem?_eq_getElem (by omega)] at h
  have h1 : (cs.drop i).take 1 = [cs[i]] := by
    rw [List.drop_eq_getElem_cons hi]; rfl
  rw [h1] at h
  exact ⟨_, _, List.getElem?_eq_getElem hi, h⟩

/-- A slice whose elements read as values of α. -/
theorem open_list {α : Type} [Inhabited α] {P : Program} (g : α → List Value) (Pr : α → Prop) {t e : TypeId} {s : Nat} (hs : 0 < s) (ht : P.underlying t = some (.slice e)) (hC : P.cellsOf e = s) (hgl : ∀ y, (g y).length = s)
    (hel : ∀ n c y', c.length = s → DataW.trod enc P w base spare held n e c = some y' → ∃ a, c = g a ∧ Pr a) {fuel : Nat} {cs : List Value} {x : DataW H × List MemPlace} (h : DataW.trod enc P w base spare held fuel t cs = some x) :
    ∃ A len cap, cs = [.slice A len cap] ∧ len ≤ cap ∧ cap ≤ maxLen ∧ ∃ l : List α, l.length = len ∧ Rd w (fun b => b < w.heap.size) s A len (l.flatMap g) ∧ ∀ y ∈ l, Pr y := by
  rcases open_slice ht h with ⟨h0, _⟩ | ⟨a, len, cap, m, n, D, Pl, hcs, hb, hl, hm, hmm, hx, hi⟩
  · exact ⟨none, 0, 0, h0, Nat.le_refl _, by unfold maxLen; omega, [], rfl, Rd.nil, fun y hy => by cases hy⟩
  · refine ⟨some a, len, cap, hcs, hl, hm, ?_⟩
    have hlm : len ≤ m := by rw [hmm]; split <;> omega
    have key : ∀ i, i < len → ∃ y, Pr y ∧ ∀ r, r < s → w.cell? (a.add (i * s + r)) = (g y)[r]? := by
      intro i hil
      obtain ⟨cs', hc, ht'⟩ := hi i (by omega)
      rw [hC] at hc
      obtain ⟨_, hcl, hat⟩ := World.cells?_some hc
      obtain ⟨y, rfl, hP⟩ := hel _ _ _ hcl ht'
      refine ⟨y, hP, fun r hr => ?_⟩
      rw [← Go.Deep.add_add]
      exact hat r hr
    let F : Nat → α := fun i => if h : i < len then (key i h).choose else default
    have hF : ∀ i (h : i < len), Pr (F i) ∧ ∀ r, r < s → w.cell? (a.add (i * s + r)) = (g (F i))[r]? := fun i h => by
      have := (key i h).choose_spec
      simp only [F, dif_pos h]
      exact this
    refine ⟨(List.range len).map F, by simp, ⟨?_, fun hn => ?_⟩, fun y hy => ?_⟩
    · rw [flat_length g s hgl]; simp
    · have h00 := (hF 0 hn).2 0 hs
      have hg0 : (g (F 0))[0]? = some ((g (F 0))[0]'(by rw [hgl]; exact hs)) := List.getElem?_eq_getElem _
      rw [hg0] at h00
      obtain ⟨b, off, spot⟩ := a
      have hspot : spot = none := by
        have := World.cell?_spot h00
        simpa [Addr.add] using this
      subst hspot
      refine ⟨b, off, rfl, ?_, fun j u hu => ?_⟩
      · have := cell_lt h00
        simpa [Addr.add] using this
      · have hjl : j < len * s := by
          have := (List.getElem?_eq_some_iff.1 hu).1
          rw [flat_length g s hgl] at this
          simpa using this
        have hk : j / s < len := Nat.div_lt_of_lt_mul (by rw [Nat.mul_comm]; exact hjl)
        have hr : j % s < s := Nat.mod_lt _ hs
        have hj : j / s * s + j % s = j := by rw [Nat.mul_comm]; exact Nat.div_add_mod j s
        have hat := flat_at g s hgl ((List.range len).map F) (j / s) (j % s) (F (j / s)) (by rw [List.getElem?_map, List.getElem?_range hk]; rfl) hr
        rw [hj, hu] at hat
        have hc := (hF _ hk).2 _ hr
        rw [hj, ← hat] at hc
        have hadd : (⟨b, off, none⟩ : Addr).add j = ⟨b, off + j, none⟩ := by unfold Addr.add; split <;> simp_all
        rw [hadd] at hc
        exact hc
    · obtain ⟨i, hi', rfl⟩ := List.mem_map.1 hy
      exact (hF i (List.mem_range.1 hi')).1

theorem field_num {P : Program} {fs : Array Field} {cs : List Value} {xs : List (DataW H × List MemPlace)} {n : Nat} (hlen : xs.length = fs.size)
    (hg : ∀ (i : Nat) (f : Field), fs[i]? = some f → DataW.trod enc P w base spare held n f.type ((cs.drop f.offset).take (P.cellsOf f.type)) = xs[i]?)
    {i : Nat} {f : Field} (hf : fs[i]? = some f) (ho : f.offset = i) (hc : P.cellsOf f.type = 1) (hi : i < cs.length) (hu : P.underlying f.type = some (.int .i64)) : ∃ m : Int, cs[i]? = some (.int .i64 m) := by
  obtain ⟨u, y, h1, h2⟩ := field_one hlen hg hf ho hc hi
  obtain ⟨m, e, _, _⟩ := DataW.trod_int hu h2
  simp at e
  exact ⟨m, by rw [h1, e]⟩

set_option maxRecDepth 100000 in
theorem open_ins (n : Nat) (c : List Value) (y' : DataW H × List MemPlace) (hc : c.length = 5) (h : DataW.trod enc Tryd.prog w base spare held n 94 c = some y') : ∃ a : Ins, c = a.cells ∧ True := by
  obtain ⟨xs, m, _, _, _, hlen, hg⟩ := DataW.trod_struct Tryd.underlying94 h
  obtain ⟨n0, e0⟩ := field_num hlen hg (i := 0) rfl rfl (by kernel_rfl) (by omega) Tryd.underlying3
  obtain ⟨n1, e1⟩ := field_num hlen hg (i := 1) rfl rfl (by kernel_rfl) (by omega) Tryd.underlying3
  obtain ⟨n2, e2⟩ := field_num hlen hg (i := 2) rfl rfl (by kernel_rfl) (by omega) Tryd.underlying3
  obtain ⟨n3, e3⟩ := field_num hlen hg (i := 3) rfl rfl (by kernel_rfl) (by omega) Tryd.underlying3
  obtain ⟨n4, e4⟩ := field_num hlen hg (i := 4) rfl rfl (by kernel_rfl) (by omega) Tryd.underlying3
  refine ⟨⟨n0, n1, n2, n3, n4⟩, ?_, trivial⟩
  match c, hc with
  | [c0, c1, c2, c3, c4], _ =>
    simp at e0 e1 e2 e3 e4
    subst e0 e1 e2 e3 e4
    rfl

instance : Inhabited Ins := ⟨⟨0, 0, 0, 0, 0⟩⟩
instance : Inhabited LFn := ⟨⟨⟨0, []⟩, none, 0⟩⟩

set_option maxRecDepth 100000 in
theorem open_fn (n : Nat) (c : List Value) (y' : DataW H × List MemPlace) (hc : c.length = 2) (h : DataW.trod enc Tryd.prog w base spare held n 52 c = some y') : ∃ a : LFn, c = a.cells ∧ InsRow w (fun b => b < w.heap.size) a.A a.f.code := by
  obtain ⟨xs, m, _, _, _, hlen, hg⟩ := DataW.trod_struct Tryd.underlying52 h
  obtain ⟨n0, e0⟩ := field_num hlen hg (i := 0) rfl rfl (by kernel_rfl) (by omega) Tryd.underlying3
  obtain ⟨u, y, e1, h1⟩ := field_one hlen hg (i := 1) rfl rfl (by kernel_rfl) (by omega)
  obtain ⟨A, len, cap, hu, _, _, l, hll, hRd, _⟩ := open_list (P := Tryd.prog) Ins.cells (fun _ => True) (s := 5) (by decide) Tryd.underlying50 (by kernel_rfl) Ins.cells_length open_ins h1
  simp at hu
  subst hu
  subst hll
  refine ⟨⟨⟨n0, l⟩, A, cap⟩, ?_, hRd⟩
  match c, hc with
  | [c0, c1], _ =>
    simp at e0 e1
    subst e0 e1
    rfl

/-- The argument. -/
theorem open_prog {a : Option Addr} {len cap : Nat} {d : DataW H} {p : List MemPlace} (h : DataW.Trod enc Tryd.prog w base spare held 22 (.slice a len cap) d p) :
    ∃ L : List LFn, L.length = len ∧ FnRow w (fun b => b < w.heap.size) a L := by
  obtain ⟨fuel, hf⟩ := h
  obtain ⟨A, len', cap', hcs, _, _, l, hll, hRd, hP⟩ := open_list (P := Tryd.prog) LFn.cells (fun x => InsRow w (fun b => b < w.heap.size) x.A x.f.code) (s := 2) (by decide) Tryd.underlying22 (by kernel_rfl) LFn.cells_length open_fn hf
  simp [Value.cells] at hcs
  obtain ⟨rfl, rfl, rfl⟩ := hcs
  subst hll
  exact ⟨l, rfl, hRd, hP⟩
end
end Go.Proofs.YtadcenaafoemmaaDoor
