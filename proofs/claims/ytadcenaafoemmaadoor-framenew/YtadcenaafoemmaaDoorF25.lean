/-
  What comes in, opened: slices and arrays of numbers, a document's frame, what a new frame is made of, a case. No condition.
-/
import Derived.Test.YtadcenaafoemmaaDoorF24
import Derived.Test.YtadcenaafoemmaaDoorLaidV
import Derived.Deep.Slices
import Derived.Deep.Fields
import Derived.ChangeSame
import Derived.OpenShut
import Derived.Stop.Joined
import Derived.Lib.SmallJoins
namespace Go.Proofs.YtadcenaafoemmaaDoor
open Go.ChangeShapes Go.WideShapes Go.Deep Go.RowKit

section
variable {H : Type} {enc : TypeId × Value → H} {w : World} {base : Nat} {spare : Nat → Bool} {held : Bool}

def i64 (x : Int) : Prop := -9223372036854775808 ≤ x ∧ x ≤ 9223372036854775807
theorem i64_of {x : Int} (h : (Lit.int .i64 x).wf = true) : i64 x := by
  have hm : IntKind.i64.min = -9223372036854775808 := rfl
  have hM : IntKind.i64.max = 9223372036854775807 := rfl
  simp [Lit.wf, hm, hM] at h
  exact h
theorem open_num {t : TypeId} (ht : Tryd.prog.underlying t = some (.int .i64)) (n : Nat) (c : List Value) (y : DataW H × List MemPlace) (_ : c.length = 1) (h : DataW.trod enc Tryd.prog w base spare held n t c = some y) : ∃ a : Int, c = [.int .i64 a] ∧ i64 a := by
  obtain ⟨a, e, _, hw⟩ := DataW.trod_int ht h
  exact ⟨a, e, i64_of hw⟩
theorem flat_ints (l : List Int) : l.flatMap (fun a : Int => [Value.int .i64 a]) = l.map (Value.int .i64) := by
  induction l with
  | nil => rfl
  | cons a l ih => simp [ih]
/-- A slice of numbers. -/
theorem open_nums {t e : TypeId} (ht : Tryd.prog.underlying t = some (.slice e)) (he : Tryd.prog.underlying e = some (.int .i64)) (hc : Tryd.prog.cellsOf e = 1) {fuel : Nat} {cs : List Value} {x : DataW H × List MemPlace} (h : DataW.trod enc Tryd.prog w base spare held fuel t cs = some x) :
    ∃ A cap, ∃ l : List Int, cs = [.slice A l.length cap] ∧ IntsA w A l ∧ (∀ y ∈ l, i64 y) ∧ l.length ≤ cap ∧ cap ≤ maxLen := by
  obtain ⟨A, len, cap, hcs, hm1, hm2, l, hll, hRd, hP⟩ := open_list (P := Tryd.prog) (fun a : Int => [Value.int .i64 a]) i64 (s := 1) (by decide) ht hc (fun _ => rfl) (open_num he) h
  subst hll
  refine ⟨A, cap, l, hcs, fun h0 => ?_, hP, hm1, hm2⟩
  obtain ⟨b, off, e1, _, hcell⟩ := hRd.2 h0
  refine ⟨b, off, e1, fun j y hy => hcell j _ ?_⟩
  rw [flat_ints, List.getElem?_map, hy]
  rfl
theorem ints_of (cs : List Value) (key : ∀ i (h : i < cs.length), ∃ a : Int, cs[i] = .int .i64 a ∧ i64 a) : ∃ l : List Int, l.length = cs.length ∧ cs = ints l ∧ ∀ y ∈ l, i64 y := by
  induction cs with
  | nil => exact ⟨[], rfl, rfl, fun y h => by cases h⟩
  | cons c r ih =>
    obtain ⟨l, h1, h2, h3⟩ := ih (fun i hil => by have := key (i + 1) (by simp; omega); simpa using this)
    obtain ⟨a, h4, h5⟩ := key 0 (by simp)
    simp at h4
    refine ⟨a :: l, by simp [h1], by rw [h4, h2]; rfl, fun y hy => ?_⟩
    rcases List.mem_cons.1 hy with rfl | hy
    · exact h5
    · exact h3 y hy
/-- An array of numbers. -/
theorem open_array {t e : TypeId} {n : Nat} (ht : Tryd.prog.underlying t = some (.array n e)) (he : Tryd.prog.underlying e = some (.int .i64)) (hc : Tryd.prog.cellsOf e = 1) {fuel : Nat} {cs : List Value} (hl : cs.length = n) {x : DataW H × List MemPlace} (h : DataW.trod enc Tryd.prog w base spare held fuel t cs = some x) :
    ∃ l : List Int, l.length = n ∧ cs = ints l ∧ ∀ y ∈ l, i64 y := by
  obtain ⟨xs, m, _, _, _, hx, hi⟩ := DataW.trod_array ht h
  have key : ∀ i (h : i < cs.length), ∃ a : Int, cs[i] = .int .i64 a ∧ i64 a := fun i hil => by
    have h0 := hi i (by omega)
    rw [hc, List.getElem?_eq_getElem (by omega)] at h0
    rw [Nat.mul_one, List.drop_eq_getElem_cons hil] at h0
    simp only [List.take_succ_cons, List.take_zero] at h0
    obtain ⟨a, e1, _, hw⟩ := DataW.trod_int he h0
    simp at e1
    exact ⟨a, e1, i64_of hw⟩
  rw [← hl]
  exact ints_of cs key

/-- A document's frame in memory, its path's slice. -/
def docF (f : FR) (A : Option Addr) (c : Nat) : List Value := frL f.fn f.at_ f.steps f.kids (.slice A f.path.length c) f.regs f.hands
structure DocF (w : World) (f : FR) (A : Option Addr) : Prop where
  path : IntsA w A f.path
  r8 : f.regs.length = 8
  h4 : f.hands.length = 4
  fn : i64 f.fn
  at_ : i64 f.at_
  steps : i64 f.steps
  kids : i64 f.kids
set_option maxRecDepth 100000 in
theorem open_frame (n : Nat) (c : List Value) (y' : DataW H × List MemPlace) (hc : c.length = 17) (h : DataW.trod enc Tryd.prog w base spare held n 27 c = some y') : ∃ f A cp, c = docF f A cp ∧ DocF w f A := by
  obtain ⟨xs, m, _, _, _, hlen, hg⟩ := DataW.trod_struct Tryd.underlying27 h
  have c1 : Tryd.prog.cellsOf 3 = 1 := by kernel_rfl
  have c8 : Tryd.prog.cellsOf 24 = 8 := by kernel_rfl
  have c4 : Tryd.prog.cellsOf 25 = 4 := by kernel_rfl
  obtain ⟨u0, y0, e0, t0⟩ := field_one hlen hg (i := 0) rfl rfl c1 (by omega)
  obtain ⟨u1, y1, e1, t1⟩ := field_one hlen hg (i := 1) rfl rfl c1 (by omega)
  obtain ⟨u2, y2, e2, t2⟩ := field_one hlen hg (i := 2) rfl rfl c1 (by omega)
  obtain ⟨u3, y3, e3, t3⟩ := field_one hlen hg (i := 3) rfl rfl c1 (by omega)
  obtain ⟨u4, y4, e4, t4⟩ := field_one hlen hg (i := 4) rfl rfl (by kernel_rfl) (by omega)
  have t5 := hg 5 _ rfl
  have t6 := hg 6 _ rfl
  rw [List.getElem?_eq_getElem (by rw [hlen]; decide)] at t5 t6
  change DataW.trod enc Tryd.prog w base spare held m 24 ((c.drop 5).take (Tryd.prog.cellsOf 24)) = _ at t5
  change DataW.trod enc Tryd.prog w base spare held m 25 ((c.drop 13).take (Tryd.prog.cellsOf 25)) = _ at t6
  rw [c8] at t5
  rw [c4] at t6
  obtain ⟨l5, n5, m5, _⟩ := open_array Tryd.underlying24 Tryd.underlying2 (by kernel_rfl) (by simp; omega) t5
  obtain ⟨l6, n6, m6, _⟩ := open_array Tryd.underlying25 Tryd.underlying3 (by kernel_rfl) (by simp; omega) t6
  obtain ⟨a0, f0, w0⟩ := open_num Tryd.underlying3 _ _ _ rfl t0
  obtain ⟨a1, f1, w1⟩ := open_num Tryd.underlying3 _ _ _ rfl t1
  obtain ⟨a2, f2, w2⟩ := open_num Tryd.underlying3 _ _ _ rfl t2
  obtain ⟨a3, f3, w3⟩ := open_num Tryd.underlying3 _ _ _ rfl t3
  obtain ⟨A, cp, l4, f4, hA, _, _, _⟩ := open_nums Tryd.underlying23 Tryd.underlying3 (by kernel_rfl) t4
  simp only [List.cons.injEq, and_true] at f0 f1 f2 f3 f4
  subst f0 f1 f2 f3 f4
  refine ⟨⟨a0, a1, a2, a3, l4, l5, l6⟩, A, cp, ?_, hA, n5, n6, w0, w1, w2, w3⟩
  match c, hc with
  | [v0, v1, v2, v3, v4, v5, v6, v7, v8, v9, v10, v11, v12, v13, v14, v15, v16], _ =>
    simp at e0 e1 e2 e3 e4
    subst e0 e1 e2 e3 e4
    have m5' : [v5, v6, v7, v8, v9, v10, v11, v12] = ints l5 := m5
    have m6' : [v13, v14, v15, v16] = ints l6 := m6
    unfold docF frL
    rw [← m5', ← m6']
    rfl
end
end Go.Proofs.YtadcenaafoemmaaDoor
