/-
  Rows of instructions and of functions in memory.
-/
import Derived.Test.YtadcenaafoemmaaDoorPu
namespace Go.Proofs.YtadcenaafoemmaaDoor
open Go.RowKit

def Ins.cells (x : Ins) : List Value := [.int .i64 x.op, .int .i64 x.a, .int .i64 x.b, .int .i64 x.c, .int .i64 x.k]
def Ins.val (x : Ins) : Value := .agg x.cells.toArray
theorem Ins.cells_length (x : Ins) : x.cells.length = 5 := rfl

def InsRow (w : World) (Q : Nat → Prop) (A : Option Addr) (l : List Ins) : Prop := Rd w Q 5 A l.length (l.flatMap Ins.cells)

theorem InsRow.at_ {w : World} {Q : Nat → Prop} {A : Option Addr} {l : List Ins} (h : InsRow w Q A l) {k : Nat} {x : Ins} (hx : l[k]? = some x) :
    ∃ b off, A = some ⟨b, off, none⟩ ∧ Q b ∧ w.cell? ⟨b, off + k * 5, none⟩ = some (.int .i64 x.op) ∧ w.cell? ⟨b, off + k * 5 + 1, none⟩ = some (.int .i64 x.a) ∧ w.cell? ⟨b, off + k * 5 + 2, none⟩ = some (.int .i64 x.b) ∧ w.cell? ⟨b, off + k * 5 + 3, none⟩ = some (.int .i64 x.c) ∧ w.cell? ⟨b, off + k * 5 + 4, none⟩ = some (.int .i64 x.k) := by
  have hlt : k < l.length := (List.getElem?_eq_some_iff.1 hx).1
  obtain ⟨b, off, e, q, hc⟩ := Rd.at_ h (by omega)
  have key : ∀ j u, j < 5 → x.cells[j]? = some u → w.cell? ⟨b, off + k * 5 + j, none⟩ = some u := fun j u hj hu => by
    rw [Nat.add_assoc]
    exact hc _ u (by rw [flat_at Ins.cells 5 Ins.cells_length l k j x hx hj]; exact hu)
  exact ⟨b, off, e, q, key 0 _ (by omega) rfl, key 1 _ (by omega) rfl, key 2 _ (by omega) rfl, key 3 _ (by omega) rfl, key 4 _ (by omega) rfl⟩

theorem InsRow.fr {w w' : World} {Q B : Nat → Prop} {A : Option Addr} {l : List Ins} (h : InsRow w Q A l) (hf : Fr B w w') (hB : ∀ b, Q b → ¬ B b) : InsRow w' Q A l := Rd.fr h hf hB

/-- A function, and where its code lies. -/
structure LFn where
  f : Fn
  A : Option Addr
  c : Nat
def LFn.cells (x : LFn) : List Value := [.int .i64 x.f.arity, .slice x.A x.f.code.length x.c]
theorem LFn.cells_length (x : LFn) : x.cells.length = 2 := rfl
def FnRow (w : World) (Q : Nat → Prop) (A : Option Addr) (L : List LFn) : Prop := Rd w Q 2 A L.length (L.flatMap LFn.cells) ∧ ∀ x ∈ L, InsRow w Q x.A x.f.code
theorem FnRow.fr {w w' : World} {Q B : Nat → Prop} {A : Option Addr} {L : List LFn} (h : FnRow w Q A L) (hf : Fr B w w') (hB : ∀ b, Q b → ¬ B b) : FnRow w' Q A L := ⟨Rd.fr h.1 hf hB, fun x hx => (h.2 x hx).fr hf hB⟩
theorem FnRow.mono {w : World} {Q Q' : Nat → Prop} {A : Option Addr} {L : List LFn} (h : FnRow w Q A L) (hQ : ∀ b, Q b → Q' b) : FnRow w Q' A L := ⟨Rd.mono h.1 hQ, fun x hx => Rd.mono (h.2 x hx) hQ⟩
theorem FnRow.at_ {w : World} {Q : Nat → Prop} {A : Option Addr} {L : List LFn} (h : FnRow w Q A L) {k : Nat} {x : LFn} (hx : L[k]? = some x) :
    ∃ b off, A = some ⟨b, off, none⟩ ∧ Q b ∧ w.cell? ⟨b, off + k * 2, none⟩ = some (.int .i64 x.f.arity) ∧ w.cell? ⟨b, off + k * 2 + 1, none⟩ = some (.slice x.A x.f.code.length x.c) ∧ InsRow w Q x.A x.f.code := by
  have hlt : k < L.length := (List.getElem?_eq_some_iff.1 hx).1
  obtain ⟨b, off, e, q, hc⟩ := Rd.at_ h.1 (by omega)
  have key : ∀ j u, j < 2 → x.cells[j]? = some u → w.cell? ⟨b, off + k * 2 + j, none⟩ = some u := fun j u hj hu => by
    rw [Nat.add_assoc]
    exact hc _ u (by rw [flat_at LFn.cells 2 LFn.cells_length L k j x hx hj]; exact hu)
  exact ⟨b, off, e, q, key 0 _ (by omega) rfl, key 1 _ (by omega) rfl, h.2 x (List.mem_of_getElem? hx)⟩

def fns (L : List LFn) : List Fn := L.map LFn.f
end Go.Proofs.YtadcenaafoemmaaDoor
