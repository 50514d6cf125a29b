/-
  Words for memory that the proofs of this seat share: a block that is known whole, a frame in which only named blocks may turn, a slice that reads as a list of cells. No condition.
-/
import Derived.WalkKit
import Derived.Below
import Derived.Laws.OwnMore
import Derived.Deep.Draws
import Derived.Laws.Rows
import Derived.Lib.Hide
import Derived.Deep.AppendLies
import Derived.OwnWalk
namespace Go.Proofs.Ytdknhiohkicogaa
open Go.RowKit

def Blk (w : World) (g : Nat) (t : TypeId) (cs : Array Value) : Prop := w.heap[g]? = some (.cells cs t (0, 0))

section
variable {w w' : World} {g : Nat} {t : TypeId} {cs : Array Value}
theorem Blk.lt (h : Blk w g t cs) : g < w.heap.size := by
  rcases Nat.lt_or_ge g w.heap.size with hlt | hge
  · exact hlt
  · unfold Blk at h; rw [Array.getElem?_eq_none hge] at h; cases h
theorem Blk.cell (h : Blk w g t cs) (i : Nat) : w.cell? ⟨g, i, none⟩ = cs[i]? := cell_of_row w g i cs t (0, 0) h
theorem Blk.frozen (h : Blk w g t cs) (i : Nat) : w.frozen? ⟨g, i, none⟩ = false := by
  unfold Blk at h
  simp [World.frozen?, h]
theorem Blk.new (w : World) (t : TypeId) (cs : Array Value) : Blk (w.alloc (.cells cs t)) w.heap.size t cs := heap_alloc_new w _
theorem Blk.drew (h : Blk w g t cs) : Blk w.drew g t cs := h
theorem Blk.drewN (h : Blk w g t cs) (n : Nat) : Blk (w.drewN n) g t cs := h
theorem Blk.alloc (h : Blk w g t cs) (o : Obj) : Blk (w.alloc o) g t cs := (Below.heap_alloc w o g h.lt).trans h
theorem Blk.set_ (h : Blk w g t cs) (i : Nat) (u : Value) : Blk (w.setCell ⟨g, i, none⟩ u) g t (cs.setIfInBounds i u) := by
  unfold Blk at h ⊢
  simp [World.setCell, Array.getElem?_modify, h]
theorem Blk.far (h : Blk w g t cs) {p : Addr} (hp : g ≠ p.block) (u : Value) : Blk (w.setCell p u) g t cs := (Below.heap_setCell w p u g hp).trans h
theorem Blk.below {B : Nat} (h : Blk w g t cs) (hb : Below B w w') (hg : g < B) : Blk w' g t cs := (hb.block g hg).trans h
theorem Blk.ne_ {g' : Nat} {t' : TypeId} {cs' : Array Value} (h : Blk w g t cs) (h' : Blk w g' t' cs') (hne : t ≠ t') : g ≠ g' := by
  rintro rfl
  unfold Blk at h h'
  rw [h] at h'
  injection h' with h'
  injection h' with _ ht
  exact hne ht
end

/-- Of what was there only blocks of B have turned. -/
structure Fr (B : Nat → Prop) (w w' : World) : Prop where
  os : w'.os = w.os
  tape : w'.tape = w.tape
  output : w'.output = w.output
  size : w.heap.size ≤ w'.heap.size
  block : ∀ k, k < w.heap.size → ¬ B k → w'.heap[k]? = w.heap[k]?

section
variable {B B' : Nat → Prop} {a w w' : World}
theorem Fr.refl (B : Nat → Prop) (w : World) : Fr B w w := ⟨rfl, rfl, rfl, Nat.le_refl _, fun _ _ _ => rfl⟩
theorem Fr.trans {b c : World} (h : Fr B a b) (k : Fr B b c) : Fr B a c :=
  ⟨k.os.trans h.os, k.tape.trans h.tape, k.output.trans h.output, Nat.le_trans h.size k.size, fun i hi hn => (k.block i (Nat.lt_of_lt_of_le hi h.size) hn).trans (h.block i hi hn)⟩
theorem Fr.mono (h : Fr B w w') (hB : ∀ k, B k → B' k) : Fr B' w w' := ⟨h.os, h.tape, h.output, h.size, fun k hk hn => h.block k hk (fun hb => hn (hB k hb))⟩
theorem Fr.drew (h : Fr B a w) : Fr B a w.drew := ⟨h.os, h.tape, h.output, h.size, h.block⟩
theorem Fr.drewN (h : Fr B a w) (n : Nat) : Fr B a (w.drewN n) := ⟨h.os, h.tape, h.output, h.size, h.block⟩
theorem Fr.alloc (h : Fr B a w) (o : Obj) : Fr B a (w.alloc o) :=
  ⟨h.os, h.tape, h.output, Nat.le_trans h.size (by simp), fun i hi hn => (Below.heap_alloc w o i (Nat.lt_of_lt_of_le hi h.size)).trans (h.block i hi hn)⟩
theorem Fr.setCell (h : Fr B a w) {p : Addr} (hp : B p.block ∨ a.heap.size ≤ p.block) (u : Value) : Fr B a (w.setCell p u) :=
  ⟨h.os, h.tape, h.output, by simpa [World.setCell] using h.size, fun i hi hn => (Below.heap_setCell w p u i (by
    rintro rfl
    rcases hp with hp | hp
    · exact hn hp
    · omega)).trans (h.block i hi hn)⟩
theorem Fr.of_below (h : Below a.heap.size a w) : Fr B a w := ⟨h.os, h.tape, h.output, h.size, fun i hi _ => h.block i hi⟩
theorem Fr.below (h : Fr B a w) {b : Nat} (hb : b ≤ a.heap.size) (hB : ∀ k, B k → b ≤ k) : Below b a w :=
  ⟨h.os, h.tape, h.output, h.size, fun k hk => h.block k (by omega) (fun hk' => by have := hB k hk'; omega)⟩
/-- Behind a part whose changes lie in blocks that are new to the whole. -/
theorem Fr.then {b c : World} (h : Fr B a b) (k : Fr B' b c) (hB : ∀ i, B' i → B i ∨ a.heap.size ≤ i) : Fr B a c :=
  ⟨k.os.trans h.os, k.tape.trans h.tape, k.output.trans h.output, Nat.le_trans h.size k.size, fun i hi hn => (k.block i (Nat.lt_of_lt_of_le hi h.size) (fun hb => by
    rcases hB i hb with h1 | h1
    · exact hn h1
    · omega)).trans (h.block i hi hn)⟩
theorem Blk.fr {g : Nat} {t : TypeId} {cs : Array Value} (h : Blk w g t cs) (hf : Fr B w w') (hg : ¬ B g) : Blk w' g t cs := (hf.block g h.lt hg).trans h
end

theorem cell_lt {w : World} {p : Addr} {v : Value} (h : w.cell? p = some v) : p.block < w.heap.size := by
  rcases Nat.lt_or_ge p.block w.heap.size with h1 | h1
  · exact h1
  · simp [World.cell?, Array.getElem?_eq_none h1] at h
theorem Fr.cell {B : Nat → Prop} {w w' : World} (h : Fr B w w') {p : Addr} (hp : p.block < w.heap.size) (hn : ¬ B p.block) : w'.cell? p = w.cell? p := World.cell?_of_block (w := w) (h.block p.block hp hn)
theorem Fr.held {B : Nat → Prop} {w w' : World} (h : Fr B w w') {p : Addr} {v : Value} (hc : w.cell? p = some v) (hn : ¬ B p.block) : w'.cell? p = some v := (h.cell (cell_lt hc) hn).trans hc
theorem Fr.grown {w w' : World} {row : Option Nat} (h : w.grownBy w' row) : Fr (fun k => some k = row) w w' := ⟨h.os, h.tape, h.output, h.size, fun k hk hn => h.block k hk hn⟩

/-- The slice value '.slice A n c' holds the cells xs (size cells an element), in blocks that Q lets in. -/
def Rd (w : World) (Q : Nat → Prop) (size : Nat) (A : Option Addr) (n : Nat) (xs : List Value) : Prop :=
  xs.length = n * size ∧ (0 < n → ∃ b off, A = some ⟨b, off, none⟩ ∧ Q b ∧ ∀ j u, xs[j]? = some u → w.cell? ⟨b, off + j, none⟩ = some u)

section
variable {w w' : World} {Q Q' : Nat → Prop} {size n : Nat} {A : Option Addr} {xs : List Value}
theorem Rd.nil : Rd w Q size A 0 [] := ⟨by simp, fun h => absurd h (by omega)⟩
theorem Rd.at_ (h : Rd w Q size A n xs) (hn : 0 < n) : ∃ b off, A = some ⟨b, off, none⟩ ∧ Q b ∧ ∀ j u, xs[j]? = some u → w.cell? ⟨b, off + j, none⟩ = some u := h.2 hn
theorem Rd.mono (h : Rd w Q size A n xs) (hQ : ∀ b, Q b → Q' b) : Rd w Q' size A n xs :=
  ⟨h.1, fun hn => by obtain ⟨b, off, e, q, hc⟩ := h.2 hn; exact ⟨b, off, e, hQ b q, hc⟩⟩
theorem Rd.keep (h : Rd w Q size A n xs) (hk : ∀ b o, Q b → b < w.heap.size → w'.cell? ⟨b, o, none⟩ = w.cell? ⟨b, o, none⟩) : Rd w' Q size A n xs :=
  ⟨h.1, fun hn => by
    obtain ⟨b, off, e, q, hc⟩ := h.2 hn
    exact ⟨b, off, e, q, fun j u hu => (hk _ _ q (cell_lt (hc j u hu))).trans (hc j u hu)⟩⟩
theorem Rd.fr {B : Nat → Prop} (h : Rd w Q size A n xs) (hf : Fr B w w') (hB : ∀ b, Q b → ¬ B b) : Rd w' Q size A n xs :=
  h.keep fun b o q hb => hf.cell (p := ⟨b, o, none⟩) hb (hB b q)
theorem Rd.drew (h : Rd w Q size A n xs) : Rd w.drew Q size A n xs := h
theorem Rd.drewN (h : Rd w Q size A n xs) (k : Nat) : Rd (w.drewN k) Q size A n xs := h
theorem Rd.alloc (h : Rd w Q size A n xs) (o : Obj) : Rd (w.alloc o) Q size A n xs := h.keep fun b _ _ hb => World.cell?_alloc_lt w o ⟨b, _, none⟩ hb
/-- Behind 's[1:]'. -/
theorem Rd.tail {x : Value} {r : List Value} {c : Nat} (h : Rd w Q 1 A (n + 1) (x :: r)) (hc : n + 1 ≤ c) : Rd w Q 1 (if c = 1 then A else A.map (·.add 1)) n r := by
  refine ⟨by have := h.1; simp at this ⊢; omega, fun hn => ?_⟩
  obtain ⟨b, off, rfl, q, hcell⟩ := h.2 (by omega)
  rw [if_neg (by omega)]
  refine ⟨b, off + 1, by simp [Addr.add], q, fun j u hu => ?_⟩
  have := hcell (j + 1) u (by simpa using hu)
  rw [show off + 1 + j = off + (j + 1) by omega]
  exact this
theorem Rd.of_own {base : Nat} {e : TypeId} {c : Nat} (h : w.ownsRow base e size (.slice A n c) n xs) : Rd w (fun b => base ≤ b ∧ b < w.heap.size) size A n xs := by
  refine ⟨h.1, fun hn => ?_⟩
  obtain ⟨g, cap, hv, hb, hlt⟩ := h.form hn
  have hA : A = some ⟨g, 0, none⟩ := by injection hv
  subst hA
  refine ⟨g, 0, rfl, ⟨hb, hlt⟩, fun j u hu => ?_⟩
  have := h.cells (g := g) rfl j u hu
  rw [Nat.zero_add]
  have hadd : (⟨g, 0, none⟩ : Addr).add j = ⟨g, j, none⟩ := by unfold Addr.add; split <;> simp_all
  rw [← hadd]
  exact this
theorem Rd.of_blk {g : Nat} {t : TypeId} {cs : List Value} (h : Blk w g t cs.toArray) (hl : cs.length = n * size) (hQ : Q g) : Rd w Q size (some ⟨g, 0, none⟩) n cs :=
  ⟨hl, fun _ => ⟨g, 0, rfl, hQ, fun j u hu => by rw [Nat.zero_add, h.cell, List.getElem?_toArray]; exact hu⟩⟩
end
end Go.Proofs.Ytdknhiohkicogaa
