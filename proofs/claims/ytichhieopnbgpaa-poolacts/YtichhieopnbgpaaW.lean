/-
  Words for memory that the proofs of this seat share: a block that is known whole, a frame in which only named blocks may turn, and a memory's two blocks (its struct, its words) read as a list of words and a count of steps. No condition.
-/
import Derived.WalkKit
import Derived.Below
import Derived.Laws.OwnMore
import Derived.Deep.Draws
import Derived.Laws.Rows
import Derived.Lib.Hide
namespace Go.Proofs.Ytichhieopnbgpaa
open Go.RowKit

def Blk (w : World) (g : Nat) (t : TypeId) (cs : Array Value) : Prop := w.heap[g]? = some (.cells cs t (0, 0))

section
variable {w w' : World} {g : Nat} {t : TypeId} {cs : Array Value}
theorem Blk.lt (h : Blk w g t cs) : g < w.heap.size := by
  rcases Nat.lt_or_ge g w.heap.size with hlt | hge
  · exact hlt
  · unfold Blk at h; rw [Array.getElem?_eq_none hge] at h; cases h
theorem Blk.cell (h : Blk w g t cs) (i : Nat) : w.cell? ⟨g, i, none⟩ = cs[i]? := cell_of_row w g i cs t (0, 0) h
theorem Blk.frozen (h : Blk w g t cs) (i : Nat) : w.frozen? ⟨g, i, none⟩ = false := by
  unfold Blk at h
  simp [World.frozen?, h]
theorem Blk.new (w : World) (t : TypeId) (cs : Array Value) : Blk (w.alloc (.cells cs t)) w.heap.size t cs := heap_alloc_new w _
theorem Blk.drew (h : Blk w g t cs) : Blk w.drew g t cs := h
theorem Blk.drewN (h : Blk w g t cs) (n : Nat) : Blk (w.drewN n) g t cs := h
theorem Blk.alloc (h : Blk w g t cs) (o : Obj) : Blk (w.alloc o) g t cs := (Below.heap_alloc w o g h.lt).trans h
theorem Blk.set_ (h : Blk w g t cs) (i : Nat) (u : Value) : Blk (w.setCell ⟨g, i, none⟩ u) g t (cs.setIfInBounds i u) := by
  unfold Blk at h ⊢
  simp [World.setCell, Array.getElem?_modify, h]
theorem Blk.far (h : Blk w g t cs) {p : Addr} (hp : g ≠ p.block) (u : Value) : Blk (w.setCell p u) g t cs := (Below.heap_setCell w p u g hp).trans h
theorem Blk.below {B : Nat} (h : Blk w g t cs) (hb : Below B w w') (hg : g < B) : Blk w' g t cs := (hb.block g hg).trans h
theorem Blk.ne_ {g' : Nat} {t' : TypeId} {cs' : Array Value} (h : Blk w g t cs) (h' : Blk w g' t' cs') (hne : t ≠ t') : g ≠ g' := by
  rintro rfl
  unfold Blk at h h'
  rw [h] at h'
  injection h' with h'
  injection h' with _ ht
  exact hne ht
end

/-- Of what was there only blocks of B have turned. -/
structure Fr (B : Nat → Prop) (w w' : World) : Prop where
  os : w'.os = w.os
  tape : w'.tape = w.tape
  output : w'.output = w.output
  size : w.heap.size ≤ w'.heap.size
  block : ∀ k, k < w.heap.size → ¬ B k → w'.heap[k]? = w.heap[k]?

section
variable {B B' : Nat → Prop} {a w w' : World}
theorem Fr.refl (B : Nat → Prop) (w : World) : Fr B w w := ⟨rfl, rfl, rfl, Nat.le_refl _, fun _ _ _ => rfl⟩
theorem Fr.trans {b c : World} (h : Fr B a b) (k : Fr B b c) : Fr B a c :=
  ⟨k.os.trans h.os, k.tape.trans h.tape, k.output.trans h.output, Nat.le_trans h.size k.size, fun i hi hn => (k.block i (Nat.lt_of_lt_of_le hi h.size) hn).trans (h.block i hi hn)⟩
theorem Fr.mono (h : Fr B w w') (hB : ∀ k, B k → B' k) : Fr B' w w' := ⟨h.os, h.tape, h.output, h.size, fun k hk hn => h.block k hk (fun hb => hn (hB k hb))⟩
theorem Fr.drew (h : Fr B a w) : Fr B a w.drew := ⟨h.os, h.tape, h.output, h.size, h.block⟩
theorem Fr.drewN (h : Fr B a w) (n : Nat) : Fr B a (w.drewN n) := ⟨h.os, h.tape, h.output, h.size, h.block⟩
theorem Fr.alloc (h : Fr B a w) (o : Obj) : Fr B a (w.alloc o) :=
  ⟨h.os, h.tape, h.output, Nat.le_trans h.size (by simp), fun i hi hn => (Below.heap_alloc w o i (Nat.lt_of_lt_of_le hi h.size)).trans (h.block i hi hn)⟩
theorem Fr.setCell (h : Fr B a w) {p : Addr} (hp : B p.block ∨ a.heap.size ≤ p.block) (u : Value) : Fr B a (w.setCell p u) :=
  ⟨h.os, h.tape, h.output, by simpa [World.setCell] using h.size, fun i hi hn => (Below.heap_setCell w p u i (by
    rintro rfl
    rcases hp with hp | hp
    · exact hn hp
    · omega)).trans (h.block i hi hn)⟩
theorem Fr.of_below (h : Below a.heap.size a w) : Fr B a w := ⟨h.os, h.tape, h.output, h.size, fun i hi _ => h.block i hi⟩
theorem Fr.below (h : Fr B a w) {b : Nat} (hb : b ≤ a.heap.size) (hB : ∀ k, B k → b ≤ k) : Below b a w :=
  ⟨h.os, h.tape, h.output, h.size, fun k hk => h.block k (by omega) (fun hk' => by have := hB k hk'; omega)⟩
/-- Behind a part whose changes lie in blocks that are new to the whole. -/
theorem Fr.then {b c : World} (h : Fr B a b) (k : Fr B' b c) (hB : ∀ i, B' i → B i ∨ a.heap.size ≤ i) : Fr B a c :=
  ⟨k.os.trans h.os, k.tape.trans h.tape, k.output.trans h.output, Nat.le_trans h.size k.size, fun i hi hn => (k.block i (Nat.lt_of_lt_of_le hi h.size) (fun hb => by
    rcases hB i hb with h1 | h1
    · exact hn h1
    · omega)).trans (h.block i hi hn)⟩
theorem Blk.fr {g : Nat} {t : TypeId} {cs : Array Value} (h : Blk w g t cs) (hf : Fr B w w') (hg : ¬ B g) : Blk w' g t cs := (hf.block g h.lt hg).trans h
end

/-- The cells of a memory's words: of each whether it is live, and its number. -/
def wcells (ws : List (Bool × Int)) : List Value := ws.flatMap fun x => [.bool x.1, .int .i64 x.2]

theorem length_wcells (ws : List (Bool × Int)) : (wcells ws).length = 2 * ws.length := by
  induction ws with
  | nil => rfl
  | cons x r ih => simp [wcells] at ih ⊢; omega
theorem wcells_cons (x : Bool × Int) (r : List (Bool × Int)) : wcells (x :: r) = .bool x.1 :: .int .i64 x.2 :: wcells r := rfl
theorem wcells_even (ws : List (Bool × Int)) (i : Nat) : (wcells ws)[2 * i]? = ws[i]?.map fun x => .bool x.1 := by
  induction ws generalizing i with
  | nil => simp [wcells]
  | cons x r ih =>
    rw [wcells_cons]
    cases i with
    | zero => simp
    | succ k =>
      have e : 2 * (k + 1) = 2 * k + 1 + 1 := by omega
      rw [e]; simpa using ih k
theorem wcells_odd (ws : List (Bool × Int)) (i : Nat) : (wcells ws)[2 * i + 1]? = ws[i]?.map fun x => .int .i64 x.2 := by
  induction ws generalizing i with
  | nil => simp [wcells]
  | cons x r ih =>
    rw [wcells_cons]
    cases i with
    | zero => simp
    | succ k =>
      have e : 2 * (k + 1) + 1 = 2 * k + 1 + 1 + 1 := by omega
      rw [e]; simpa using ih k
theorem wcells_set_odd (ws : List (Bool × Int)) (i : Nat) (b : Bool) (m n : Int) (h : ws[i]? = some (b, m)) : (wcells ws).set (2 * i + 1) (.int .i64 n) = wcells (ws.set i (b, n)) := by
  induction ws generalizing i with
  | nil => simp at h
  | cons x r ih =>
    cases i with
    | zero => simp at h; subst h; simp [wcells_cons]
    | succ k =>
      have e : 2 * (k + 1) + 1 = 2 * k + 1 + 1 + 1 := by omega
      rw [wcells_cons, e]; simp only [List.set_cons_succ, wcells_cons]; rw [ih k (by simpa using h)]
theorem wcells_set_two (ws : List (Bool × Int)) (i : Nat) (b : Bool) (n : Int) (h : i < ws.length) : ((wcells ws).set (2 * i) (.bool b)).set (2 * i + 1) (.int .i64 n) = wcells (ws.set i (b, n)) := by
  induction ws generalizing i with
  | nil => simp at h
  | cons x r ih =>
    cases i with
    | zero => simp [wcells_cons]
    | succ k =>
      have e : 2 * (k + 1) + 1 = 2 * k + 1 + 1 + 1 := by omega
      have e2 : 2 * (k + 1) = 2 * k + 1 + 1 := by omega
      rw [wcells_cons, e, e2]; simp only [List.set_cons_succ, wcells_cons]; rw [ih k (by simpa using h)]
theorem made_words (n : Nat) : madeCells #[.bool false, .int .i64 0] (n * 2) = (wcells (List.replicate n (false, 0))).toArray := by
  apply Array.ext_getElem?
  intro i
  obtain ⟨k, hk⟩ : ∃ k, i = 2 * k ∨ i = 2 * k + 1 := ⟨i / 2, by omega⟩
  have e : ∀ j, (madeCells #[Value.bool false, Value.int .i64 0] (n * 2))[j]? = if j < n * 2 then some (#[Value.bool false, Value.int .i64 0][j % 2]!) else none := by
    intro j
    by_cases hj : j < n * 2
    · simp [madeCells, hj]
    · simp [madeCells, hj]
  rcases hk with rfl | rfl
  · rw [e, List.getElem?_toArray, wcells_even]
    by_cases hk : k < n
    · rw [if_pos (by omega), Nat.mul_mod_right, List.getElem?_replicate, if_pos hk]; rfl
    · rw [if_neg (by omega), List.getElem?_replicate, if_neg hk]; rfl
  · rw [e, List.getElem?_toArray, wcells_odd]
    by_cases hk : k < n
    · rw [if_pos (by omega), show (2 * k + 1) % 2 = 1 by omega, List.getElem?_replicate, if_pos hk]; rfl
    · rw [if_neg (by omega), List.getElem?_replicate, if_neg hk]; rfl
end Go.Proofs.Ytichhieopnbgpaa
