/-
  The order of paths as plain data: which of two rows of numbers stands ahead, whether one is a beginning of the other, and what follows of that. No condition.
-/
import Derived.WalkKit
import Derived.Below
import Derived.Laws.OwnMore
import Derived.Deep.Draws
import Derived.Laws.Rows
import Derived.Lib.Hide
import Derived.Deep.AppendLies
import Derived.OwnWalk
import Derived.Test.YtadcenaafoemmaaDoorProg
import Derived.Outline
import Derived.KernelRfl
import Derived.WalkLawsBesides
import Derived.Deep.RegionLaw
import Derived.Deep.RegionHeld3
import Derived.RegionTactic
import Derived.BigRegion
import Derived.Deep.QuietTactic
import Derived.BigQuiet
import Derived.StillTailTactics
namespace Go.Proofs.YtadcenaafoemmaaDoor

def cmpL : List Int → List Int → Int
  | [], [] => 0
  | [], _ :: _ => -1
  | _ :: _, [] => 1
  | x :: xs, y :: ys => if x < y then -1 else if y < x then 1 else cmpL xs ys

def underL (a b : List Int) : Bool := decide (b.length ≤ a.length) && (a.take b.length == b)

theorem cmpL_range (a b : List Int) : cmpL a b = -1 ∨ cmpL a b = 0 ∨ cmpL a b = 1 := by
  induction a generalizing b with
  | nil => cases b <;> simp [cmpL]
  | cons x xs ih =>
    cases b with
    | nil => simp [cmpL]
    | cons y ys =>
      simp only [cmpL]
      split
      · exact .inl rfl
      · split
        · exact .inr (.inr rfl)
        · exact ih ys

theorem cmpL_anti (a b : List Int) : cmpL a b = - cmpL b a := by
  induction a generalizing b with
  | nil => cases b <;> simp [cmpL]
  | cons x xs ih =>
    cases b with
    | nil => simp [cmpL]
    | cons y ys =>
      simp only [cmpL]
      by_cases h1 : x < y
      · have h2 : ¬ y < x := by omega
        simp [h1, h2]
      · by_cases h2 : y < x
        · simp [h1, h2]
        · simp [h1, h2, ih ys]

theorem cmpL_zero (a b : List Int) : cmpL a b = 0 ↔ a = b := by
  induction a generalizing b with
  | nil => cases b <;> simp [cmpL]
  | cons x xs ih =>
    cases b with
    | nil => simp [cmpL]
    | cons y ys =>
      simp only [cmpL]
      by_cases h1 : x < y
      · simp [h1]; intro h; omega
      · by_cases h2 : y < x
        · simp [h1, h2]; intro h; omega
        · simp [h1, h2, ih ys]; intro _; omega

theorem cmpL_self (a : List Int) : cmpL a a = 0 := (cmpL_zero a a).2 rfl

theorem cmpL_trans (a b c : List Int) (h1 : cmpL a b ≤ 0) (h2 : cmpL b c ≤ 0) : cmpL a c ≤ 0 := by
  induction a generalizing b c with
  | nil => cases c <;> simp [cmpL]
  | cons x xs ih =>
    cases b with
    | nil => simp [cmpL] at h1
    | cons y ys =>
      cases c with
      | nil => simp [cmpL] at h2
      | cons z zs =>
        simp only [cmpL] at h1 h2 ⊢
        by_cases a1 : x < z
        · simp [a1]
        · have n1 : ¬ y < x := by
            intro h
            have : ¬ x < y := by omega
            simp [h, this] at h1
          have n2 : ¬ z < y := by
            intro h
            have : ¬ y < z := by omega
            simp [h, this] at h2
          have a2 : ¬ z < x := by omega
          have e1 : ¬ x < y := by omega
          have e2 : ¬ y < z := by omega
          rw [if_neg e1, if_neg n1] at h1
          rw [if_neg e2, if_neg n2] at h2
          rw [if_neg a1, if_neg a2]
          exact ih ys zs h1 h2

theorem cmpL_step (a b : List Int) (k : Nat) (x y : Int) (ha : a[k]? = some x) (hb : b[k]? = some y) (h : cmpL a b = cmpL (a.drop k) (b.drop k)) :
    cmpL a b = if x < y then -1 else if y < x then 1 else cmpL (a.drop (k + 1)) (b.drop (k + 1)) := by
  obtain ⟨ka, rfl⟩ := List.getElem?_eq_some_iff.1 ha
  obtain ⟨kb, rfl⟩ := List.getElem?_eq_some_iff.1 hb
  rw [h, List.drop_eq_getElem_cons ka, List.drop_eq_getElem_cons kb]
  rfl

/-- Where one of them ends. -/
theorem cmpL_end (a b : List Int) (k : Nat) (h : cmpL a b = cmpL (a.drop k) (b.drop k)) (hk : k = a.length) :
    cmpL a b = if k < b.length then -1 else 0 := by
  subst hk
  rw [h, List.drop_length]
  split
  · rename_i h1
    obtain ⟨y, ys, hy⟩ : ∃ y ys, b.drop a.length = y :: ys := by
      cases hd : b.drop a.length with
      | nil => rw [List.drop_eq_nil_iff] at hd; omega
      | cons y ys => exact ⟨y, ys, rfl⟩
    rw [hy]; rfl
  · rename_i h1
    rw [List.drop_eq_nil_iff.2 (by omega)]; rfl
theorem cmpL_end1 (a b : List Int) (k : Nat) (h : cmpL a b = cmpL (a.drop k) (b.drop k)) (hk : k < a.length) (hb : b.length ≤ k) : cmpL a b = 1 := by
  rw [h, List.drop_eq_nil_iff.2 hb, List.drop_eq_getElem_cons hk]; rfl

theorem cmpL_app (p a b : List Int) : cmpL (p ++ a) (p ++ b) = cmpL a b := by
  induction p with
  | nil => rfl
  | cons x xs ih => simp [cmpL, ih]

/-! ### Under -/
theorem underL_iff (a b : List Int) : underL a b = true ↔ ∃ r, a = b ++ r := by
  unfold underL
  simp only [Bool.and_eq_true, decide_eq_true_eq, beq_iff_eq]
  constructor
  · rintro ⟨_, h2⟩
    refine ⟨a.drop b.length, ?_⟩
    have := List.take_append_drop b.length a
    rw [h2] at this
    exact this.symm
  · rintro ⟨r, rfl⟩
    simp

theorem underL_take (a : List Int) (i : Nat) : underL a (a.take i) = true := (underL_iff _ _).2 ⟨a.drop i, (List.take_append_drop i a).symm⟩
theorem underL_takes (a : List Int) (i j : Nat) (h : j ≤ i) : underL (a.take i) (a.take j) = true := by
  rw [underL_iff]
  refine ⟨(a.take i).drop j, ?_⟩
  have := List.take_append_drop j (a.take i)
  rw [List.take_take, Nat.min_eq_left h] at this
  exact this.symm
theorem underL_back (a : List Int) (j : Nat) (h : j ≤ a.length) : underL (a.take j) a = decide (j = a.length) := by
  by_cases hj : j = a.length
  · subst hj
    rw [List.take_length, show decide (a.length = a.length) = true by simp, underL_iff]
    exact ⟨[], by simp⟩
  · rw [show decide (j = a.length) = false by simp [hj]]
    unfold underL
    have : ¬ a.length ≤ (a.take j).length := by rw [List.length_take]; omega
    rw [decide_eq_false this, Bool.false_and]

theorem cmpL_take (a : List Int) (j : Nat) : cmpL (a.take j) a ≤ 0 := by
  have h := cmpL_app (a.take j) [] (a.drop j)
  rw [List.take_append_drop, List.append_nil] at h
  rw [h]
  cases a.drop j <;> simp [cmpL]

/-- What stands between two that are under a path is under it. -/
theorem between (p a b c : List Int) (ha : underL a p = true) (hc : underL c p = true) (h1 : cmpL a b ≤ 0) (h2 : cmpL b c ≤ 0) : underL b p = true := by
  rw [underL_iff] at ha hc ⊢
  obtain ⟨ra, rfl⟩ := ha
  obtain ⟨rc, rfl⟩ := hc
  induction p generalizing b with
  | nil => exact ⟨b, rfl⟩
  | cons x xs ih =>
    cases b with
    | nil => simp [cmpL] at h1
    | cons y ys =>
      simp only [List.cons_append, cmpL] at h1 h2
      have n1 : ¬ y < x := by
        intro h
        have : ¬ x < y := by omega
        simp [h, this] at h1
      have n2 : ¬ x < y := by
        intro h
        have : ¬ y < x := by omega
        simp [h, this] at h2
      rw [if_neg n2, if_neg n1] at h1
      rw [if_neg n1, if_neg n2] at h2
      obtain ⟨r, hr⟩ := ih ys h1 h2
      exact ⟨r, by rw [hr, show y = x by omega]; rfl⟩

/-! ### Kids -/
theorem cmpL_kid (p : List Int) (n : Int) : cmpL p (p ++ [n]) = -1 := by
  have := cmpL_app p [] [n]
  rw [List.append_nil] at this
  rw [this]; rfl
theorem cmpL_next (p : List Int) (n kid : Int) : cmpL (p ++ [n] ++ [kid]) (p ++ [n + 1]) = -1 := by
  rw [List.append_assoc, cmpL_app]
  simp only [List.cons_append, List.nil_append, cmpL]
  rw [if_pos (by omega)]
theorem cmpL_next2 (p : List Int) (n kid o : Int) : cmpL (p ++ [n] ++ [kid]) (p ++ [n + 1] ++ [o]) = -1 := by
  rw [List.append_assoc, List.append_assoc, cmpL_app]
  simp only [List.cons_append, List.nil_append, cmpL]
  rw [if_pos (by omega)]
theorem cmpL_kids (p : List Int) (kid o : Int) : (cmpL (p ++ [kid]) (p ++ [o]) = -1) ↔ kid < o := by
  rw [cmpL_app]
  simp only [cmpL]
  split
  · simp_all
  · split <;> simp <;> omega
end Go.Proofs.YtadcenaafoemmaaDoor

/-
  Words for memory that the proofs of this seat share: a block that is known whole, a frame in which only named blocks may turn, a slice that reads as a list of cells. No condition.
-/
namespace Go.Proofs.YtadcenaafoemmaaDoor
open Go.RowKit

def Blk (w : World) (g : Nat) (t : TypeId) (cs : Array Value) : Prop := w.heap[g]? = some (.cells cs t (0, 0))

section
variable {w w' : World} {g : Nat} {t : TypeId} {cs : Array Value}
theorem Blk.lt (h : Blk w g t cs) : g < w.heap.size := by
  rcases Nat.lt_or_ge g w.heap.size with hlt | hge
  · exact hlt
  · unfold Blk at h; rw [Array.getElem?_eq_none hge] at h; cases h
theorem Blk.cell (h : Blk w g t cs) (i : Nat) : w.cell? ⟨g, i, none⟩ = cs[i]? := cell_of_row w g i cs t (0, 0) h
theorem Blk.frozen (h : Blk w g t cs) (i : Nat) : w.frozen? ⟨g, i, none⟩ = false := by
  unfold Blk at h
  simp [World.frozen?, h]
theorem Blk.new (w : World) (t : TypeId) (cs : Array Value) : Blk (w.alloc (.cells cs t)) w.heap.size t cs := heap_alloc_new w _
theorem Blk.drew (h : Blk w g t cs) : Blk w.drew g t cs := h
theorem Blk.drewN (h : Blk w g t cs) (n : Nat) : Blk (w.drewN n) g t cs := h
theorem Blk.alloc (h : Blk w g t cs) (o : Obj) : Blk (w.alloc o) g t cs := (Below.heap_alloc w o g h.lt).trans h
theorem Blk.set_ (h : Blk w g t cs) (i : Nat) (u : Value) : Blk (w.setCell ⟨g, i, none⟩ u) g t (cs.setIfInBounds i u) := by
  unfold Blk at h ⊢
  simp [World.setCell, Array.getElem?_modify, h]
theorem Blk.far (h : Blk w g t cs) {p : Addr} (hp : g ≠ p.block) (u : Value) : Blk (w.setCell p u) g t cs := (Below.heap_setCell w p u g hp).trans h
theorem Blk.below {B : Nat} (h : Blk w g t cs) (hb : Below B w w') (hg : g < B) : Blk w' g t cs := (hb.block g hg).trans h
theorem Blk.ne_ {g' : Nat} {t' : TypeId} {cs' : Array Value} (h : Blk w g t cs) (h' : Blk w g' t' cs') (hne : t ≠ t') : g ≠ g' := by
  rintro rfl
  unfold Blk at h h'
  rw [h] at h'
  injection h' with h'
  injection h' with _ ht
  exact hne ht
end

/-- Of what was there only blocks of B have turned. -/
structure Fr (B : Nat → Prop) (w w' : World) : Prop where
  os : w'.os = w.os
  tape : w'.tape = w.tape
  output : w'.output = w.output
  size : w.heap.size ≤ w'.heap.size
  block : ∀ k, k < w.heap.size → ¬ B k → w'.heap[k]? = w.heap[k]?

section
variable {B B' : Nat → Prop} {a w w' : World}
theorem Fr.refl (B : Nat → Prop) (w : World) : Fr B w w := ⟨rfl, rfl, rfl, Nat.le_refl _, fun _ _ _ => rfl⟩
theorem Fr.trans {b c : World} (h : Fr B a b) (k : Fr B b c) : Fr B a c :=
  ⟨k.os.trans h.os, k.tape.trans h.tape, k.output.trans h.output, Nat.le_trans h.size k.size, fun i hi hn => (k.block i (Nat.lt_of_lt_of_le hi h.size) hn).trans (h.block i hi hn)⟩
theorem Fr.mono (h : Fr B w w') (hB : ∀ k, B k → B' k) : Fr B' w w' := ⟨h.os, h.tape, h.output, h.size, fun k hk hn => h.block k hk (fun hb => hn (hB k hb))⟩
theorem Fr.drew (h : Fr B a w) : Fr B a w.drew := ⟨h.os, h.tape, h.output, h.size, h.block⟩
theorem Fr.drewN (h : Fr B a w) (n : Nat) : Fr B a (w.drewN n) := ⟨h.os, h.tape, h.output, h.size, h.block⟩
theorem Fr.alloc (h : Fr B a w) (o : Obj) : Fr B a (w.alloc o) :=
  ⟨h.os, h.tape, h.output, Nat.le_trans h.size (by simp), fun i hi hn => (Below.heap_alloc w o i (Nat.lt_of_lt_of_le hi h.size)).trans (h.block i hi hn)⟩
theorem Fr.setCell (h : Fr B a w) {p : Addr} (hp : B p.block ∨ a.heap.size ≤ p.block) (u : Value) : Fr B a (w.setCell p u) :=
  ⟨h.os, h.tape, h.output, by simpa [World.setCell] using h.size, fun i hi hn => (Below.heap_setCell w p u i (by
    rintro rfl
    rcases hp with hp | hp
    · exact hn hp
    · omega)).trans (h.block i hi hn)⟩
theorem Fr.of_below (h : Below a.heap.size a w) : Fr B a w := ⟨h.os, h.tape, h.output, h.size, fun i hi _ => h.block i hi⟩
theorem Fr.below (h : Fr B a w) {b : Nat} (hb : b ≤ a.heap.size) (hB : ∀ k, B k → b ≤ k) : Below b a w :=
  ⟨h.os, h.tape, h.output, h.size, fun k hk => h.block k (by omega) (fun hk' => by have := hB k hk'; omega)⟩
/-- Behind a part whose changes lie in blocks that are new to the whole. -/
theorem Fr.then {b c : World} (h : Fr B a b) (k : Fr B' b c) (hB : ∀ i, B' i → B i ∨ a.heap.size ≤ i) : Fr B a c :=
  ⟨k.os.trans h.os, k.tape.trans h.tape, k.output.trans h.output, Nat.le_trans h.size k.size, fun i hi hn => (k.block i (Nat.lt_of_lt_of_le hi h.size) (fun hb => by
    rcases hB i hb with h1 | h1
    · exact hn h1
    · omega)).trans (h.block i hi hn)⟩
theorem Blk.fr {g : Nat} {t : TypeId} {cs : Array Value} (h : Blk w g t cs) (hf : Fr B w w') (hg : ¬ B g) : Blk w' g t cs := (hf.block g h.lt hg).trans h
end

theorem cell_lt {w : World} {p : Addr} {v : Value} (h : w.cell? p = some v) : p.block < w.heap.size := by
  rcases Nat.lt_or_ge p.block w.heap.size with h1 | h1
  · exact h1
  · simp [World.cell?, Array.getElem?_eq_none h1] at h
theorem Fr.cell {B : Nat → Prop} {w w' : World} (h : Fr B w w') {p : Addr} (hp : p.block < w.heap.size) (hn : ¬ B p.block) : w'.cell? p = w.cell? p := World.cell?_of_block (w := w) (h.block p.block hp hn)
theorem Fr.held {B : Nat → Prop} {w w' : World} (h : Fr B w w') {p : Addr} {v : Value} (hc : w.cell? p = some v) (hn : ¬ B p.block) : w'.cell? p = some v := (h.cell (cell_lt hc) hn).trans hc
theorem Fr.grown {w w' : World} {row : Option Nat} (h : w.grownBy w' row) : Fr (fun k => some k = row) w w' := ⟨h.os, h.tape, h.output, h.size, fun k hk hn => h.block k hk hn⟩

/-- The slice value '.slice A n c' holds the cells xs (size cells an element), in blocks that Q lets in. -/
def Rd (w : World) (Q : Nat → Prop) (size : Nat) (A : Option Addr) (n : Nat) (xs : List Value) : Prop :=
  xs.length = n * size ∧ (0 < n → ∃ b off, A = some ⟨b, off, none⟩ ∧ Q b ∧ ∀ j u, xs[j]? = some u → w.cell? ⟨b, off + j, none⟩ = some u)

section
variable {w w' : World} {Q Q' : Nat → Prop} {size n : Nat} {A : Option Addr} {xs : List Value}
theorem Rd.nil : Rd w Q size A 0 [] := ⟨by simp, fun h => absurd h (by omega)⟩
theorem Rd.at_ (h : Rd w Q size A n xs) (hn : 0 < n) : ∃ b off, A = some ⟨b, off, none⟩ ∧ Q b ∧ ∀ j u, xs[j]? = some u → w.cell? ⟨b, off + j, none⟩ = some u := h.2 hn
theorem Rd.mono (h : Rd w Q size A n xs) (hQ : ∀ b, Q b → Q' b) : Rd w Q' size A n xs :=
  ⟨h.1, fun hn => by obtain ⟨b, off, e, q, hc⟩ := h.2 hn; exact ⟨b, off, e, hQ b q, hc⟩⟩
theorem Rd.keep (h : Rd w Q size A n xs) (hk : ∀ b o, Q b → b < w.heap.size → w'.cell? ⟨b, o, none⟩ = w.cell? ⟨b, o, none⟩) : Rd w' Q size A n xs :=
  ⟨h.1, fun hn => by
    obtain ⟨b, off, e, q, hc⟩ := h.2 hn
    exact ⟨b, off, e, q, fun j u hu => (hk _ _ q (cell_lt (hc j u hu))).trans (hc j u hu)⟩⟩
theorem Rd.fr {B : Nat → Prop} (h : Rd w Q size A n xs) (hf : Fr B w w') (hB : ∀ b, Q b → ¬ B b) : Rd w' Q size A n xs :=
  h.keep fun b o q hb => hf.cell (p := ⟨b, o, none⟩) hb (hB b q)
theorem Rd.drew (h : Rd w Q size A n xs) : Rd w.drew Q size A n xs := h
theorem Rd.drewN (h : Rd w Q size A n xs) (k : Nat) : Rd (w.drewN k) Q size A n xs := h
theorem Rd.alloc (h : Rd w Q size A n xs) (o : Obj) : Rd (w.alloc o) Q size A n xs := h.keep fun b _ _ hb => World.cell?_alloc_lt w o ⟨b, _, none⟩ hb
/-- Behind 's[1:]'. -/
theorem Rd.tail {x : Value} {r : List Value} {c : Nat} (h : Rd w Q 1 A (n + 1) (x :: r)) (hc : n + 1 ≤ c) : Rd w Q 1 (if c = 1 then A else A.map (·.add 1)) n r := by
  refine ⟨by have := h.1; simp at this ⊢; omega, fun hn => ?_⟩
  obtain ⟨b, off, rfl, q, hcell⟩ := h.2 (by omega)
  rw [if_neg (by omega)]
  refine ⟨b, off + 1, by simp [Addr.add], q, fun j u hu => ?_⟩
  have := hcell (j + 1) u (by simpa using hu)
  rw [show off + 1 + j = off + (j + 1) by omega]
  exact this
theorem Rd.of_own {base : Nat} {e : TypeId} {c : Nat} (h : w.ownsRow base e size (.slice A n c) n xs) : Rd w (fun b => base ≤ b ∧ b < w.heap.size) size A n xs := by
  refine ⟨h.1, fun hn => ?_⟩
  obtain ⟨g, cap, hv, hb, hlt⟩ := h.form hn
  have hA : A = some ⟨g, 0, none⟩ := by injection hv
  subst hA
  refine ⟨g, 0, rfl, ⟨hb, hlt⟩, fun j u hu => ?_⟩
  have := h.cells (g := g) rfl j u hu
  rw [Nat.zero_add]
  have hadd : (⟨g, 0, none⟩ : Addr).add j = ⟨g, j, none⟩ := by unfold Addr.add; split <;> simp_all
  rw [← hadd]
  exact this
theorem Rd.of_blk {g : Nat} {t : TypeId} {cs : List Value} (h : Blk w g t cs.toArray) (hl : cs.length = n * size) (hQ : Q g) : Rd w Q size (some ⟨g, 0, none⟩) n cs :=
  ⟨hl, fun _ => ⟨g, 0, rfl, hQ, fun j u hu => by rw [Nat.zero_add, h.cell, List.getElem?_toArray]; exact hu⟩⟩
end
end Go.Proofs.YtadcenaafoemmaaDoor

/-
  Programs as plain data, and their bytes.
-/
namespace Go.Proofs.YtadcenaafoemmaaDoor
open Go.RowKit

/-- The byte i of a number of 32 bits. -/
def kb (n : Int) (i : Nat) : Int := n / 2 ^ (8 * i) % 256

structure Ins where
  op : Int
  a : Int
  b : Int
  c : Int
  k : Int
structure Fn where
  arity : Int
  code : List Ins

def fit8 (n : Int) : Prop := 0 ≤ n ∧ n ≤ 255
instance (n : Int) : Decidable (fit8 n) := by unfold fit8; infer_instance
def fitK (n : Int) : Prop := -2147483648 ≤ n ∧ n ≤ 2147483647
instance (n : Int) : Decidable (fitK n) := by unfold fitK; infer_instance

def Ins.ok (x : Ins) : Prop := fit8 x.op ∧ fit8 x.a ∧ fit8 x.b ∧ fit8 x.c ∧ fitK x.k
instance (x : Ins) : Decidable x.ok := by unfold Ins.ok; infer_instance
def Ins.bytes (x : Ins) : List Int := [x.op, x.a, x.b, x.c, kb x.k 0, kb x.k 1, kb x.k 2, kb x.k 3]
def codeOk (l : List Ins) : Prop := l.length ≤ 255 ∧ ∀ x ∈ l, x.ok
instance (l : List Ins) : Decidable (codeOk l) := by unfold codeOk; infer_instance
def codeBytes (l : List Ins) : List Int := (l.length : Int) :: l.flatMap Ins.bytes
def Fn.ok (f : Fn) : Prop := fit8 f.arity ∧ codeOk f.code
instance (f : Fn) : Decidable f.ok := by unfold Fn.ok; infer_instance
def Fn.bytes (f : Fn) : List Int := f.arity :: codeBytes f.code
def progOk (l : List Fn) : Prop := l.length ≤ 255 ∧ ∀ f ∈ l, f.ok
instance (l : List Fn) : Decidable (progOk l) := by unfold progOk; infer_instance
def progBytes (l : List Fn) : List Int := (l.length : Int) :: l.flatMap Fn.bytes

/-- How many cells, at most, are written. -/
def size (l : List Fn) : Nat := 1 + (l.map fun f => 2 + 8 * f.code.length).sum

theorem first_of (q : Nat → Prop) [DecidablePred q] (n : Nat) (h : ∃ k, k < n ∧ q k) : ∃ k, k < n ∧ q k ∧ ∀ j, j < k → ¬ q j := by
  induction n with
  | zero => obtain ⟨k, hk, _⟩ := h; omega
  | succ n ih =>
    by_cases h' : ∃ k, k < n ∧ q k
    · obtain ⟨k, hk, r⟩ := ih h'
      exact ⟨k, by omega, r⟩
    · obtain ⟨k, hk, hq⟩ := h
      have : k = n := by
        rcases Nat.lt_or_ge k n with h1 | h1
        · exact absurd ⟨k, h1, hq⟩ h'
        · omega
      subst this
      exact ⟨k, hk, hq, fun j hj hqj => h' ⟨j, hj, hqj⟩⟩

/-- A list in which not all are as asked has a first one that is not. -/
theorem first_bad {α : Type} (q : α → Prop) [DecidablePred q] (l : List α) (h : ¬ ∀ x ∈ l, q x) : ∃ (k : Nat) (x : α), l[k]? = some x ∧ ¬ q x ∧ ∀ (j : Nat) (y : α), j < k → l[j]? = some y → q y := by
  induction l with
  | nil => exact absurd (fun x hx => by cases hx) h
  | cons a r ih =>
    by_cases ha : q a
    · have h' : ¬ ∀ x ∈ r, q x := fun hr => h (fun x hx => by
        rcases List.mem_cons.1 hx with rfl | hx
        · exact ha
        · exact hr x hx)
      obtain ⟨k, x, hk, hx, hj⟩ := ih h'
      refine ⟨k + 1, x, by simpa using hk, hx, fun j y hjk hy => ?_⟩
      cases j with
      | zero => simp at hy; subst hy; exact ha
      | succ j => exact hj j y (by omega) (by simpa using hy)
    · exact ⟨0, a, rfl, ha, fun j y hj => absurd hj (by omega)⟩

theorem take_snoc {α : Type} (l : List α) (k : Nat) (x : α) (h : l[k]? = some x) : l.take (k + 1) = l.take k ++ [x] := by
  rw [List.take_add_one, h]; rfl
theorem flat_snoc {α β : Type} (f : α → List β) (l : List α) (k : Nat) (x : α) (h : l[k]? = some x) : (l.take (k + 1)).flatMap f = (l.take k).flatMap f ++ f x := by
  rw [take_snoc l k x h, List.flatMap_append]; simp
/-- The cells of element k in a row of elements of one size. -/
theorem flat_at {α β : Type} (f : α → List β) (m : Nat) (hm : ∀ x, (f x).length = m) (l : List α) (k j : Nat) (x : α) (h : l[k]? = some x) (hj : j < m) : (l.flatMap f)[k * m + j]? = (f x)[j]? := by
  induction l generalizing k with
  | nil => simp at h
  | cons a r ih =>
    cases k with
    | zero =>
      simp at h; subst h
      rw [List.flatMap_cons, Nat.zero_mul, Nat.zero_add, List.getElem?_append_left (by rw [hm]; exact hj)]
    | succ k =>
      rw [List.flatMap_cons, List.getElem?_append_right (by rw [hm, Nat.succ_mul]; omega), hm, show (k + 1) * m + j - m = k * m + j by rw [Nat.succ_mul]; omega]
      exact ih k (by simpa using h)
theorem flat_length {α β : Type} (f : α → List β) (m : Nat) (hm : ∀ x, (f x).length = m) (l : List α) : (l.flatMap f).length = l.length * m := by
  induction l with
  | nil => simp
  | cons a r ih => rw [List.flatMap_cons, List.length_append, hm, ih, List.length_cons, Nat.succ_mul]; omega
theorem Ins.bytes_length (x : Ins) : x.bytes.length = 8 := rfl
end Go.Proofs.YtadcenaafoemmaaDoor

/-
  Which programs may run, as plain data: the first thing that is wrong, and where.
-/
namespace Go.Proofs.YtadcenaafoemmaaDoor
open Go.RowKit

/-- What the fields A, B, C and K of the operations are: 0 nothing, 1 a register, 2 a future, 3 a function, 4 a place, 5 a reason, 6 a number. -/
def kd : List (List Nat) := [[0, 0, 0, 0], [1, 0, 0, 6], [1, 1, 0, 0], [1, 1, 1, 0], [1, 1, 1, 0], [1, 1, 1, 0], [1, 1, 1, 0], [1, 1, 1, 0], [1, 1, 1, 0], [0, 0, 0, 4], [1, 0, 0, 4], [1, 1, 3, 0], [0, 0, 0, 0], [2, 1, 3, 0], [1, 2, 0, 0], [1, 0, 0, 0], [0, 0, 0, 5], [1, 0, 0, 0]]
def kdAt (op j : Nat) : Nat := (kd.getD op []).getD j 0
theorem kd_le : ∀ op, op < 18 → ∀ j, j < 4 → kdAt op j ≤ 6 := by decide
theorem kd_call : ∀ op, op < 18 → ((op = 11 ∨ op = 13) ↔ kdAt op 2 = 3) := by decide
theorem kd_callB : ∀ op, op < 18 → (op = 11 ∨ op = 13) → kdAt op 1 = 1 := by decide
theorem kd_three : ∀ op, op < 18 → ∀ j, j < 4 → kdAt op j = 3 → j = 2 := by decide

/-- The instruction's numbers. -/
def Ins.num (x : Ins) : Nat → Int
  | 0 => x.a
  | 1 => x.b
  | 2 => x.c
  | _ => x.k

/-- Is a number from lo on and below hi? Else the error. -/
def rngE (lo hi e m : Int) : Int := if lo ≤ m ∧ m < hi then 0 else e
theorem rngE_in {lo hi e m : Int} (h1 : lo ≤ m) (h2 : m < hi) : rngE lo hi e m = 0 := if_pos ⟨h1, h2⟩
theorem rngE_out {lo hi e m : Int} (h : ¬ (lo ≤ m ∧ m < hi)) : rngE lo hi e m = e := if_neg h
theorem rngE_zero {lo hi e m : Int} (he : e ≠ 0) (h : rngE lo hi e m = 0) : lo ≤ m ∧ m < hi := by
  by_cases h' : lo ≤ m ∧ m < hi
  · exact h'
  · rw [rngE_out h'] at h; exact absurd h he

/-- What is wrong with a field's number. -/
def fieldE (nf pl : Nat) (kind : Nat) (n : Int) : Int :=
  if kind = 1 then rngE 0 8 6 n
  else if kind = 2 then rngE 0 4 6 n
  else if kind = 3 then rngE 0 nf 5 n
  else if kind = 4 then rngE 0 pl 6 n
  else if kind = 5 then rngE 16 2147483648 6 n
  else if kind = 6 then rngE (-2147483648) 2147483648 6 n
  else 0

/-- The first of some numbers that is not 0; 0, if there is none. -/
def firstE (g : Nat → Int) : Nat → Nat → Int
  | _, 0 => 0
  | j, m + 1 => if g j = 0 then firstE g (j + 1) m else g j
theorem firstE_ok {g : Nat → Int} : ∀ (m j : Nat), (∀ i, j ≤ i → i < j + m → g i = 0) → firstE g j m = 0
  | 0, _, _ => rfl
  | m + 1, j, h => by
    unfold firstE
    rw [if_pos (h j (Nat.le_refl _) (by omega))]
    exact firstE_ok m (j + 1) (fun i h1 h2 => h i (by omega) (by omega))
theorem firstE_bad {g : Nat → Int} : ∀ (m j k : Nat), (∀ i, j ≤ i → i < j + k → g i = 0) → k < m → g (j + k) ≠ 0 → firstE g j m = g (j + k)
  | 0, _, _, _, h, _ => by omega
  | m + 1, j, 0, _, _, h => by
    unfold firstE
    exact if_neg h
  | m + 1, j, k + 1, h, hk, hn => by
    unfold firstE
    rw [if_pos (h j (Nat.le_refl _) (by omega))]
    have := firstE_bad (g := g) m (j + 1) k (fun i h1 h2 => h i (by omega) (by omega)) (by omega) (by rw [show j + 1 + k = j + (k + 1) by omega]; exact hn)
    rw [this, show j + 1 + k = j + (k + 1) by omega]

def unusedE (x : Ins) (j : Nat) : Int := if kdAt x.op.toNat j ≠ 0 ∨ x.num j = 0 then 0 else 4
def fieldsE (nf pl : Nat) (x : Ins) (j : Nat) : Int := fieldE nf pl (kdAt x.op.toNat j) (x.num j)
def arityAt (fs : List Fn) (c : Int) : Int := ((fs[c.toNat]?).map Fn.arity).getD 0
/-- Does it begin a task for which the registers are too few? -/
def callE (fs : List Fn) (x : Ins) : Int := if (x.op = 11 ∨ x.op = 13) ∧ 8 - x.b < arityAt fs x.c then 6 else 0

/-- What is wrong with an instruction. -/
def insE (fs : List Fn) (pl : Nat) (x : Ins) : Int :=
  if 1 ≤ x.op ∧ x.op ≤ 17 then
    if firstE (unusedE x) 0 4 = 0 then
      if firstE (fieldsE fs.length pl x) 0 4 = 0 then callE fs x else firstE (fieldsE fs.length pl x) 0 4
    else 4
  else 4

def codeE (fs : List Fn) (pl : Nat) : Nat → List Ins → Nat × Int
  | _, [] => (0, 0)
  | i, x :: r => if insE fs pl x = 0 then codeE fs pl (i + 1) r else (i, insE fs pl x)
theorem codeE_ok (fs : List Fn) (pl : Nat) : ∀ (l : List Ins) (i : Nat), (∀ x ∈ l, insE fs pl x = 0) → codeE fs pl i l = (0, 0)
  | [], _, _ => rfl
  | x :: r, i, h => by
    unfold codeE
    rw [if_pos (h x (List.mem_cons_self ..))]
    exact codeE_ok fs pl r (i + 1) (fun y hy => h y (List.mem_cons_of_mem _ hy))
theorem codeE_bad (fs : List Fn) (pl : Nat) : ∀ (l : List Ins) (i k : Nat) (x : Ins), l[k]? = some x → (∀ y ∈ l.take k, insE fs pl y = 0) → insE fs pl x ≠ 0 → codeE fs pl i l = (i + k, insE fs pl x)
  | [], _, _, _, h, _, _ => by simp at h
  | a :: r, i, 0, x, h, _, hx => by
    simp at h; subst h
    unfold codeE
    rw [if_neg hx]; rfl
  | a :: r, i, k + 1, x, h, hl, hx => by
    unfold codeE
    rw [if_pos (hl a (by simp))]
    have := codeE_bad fs pl r (i + 1) k x (by simpa using h) (fun y hy => hl y (by simp [hy])) hx
    rw [this, show i + 1 + k = i + (k + 1) by omega]
theorem codeE_zero (fs : List Fn) (pl : Nat) : ∀ (l : List Ins) (i : Nat), (codeE fs pl i l).2 = 0 → ∀ x ∈ l, insE fs pl x = 0
  | [], _, _ => fun x hx => by cases hx
  | a :: r, i, h => by
    unfold codeE at h
    by_cases ha : insE fs pl a = 0
    · rw [if_pos ha] at h
      intro x hx
      rcases List.mem_cons.1 hx with rfl | hx
      · exact ha
      · exact codeE_zero fs pl r (i + 1) h x hx
    · rw [if_neg ha] at h
      exact absurd h ha

def lastOp (l : List Ins) : Int := (l.getLast?.map Ins.op).getD 0
def lastOk (l : List Ins) : Prop := lastOp l = 9 ∨ lastOp l = 16 ∨ lastOp l = 17
instance (l : List Ins) : Decidable (lastOk l) := by unfold lastOk; infer_instance
theorem last_at {l : List Ins} {x : Ins} (h : l[l.length - 1]? = some x) : lastOp l = x.op := by
  unfold lastOp
  rw [List.getLast?_eq_getElem?, h]; rfl

/-- What is wrong with a function: the instruction, and the error. -/
def fnE (fs : List Fn) (f : Fn) : Nat × Int :=
  if 0 ≤ f.arity ∧ f.arity ≤ 4 then
    if 1 ≤ f.code.length ∧ f.code.length ≤ 64 then
      if (codeE fs f.code.length 0 f.code).2 = 0 then
        if lastOk f.code then (0, 0) else (f.code.length - 1, 11)
      else codeE fs f.code.length 0 f.code
    else (0, 3)
  else (0, 6)

def fnsE (fs : List Fn) : Nat → List Fn → Nat × Nat × Int
  | _, [] => (0, 0, 0)
  | i, f :: r => if (fnE fs f).2 = 0 then fnsE fs (i + 1) r else (i, (fnE fs f).1, (fnE fs f).2)
theorem fnsE_ok (fs : List Fn) : ∀ (l : List Fn) (i : Nat), (∀ x ∈ l, (fnE fs x).2 = 0) → fnsE fs i l = (0, 0, 0)
  | [], _, _ => rfl
  | x :: r, i, h => by
    unfold fnsE
    rw [if_pos (h x (List.mem_cons_self ..))]
    exact fnsE_ok fs r (i + 1) (fun y hy => h y (List.mem_cons_of_mem _ hy))
theorem fnsE_bad (fs : List Fn) : ∀ (l : List Fn) (i k : Nat) (x : Fn), l[k]? = some x → (∀ y ∈ l.take k, (fnE fs y).2 = 0) → (fnE fs x).2 ≠ 0 → fnsE fs i l = (i + k, (fnE fs x).1, (fnE fs x).2)
  | [], _, _, _, h, _, _ => by simp at h
  | a :: r, i, 0, x, h, _, hx => by
    simp at h; subst h
    unfold fnsE
    rw [if_neg hx]; rfl
  | a :: r, i, k + 1, x, h, hl, hx => by
    unfold fnsE
    rw [if_pos (hl a (by simp))]
    have := fnsE_bad fs r (i + 1) k x (by simpa using h) (fun y hy => hl y (by simp [hy])) hx
    rw [this, show i + 1 + k = i + (k + 1) by omega]
theorem fnsE_zero (fs : List Fn) : ∀ (l : List Fn) (i : Nat), (fnsE fs i l).2.2 = 0 → ∀ x ∈ l, (fnE fs x).2 = 0
  | [], _, _ => fun x hx => by cases hx
  | a :: r, i, h => by
    unfold fnsE at h
    by_cases ha : (fnE fs a).2 = 0
    · rw [if_pos ha] at h
      intro x hx
      rcases List.mem_cons.1 hx with rfl | hx
      · exact ha
      · exact fnsE_zero fs r (i + 1) h x hx
    · rw [if_neg ha] at h
      exact absurd h ha

/-- What Check answers: the function, the instruction, the error. -/
def chk (fs : List Fn) : Nat × Nat × Int := if 1 ≤ fs.length ∧ fs.length ≤ 16 then fnsE fs 0 fs else (0, 0, 3)
end Go.Proofs.YtadcenaafoemmaaDoor

/-
  What the checker's small calls do: nothing, or the panic with the fault.
-/
namespace Go.Proofs.YtadcenaafoemmaaDoor
open Go.RowKit

/-- The panic with a fault. -/
abbrev fault (f i e : Int) : Ending := .panicked [{ v := .iface 159 (.agg #[.int .i64 f, .int .i64 i, .int .i64 e]), recovered := false }]

/-- The checker at block p: its program, and where it is. -/
def CkIs (w : World) (p : Nat) (A : Option Addr) (n c : Nat) (f i e : Int) : Prop := Blk w p 162 #[.slice A n c, .int .i64 f, .int .i64 i, .int .i64 e]

abbrev None' : Nat → Prop := fun _ => False
abbrev At (p : Nat) : Nat → Prop := fun k => k = p

/-- What a checker's call comes to. -/
def VPost (w : World) (p : Nat) (f i e : Int) (r : Ending) (w' : World) : Prop :=
  (e = 0 ∧ r = .returned (.tuple #[]) ∧ Fr None' w w') ∨ (e ≠ 0 ∧ r = fault f i e ∧ Fr (At p) w w')

theorem Fr.none {B : Nat → Prop} {w w' : World} (h : Fr None' w w') : Fr B w w' := h.mono (fun _ h => h.elim)

set_option maxHeartbeats 1000000 in
set_option maxRecDepth 100000 in
theorem must_ok (w : World) (p : Nat) (e : Int) :
    Calls Tryd.prog 83 #[.pointer (some ⟨p, 0, none⟩), .bool true, .int .i64 e] w fun r w' => r = .returned (.tuple #[]) ∧ w = w' := by
  go_enter Tryd.func83, Tryd.ntmps83
  go_wp2
  go_end0
  exact ⟨rfl, rfl⟩

set_option maxHeartbeats 1000000 in
set_option maxRecDepth 100000 in
theorem must_no (w : World) (p : Nat) (A : Option Addr) (n c : Nat) (f i e0 e : Int) (hC : CkIs w p A n c f i e0) :
    Calls Tryd.prog 83 #[.pointer (some ⟨p, 0, none⟩), .bool false, .int .i64 e] w fun r w' => r = fault f i e ∧ Fr (At p) w w' := by
  have c1 : w.cell? ⟨p, 1, none⟩ = some (.int .i64 f) := by rw [Blk.cell hC]; rfl
  have c2 : w.cell? ⟨p, 2, none⟩ = some (.int .i64 i) := by rw [Blk.cell hC]; rfl
  have c3 : w.cell? ⟨p, 3, none⟩ = some (.int .i64 e0) := by rw [Blk.cell hC]; rfl
  have f3 := Blk.frozen hC 3
  go_enter Tryd.func83, Tryd.ntmps83
  go_wp2
  exact ⟨rfl, rfl, (Fr.refl (At p) w).setCell (p := ⟨p, 3, none⟩) (.inl rfl) _⟩

theorem must_any (w : World) (p : Nat) (A : Option Addr) (n c : Nat) (f i e0 e : Int) (hC : CkIs w p A n c f i e0) (he : e ≠ 0) (t : Bool) :
    Calls Tryd.prog 83 #[.pointer (some ⟨p, 0, none⟩), .bool t, .int .i64 e] w (VPost w p f i (if t = true then 0 else e)) := by
  cases t with
  | true => exact (must_ok w p e).mono fun r w' ⟨h1, h2⟩ => .inl ⟨rfl, h1, h2 ▸ Fr.refl _ _⟩
  | false => exact (must_no w p A n c f i e0 e hC).mono fun r w' ⟨h1, h2⟩ => .inr ⟨by simpa using he, by simpa using h1, h2⟩

set_option maxHeartbeats 1000000 in
set_option maxRecDepth 100000 in
theorem within_any (w : World) (p : Nat) (A : Option Addr) (n c : Nat) (f i e0 e : Int) (hC : CkIs w p A n c f i e0) (he : e ≠ 0) (m lo hi : Int) :
    Calls Tryd.prog 79 #[.pointer (some ⟨p, 0, none⟩), .int .i64 m, .int .i64 lo, .int .i64 hi, .int .i64 e] w (VPost w p f i (rngE lo hi e m)) := by
  have HC := Lib.hid hC
  have HE := Lib.hid he
  clear hC he
  by_cases h : lo ≤ m ∧ m < hi
  · obtain ⟨h1, h2⟩ := h
    rw [rngE_in h1 h2]
    go_enter Tryd.func79, Tryd.ntmps79
    go_wp2_with fail
    refine (must_ok w p e).mono ?_
    rintro r _ ⟨rfl, rfl⟩
    go_wp2_with fail
    go_end0
    exact .inl ⟨rfl, rfl, Fr.refl _ _⟩
  · rw [rngE_out h]
    by_cases h1 : lo ≤ m
    · have h2 : ¬ m < hi := fun h2 => h ⟨h1, h2⟩
      clear h
      go_enter Tryd.func79, Tryd.ntmps79
      go_wp2_with fail
      refine (must_no w p A n c f i e0 e HC.out).mono ?_
      rintro r w1 ⟨rfl, hF⟩
      go_wp2_with fail
      exact ⟨rfl, .inr ⟨HE.out, rfl, hF⟩⟩
    · clear h
      go_enter Tryd.func79, Tryd.ntmps79
      go_wp2_with fail
      refine (must_no w p A n c f i e0 e HC.out).mono ?_
      rintro r w1 ⟨rfl, hF⟩
      go_wp2_with fail
      exact ⟨rfl, .inr ⟨HE.out, rfl, hF⟩⟩
end Go.Proofs.YtadcenaafoemmaaDoor
