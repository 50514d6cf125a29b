/-
  Package epoch's memory, read as plain data: workers with what they announced and their rows of things. No condition.
-/
import Derived.Test.YtjphmiemakmcbaaBase
import Derived.Test.YtjphmiemakmcbaaHeld
import Derived.Test.YtjphmiemakmcbaaApp
import Derived.RegionTactic
import Derived.BigRegion
import Derived.Deep.QuietTactic
import Derived.BigQuiet
import Derived.StillTailTactics
import Derived.Test.YtjphmiemakmcbaaProg
import Derived.KernelRfl
namespace Go.Proofs.Ytjphmiemakmcbaa
open Go.RowKit

abbrev F0 : Nat → Prop := fun _ => False
theorem Fr.f0 {B : Nat → Prop} {w w' : World} (h : Fr F0 w w') : Fr B w w' := h.mono (fun _ h => h.elim)

/-- Cells of pairs. -/
def pc (l : List (Value × Value)) : List Value := l.flatMap fun x => [x.1, x.2]
theorem pc_cons (x : Value × Value) (r : List (Value × Value)) : pc (x :: r) = x.1 :: x.2 :: pc r := rfl
theorem pc_length (l : List (Value × Value)) : (pc l).length = l.length * 2 := by
  induction l with
  | nil => rfl
  | cons x r ih => rw [pc_cons]; simp [ih]; omega
theorem pc_append (a b : List (Value × Value)) : pc (a ++ b) = pc a ++ pc b := by simp [pc]
theorem pc_even (l : List (Value × Value)) (i : Nat) : (pc l)[i * 2]? = l[i]?.map Prod.fst := by
  induction l generalizing i with
  | nil => simp [pc]
  | cons x r ih =>
    rw [pc_cons]
    cases i with
    | zero => simp
    | succ k => rw [show (k + 1) * 2 = k * 2 + 1 + 1 by omega]; simpa using ih k
theorem pc_odd (l : List (Value × Value)) (i : Nat) : (pc l)[i * 2 + 1]? = l[i]?.map Prod.snd := by
  induction l generalizing i with
  | nil => simp [pc]
  | cons x r ih =>
    rw [pc_cons]
    cases i with
    | zero => simp
    | succ k => rw [show (k + 1) * 2 + 1 = k * 2 + 1 + 1 + 1 by omega]; simpa using ih k
theorem pc_set_even (l : List (Value × Value)) (i : Nat) (a b u : Value) (h : l[i]? = some (a, b)) : (pc l).set (i * 2) u = pc (l.set i (u, b)) := by
  induction l generalizing i with
  | nil => simp at h
  | cons x r ih =>
    cases i with
    | zero => simp at h; subst h; simp [pc_cons]
    | succ k => rw [pc_cons, show (k + 1) * 2 = k * 2 + 1 + 1 by omega]; simp only [List.set_cons_succ, pc_cons]; rw [ih k (by simpa using h)]
theorem pc_set_odd (l : List (Value × Value)) (i : Nat) (a b u : Value) (h : l[i]? = some (a, b)) : (pc l).set (i * 2 + 1) u = pc (l.set i (a, u)) := by
  induction l generalizing i with
  | nil => simp at h
  | cons x r ih =>
    cases i with
    | zero => simp at h; subst h; simp [pc_cons]
    | succ k => rw [pc_cons, show (k + 1) * 2 + 1 = k * 2 + 1 + 1 + 1 by omega]; simp only [List.set_cons_succ, pc_cons]; rw [ih k (by simpa using h)]
theorem pc_drop (l : List (Value × Value)) (i : Nat) : (pc l).drop (i * 2) = pc (l.drop i) := by
  induction l generalizing i with
  | nil => simp [pc]
  | cons x r ih =>
    cases i with
    | zero => simp
    | succ k => rw [pc_cons, show (k + 1) * 2 = k * 2 + 1 + 1 by omega]; simpa using ih k

section
variable {w w' : World} {base base' size size' n n' : Nat} {e e' : TypeId} {v v' : Value} {xs xs' : List Value}
theorem own_ne {t : TypeId} {cs : Array Value} {g : Nat} (h : w.ownsRow base e size v n xs) (hg : Blk w g t cs) (hne : e ≠ t) : v.ownBlock ≠ some g := by
  rcases h.2 with ⟨rfl, _⟩ | ⟨g', cap, cur, rfl, _, hh, _⟩
  · simp [Value.ownBlock]
  · intro he
    have : g' = g := by simpa [Value.ownBlock] using he
    subst this
    exact Blk.ne_ (t := e) hh hg hne rfl
theorem own_fr {B : Nat → Prop} (h : w.ownsRow base e size v n xs) (hf : Fr B w w') (hB : ∀ g, v.ownBlock = some g → ¬ B g) : w'.ownsRow base e size v n xs := by
  refine ⟨h.1, ?_⟩
  rcases h.2 with h2 | ⟨g, cap, cur, hv, hg, hh, r⟩
  · exact .inl h2
  · have hlt : g < w.heap.size := Blk.lt (t := e) hh
    exact .inr ⟨g, cap, cur, hv, hg, (hf.block g hlt (hB g (by rw [hv]; rfl))).trans hh, r⟩
theorem own_apart (h : w.ownsRow base e size v n xs) (h' : w.ownsRow base' e' size' v' n' xs') (hne : e ≠ e') : ∀ g, v.ownBlock = some g → v'.ownBlock ≠ some g := by
  intro g hg hg'
  rcases h.2 with ⟨rfl, _⟩ | ⟨g1, cap, cur, rfl, _, h1, _⟩
  · cases hg
  · rcases h'.2 with ⟨rfl, _⟩ | ⟨g2, cap2, cur2, rfl, _, h2, _⟩
    · cases hg'
    · simp only [Value.ownBlock, Option.some.injEq] at hg hg'
      subst hg; subst hg'
      rw [h1] at h2
      injection h2 with h2
      injection h2 with _ ht
      exact hne ht
theorem own_low (h : w.ownsRow base e size v n xs) : ∀ g, v.ownBlock = some g → base ≤ g := by
  intro g hg
  rcases h.2 with ⟨rfl, _⟩ | ⟨g1, cap, cur, rfl, hb, h1, _⟩
  · cases hg
  · simp only [Value.ownBlock, Option.some.injEq] at hg
    omega
theorem own_lt (h : w.ownsRow base e size v n xs) : ∀ g, v.ownBlock = some g → g < w.heap.size := fun g hg => (h.lt g hg).2
theorem own_slice (h : w.ownsRow base e size v n xs) : ∃ A c, v = .slice A n c := by
  rcases h.2 with ⟨rfl, rfl⟩ | ⟨g1, cap, cur, rfl, hb, h1, _⟩
  · exact ⟨none, 0, rfl⟩
  · exact ⟨_, cap, rfl⟩
theorem own_down (h : w.ownsRow base e size v n xs) (hb : base' ≤ base) : w.ownsRow base' e size v n xs := by
  refine ⟨h.1, ?_⟩
  rcases h.2 with h0 | ⟨g, cap, cur, rfl, hb', hg, rest⟩
  · exact .inl h0
  · exact .inr ⟨g, cap, cur, rfl, by omega, hg, rest⟩
/-- A row's block, by its heading. -/
theorem own_head (h : w.ownsRow base e size v n xs) : ∀ g, v.ownBlock = some g → ∃ cs, w.heap[g]? = some (.cells cs e (0, 0)) := by
  intro g hg
  rcases h.2 with ⟨rfl, _⟩ | ⟨g1, cap, cur, rfl, hb, h1, _⟩
  · cases hg
  · simp only [Value.ownBlock, Option.some.injEq] at hg
    subst hg
    exact ⟨_, h1⟩
theorem own_pair {l : List (Value × Value)} {i : Nat} {a b : Value} (h : w.ownsRow base e 2 v n (pc l)) (hi : l[i]? = some (a, b)) :
    ∃ g cap, v = .slice (some ⟨g, 0, none⟩) n cap ∧ base ≤ g ∧ i < n ∧ n ≤ cap ∧ cap ≤ maxLen ∧ w.cell? ⟨g, i * 2, none⟩ = some a ∧ w.cell? ⟨g, i * 2 + 1, none⟩ = some b ∧ (∀ j, w.frozen? ⟨g, j, none⟩ = false) := by
  have hil : i < l.length := (List.getElem?_eq_some_iff.1 hi).1
  have hn : l.length = n := by have := h.1; rw [pc_length] at this; omega
  rcases h.2 with ⟨rfl, h0⟩ | ⟨g, cap, cur, rfl, hb, hg, hnc, hcm, hcs, htk⟩
  · omega
  · have hB : Blk w g e cur := hg
    have hc : ∀ j, j < n * 2 → w.cell? ⟨g, j, none⟩ = (pc l)[j]? := by
      intro j hj
      rw [hB.cell, ← htk, List.getElem?_take_of_lt (by omega)]
      simp
    refine ⟨g, cap, rfl, hb, by omega, hnc, hcm, ?_, ?_, fun j => hB.frozen j⟩
    · rw [hc _ (by omega), pc_even, hi]; rfl
    · rw [hc _ (by omega), pc_odd, hi]; rfl
theorem own_set {g cap j : Nat} {u : Value} (h : w.ownsRow base e size (.slice (some ⟨g, 0, none⟩) n cap) n xs) : (w.setCell ⟨g, j, none⟩ u).ownsRow base e size (.slice (some ⟨g, 0, none⟩) n cap) n (xs.set j u) := by
  refine ⟨by rw [List.length_set]; exact h.1, ?_⟩
  rcases h.2 with ⟨h0, _⟩ | ⟨g', cap', cur, hv, hb, hg, hnc, hcm, hcs, htk⟩
  · cases h0
  · injection hv with h1 h2 h3
    injection h1 with h1
    injection h1 with h1
    subst h1; subst h3
    have hB : Blk w g e cur := hg
    refine .inr ⟨g, cap, _, rfl, hb, hB.set_ j u, hnc, hcm, by rw [Array.size_setIfInBounds]; exact hcs, ?_⟩
    rw [← htk, Array.toList_setIfInBounds, List.take_set]
end

/-- A worker: what it announced, and its things, each with the epoch. -/
structure Wk where
  ann : Int
  limbo : List (Int × Nat)
def thC (l : List (Int × Nat)) : List (Value × Value) := l.map fun t => (.int .i64 t.1, .int .i64 (t.2 : Int))
def wkC (l : List (Wk × Value)) : List (Value × Value) := l.map fun r => (.int .i64 r.1.ann, r.2)
/-- Blocks of package epoch. -/
def Mine (w : World) (k : Nat) : Prop := ∃ cs t fr, w.heap[k]? = some (.cells cs t fr) ∧ (t = 55 ∨ t = 58 ∨ t = 60)
/-- Epochs in memory. -/
structure EpR (w : World) (base x now : Nat) (v : Value) (rows : List (Wk × Value)) : Prop where
  hx : Blk w x 55 #[.int .i64 (now : Int), v]
  bx : base ≤ x
  hr : w.ownsRow base 58 2 v rows.length (pc (wkC rows))
  hl : ∀ r ∈ rows, w.ownsRow base 60 2 r.2 r.1.limbo.length (pc (thC r.1.limbo))
  hd : ∀ (i j : Nat) (ri rj : Wk × Value) (b : Nat), rows[i]? = some ri → rows[j]? = some rj → ri.2.ownBlock = some b → rj.2.ownBlock = some b → i = j
  ha : ∀ r ∈ rows, ∀ t ∈ r.1.limbo, t.2 ≤ now
def EpAt (w : World) (base x now : Nat) (ws : List Wk) : Prop := ∃ v rows, rows.map Prod.fst = ws ∧ EpR w base x now v rows
/-- Of what was there only blocks of package epoch from base on have turned. -/
abbrev FrE (base : Nat) (w w' : World) : Prop := Fr (fun k => base ≤ k ∧ Mine w k) w w'

theorem EpR.fr {w w' : World} {base x now : Nat} {v : Value} {rows : List (Wk × Value)} {B : Nat → Prop} (h : EpR w base x now v rows) (hf : Fr B w w') (hB : ∀ k, Mine w k → ¬ B k) : EpR w' base x now v rows := by
  refine ⟨h.hx.fr hf (hB x ⟨_, _, _, h.hx, .inl rfl⟩), h.bx, own_fr h.hr hf ?_, fun r hr => own_fr (h.hl r hr) hf ?_, h.hd, h.ha⟩
  · intro g hg
    obtain ⟨cs, hcs⟩ := own_head h.hr g hg
    exact hB g ⟨_, _, _, hcs, .inr (.inl rfl)⟩
  · intro g hg
    obtain ⟨cs, hcs⟩ := own_head (h.hl r hr) g hg
    exact hB g ⟨_, _, _, hcs, .inr (.inr rfl)⟩
theorem EpAt.fr {w w' : World} {base x now : Nat} {ws : List Wk} {B : Nat → Prop} (h : EpAt w base x now ws) (hf : Fr B w w') (hB : ∀ k, Mine w k → ¬ B k) : EpAt w' base x now ws := by
  obtain ⟨v, rows, e, hE⟩ := h
  exact ⟨v, rows, e, hE.fr hf hB⟩
theorem EpAt.f0 {w w' : World} {base x now : Nat} {ws : List Wk} (h : EpAt w base x now ws) (hf : Fr F0 w w') : EpAt w' base x now ws := h.fr hf (fun _ _ h => h)
theorem FrE.trans {base : Nat} {a b c : World} (h : FrE base a b) (k : FrE base b c) : FrE base a c := by
  refine ⟨k.os.trans h.os, k.tape.trans h.tape, k.output.trans h.output, Nat.le_trans h.size k.size, fun i hi hn => ?_⟩
  have h1 := h.block i hi hn
  refine (k.block i (Nat.lt_of_lt_of_le hi h.size) ?_).trans h1
  rintro ⟨hb, cs, t, fr, he, ht⟩
  exact hn ⟨hb, cs, t, fr, by rw [← h1]; exact he, ht⟩
theorem FrE.refl (base : Nat) (w : World) : FrE base w w := Fr.refl _ _
/-- A block of another type is as it was. -/
theorem Blk.frE {w w' : World} {base g : Nat} {t : TypeId} {cs : Array Value} (h : Blk w g t cs) (hf : FrE base w w') (ht : t ≠ 55 ∧ t ≠ 58 ∧ t ≠ 60) : Blk w' g t cs := by
  refine h.fr hf ?_
  rintro ⟨_, cs', t', fr, he, h1⟩
  unfold Blk at h
  rw [h] at he
  injection he with he
  injection he with _ h2
  subst h2
  rcases h1 with h1 | h1 | h1
  · exact ht.1 h1
  · exact ht.2.1 h1
  · exact ht.2.2 h1
theorem own_frE {w w' : World} {base base' size n : Nat} {e : TypeId} {v : Value} {xs : List Value} (h : w.ownsRow base' e size v n xs) (hf : FrE base w w') (ht : e ≠ 55 ∧ e ≠ 58 ∧ e ≠ 60) : w'.ownsRow base' e size v n xs := by
  refine own_fr h hf ?_
  rintro g hg ⟨_, cs', t', fr, he, h1⟩
  obtain ⟨cs, hcs⟩ := own_head h g hg
  rw [hcs] at he
  injection he with he
  injection he with _ h2
  subst h2
  rcases h1 with h1 | h1 | h1
  · exact ht.1 h1
  · exact ht.2.1 h1
  · exact ht.2.2 h1
end Go.Proofs.Ytjphmiemakmcbaa
