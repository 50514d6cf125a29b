/-
  A task and what all tasks share, as they lie in memory.
-/
import Derived.Test.YtbhnnnpofindiaaDoorMps
import Derived.Test.YtbhnnnpofindiaaDoorPureE
import Derived.Test.YtbhnnnpofindiaaDoorOwnR
namespace Go.Proofs.YtbhnnnpofindiaaDoor
open Go.RowKit

abbrev ints (l : List Int) : List Value := l.map fun r => Value.int .i64 r
def futC (l : List (Bool × Int)) : List Value := l.flatMap fun f => [.bool f.1, .int .i64 f.2]
def spwC (l : List (Nat × Int)) : List Value := l.flatMap fun s => [.int .i64 s.1, .int .i64 s.2]
/-- The cells of a task. -/
def tkL (W : Nat) (cd pa : Value) (me : Nat) (t : Tk) (sv : Value) (ov : Bool) (v : Int) : List Value :=
  .int .i64 t.pc :: (ints t.regs ++ [.pointer (some ⟨W, 0, none⟩), cd, pa, .int .i64 me, .int .i64 t.kids] ++ futC t.futs ++ [sv, .bool ov, .int .i64 v])

theorem list8 {α : Type} {l : List α} (h : l.length = 8) : ∃ a0 a1 a2 a3 a4 a5 a6 a7, l = [a0, a1, a2, a3, a4, a5, a6, a7] := by
  match l, h with
  | [a0, a1, a2, a3, a4, a5, a6, a7], _ => exact ⟨_, _, _, _, _, _, _, _, rfl⟩
theorem list4 {α : Type} {l : List α} (h : l.length = 4) : ∃ a0 a1 a2 a3, l = [a0, a1, a2, a3] := by
  match l, h with
  | [a0, a1, a2, a3], _ => exact ⟨_, _, _, _, rfl⟩

section
variable {W : Nat} {cd pa : Value} {me : Nat} {t : Tk} {sv : Value} {ov : Bool} {v : Int}

theorem tk_pc : (tkL W cd pa me t sv ov v).toArray[0]? = some (.int .i64 t.pc) := rfl
theorem tk_reg (h8 : t.regs.length = 8) (a : Nat) (ha : a < 8) : (tkL W cd pa me t sv ov v).toArray[1 + a]? = some (.int .i64 (reg t a)) := by
  obtain ⟨pc, regs, kids, futs, spw⟩ := t
  obtain ⟨r0, r1, r2, r3, r4, r5, r6, r7, rfl⟩ := list8 h8
  have : a = 0 ∨ a = 1 ∨ a = 2 ∨ a = 3 ∨ a = 4 ∨ a = 5 ∨ a = 6 ∨ a = 7 := by omega
  rcases this with rfl | rfl | rfl | rfl | rfl | rfl | rfl | rfl <;> rfl
theorem tk_at (h8 : t.regs.length = 8) (h4 : t.futs.length = 4) : (tkL W cd pa me t sv ov v).toArray[9]? = some (.pointer (some ⟨W, 0, none⟩)) ∧ (tkL W cd pa me t sv ov v).toArray[10]? = some cd ∧ (tkL W cd pa me t sv ov v).toArray[11]? = some pa ∧
    (tkL W cd pa me t sv ov v).toArray[12]? = some (.int .i64 me) ∧ (tkL W cd pa me t sv ov v).toArray[13]? = some (.int .i64 t.kids) ∧ (tkL W cd pa me t sv ov v).toArray[22]? = some sv ∧ (tkL W cd pa me t sv ov v).toArray[23]? = some (.bool ov) ∧ (tkL W cd pa me t sv ov v).toArray[24]? = some (.int .i64 v) := by
  obtain ⟨pc, regs, kids, futs, spw⟩ := t
  obtain ⟨r0, r1, r2, r3, r4, r5, r6, r7, rfl⟩ := list8 h8
  obtain ⟨f0, f1, f2, f3, rfl⟩ := list4 h4
  exact ⟨rfl, rfl, rfl, rfl, rfl, rfl, rfl, rfl⟩
theorem tk_fut (h8 : t.regs.length = 8) (h4 : t.futs.length = 4) (b : Nat) (hb : b < 4) : (tkL W cd pa me t sv ov v).toArray[14 + b * 2]? = some (.bool (t.futs.getD b (false, 0)).1) ∧ (tkL W cd pa me t sv ov v).toArray[14 + b * 2 + 1]? = some (.int .i64 (t.futs.getD b (false, 0)).2) := by
  obtain ⟨pc, regs, kids, futs, spw⟩ := t
  obtain ⟨r0, r1, r2, r3, r4, r5, r6, r7, rfl⟩ := list8 h8
  obtain ⟨f0, f1, f2, f3, rfl⟩ := list4 h4
  have : b = 0 ∨ b = 1 ∨ b = 2 ∨ b = 3 := by omega
  rcases this with rfl | rfl | rfl | rfl <;> exact ⟨rfl, rfl⟩
theorem tk_futs (h8 : t.regs.length = 8) (h4 : t.futs.length = 4) (i : Nat) (hi : i < 8) : (tkL W cd pa me t sv ov v).toArray[14 + i]? = (futC t.futs)[i]? := by
  obtain ⟨pc, regs, kids, futs, spw⟩ := t
  obtain ⟨r0, r1, r2, r3, r4, r5, r6, r7, rfl⟩ := list8 h8
  obtain ⟨f0, f1, f2, f3, rfl⟩ := list4 h4
  have : i = 0 ∨ i = 1 ∨ i = 2 ∨ i = 3 ∨ i = 4 ∨ i = 5 ∨ i = 6 ∨ i = 7 := by omega
  rcases this with rfl | rfl | rfl | rfl | rfl | rfl | rfl | rfl <;> rfl

theorem tk_setPc (p : Nat) (x : Value) (hx : x = .int .i64 p) : (tkL W cd pa me t sv ov v).toArray.setIfInBounds 0 x = (tkL W cd pa me { t with pc := p } sv ov v).toArray := by subst hx; rfl
theorem tk_setR (h8 : t.regs.length = 8) (a : Nat) (ha : a < 8) (y : Int) : (tkL W cd pa me t sv ov v).toArray.setIfInBounds (1 + a) (.int .i64 y) = (tkL W cd pa me (setR t a y) sv ov v).toArray := by
  obtain ⟨pc, regs, kids, futs, spw⟩ := t
  obtain ⟨r0, r1, r2, r3, r4, r5, r6, r7, rfl⟩ := list8 h8
  have : a = 0 ∨ a = 1 ∨ a = 2 ∨ a = 3 ∨ a = 4 ∨ a = 5 ∨ a = 6 ∨ a = 7 := by omega
  rcases this with rfl | rfl | rfl | rfl | rfl | rfl | rfl | rfl <;> rfl
theorem tk_setKids (h8 : t.regs.length = 8) (h4 : t.futs.length = 4) (n : Nat) (x : Value) (hx : x = .int .i64 n) : (tkL W cd pa me t sv ov v).toArray.setIfInBounds 13 x = (tkL W cd pa me { t with kids := n } sv ov v).toArray := by
  subst hx
  obtain ⟨pc, regs, kids, futs, spw⟩ := t
  obtain ⟨r0, r1, r2, r3, r4, r5, r6, r7, rfl⟩ := list8 h8
  obtain ⟨f0, f1, f2, f3, rfl⟩ := list4 h4
  rfl
theorem tk_setSpw (h8 : t.regs.length = 8) (h4 : t.futs.length = 4) (x : Value) (l : List (Nat × Int)) : (tkL W cd pa me t sv ov v).toArray.setIfInBounds 22 x = (tkL W cd pa me { t with spw := l } x ov v).toArray := by
  obtain ⟨pc, regs, kids, futs, spw⟩ := t
  obtain ⟨r0, r1, r2, r3, r4, r5, r6, r7, rfl⟩ := list8 h8
  obtain ⟨f0, f1, f2, f3, rfl⟩ := list4 h4
  rfl
theorem tk_setEnd (h8 : t.regs.length = 8) (h4 : t.futs.length = 4) (y : Int) : ((tkL W cd pa me t sv ov v).toArray.setIfInBounds 23 (.bool true)).setIfInBounds 24 (.int .i64 y) = (tkL W cd pa me t sv true y).toArray := by
  obtain ⟨pc, regs, kids, futs, spw⟩ := t
  obtain ⟨r0, r1, r2, r3, r4, r5, r6, r7, rfl⟩ := list8 h8
  obtain ⟨f0, f1, f2, f3, rfl⟩ := list4 h4
  rfl
theorem tk_setFut (h8 : t.regs.length = 8) (h4 : t.futs.length = 4) (b : Nat) (hb : b < 4) (y : Int) : ((tkL W cd pa me t sv ov v).toArray.setIfInBounds (14 + b * 2) (.bool true)).setIfInBounds (14 + b * 2 + 1) (.int .i64 y) = (tkL W cd pa me { t with futs := t.futs.set b (true, y) } sv ov v).toArray := by
  obtain ⟨pc, regs, kids, futs, spw⟩ := t
  obtain ⟨r0, r1, r2, r3, r4, r5, r6, r7, rfl⟩ := list8 h8
  obtain ⟨f0, f1, f2, f3, rfl⟩ := list4 h4
  have : b = 0 ∨ b = 1 ∨ b = 2 ∨ b = 3 := by omega
  rcases this with rfl | rfl | rfl | rfl <;> rfl
end

/-- A row of numbers in a block of its own, of type int. -/
def PInts (w : World) (A : Option Addr) (xs : List Int) : Prop := 0 < xs.length → ∃ (b : Nat) (cs : Array Value), A = some ⟨b, 0, none⟩ ∧ Blk w b 3 cs ∧ ∀ (j : Nat) (x : Int), xs[j]? = some x → cs[j]? = some (Value.int .i64 x)
theorem PInts.fr {w w' : World} {A : Option Addr} {xs : List Int} {B : Nat → Prop} (h : PInts w A xs) (hf : Fr B w w') (hB : ∀ k cs, Blk w k 3 cs → ¬ B k) : PInts w' A xs := fun h0 => by
  obtain ⟨b, cs, e, hb, hc⟩ := h h0
  exact ⟨b, cs, e, hb.fr hf (hB _ _ hb), hc⟩
theorem PInts.nil {w : World} {A : Option Addr} : PInts w A [] := fun h => absurd h (by simp)

/-- An entry of the log, and where its path lies. -/
structure LEnt where
  path : List Int
  steps : Int
  A : Option Addr
  c : Nat
def LEnt.cells (x : LEnt) : List Value := [.slice x.A x.path.length x.c, .int .i64 x.steps]
theorem LEnt.cells_length (x : LEnt) : x.cells.length = 2 := rfl
def LEnt.pure (x : LEnt) : List Int × Int := (x.path, x.steps)

/-- What an evaluation has from its start on. -/
structure Cx where
  base : Nat
  W : Nat
  pm : Nat
  dm : Nat
  PA : Option Addr
  pc : Nat
  L : List LFn
  bud : Int
  dep : Int

/-- What all tasks share, in memory. -/
structure ShAt (c : Cx) (w : World) (sh : Sh) (tv lv : Value) (ll : List LEnt) : Prop where
  blk : Blk w c.W 75 #[.slice c.PA c.L.length c.pc, .int .i64 c.bud, .int .i64 c.dep, .int .i64 sh.left, .map (some c.pm), .map (some c.dm), tv, lv]
  low : c.base ≤ c.W
  told : w.ownsRow c.base 2 1 tv sh.told.length (ints sh.told)
  log : w.ownsRow c.base 49 2 lv ll.length (ll.flatMap LEnt.cells)
  same : ll.map LEnt.pure = sh.log
  paths : ∀ x ∈ ll, PInts w x.A x.path
  pmap : w.heap[c.pm]? = some (.map plE 9)
  dmap : w.heap[c.dm]? = some (.map evE 8)
  prog : FnRow w (fun b => b < c.base) c.PA c.L

/-- The blocks that an evaluation may turn. -/
def ShB (c : Cx) (tv lv : Value) (k : Nat) : Prop := k = c.W ∨ tv.ownBlock = some k ∨ lv.ownBlock = some k

/-- What a task has from its start on. -/
structure Ti where
  g : Nat
  CA : Option Addr
  cc : Nat
  code : List Ins
  pA : Option Addr
  pc : Nat
  path : List Int
  me : Nat

/-- A task in memory. -/
structure TkAt (c : Cx) (i : Ti) (w : World) (t : Tk) (sv : Value) (ov : Bool) (v : Int) : Prop where
  blk : Blk w i.g 106 (tkL c.W (.slice i.CA i.code.length i.cc) (.slice i.pA i.path.length i.pc) i.me t sv ov v).toArray
  low : c.base ≤ i.g
  r8 : t.regs.length = 8
  f4 : t.futs.length = 4
  spw : w.ownsRow c.base 117 2 sv t.spw.length (spwC t.spw)
  reg8 : ∀ s ∈ t.spw, s.1 < 8
  cod : InsRow w (fun b => b < c.base) i.CA i.code
  pth : PInts w i.pA i.path
  pcap : i.path.length ≤ i.pc
/-- The blocks that a task's step may turn besides. -/
def TkB (c : Cx) (i : Ti) (tv lv sv : Value) (k : Nat) : Prop := k = i.g ∨ sv.ownBlock = some k ∨ ShB c tv lv k

/-- Blocks from base on of the types that T lets in. -/
def Typed (w : World) (base : Nat) (T : TypeId → Prop) (k : Nat) : Prop := base ≤ k ∧ ∃ cs t, Blk w k t cs ∧ T t
theorem Typed.blk {w : World} {base : Nat} {T : TypeId → Prop} {g : Nat} {t : TypeId} {cs : Array Value} (h : Blk w g t cs) (hb : base ≤ g) (hT : T t) : Typed w base T g := ⟨hb, cs, t, h, hT⟩
theorem Typed.own {w : World} {base size n : Nat} {e : TypeId} {v : Value} {xs : List Value} {T : TypeId → Prop} {k : Nat} (h : w.ownsRow base e size v n xs) (hk : v.ownBlock = some k) (hT : T e) : Typed w base T k := by
  rcases h.2 with ⟨rfl, _⟩ | ⟨g, cap, cur, rfl, hg, hh, _⟩
  · cases hk
  · have : g = k := by simpa [Value.ownBlock] using hk
    subst this
    exact ⟨hg, cur, e, hh, hT⟩
theorem Typed.ne {w : World} {base : Nat} {T : TypeId → Prop} {k g : Nat} {t : TypeId} {cs : Array Value} (h : Typed w base T k) (hg : Blk w g t cs) (hT : ¬ T t) : k ≠ g := by
  rintro rfl
  obtain ⟨_, cs', t', h', hT'⟩ := h
  unfold Blk at hg h'
  rw [hg] at h'
  injection h' with h'
  injection h' with _ ht
  subst ht
  exact hT hT'
theorem Typed.ne_map {w : World} {base : Nat} {T : TypeId → Prop} {k g : Nat} {es : Array MapEntry} {n : Nat} (h : Typed w base T k) (hg : w.heap[g]? = some (.map es n)) : k ≠ g := by
  rintro rfl
  obtain ⟨_, cs', t', h', hT'⟩ := h
  unfold Blk at h'
  rw [hg] at h'
  cases h'
theorem Typed.ne_own {w : World} {base base' size n : Nat} {e : TypeId} {v : Value} {xs : List Value} {T : TypeId → Prop} {k : Nat} (h : Typed w base T k) (ho : w.ownsRow base' e size v n xs) (hT : ¬ T e) : v.ownBlock ≠ some k := by
  obtain ⟨_, cs', t', h', hT'⟩ := h
  exact own_ne ho h' (fun he => hT (he ▸ hT'))

/-- The types of what a task has for itself. -/
def TT (t : TypeId) : Prop := t = 106 ∨ t = 117 ∨ t = 55 ∨ t = 81
def ST (t : TypeId) : Prop := t = 75 ∨ t = 2 ∨ t = 49

theorem heap_keep {w w' : World} {B : Nat → Prop} {g : Nat} {o : Obj} (hf : Fr B w w') (h : w.heap[g]? = some o) (hB : ¬ B g) : w'.heap[g]? = some o := by
  have hlt : g < w.heap.size := by
    rcases Nat.lt_or_ge g w.heap.size with h1 | h1
    · exact h1
    · rw [Array.getElem?_eq_none h1] at h; cases h
  rw [hf.block g hlt hB]; exact h

theorem ShAt.keep {c : Cx} {w w' : World} {sh : Sh} {tv lv : Value} {ll : List LEnt} {B : Nat → Prop} (h : ShAt c w sh tv lv ll) (hf : Fr B w w') (hB : ∀ k, B k → Typed w c.base TT k) : ShAt c w' sh tv lv ll := by
  have nW : ¬ TT 75 := by unfold TT; decide
  have nI : ¬ TT 2 := by unfold TT; decide
  have nE : ¬ TT 49 := by unfold TT; decide
  have nN : ¬ TT 3 := by unfold TT; decide
  exact ⟨h.blk.fr hf (fun hb => (hB _ hb).ne h.blk nW rfl), h.low, own_fr h.told hf (fun k hk hb => (hB _ hb).ne_own h.told nI hk), own_fr h.log hf (fun k hk hb => (hB _ hb).ne_own h.log nE hk), h.same,
    fun x hx => (h.paths x hx).fr hf (fun k cs hk hb => (hB _ hb).ne hk nN rfl), heap_keep hf h.pmap (fun hb => (hB _ hb).ne_map h.pmap rfl), heap_keep hf h.dmap (fun hb => (hB _ hb).ne_map h.dmap rfl),
    h.prog.fr hf (fun b hb hk => by have := (hB _ hk).1; omega)⟩

theorem ShB.typed {c : Cx} {w : World} {sh : Sh} {tv lv : Value} {ll : List LEnt} (h : ShAt c w sh tv lv ll) {k : Nat} (hk : ShB c tv lv k) : Typed w c.base ST k := by
  rcases hk with rfl | hk | hk
  · exact Typed.blk h.blk h.low (.inl rfl)
  · exact Typed.own h.told hk (.inr (.inl rfl))
  · exact Typed.own h.log hk (.inr (.inr rfl))

theorem TkAt.keep {c : Cx} {i : Ti} {w w' : World} {t : Tk} {sv : Value} {ov : Bool} {v : Int} {B : Nat → Prop} (h : TkAt c i w t sv ov v) (hf : Fr B w w') (hB : ∀ k, B k → Typed w c.base ST k) : TkAt c i w' t sv ov v := by
  have nT : ¬ ST 106 := by unfold ST; decide
  have nS : ¬ ST 117 := by unfold ST; decide
  have nN : ¬ ST 3 := by unfold ST; decide
  exact ⟨h.blk.fr hf (fun hb => (hB _ hb).ne h.blk nT rfl), h.low, h.r8, h.f4, own_fr h.spw hf (fun k hk hb => (hB _ hb).ne_own h.spw nS hk), h.reg8, h.cod.fr hf (fun b hb hk => by have := (hB _ hk).1; omega), h.pth.fr hf (fun k cs hk hb => (hB _ hb).ne hk nN rfl), h.pcap⟩

/-- Behind a turn of the task's own block. -/
theorem TkAt.turn {c : Cx} {i : Ti} {w w' : World} {t t' : Tk} {sv : Value} {ov ov' : Bool} {v v' : Int} (h : TkAt c i w t sv ov v) (hf : Fr (At i.g) w w')
    (hb : Blk w' i.g 106 (tkL c.W (.slice i.CA i.code.length i.cc) (.slice i.pA i.path.length i.pc) i.me t' sv ov' v').toArray) (h8 : t'.regs.length = 8) (h4 : t'.futs.length = 4) (hs : t'.spw = t.spw) : TkAt c i w' t' sv ov' v' := by
  have nN : 3 ≠ 106 := by decide
  refine ⟨hb, h.low, h8, h4, ?_, ?_, h.cod.fr hf (fun b hb hk => by have := h.low; unfold At at hk; omega), h.pth.fr hf (fun k cs hk hb => ?_), h.pcap⟩
  · rw [hs]
    exact own_fr h.spw hf (fun k hk hb => by
      have he : k = i.g := hb
      subst he
      exact own_ne h.spw h.blk (by decide) hk)
  · rw [hs]; exact h.reg8
  · have he : k = i.g := hb
    subst he
    exact Blk.ne_ hk h.blk nN rfl
theorem setR_len (t : Tk) (a : Nat) (v : Int) : (setR t a v).regs.length = t.regs.length := by simp [setR]

/-- A value's own block is the elder one's, or new. -/
def Newer (w : World) (v v' : Value) : Prop := ∀ k, v'.ownBlock = some k → v.ownBlock = some k ∨ w.heap.size ≤ k
theorem Newer.refl (w : World) (v : Value) : Newer w v v := fun _ h => .inl h
theorem Newer.trans {w w' : World} {a b c : Value} (h : Newer w a b) (h' : Newer w' b c) (hs : w.heap.size ≤ w'.heap.size) : Newer w a c := fun k hk => by
  rcases h' k hk with h1 | h1
  · exact h k h1
  · exact .inr (by omega)
theorem Newer.grow {w w0 : World} {v v' : Value} (h : v'.ownBlock = v.ownBlock ∨ v'.ownBlock = some w.heap.size) (hs : w0.heap.size ≤ w.heap.size) : Newer w0 v v' := fun k hk => by
  rcases h with h | h
  · exact .inl (h ▸ hk)
  · rw [h] at hk
    have : w.heap.size = k := by simpa using hk
    exact .inr (by omega)
end Go.Proofs.YtbhnnnpofindiaaDoor
