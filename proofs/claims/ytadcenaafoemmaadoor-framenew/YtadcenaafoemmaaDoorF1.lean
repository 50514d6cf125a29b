/-
  A turn in memory; what the operations that are not plain, and begin no task, come to. No condition.
-/
import Derived.Test.YtadcenaafoemmaaDoorMps
import Derived.Deep.DeepCutAuto
import Derived.Deep.MidRow
import Derived.Laws.Rows
import Derived.Laws.Tables
import Derived.OrdersHeld
import Derived.Deep.RegionHeld
import Derived.Still
import Derived.StillTailTactics
namespace Go.Proofs.YtadcenaafoemmaaDoor
open Go.RowKit

def ints (l : List Int) : List Value := l.map (Value.int .i64)
theorem ints_length (l : List Int) : (ints l).length = l.length := List.length_map _
theorem ints_at {l : List Int} {i : Nat} {x : Int} (h : l[i]? = some x) : (ints l)[i]? = some (.int .i64 x) := by simp [ints, h]
/-- A turn's cells: where it goes on, its registers, its frame, its program, its limits. -/
def tnL (at_ : Int) (regs : List Int) (F : Nat) (pg : Value) (bud dep : Int) : List Value := [.int .i64 at_] ++ ints regs ++ [.pointer (some ⟨F, 0, none⟩), pg, .int .i64 bud, .int .i64 dep]
/-- A frame's cells. -/
def frL (fn at_ st kd : Int) (pv : Value) (regs hands : List Int) : List Value := [.int .i64 fn, .int .i64 at_, .int .i64 st, .int .i64 kd, pv] ++ ints regs ++ ints hands
/-- An effect's cells. -/
def efC (kind value reg fn hand why : Int) (args path : Value) : Array Value := #[.int .i64 kind, .int .i64 value, .int .i64 reg, .int .i64 fn, .int .i64 hand, .int .i64 why, args, path]
abbrev nilS : Value := .slice none 0 0
section
variable {at_ fn st kd bud dep : Int} {regs hands : List Int} {F : Nat} {pg pv : Value}
theorem tn_reg (h : regs.length = 8) {a : Nat} {x : Int} (ha : regs[a]? = some x) : (tnL at_ regs F pg bud dep).toArray[1 + a]? = some (.int .i64 x) := by
  have hl := (List.getElem?_eq_some_iff.1 ha).1
  rw [List.getElem?_toArray]
  unfold tnL
  rw [List.append_assoc, List.getElem?_append_right (by simp)]
  rw [List.getElem?_append_left (by rw [ints_length]; simp; omega)]
  simp only [List.length_cons, List.length_nil]
  rw [show 1 + a - (0 + 1) = a by omega]
  exact ints_at ha
theorem tn_rest (h : regs.length = 8) : (tnL at_ regs F pg bud dep).toArray[0]? = some (.int .i64 at_) ∧ (tnL at_ regs F pg bud dep).toArray[9]? = some (.pointer (some ⟨F, 0, none⟩)) ∧ (tnL at_ regs F pg bud dep).toArray[10]? = some pg ∧ (tnL at_ regs F pg bud dep).toArray[11]? = some (.int .i64 bud) ∧ (tnL at_ regs F pg bud dep).toArray[12]? = some (.int .i64 dep) := by
  match regs, h with
  | [r0, r1, r2, r3, r4, r5, r6, r7], _ => exact ⟨rfl, rfl, rfl, rfl, rfl⟩
theorem tn_setR (h : regs.length = 8) {a : Nat} (ha : a < 8) (y : Int) : (tnL at_ regs F pg bud dep).toArray.setIfInBounds (1 + a) (.int .i64 y) = (tnL at_ (regs.set a y) F pg bud dep).toArray := by
  match regs, h with
  | [r0, r1, r2, r3, r4, r5, r6, r7], _ =>
    have : a = 0 ∨ a = 1 ∨ a = 2 ∨ a = 3 ∨ a = 4 ∨ a = 5 ∨ a = 6 ∨ a = 7 := by omega
    rcases this with rfl | rfl | rfl | rfl | rfl | rfl | rfl | rfl <;> rfl
theorem tn_setA (k : Int) : (tnL at_ regs F pg bud dep).toArray.setIfInBounds 0 (.int .i64 k) = (tnL k regs F pg bud dep).toArray := by rfl
theorem fr_hand (h8 : regs.length = 8) (h4 : hands.length = 4) {b : Nat} {x : Int} (hb : hands[b]? = some x) : (frL fn at_ st kd pv regs hands).toArray[13 + b]? = some (.int .i64 x) := by
  match regs, h8 with
  | [r0, r1, r2, r3, r4, r5, r6, r7], _ =>
    match hands, h4 with
    | [a0, a1, a2, a3], _ =>
      have : b = 0 ∨ b = 1 ∨ b = 2 ∨ b = 3 := by have := (List.getElem?_eq_some_iff.1 hb).1; simp at this; omega
      rcases this with rfl | rfl | rfl | rfl <;> (cases hb; rfl)
end

abbrev efZ : Array Value := efC 0 0 0 0 0 0 nilS nilS
theorem ef_stored {w : World} {g : Nat} {c0 c1 c2 c3 c4 c5 c6 c7 : Value} (h : Blk w g 36 #[c0, c1, c2, c3, c4, c5, c6, c7]) (v0 v1 v2 v3 v4 v5 v6 v7 : Value) :
    Blk ((((((((w.setCell ⟨g, 0, none⟩ v0).setCell ⟨g, 1, none⟩ v1).setCell ⟨g, 2, none⟩ v2).setCell ⟨g, 3, none⟩ v3).setCell ⟨g, 4, none⟩ v4).setCell ⟨g, 5, none⟩ v5).setCell ⟨g, 6, none⟩ v6).setCell ⟨g, 7, none⟩ v7) g 36 #[v0, v1, v2, v3, v4, v5, v6, v7] := by
  have h1 := (((((((h.set_ 0 v0).set_ 1 v1).set_ 2 v2).set_ 3 v3).set_ 4 v4).set_ 5 v5).set_ 6 v6).set_ 7 v7
  simpa using h1
theorem ef_frame {w0 w : World} {g : Nat} {B : Nat → Prop} (hf : Fr B w0 w) (hg : B g ∨ w0.heap.size ≤ g) (v0 v1 v2 v3 v4 v5 v6 v7 : Value) : Fr B w0 ((((((((w.setCell ⟨g, 0, none⟩ v0).setCell ⟨g, 1, none⟩ v1).setCell ⟨g, 2, none⟩ v2).setCell ⟨g, 3, none⟩ v3).setCell ⟨g, 4, none⟩ v4).setCell ⟨g, 5, none⟩ v5).setCell ⟨g, 6, none⟩ v6).setCell ⟨g, 7, none⟩ v7) :=
  (((((((hf.setCell (p := ⟨g, 0, none⟩) hg _).setCell (p := ⟨g, 1, none⟩) hg _).setCell (p := ⟨g, 2, none⟩) hg _).setCell (p := ⟨g, 3, none⟩) hg _).setCell (p := ⟨g, 4, none⟩) hg _).setCell (p := ⟨g, 5, none⟩) hg _).setCell (p := ⟨g, 6, none⟩) hg _).setCell (p := ⟨g, 7, none⟩) hg _

set_option maxHeartbeats 4000000 in
set_option maxRecDepth 100000 in
theorem ffails_any (w : World) (why : Int) : Calls Tryd.prog 27 #[.int .i64 why] w fun e w' => e = .returned (.agg (efC 8 0 0 0 0 why nilS nilS)) ∧ Fr None' w w' := by
  go_enter Tryd.func27, Tryd.ntmps27
  go_upto_region 1 with (fail)
  generalize hW : w.alloc (.cells _ 36) = W
  have hB : Blk W w.heap.size 36 efZ := by rw [← hW]; exact Blk.new _ _ _
  have HF : Hid (Fr None' w W) := Lib.hid (by rw [← hW]; exact (Fr.refl _ _).alloc _)
  have e0 : W.cell? ⟨w.heap.size, 0, none⟩ = some (.int .i64 0) := by rw [hB.cell]; rfl
  have y0 : W.frozen? ⟨w.heap.size, 0, none⟩ = false := hB.frozen _
  have e1 : W.cell? ⟨w.heap.size, 1, none⟩ = some (.int .i64 0) := by rw [hB.cell]; rfl
  have y1 : W.frozen? ⟨w.heap.size, 1, none⟩ = false := hB.frozen _
  have e2 : W.cell? ⟨w.heap.size, 2, none⟩ = some (.int .i64 0) := by rw [hB.cell]; rfl
  have y2 : W.frozen? ⟨w.heap.size, 2, none⟩ = false := hB.frozen _
  have e3 : W.cell? ⟨w.heap.size, 3, none⟩ = some (.int .i64 0) := by rw [hB.cell]; rfl
  have y3 : W.frozen? ⟨w.heap.size, 3, none⟩ = false := hB.frozen _
  have e4 : W.cell? ⟨w.heap.size, 4, none⟩ = some (.int .i64 0) := by rw [hB.cell]; rfl
  have y4 : W.frozen? ⟨w.heap.size, 4, none⟩ = false := hB.frozen _
  have e5 : W.cell? ⟨w.heap.size, 5, none⟩ = some (.int .i64 0) := by rw [hB.cell]; rfl
  have y5 : W.frozen? ⟨w.heap.size, 5, none⟩ = false := hB.frozen _
  have e6 : W.cell? ⟨w.heap.size, 6, none⟩ = some (nilS) := by rw [hB.cell]; rfl
  have y6 : W.frozen? ⟨w.heap.size, 6, none⟩ = false := hB.frozen _
  have e7 : W.cell? ⟨w.heap.size, 7, none⟩ = some (nilS) := by rw [hB.cell]; rfl
  have y7 : W.frozen? ⟨w.heap.size, 7, none⟩ = false := hB.frozen _
  have HB := Lib.hid hB
  clear hB hW
  go_wp2_with fail
  refine bodyPost_ret (results_cell_row rfl _ _ w.heap.size 36 (efC 8 0 0 0 0 why nilS nilS) (0, 0) _ rfl (ef_stored HB.out _ _ _ _ _ _ _ _) Tryd.underlying36 rfl (by kernel_rfl)) rfl ?_
  exact ⟨rfl, ef_frame HF.out (.inr (Nat.le_refl _)) _ _ _ _ _ _ _ _⟩
end Go.Proofs.YtadcenaafoemmaaDoor

/-
  Regions that draw their order, walked in one order: what only reads the cells that S names is taken first, what changes memory comes up alone. Behind an operation that waits for all that may be taken first S need not hold any more, so that the last store may turn a cell that the region reads. (The library's law asks S behind every operation.)
-/
namespace Go.Proofs.YtadcenaafoemmaaDoor
open Go

section
variable {P : Program} {ops : Array Oper} {Q : Exit → Act → World → Prop} {md : Region.Mode} {S : World → Prop} {n : Nat}

/-- Does operation j wait for each of the first n? -/
def waitsB (md : Region.Mode) (ops : Array Oper) (n j : Nat) : Bool := (List.range n).all fun k => match ops[j]? with
  | some o => o.after.any fun e => Region.binds md e && e.on == k
  | none => false
theorem waitsB_at {j i : Nat} {o : Oper} (h : waitsB md ops n j = true) (ho : ops[j]? = some o) (hi : i < n) : ∃ e ∈ o.after, Region.binds md e = true ∧ e.on = i := by
  unfold waitsB at h
  have h1 := List.all_eq_true.1 h i (List.mem_range.2 hi)
  rw [ho] at h1
  obtain ⟨e, he, hb⟩ := Array.any_eq_true'.1 h1
  rw [Bool.and_eq_true] at hb
  exact ⟨e, he, hb.1, by simpa using hb.2⟩

/-- Whatever order is picked from here on; S holds behind what does not wait for the first n. -/
def AnyK (P : Program) (md : Region.Mode) (ops : Array Oper) (Q : Exit → Act → World → Prop) (S : World → Prop) (n : Nat) : Nat → Array Bool → Act → World → Prop
  | 0, listed, a, w => Region.ready md ops listed = [] ∧ Q .normal a w
  | fuel + 1, listed, a, w =>
    (Region.ready md ops listed = [] → Q .normal a w) ∧
    ∀ i ∈ Region.ready md ops listed, wpOp P ops Q i (fun a' w' => (waitsB md ops n i = false → S w') ∧ AnyK P md ops Q S n fuel (listed.setIfInBounds i true) a' w') a w

theorem AnyK.any : ∀ (fuel : Nat) (listed : Array Bool) (a : Act) (w : World), AnyK P md ops Q S n fuel listed a w → wpAny P md ops Q fuel listed a w
  | 0, _, _, _, h => h
  | fuel + 1, _, _, _, h => ⟨h.1, fun i hi => wpOp_mono (fun a' w' h' => AnyK.any fuel _ a' w' h'.2) (h.2 i hi)⟩

theorem AnyK.first {i : Nat} {oi : Oper} {v : Value} (hn : i < n) (hi : ops[i]? = some oi) (hsel : ∀ (j : Nat) (o : Oper) cs b, ops[j]? = some o → o.op ≠ .select cs b)
    (hQ : ∀ c a w, Q (.panic c) (a.put oi.dst v) w → Q (.panic c) a w) (fuel : Nat) :
    ∀ (listed : Array Bool) (a : Act) (w : World),
      (∀ j oj, ops[j]? = some oj → j ≠ i → listed.getD j true = false → (∀ e ∈ oj.after, Region.binds md e = true → e.on ≠ i) → oi.apart ops oj = true) →
      i ∈ Region.ready md ops listed → YieldsIf P ops S oi v a → S w →
      AnyK P md ops Q S n fuel (listed.setIfInBounds i true) (a.put oi.dst v) w → AnyK P md ops Q S n (fuel + 1) listed a w := by
  induction fuel with
  | zero =>
    intro listed a w _ hr hy hS H
    refine ⟨fun h => absurd (h ▸ hr) (by simp), fun j hj => ?_⟩
    by_cases hji : j = i
    · subst hji
      exact hy.wpOp hi hS ⟨fun _ => hS, H⟩
    · exact absurd (H.1 ▸ ready_mono hj hji) (by simp)
  | succ fuel ih =>
    intro listed a w hfree hr hy hS H
    refine ⟨fun h => absurd (h ▸ hr) (by simp), fun j hj => ?_⟩
    by_cases hji : j = i
    · subst hji
      exact hy.wpOp hi hS ⟨fun _ => hS, H⟩
    obtain ⟨hjun, oj, hoj, hall⟩ := mem_ready.1 hj
    have hnot : ∀ e ∈ oj.after, Region.binds md e = true → e.on ≠ i := by
      intro e he hb heq
      have h1 := hall e he hb
      have h0 := (mem_ready.1 hr).1
      rw [heq] at h1
      rcases Nat.lt_or_ge i listed.size with h' | h'
      · simp [h'] at h0 h1
        rw [h0] at h1
        cases h1
      · simp [Array.getElem?_eq_none h'] at h1
    have hwait : waitsB md ops n j = false := by
      rw [← Bool.not_eq_true]
      intro hw
      obtain ⟨e, he, hb, heq⟩ := waitsB_at hw hoj hn
      exact hnot e he hb heq
    have hstep := wpOp_putIf hoj (hfree j oj hoj hji hjun hnot) (fun cs b => hsel i oi cs b hi) (fun cs b => hsel j oj cs b hoj) hQ hy (H.2 j (ready_mono hj hji))
    refine wpOp_mono (fun a' w' h3 => ?_) hstep
    obtain ⟨hy', hS', hrest⟩ := h3
    refine ⟨fun _ => hS' hwait, ih (listed.setIfInBounds j true) a' w' (fun k ok hk hki hun hno => hfree k ok hk hki ?_ hno) (ready_mono hr (Ne.symm hji)) hy' (hS' hwait) ?_⟩
    · by_cases hjk : j = k
      · subst hjk; exact hjun
      · rwa [getD_set_ne true hjk] at hun
    · rw [Array.setIfInBounds_comm _ _ hji]
      exact hrest

/-- Number i is taken first: what it yields comes up by itself. -/
theorem AnyK.take {i : Nat} {oi : Oper} {fuel : Nat} {listed : Array Bool} {a : Act} {w : World} (hi : ops[i]? = some oi) (hn : i < n)
    (hs : Region.noSelect ops = true) (hf : Region.free md ops listed i = true) (hr : (Region.ready md ops listed).contains i = true)
    (hQ : ∀ v c a w, Q (.panic c) (a.put oi.dst v) w → Q (.panic c) a w) (hS : S w)
    (h : ∀ K : Act → Prop, Shut (∀ a', (∃ v, a' = a.put oi.dst v ∧ YieldsIf P ops S oi v a ∧ AnyK P md ops Q S n fuel (listed.setIfInBounds i true) a' w) → K a') → oi.still P a w K) :
    AnyK P md ops Q S n (fuel + 1) listed a w := by
  have key : ∃ v, YieldsIf P ops S oi v a ∧ AnyK P md ops Q S n fuel (listed.setIfInBounds i true) (a.put oi.dst v) w := by
    have h1 := h (fun _ => ∃ v, YieldsIf P ops S oi v a ∧ AnyK P md ops Q S n fuel (listed.setIfInBounds i true) (a.put oi.dst v) w) (fun a' ⟨v, e, y, r⟩ => ⟨v, y, e ▸ r⟩)
    unfold Oper.still at h1
    generalize (execOp a.eval oi).run P w = r at h1
    cases r with
    | ok m w' =>
      cases m <;> simp only [Oper.stillUpon] at h1
      case enter f args => exact h1.2.choose_spec.2
      all_goals exact h1.2
    | halt x w' => exact h1.elim
  obtain ⟨v, hy, hrest⟩ := key
  exact AnyK.first hn hi (Region.noSelect_spec hs) (hQ v) fuel listed a w (Region.free_spec hi hf) (by simpa using hr) hy hS hrest

/-- Number i, which is not wanted, is left out first. -/
theorem AnyK.skip {i : Nat} {oi : Oper} {fuel : Nat} {listed : Array Bool} {a : Act} {w : World} (hi : ops[i]? = some oi) (hn : i < n)
    (hs : Region.noSelect ops = true) (hf : Region.free md ops listed i = true) (hr : (Region.ready md ops listed).contains i = true)
    (hQ : ∀ v c a w, Q (.panic c) (a.put oi.dst v) w → Q (.panic c) a w) (hS : S w) (hw : Region.wanted oi (yielded ops a.tmps) = false)
    (h : ∀ K : Act → Prop, Shut (∀ a', (a' = a.put oi.dst undef ∧ AnyK P md ops Q S n fuel (listed.setIfInBounds i true) a' w) → K a') → K (a.put oi.dst undef)) :
    AnyK P md ops Q S n (fuel + 1) listed a w := by
  have h1 := h (fun a' => AnyK P md ops Q S n fuel (listed.setIfInBounds i true) a' w) (fun a' ⟨_, r⟩ => r)
  exact AnyK.first hn hi (Region.noSelect_spec hs) (hQ undef) fuel listed a w (Region.free_spec hi hf) (by simpa using hr) (.inr ⟨hw, rfl⟩) hS h1

/-- One comes up alone. -/
theorem AnyK.one {i : Nat} {o : Oper} {fuel : Nat} {listed : Array Bool} {a : Act} {w : World} (ho : ops[i]? = some o) (hr : Region.ready md ops listed = [i])
    (h : ∀ K : Act → World → Prop, Shut (∀ a' w', (waitsB md ops n i = false → S w') → AnyK P md ops Q S n fuel (listed.setIfInBounds i true) a' w' → K a' w') → if Region.wanted o (yielded ops a.tmps) = true then Oper.wp P o a w K Q else K (a.put o.dst undef) w) :
    AnyK P md ops Q S n (fuel + 1) listed a w :=
  ⟨fun h0 => absurd (hr ▸ h0) (by simp), fun j hj => by
    rw [hr, List.mem_singleton] at hj
    subst hj
    exact wpOp_step ho (fun K' hK => h K' (fun a' w' hS hW => hK a' w' ⟨hS, hW⟩))⟩

/-- One of two comes up. -/
theorem AnyK.two {i j : Nat} {o o' : Oper} {fuel : Nat} {listed : Array Bool} {a : Act} {w : World} (ho : ops[i]? = some o) (ho' : ops[j]? = some o') (hr : Region.ready md ops listed = [i, j])
    (h : ∀ K : Act → World → Prop, Shut (∀ a' w', (waitsB md ops n i = false → S w') → AnyK P md ops Q S n fuel (listed.setIfInBounds i true) a' w' → K a' w') → if Region.wanted o (yielded ops a.tmps) = true then Oper.wp P o a w K Q else K (a.put o.dst undef) w)
    (h' : ∀ K : Act → World → Prop, Shut (∀ a' w', (waitsB md ops n j = false → S w') → AnyK P md ops Q S n fuel (listed.setIfInBounds j true) a' w' → K a' w') → if Region.wanted o' (yielded ops a.tmps) = true then Oper.wp P o' a w K Q else K (a.put o'.dst undef) w) :
    AnyK P md ops Q S n (fuel + 1) listed a w :=
  ⟨fun h0 => absurd (hr ▸ h0) (by simp), fun m hm => by
    rw [hr] at hm
    rcases List.mem_cons.1 hm with rfl | hm
    · exact wpOp_step ho (fun K' hK => h K' (fun a' w' hS hW => hK a' w' ⟨hS, hW⟩))
    · rw [List.mem_singleton] at hm
      subst hm
      exact wpOp_step ho' (fun K' hK => h' K' (fun a' w' hS hW => hK a' w' ⟨hS, hW⟩))⟩

theorem AnyK.done {listed : Array Bool} {a : Act} {w : World} (hr : Region.ready md ops listed = []) (h : Q .normal a w) : ∀ fuel, AnyK P md ops Q S n fuel listed a w
  | 0 => ⟨hr, h⟩
  | _ + 1 => ⟨fun _ => h, by rw [hr]; simp⟩

theorem region_K {id : Nat} {a : Act} {w : World} (n : Nat) (S : World → Prop) (hm : P.follows .mixedOrders = true) (h : AnyK P .any ops Q S n ops.size (Array.replicate ops.size false) a w.drew) : (Code.region id ops true).wp P Q a w :=
  wp_region_any hm (AnyK.any _ _ _ _ h)
end
end Go.Proofs.YtadcenaafoemmaaDoor

/-
  What the operations that are not plain, and begin no task, come to. No condition.
-/
namespace Go.Proofs.YtadcenaafoemmaaDoor
open Go.RowKit

set_option maxHeartbeats 4000000 in
set_option maxRecDepth 100000 in
theorem ffail_any (w : World) (v : Value) (op a b c k : Int) : Calls Tryd.prog 68 #[v, .agg #[.int .i64 op, .int .i64 a, .int .i64 b, .int .i64 c, .int .i64 k]] w fun e w' => e = .returned (.agg (efC 8 0 0 0 0 k nilS nilS)) ∧ Fr None' w w' := by
  go_enter Tryd.func68, Tryd.ntmps68
  go_upto_region 1 with (fail)
  generalize hW : ((w.alloc (.cells _ 98)).alloc (.cells _ 36)) = W
  have hI : Blk W w.heap.size 98 #[.int .i64 op, .int .i64 a, .int .i64 b, .int .i64 c, .int .i64 k] := by rw [← hW]; exact (Blk.new _ _ _).alloc _
  have hB : Blk W (w.heap.size + 1) 36 efZ := by
    have h := Blk.new (w.alloc (.cells #[.int .i64 op, .int .i64 a, .int .i64 b, .int .i64 c, .int .i64 k] 98)) 36 efZ
    rw [show (w.alloc (.cells #[.int .i64 op, .int .i64 a, .int .i64 b, .int .i64 c, .int .i64 k] 98)).heap.size = w.heap.size + 1 by simp] at h
    rw [← hW]; exact h
  have HF : Hid (Fr None' w W) := Lib.hid (by rw [← hW]; exact ((Fr.refl _ _).alloc _).alloc _)
  have i1 : W.cell? ⟨w.heap.size, 1, none⟩ = some (.int .i64 a) := by rw [hI.cell]; rfl
  have i2 : W.cell? ⟨w.heap.size, 2, none⟩ = some (.int .i64 b) := by rw [hI.cell]; rfl
  have i3 : W.cell? ⟨w.heap.size, 3, none⟩ = some (.int .i64 c) := by rw [hI.cell]; rfl
  have i4 : W.cell? ⟨w.heap.size, 4, none⟩ = some (.int .i64 k) := by rw [hI.cell]; rfl
  have HB := Lib.hid hB
  have HI := Lib.hid hI
  clear hI hW
  clear hB
  go_wp2_with fail
  refine (ffails_any _ k).mono ?_
  rintro e w1 ⟨rfl, hF1⟩
  have hB1 := HB.out.fr hF1 (fun h => h)
  have HF1 := Lib.hid (HF.out.trans hF1)
  have e0 : w1.cell? ⟨(w.heap.size + 1), 0, none⟩ = some (.int .i64 0) := by rw [hB1.cell]; rfl
  have y0 : w1.frozen? ⟨(w.heap.size + 1), 0, none⟩ = false := hB1.frozen _
  have e1 : w1.cell? ⟨(w.heap.size + 1), 1, none⟩ = some (.int .i64 0) := by rw [hB1.cell]; rfl
  have y1 : w1.frozen? ⟨(w.heap.size + 1), 1, none⟩ = false := hB1.frozen _
  have e2 : w1.cell? ⟨(w.heap.size + 1), 2, none⟩ = some (.int .i64 0) := by rw [hB1.cell]; rfl
  have y2 : w1.frozen? ⟨(w.heap.size + 1), 2, none⟩ = false := hB1.frozen _
  have e3 : w1.cell? ⟨(w.heap.size + 1), 3, none⟩ = some (.int .i64 0) := by rw [hB1.cell]; rfl
  have y3 : w1.frozen? ⟨(w.heap.size + 1), 3, none⟩ = false := hB1.frozen _
  have e4 : w1.cell? ⟨(w.heap.size + 1), 4, none⟩ = some (.int .i64 0) := by rw [hB1.cell]; rfl
  have y4 : w1.frozen? ⟨(w.heap.size + 1), 4, none⟩ = false := hB1.frozen _
  have e5 : w1.cell? ⟨(w.heap.size + 1), 5, none⟩ = some (.int .i64 0) := by rw [hB1.cell]; rfl
  have y5 : w1.frozen? ⟨(w.heap.size + 1), 5, none⟩ = false := hB1.frozen _
  have e6 : w1.cell? ⟨(w.heap.size + 1), 6, none⟩ = some (nilS) := by rw [hB1.cell]; rfl
  have y6 : w1.frozen? ⟨(w.heap.size + 1), 6, none⟩ = false := hB1.frozen _
  have e7 : w1.cell? ⟨(w.heap.size + 1), 7, none⟩ = some (nilS) := by rw [hB1.cell]; rfl
  have y7 : w1.frozen? ⟨(w.heap.size + 1), 7, none⟩ = false := hB1.frozen _
  have HB1 := Lib.hid hB1
  clear hB1 hF1 i1 i2 i3 i4
  unfold efC
  go_wp2_with fail
  refine bodyPost_ret (results_cell_row rfl _ _ (w.heap.size + 1) 36 (efC 8 0 0 0 0 k nilS nilS) (0, 0) _ rfl (ef_stored (HB1.out) _ _ _ _ _ _ _ _) Tryd.underlying36 rfl (by kernel_rfl)) rfl ?_
  exact ⟨rfl, ef_frame HF1.out (.inr (by omega)) _ _ _ _ _ _ _ _⟩

set_option maxHeartbeats 4000000 in
set_option maxRecDepth 100000 in
theorem fret_any (w : World) (v : Value) (op a b c k : Int) : Calls Tryd.prog 69 #[v, .agg #[.int .i64 op, .int .i64 a, .int .i64 b, .int .i64 c, .int .i64 k]] w fun e w' => e = .returned (.agg (efC 7 0 a 0 0 0 nilS nilS)) ∧ Fr None' w w' := by
  go_enter Tryd.func69, Tryd.ntmps69
  go_upto_region 1 with (fail)
  generalize hW : ((w.alloc (.cells _ 98)).alloc (.cells _ 36)) = W
  have hI : Blk W w.heap.size 98 #[.int .i64 op, .int .i64 a, .int .i64 b, .int .i64 c, .int .i64 k] := by rw [← hW]; exact (Blk.new _ _ _).alloc _
  have hB : Blk W (w.heap.size + 1) 36 efZ := by
    have h := Blk.new (w.alloc (.cells #[.int .i64 op, .int .i64 a, .int .i64 b, .int .i64 c, .int .i64 k] 98)) 36 efZ
    rw [show (w.alloc (.cells #[.int .i64 op, .int .i64 a, .int .i64 b, .int .i64 c, .int .i64 k] 98)).heap.size = w.heap.size + 1 by simp] at h
    rw [← hW]; exact h
  have HF : Hid (Fr None' w W) := Lib.hid (by rw [← hW]; exact ((Fr.refl _ _).alloc _).alloc _)
  have i1 : W.cell? ⟨w.heap.size, 1, none⟩ = some (.int .i64 a) := by rw [hI.cell]; rfl
  have i2 : W.cell? ⟨w.heap.size, 2, none⟩ = some (.int .i64 b) := by rw [hI.cell]; rfl
  have i3 : W.cell? ⟨w.heap.size, 3, none⟩ = some (.int .i64 c) := by rw [hI.cell]; rfl
  have i4 : W.cell? ⟨w.heap.size, 4, none⟩ = some (.int .i64 k) := by rw [hI.cell]; rfl
  have HB := Lib.hid hB
  have HI := Lib.hid hI
  clear hI hW
  have e0 : W.cell? ⟨(w.heap.size + 1), 0, none⟩ = some (.int .i64 0) := by rw [hB.cell]; rfl
  have y0 : W.frozen? ⟨(w.heap.size + 1), 0, none⟩ = false := hB.frozen _
  have e1 : W.cell? ⟨(w.heap.size + 1), 1, none⟩ = some (.int .i64 0) := by rw [hB.cell]; rfl
  have y1 : W.frozen? ⟨(w.heap.size + 1), 1, none⟩ = false := hB.frozen _
  have e2 : W.cell? ⟨(w.heap.size + 1), 2, none⟩ = some (.int .i64 0) := by rw [hB.cell]; rfl
  have y2 : W.frozen? ⟨(w.heap.size + 1), 2, none⟩ = false := hB.frozen _
  have e3 : W.cell? ⟨(w.heap.size + 1), 3, none⟩ = some (.int .i64 0) := by rw [hB.cell]; rfl
  have y3 : W.frozen? ⟨(w.heap.size + 1), 3, none⟩ = false := hB.frozen _
  have e4 : W.cell? ⟨(w.heap.size + 1), 4, none⟩ = some (.int .i64 0) := by rw [hB.cell]; rfl
  have y4 : W.frozen? ⟨(w.heap.size + 1), 4, none⟩ = false := hB.frozen _
  have e5 : W.cell? ⟨(w.heap.size + 1), 5, none⟩ = some (.int .i64 0) := by rw [hB.cell]; rfl
  have y5 : W.frozen? ⟨(w.heap.size + 1), 5, none⟩ = false := hB.frozen _
  have e6 : W.cell? ⟨(w.heap.size + 1), 6, none⟩ = some (nilS) := by rw [hB.cell]; rfl
  have y6 : W.frozen? ⟨(w.heap.size + 1), 6, none⟩ = false := hB.frozen _
  have e7 : W.cell? ⟨(w.heap.size + 1), 7, none⟩ = some (nilS) := by rw [hB.cell]; rfl
  have y7 : W.frozen? ⟨(w.heap.size + 1), 7, none⟩ = false := hB.frozen _
  clear hB
  go_wp2_with fail
  refine bodyPost_ret (results_cell_row rfl _ _ (w.heap.size + 1) 36 (efC 7 0 a 0 0 0 nilS nilS) (0, 0) _ rfl (ef_stored (HB.out) _ _ _ _ _ _ _ _) Tryd.underlying36 rfl (by kernel_rfl)) rfl ?_
  exact ⟨rfl, ef_frame HF.out (.inr (by omega)) _ _ _ _ _ _ _ _⟩

set_option maxHeartbeats 4000000 in
set_option maxRecDepth 100000 in
theorem femit_any (w : World) (t F : Nat) (at_ : Int) (regs : List Int) (pg : Value) (bud dep : Int) (h8 : regs.length = 8) (hT : Blk w t 115 (tnL at_ regs F pg bud dep).toArray) (op b c k : Int) (a : Nat) (x : Int) (hx : regs[a]? = some x) :
    Calls Tryd.prog 67 #[.pointer (some ⟨t, 0, none⟩), .agg #[.int .i64 op, .int .i64 (a : Int), .int .i64 b, .int .i64 c, .int .i64 k]] w fun e w' => e = .returned (.agg (efC 2 x 0 0 0 0 nilS nilS)) ∧ Fr None' w w' := by
  have ha8 : a < 8 := by have := (List.getElem?_eq_some_iff.1 hx).1; omega
  have HT := Lib.hid hT
  have HR := Lib.hid (tn_reg (at_ := at_) (F := F) (pg := pg) (bud := bud) (dep := dep) h8 hx)
  have g1 : (0 : Int) ≤ (a : Int) := by omega
  have g2 : (a : Int) < 8 := by omega
  have htl := hT.lt
  clear hT hx
  go_enter Tryd.func67, Tryd.ntmps67
  go_upto_region 1 with (fail)
  generalize hW : ((w.alloc (.cells _ 98)).alloc (.cells _ 36)) = W
  have hI : Blk W w.heap.size 98 #[.int .i64 op, .int .i64 (a : Int), .int .i64 b, .int .i64 c, .int .i64 k] := by rw [← hW]; exact (Blk.new _ _ _).alloc _
  have hB : Blk W (w.heap.size + 1) 36 efZ := by
    have h := Blk.new (w.alloc (.cells #[.int .i64 op, .int .i64 (a : Int), .int .i64 b, .int .i64 c, .int .i64 k] 98)) 36 efZ
    rw [show (w.alloc (.cells #[.int .i64 op, .int .i64 (a : Int), .int .i64 b, .int .i64 c, .int .i64 k] 98)).heap.size = w.heap.size + 1 by simp] at h
    rw [← hW]; exact h
  have HF : Hid (Fr None' w W) := Lib.hid (by rw [← hW]; exact ((Fr.refl _ _).alloc _).alloc _)
  have i1 : W.cell? ⟨w.heap.size, 1, none⟩ = some (.int .i64 (a : Int)) := by rw [hI.cell]; rfl
  have i2 : W.cell? ⟨w.heap.size, 2, none⟩ = some (.int .i64 b) := by rw [hI.cell]; rfl
  have i3 : W.cell? ⟨w.heap.size, 3, none⟩ = some (.int .i64 c) := by rw [hI.cell]; rfl
  have i4 : W.cell? ⟨w.heap.size, 4, none⟩ = some (.int .i64 k) := by rw [hI.cell]; rfl
  have HB := Lib.hid hB
  have HI := Lib.hid hI
  clear hI hW
  have r1 : W.cell? ⟨t, 1 + a, none⟩ = some (.int .i64 x) := by rw [(HT.out.fr HF.out (fun h => h)).cell]; exact HR.out
  have e0 : W.cell? ⟨(w.heap.size + 1), 0, none⟩ = some (.int .i64 0) := by rw [hB.cell]; rfl
  have y0 : W.frozen? ⟨(w.heap.size + 1), 0, none⟩ = false := hB.frozen _
  have e1 : W.cell? ⟨(w.heap.size + 1), 1, none⟩ = some (.int .i64 0) := by rw [hB.cell]; rfl
  have y1 : W.frozen? ⟨(w.heap.size + 1), 1, none⟩ = false := hB.frozen _
  have e2 : W.cell? ⟨(w.heap.size + 1), 2, none⟩ = some (.int .i64 0) := by rw [hB.cell]; rfl
  have y2 : W.frozen? ⟨(w.heap.size + 1), 2, none⟩ = false := hB.frozen _
  have e3 : W.cell? ⟨(w.heap.size + 1), 3, none⟩ = some (.int .i64 0) := by rw [hB.cell]; rfl
  have y3 : W.frozen? ⟨(w.heap.size + 1), 3, none⟩ = false := hB.frozen _
  have e4 : W.cell? ⟨(w.heap.size + 1), 4, none⟩ = some (.int .i64 0) := by rw [hB.cell]; rfl
  have y4 : W.frozen? ⟨(w.heap.size + 1), 4, none⟩ = false := hB.frozen _
  have e5 : W.cell? ⟨(w.heap.size + 1), 5, none⟩ = some (.int .i64 0) := by rw [hB.cell]; rfl
  have y5 : W.frozen? ⟨(w.heap.size + 1), 5, none⟩ = false := hB.frozen _
  have e6 : W.cell? ⟨(w.heap.size + 1), 6, none⟩ = some (nilS) := by rw [hB.cell]; rfl
  have y6 : W.frozen? ⟨(w.heap.size + 1), 6, none⟩ = false := hB.frozen _
  have e7 : W.cell? ⟨(w.heap.size + 1), 7, none⟩ = some (nilS) := by rw [hB.cell]; rfl
  have y7 : W.frozen? ⟨(w.heap.size + 1), 7, none⟩ = false := hB.frozen _
  clear hB
  refine region_K 9 (fun w' : World => w'.cell? ⟨w.heap.size, 1, none⟩ = some (.int .i64 (a : Int)) ∧ w'.cell? ⟨t, 1 + a, none⟩ = some (.int .i64 x)) (by kernel_rfl) ?_
  have HS : (fun w' : World => w'.cell? ⟨w.heap.size, 1, none⟩ = some (.int .i64 (a : Int)) ∧ w'.cell? ⟨t, 1 + a, none⟩ = some (.int .i64 x)) W.drew := ⟨i1, r1⟩
  refine AnyK.take (i := 0) rfl (by decide) (by kernel_rfl) (by kernel_rfl) (by kernel_rfl) (fun _ _ _ _ h => h) HS (fun K hK => ?_)
  go_simp
  refine hK.out _ ⟨_, by rfl, Or.inl ⟨by rfl, by intro w' hSw; (try dsimp only at hSw); go_simp⟩, ?_⟩
  clear hK K
  refine AnyK.take (i := 1) rfl (by decide) (by kernel_rfl) (by kernel_rfl) (by kernel_rfl) (fun _ _ _ _ h => h) HS (fun K hK => ?_)
  go_simp
  refine hK.out _ ⟨_, by rfl, Or.inl ⟨by rfl, by intro w' hSw; (try dsimp only at hSw); go_simp⟩, ?_⟩
  clear hK K
  refine AnyK.take (i := 2) rfl (by decide) (by kernel_rfl) (by kernel_rfl) (by kernel_rfl) (fun _ _ _ _ h => h) HS (fun K hK => ?_)
  go_simp
  refine hK.out _ ⟨_, by rfl, Or.inl ⟨by rfl, by intro w' hSw; (try dsimp only at hSw); go_simp⟩, ?_⟩
  clear hK K
  refine AnyK.take (i := 3) rfl (by decide) (by kernel_rfl) (by kernel_rfl) (by kernel_rfl) (fun _ _ _ _ h => h) HS (fun K hK => ?_)
  go_simp
  refine hK.out _ ⟨_, by rfl, Or.inl ⟨by rfl, by intro w' hSw; (try dsimp only at hSw); go_simp⟩, ?_⟩
  clear hK K
  refine AnyK.take (i := 4) rfl (by decide) (by kernel_rfl) (by kernel_rfl) (by kernel_rfl) (fun _ _ _ _ h => h) HS (fun K hK => ?_)
  go_simp
  refine hK.out _ ⟨_, by rfl, Or.inl ⟨by rfl, by intro w' hSw; (try dsimp only at hSw); go_simp⟩, ?_⟩
  clear hK K
  refine AnyK.take (i := 5) rfl (by decide) (by kernel_rfl) (by kernel_rfl) (by kernel_rfl) (fun _ _ _ _ h => h) HS (fun K hK => ?_)
  go_simp
  refine hK.out _ ⟨_, by rfl, Or.inl ⟨by rfl, by intro w' hSw; (try dsimp only at hSw); go_simp⟩, ?_⟩
  clear hK K
  refine AnyK.take (i := 6) rfl (by decide) (by kernel_rfl) (by kernel_rfl) (by kernel_rfl) (fun _ _ _ _ h => h) HS (fun K hK => ?_)
  go_simp
  refine hK.out _ ⟨_, by rfl, Or.inl ⟨by rfl, by intro w' hSw; (try dsimp only at hSw); go_simp⟩, ?_⟩
  clear hK K
  refine AnyK.take (i := 7) rfl (by decide) (by kernel_rfl) (by kernel_rfl) (by kernel_rfl) (fun _ _ _ _ h => h) HS (fun K hK => ?_)
  go_simp
  refine hK.out _ ⟨_, by rfl, Or.inl ⟨by rfl, by intro w' hSw; (try dsimp only at hSw); go_simp⟩, ?_⟩
  clear hK K
  refine AnyK.take (i := 8) rfl (by decide) (by kernel_rfl) (by kernel_rfl) (by kernel_rfl) (fun _ _ _ _ h => h) HS (fun K hK => ?_)
  go_simp
  refine hK.out _ ⟨_, by rfl, Or.inl ⟨by rfl, by intro w' hSw; (try dsimp only at hSw); go_simp⟩, ?_⟩
  clear hK K
  refine AnyK.one (i := 9) rfl (by kernel_rfl) (fun K hK => ?_)
  have HBV : Hid (Blk W.drew (w.heap.size + 1) 36 efZ) := Lib.hid HB.out.drew
  have HFV : Hid (Fr None' w W.drew) := Lib.hid HF.out.drew
  have d0 : W.drew.cell? ⟨(w.heap.size + 1), 0, none⟩ = some (.int .i64 0) := e0
  have z0 : W.drew.frozen? ⟨(w.heap.size + 1), 0, none⟩ = false := y0
  have d1 : W.drew.cell? ⟨(w.heap.size + 1), 1, none⟩ = some (.int .i64 0) := e1
  have z1 : W.drew.frozen? ⟨(w.heap.size + 1), 1, none⟩ = false := y1
  have d2 : W.drew.cell? ⟨(w.heap.size + 1), 2, none⟩ = some (.int .i64 0) := e2
  have z2 : W.drew.frozen? ⟨(w.heap.size + 1), 2, none⟩ = false := y2
  have d3 : W.drew.cell? ⟨(w.heap.size + 1), 3, none⟩ = some (.int .i64 0) := e3
  have z3 : W.drew.frozen? ⟨(w.heap.size + 1), 3, none⟩ = false := y3
  have d4 : W.drew.cell? ⟨(w.heap.size + 1), 4, none⟩ = some (.int .i64 0) := e4
  have z4 : W.drew.frozen? ⟨(w.heap.size + 1), 4, none⟩ = false := y4
  have d5 : W.drew.cell? ⟨(w.heap.size + 1), 5, none⟩ = some (.int .i64 0) := e5
  have z5 : W.drew.frozen? ⟨(w.heap.size + 1), 5, none⟩ = false := y5
  have d6 : W.drew.cell? ⟨(w.heap.size + 1), 6, none⟩ = some (nilS) := e6
  have z6 : W.drew.frozen? ⟨(w.heap.size + 1), 6, none⟩ = false := y6
  have d7 : W.drew.cell? ⟨(w.heap.size + 1), 7, none⟩ = some (nilS) := e7
  have z7 : W.drew.frozen? ⟨(w.heap.size + 1), 7, none⟩ = false := y7
  clear HS r1 i1 i2 i3 i4 HB HF HI e0 y0 e1 y1 e2 y2 e3 y3 e4 y4 e5 y5 e6 y6 e7 y7
  generalize W.drew = V at *
  go_simp
  refine hK.out _ _ (fun h => absurd (h.symm.trans (by kernel_rfl : _ = true)) (by decide)) ?_
  clear hK K
  refine AnyK.done (by kernel_rfl) ?_ _
  go_wp2_with fail
  refine bodyPost_ret (results_cell_row rfl _ _ (w.heap.size + 1) 36 (efC 2 x 0 0 0 0 nilS nilS) (0, 0) _ rfl (ef_stored (HBV.out) _ _ _ _ _ _ _ _) Tryd.underlying36 rfl (by kernel_rfl)) rfl ?_
  exact ⟨rfl, ef_frame HFV.out (.inr (by omega)) _ _ _ _ _ _ _ _⟩
end Go.Proofs.YtadcenaafoemmaaDoor
