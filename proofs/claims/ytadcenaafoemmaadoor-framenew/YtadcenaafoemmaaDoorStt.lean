/-
  What the plain operations do to a task's registers: each writes one cell of the task's block, and nothing else that was there.
-/
import Derived.Test.YtadcenaafoemmaaDoorPu
namespace Go.Proofs.YtadcenaafoemmaaDoor
open Go.RowKit

/-- What an operation that writes cells of block g comes to. -/
def OpPost (w : World) (g : Nat) (t : TypeId) (cs : Array Value) (e : Ending) (w' : World) : Prop := e = .returned (.tuple #[]) ∧ Blk w' g t cs ∧ Fr (At g) w w'

/-- Behind an instruction that was put into memory. -/
theorem boxed (w : World) (g : Nat) (t : TypeId) (cs : Array Value) (hB : Blk w g t cs) (us : Array Value) (W : World) (hW : w.alloc (.cells us 98) = W) :
    Blk W g t cs ∧ Blk W w.heap.size 98 us ∧ Fr (At g) w W ∧ g < w.heap.size ∧ w.heap.size < W.heap.size := by
  subst hW
  exact ⟨hB.alloc _, Blk.new _ _ _, (Fr.refl _ _).alloc _, hB.lt, by simp⟩

def boolI (b : Bool) : Int := if b then 1 else 0
theorem number_any (w : World) (b : Bool) : Calls Tryd.prog 73 #[.bool b] w fun e w' => e = .returned (.int .i64 (boolI b)) ∧ w' = w := by
  cases b
  all_goals
    go_enter Tryd.func73, Tryd.ntmps73
    go_wp2_with fail
    go_ret
    exact ⟨rfl, rfl⟩

set_option maxHeartbeats 4000000 in
set_option maxRecDepth 100000 in
theorem set_op (w : World) (g : Nat) (t : TypeId) (cs : Array Value) (hB : Blk w g t cs) (op k : Int) (a : Nat) (ha : a < 8) (b : Int) (c : Int) (z : Value) (ra : cs[1 + a]? = some z) :
    Calls Tryd.prog 44 #[.pointer (some ⟨g, 0, none⟩), .agg #[.int .i64 op, .int .i64 a, .int .i64 b, .int .i64 c, .int .i64 k]] w (OpPost w g t (cs.setIfInBounds (1 + a) (.int .i64 (k)))) := by
  have HB := Lib.hid hB
  have RA := Lib.hid ra
  clear hB ra 
  go_enter Tryd.func44, Tryd.ntmps44
  go_wp2_with fail
  generalize hW : w.alloc (.cells _ 98) = W
  obtain ⟨B1, B2, hF, hgl, hlt⟩ := boxed w g t cs HB.out _ W hW
  have HF := Lib.hid hF
  have HB1 := Lib.hid B1
  have g1 : W.cell? ⟨g, 1 + a, none⟩ = some z := by rw [B1.cell]; exact RA.out
  have f1 := B1.frozen (1 + a)
  have d1 : W.cell? ⟨w.heap.size, 1, none⟩ = some (.int .i64 a) := by rw [B2.cell]; rfl
  have d4 : W.cell? ⟨w.heap.size, 4, none⟩ = some (.int .i64 k) := by rw [B2.cell]; rfl
  clear hW B1 B2 hF
  have ia : (0 : Int) ≤ (a : Int) := by omega
  have ja : (a : Int) < 8 := by omega
  go_still_tail 8, (by kernel_rfl)
  change wpList _ _ _ _ _ (World.drew _)
  go_wp2_with fail
  go_end0
  exact ⟨rfl, (HB1.out.set_ _ _).drew, (HF.out.setCell (.inl rfl) _).drew⟩

set_option maxHeartbeats 4000000 in
set_option maxRecDepth 100000 in
theorem move_op (w : World) (g : Nat) (t : TypeId) (cs : Array Value) (hB : Blk w g t cs) (op k : Int) (a : Nat) (ha : a < 8) (b : Nat) (hb : b < 8) (c : Int) (z : Value) (ra : cs[1 + a]? = some z) (x : Int) (rb : cs[1 + b]? = some (.int .i64 x)) :
    Calls Tryd.prog 45 #[.pointer (some ⟨g, 0, none⟩), .agg #[.int .i64 op, .int .i64 a, .int .i64 b, .int .i64 c, .int .i64 k]] w (OpPost w g t (cs.setIfInBounds (1 + a) (.int .i64 (x)))) := by
  have HB := Lib.hid hB
  have RA := Lib.hid ra
  have RB := Lib.hid rb
  clear hB ra rb
  go_enter Tryd.func45, Tryd.ntmps45
  go_wp2_with fail
  generalize hW : w.alloc (.cells _ 98) = W
  obtain ⟨B1, B2, hF, hgl, hlt⟩ := boxed w g t cs HB.out _ W hW
  have HF := Lib.hid hF
  have HB1 := Lib.hid B1
  have g1 : W.cell? ⟨g, 1 + a, none⟩ = some z := by rw [B1.cell]; exact RA.out
  have g2 : W.cell? ⟨g, 1 + b, none⟩ = some (.int .i64 x) := by rw [B1.cell]; exact RB.out
  have f1 := B1.frozen (1 + a)
  have d1 : W.cell? ⟨w.heap.size, 1, none⟩ = some (.int .i64 a) := by rw [B2.cell]; rfl
  have d2 : W.cell? ⟨w.heap.size, 2, none⟩ = some (.int .i64 b) := by rw [B2.cell]; rfl
  have d4 : W.cell? ⟨w.heap.size, 4, none⟩ = some (.int .i64 k) := by rw [B2.cell]; rfl
  clear hW B1 B2 hF
  have ia : (0 : Int) ≤ (a : Int) := by omega
  have ja : (a : Int) < 8 := by omega
  have ib : (0 : Int) ≤ (b : Int) := by omega
  have jb : (b : Int) < 8 := by omega
  go_still_tail 13, (by kernel_rfl)
  change wpList _ _ _ _ _ (World.drew _)
  go_wp2_with fail
  go_end0
  exact ⟨rfl, (HB1.out.set_ _ _).drew, (HF.out.setCell (.inl rfl) _).drew⟩

set_option maxHeartbeats 4000000 in
set_option maxRecDepth 100000 in
theorem add_op (w : World) (g : Nat) (t : TypeId) (cs : Array Value) (hB : Blk w g t cs) (op k : Int) (a : Nat) (ha : a < 8) (b : Nat) (hb : b < 8) (c : Nat) (hc : c < 8) (z : Value) (ra : cs[1 + a]? = some z) (x : Int) (rb : cs[1 + b]? = some (.int .i64 x)) (y : Int) (rc : cs[1 + c]? = some (.int .i64 y)) :
    Calls Tryd.prog 46 #[.pointer (some ⟨g, 0, none⟩), .agg #[.int .i64 op, .int .i64 a, .int .i64 b, .int .i64 c, .int .i64 k]] w (OpPost w g t (cs.setIfInBounds (1 + a) (.int .i64 (wrap64 (x + y))))) := by
  have HB := Lib.hid hB
  have RA := Lib.hid ra
  have RB := Lib.hid rb
  have RC := Lib.hid rc
  clear hB ra rb rc
  go_enter Tryd.func46, Tryd.ntmps46
  go_wp2_with fail
  generalize hW : w.alloc (.cells _ 98) = W
  obtain ⟨B1, B2, hF, hgl, hlt⟩ := boxed w g t cs HB.out _ W hW
  have HF := Lib.hid hF
  have HB1 := Lib.hid B1
  have g1 : W.cell? ⟨g, 1 + a, none⟩ = some z := by rw [B1.cell]; exact RA.out
  have g2 : W.cell? ⟨g, 1 + b, none⟩ = some (.int .i64 x) := by rw [B1.cell]; exact RB.out
  have g3 : W.cell? ⟨g, 1 + c, none⟩ = some (.int .i64 y) := by rw [B1.cell]; exact RC.out
  have f1 := B1.frozen (1 + a)
  have d1 : W.cell? ⟨w.heap.size, 1, none⟩ = some (.int .i64 a) := by rw [B2.cell]; rfl
  have d2 : W.cell? ⟨w.heap.size, 2, none⟩ = some (.int .i64 b) := by rw [B2.cell]; rfl
  have d3 : W.cell? ⟨w.heap.size, 3, none⟩ = some (.int .i64 c) := by rw [B2.cell]; rfl
  have d4 : W.cell? ⟨w.heap.size, 4, none⟩ = some (.int .i64 k) := by rw [B2.cell]; rfl
  clear hW B1 B2 hF
  have ia : (0 : Int) ≤ (a : Int) := by omega
  have ja : (a : Int) < 8 := by omega
  have ib : (0 : Int) ≤ (b : Int) := by omega
  have jb : (b : Int) < 8 := by omega
  have ic : (0 : Int) ≤ (c : Int) := by omega
  have jc : (c : Int) < 8 := by omega
  go_still_tail 21, (by kernel_rfl)
  change wpList _ _ _ _ _ (World.drew _)
  go_wp2_with fail
  go_end0
  exact ⟨rfl, (HB1.out.set_ _ _).drew, (HF.out.setCell (.inl rfl) _).drew⟩

set_option maxHeartbeats 4000000 in
set_option maxRecDepth 100000 in
theorem sub_op (w : World) (g : Nat) (t : TypeId) (cs : Array Value) (hB : Blk w g t cs) (op k : Int) (a : Nat) (ha : a < 8) (b : Nat) (hb : b < 8) (c : Nat) (hc : c < 8) (z : Value) (ra : cs[1 + a]? = some z) (x : Int) (rb : cs[1 + b]? = some (.int .i64 x)) (y : Int) (rc : cs[1 + c]? = some (.int .i64 y)) :
    Calls Tryd.prog 47 #[.pointer (some ⟨g, 0, none⟩), .agg #[.int .i64 op, .int .i64 a, .int .i64 b, .int .i64 c, .int .i64 k]] w (OpPost w g t (cs.setIfInBounds (1 + a) (.int .i64 (wrap64 (x - y))))) := by
  have HB := Lib.hid hB
  have RA := Lib.hid ra
  have RB := Lib.hid rb
  have RC := Lib.hid rc
  clear hB ra rb rc
  go_enter Tryd.func47, Tryd.ntmps47
  go_wp2_with fail
  generalize hW : w.alloc (.cells _ 98) = W
  obtain ⟨B1, B2, hF, hgl, hlt⟩ := boxed w g t cs HB.out _ W hW
  have HF := Lib.hid hF
  have HB1 := Lib.hid B1
  have g1 : W.cell? ⟨g, 1 + a, none⟩ = some z := by rw [B1.cell]; exact RA.out
  have g2 : W.cell? ⟨g, 1 + b, none⟩ = some (.int .i64 x) := by rw [B1.cell]; exact RB.out
  have g3 : W.cell? ⟨g, 1 + c, none⟩ = some (.int .i64 y) := by rw [B1.cell]; exact RC.out
  have f1 := B1.frozen (1 + a)
  have d1 : W.cell? ⟨w.heap.size, 1, none⟩ = some (.int .i64 a) := by rw [B2.cell]; rfl
  have d2 : W.cell? ⟨w.heap.size, 2, none⟩ = some (.int .i64 b) := by rw [B2.cell]; rfl
  have d3 : W.cell? ⟨w.heap.size, 3, none⟩ = some (.int .i64 c) := by rw [B2.cell]; rfl
  have d4 : W.cell? ⟨w.heap.size, 4, none⟩ = some (.int .i64 k) := by rw [B2.cell]; rfl
  clear hW B1 B2 hF
  have ia : (0 : Int) ≤ (a : Int) := by omega
  have ja : (a : Int) < 8 := by omega
  have ib : (0 : Int) ≤ (b : Int) := by omega
  have jb : (b : Int) < 8 := by omega
  have ic : (0 : Int) ≤ (c : Int) := by omega
  have jc : (c : Int) < 8 := by omega
  go_still_tail 21, (by kernel_rfl)
  change wpList _ _ _ _ _ (World.drew _)
  go_wp2_with fail
  go_end0
  exact ⟨rfl, (HB1.out.set_ _ _).drew, (HF.out.setCell (.inl rfl) _).drew⟩

set_option maxHeartbeats 4000000 in
set_option maxRecDepth 100000 in
theorem mul_op (w : World) (g : Nat) (t : TypeId) (cs : Array Value) (hB : Blk w g t cs) (op k : Int) (a : Nat) (ha : a < 8) (b : Nat) (hb : b < 8) (c : Nat) (hc : c < 8) (z : Value) (ra : cs[1 + a]? = some z) (x : Int) (rb : cs[1 + b]? = some (.int .i64 x)) (y : Int) (rc : cs[1 + c]? = some (.int .i64 y)) :
    Calls Tryd.prog 48 #[.pointer (some ⟨g, 0, none⟩), .agg #[.int .i64 op, .int .i64 a, .int .i64 b, .int .i64 c, .int .i64 k]] w (OpPost w g t (cs.setIfInBounds (1 + a) (.int .i64 (wrap64 (x * y))))) := by
  have HB := Lib.hid hB
  have RA := Lib.hid ra
  have RB := Lib.hid rb
  have RC := Lib.hid rc
  clear hB ra rb rc
  go_enter Tryd.func48, Tryd.ntmps48
  go_wp2_with fail
  generalize hW : w.alloc (.cells _ 98) = W
  obtain ⟨B1, B2, hF, hgl, hlt⟩ := boxed w g t cs HB.out _ W hW
  have HF := Lib.hid hF
  have HB1 := Lib.hid B1
  have g1 : W.cell? ⟨g, 1 + a, none⟩ = some z := by rw [B1.cell]; exact RA.out
  have g2 : W.cell? ⟨g, 1 + b, none⟩ = some (.int .i64 x) := by rw [B1.cell]; exact RB.out
  have g3 : W.cell? ⟨g, 1 + c, none⟩ = some (.int .i64 y) := by rw [B1.cell]; exact RC.out
  have f1 := B1.frozen (1 + a)
  have d1 : W.cell? ⟨w.heap.size, 1, none⟩ = some (.int .i64 a) := by rw [B2.cell]; rfl
  have d2 : W.cell? ⟨w.heap.size, 2, none⟩ = some (.int .i64 b) := by rw [B2.cell]; rfl
  have d3 : W.cell? ⟨w.heap.size, 3, none⟩ = some (.int .i64 c) := by rw [B2.cell]; rfl
  have d4 : W.cell? ⟨w.heap.size, 4, none⟩ = some (.int .i64 k) := by rw [B2.cell]; rfl
  clear hW B1 B2 hF
  have ia : (0 : Int) ≤ (a : Int) := by omega
  have ja : (a : Int) < 8 := by omega
  have ib : (0 : Int) ≤ (b : Int) := by omega
  have jb : (b : Int) < 8 := by omega
  have ic : (0 : Int) ≤ (c : Int) := by omega
  have jc : (c : Int) < 8 := by omega
  go_still_tail 21, (by kernel_rfl)
  change wpList _ _ _ _ _ (World.drew _)
  go_wp2_with fail
  go_end0
  exact ⟨rfl, (HB1.out.set_ _ _).drew, (HF.out.setCell (.inl rfl) _).drew⟩

set_option maxHeartbeats 4000000 in
set_option maxRecDepth 100000 in
theorem less_op (w : World) (g : Nat) (t : TypeId) (cs : Array Value) (hB : Blk w g t cs) (op k : Int) (a : Nat) (ha : a < 8) (b : Nat) (hb : b < 8) (c : Nat) (hc : c < 8) (z : Value) (ra : cs[1 + a]? = some z) (x : Int) (rb : cs[1 + b]? = some (.int .i64 x)) (y : Int) (rc : cs[1 + c]? = some (.int .i64 y)) :
    Calls Tryd.prog 49 #[.pointer (some ⟨g, 0, none⟩), .agg #[.int .i64 op, .int .i64 a, .int .i64 b, .int .i64 c, .int .i64 k]] w (OpPost w g t (cs.setIfInBounds (1 + a) (.int .i64 (boolI (decide (x < y)))))) := by
  have HB := Lib.hid hB
  have RA := Lib.hid ra
  have RB := Lib.hid rb
  have RC := Lib.hid rc
  clear hB ra rb rc
  go_enter Tryd.func49, Tryd.ntmps49
  go_wp2_with fail
  generalize hW : w.alloc (.cells _ 98) = W
  obtain ⟨B1, B2, hF, hgl, hlt⟩ := boxed w g t cs HB.out _ W hW
  have HF := Lib.hid hF
  have HB1 := Lib.hid B1
  have g1 : W.cell? ⟨g, 1 + a, none⟩ = some z := by rw [B1.cell]; exact RA.out
  have g2 : W.cell? ⟨g, 1 + b, none⟩ = some (.int .i64 x) := by rw [B1.cell]; exact RB.out
  have g3 : W.cell? ⟨g, 1 + c, none⟩ = some (.int .i64 y) := by rw [B1.cell]; exact RC.out
  have f1 := B1.frozen (1 + a)
  have d1 : W.cell? ⟨w.heap.size, 1, none⟩ = some (.int .i64 a) := by rw [B2.cell]; rfl
  have d2 : W.cell? ⟨w.heap.size, 2, none⟩ = some (.int .i64 b) := by rw [B2.cell]; rfl
  have d3 : W.cell? ⟨w.heap.size, 3, none⟩ = some (.int .i64 c) := by rw [B2.cell]; rfl
  have d4 : W.cell? ⟨w.heap.size, 4, none⟩ = some (.int .i64 k) := by rw [B2.cell]; rfl
  clear hW B1 B2 hF
  have ia : (0 : Int) ≤ (a : Int) := by omega
  have ja : (a : Int) < 8 := by omega
  have ib : (0 : Int) ≤ (b : Int) := by omega
  have jb : (b : Int) < 8 := by omega
  have ic : (0 : Int) ≤ (c : Int) := by omega
  have jc : (c : Int) < 8 := by omega
  refine wp_region_still_tail 22 (by kernel_rfl) (by kernel_rfl) ?_
  simp only [List.take_succ_cons, List.take_zero, List.drop_succ_cons, List.drop_zero]
  repeat still_step
  still_call (number_any _ _)
  repeat still_step
  refine wpStill_nil ?_
  change wpList _ _ _ _ _ (World.drew _)
  go_wp2_with fail
  go_end0
  exact ⟨rfl, (HB1.out.set_ _ _).drew, (HF.out.setCell (.inl rfl) _).drew⟩

set_option maxHeartbeats 4000000 in
set_option maxRecDepth 100000 in
theorem same_op (w : World) (g : Nat) (t : TypeId) (cs : Array Value) (hB : Blk w g t cs) (op k : Int) (a : Nat) (ha : a < 8) (b : Nat) (hb : b < 8) (c : Nat) (hc : c < 8) (z : Value) (ra : cs[1 + a]? = some z) (x : Int) (rb : cs[1 + b]? = some (.int .i64 x)) (y : Int) (rc : cs[1 + c]? = some (.int .i64 y)) :
    Calls Tryd.prog 50 #[.pointer (some ⟨g, 0, none⟩), .agg #[.int .i64 op, .int .i64 a, .int .i64 b, .int .i64 c, .int .i64 k]] w (OpPost w g t (cs.setIfInBounds (1 + a) (.int .i64 (boolI (x == y))))) := by
  have HB := Lib.hid hB
  have RA := Lib.hid ra
  have RB := Lib.hid rb
  have RC := Lib.hid rc
  clear hB ra rb rc
  go_enter Tryd.func50, Tryd.ntmps50
  go_wp2_with fail
  generalize hW : w.alloc (.cells _ 98) = W
  obtain ⟨B1, B2, hF, hgl, hlt⟩ := boxed w g t cs HB.out _ W hW
  have HF := Lib.hid hF
  have HB1 := Lib.hid B1
  have g1 : W.cell? ⟨g, 1 + a, none⟩ = some z := by rw [B1.cell]; exact RA.out
  have g2 : W.cell? ⟨g, 1 + b, none⟩ = some (.int .i64 x) := by rw [B1.cell]; exact RB.out
  have g3 : W.cell? ⟨g, 1 + c, none⟩ = some (.int .i64 y) := by rw [B1.cell]; exact RC.out
  have f1 := B1.frozen (1 + a)
  have d1 : W.cell? ⟨w.heap.size, 1, none⟩ = some (.int .i64 a) := by rw [B2.cell]; rfl
  have d2 : W.cell? ⟨w.heap.size, 2, none⟩ = some (.int .i64 b) := by rw [B2.cell]; rfl
  have d3 : W.cell? ⟨w.heap.size, 3, none⟩ = some (.int .i64 c) := by rw [B2.cell]; rfl
  have d4 : W.cell? ⟨w.heap.size, 4, none⟩ = some (.int .i64 k) := by rw [B2.cell]; rfl
  clear hW B1 B2 hF
  have ia : (0 : Int) ≤ (a : Int) := by omega
  have ja : (a : Int) < 8 := by omega
  have ib : (0 : Int) ≤ (b : Int) := by omega
  have jb : (b : Int) < 8 := by omega
  have ic : (0 : Int) ≤ (c : Int) := by omega
  have jc : (c : Int) < 8 := by omega
  refine wp_region_still_tail 22 (by kernel_rfl) (by kernel_rfl) ?_
  simp only [List.take_succ_cons, List.take_zero, List.drop_succ_cons, List.drop_zero]
  repeat still_step
  still_call (number_any _ _)
  repeat still_step
  refine wpStill_nil ?_
  change wpList _ _ _ _ _ (World.drew _)
  go_wp2_with fail
  go_end0
  exact ⟨rfl, (HB1.out.set_ _ _).drew, (HF.out.setCell (.inl rfl) _).drew⟩

set_option maxHeartbeats 4000000 in
set_option maxRecDepth 100000 in
theorem jump_op (w : World) (g : Nat) (t : TypeId) (cs : Array Value) (hB : Blk w g t cs) (op k a b c : Int) (z : Value) (ra : cs[0]? = some z) :
    Calls Tryd.prog 51 #[.pointer (some ⟨g, 0, none⟩), .agg #[.int .i64 op, .int .i64 a, .int .i64 b, .int .i64 c, .int .i64 k]] w (OpPost w g t (cs.setIfInBounds 0 (.int .i64 k))) := by
  have HB := Lib.hid hB
  have g1 : w.cell? ⟨g, 0, none⟩ = some z := by rw [hB.cell]; exact ra
  have f1 := hB.frozen 0
  have hgl := hB.lt
  clear hB ra
  go_enter Tryd.func51, Tryd.ntmps51
  go_wp2_with fail
  go_end0
  exact ⟨rfl, (HB.out.set_ _ _).alloc _, ((Fr.refl (At g) w).setCell (p := ⟨g, 0, none⟩) (.inl rfl) _).alloc _⟩

/-- Where a zero leads. -/
def zeroTo (x k p : Int) : Int := if x = 0 then k else p
theorem set_self {cs : Array Value} {i : Nat} {v : Value} (h : cs[i]? = some v) : cs.setIfInBounds i v = cs := by
  apply Array.ext_getElem?
  intro j
  rw [Array.getElem?_setIfInBounds]
  by_cases e : i = j
  · subst e
    rw [if_pos rfl, h]
    have := (Array.getElem?_eq_some_iff.1 h).1
    simp [this]
  · rw [if_neg e]

set_option maxHeartbeats 4000000 in
set_option maxRecDepth 100000 in
theorem zero_op (w : World) (g : Nat) (t : TypeId) (cs : Array Value) (hB : Blk w g t cs) (op k : Int) (a : Nat) (ha : a < 8) (b c : Int) (x : Int) (rx : cs[1 + a]? = some (.int .i64 x)) (p : Int) (ra : cs[0]? = some (.int .i64 p)) :
    Calls Tryd.prog 52 #[.pointer (some ⟨g, 0, none⟩), .agg #[.int .i64 op, .int .i64 a, .int .i64 b, .int .i64 c, .int .i64 k]] w (OpPost w g t (cs.setIfInBounds 0 (.int .i64 (zeroTo x k p)))) := by
  have HB := Lib.hid hB
  have RA := Lib.hid ra
  have RX := Lib.hid rx
  clear hB ra rx
  go_enter Tryd.func52, Tryd.ntmps52
  go_wp2_with fail
  generalize hW : w.alloc (.cells _ 98) = W
  obtain ⟨B1, B2, hF, hgl, hlt⟩ := boxed w g t cs HB.out _ W hW
  have HF := Lib.hid hF
  have HB1 := Lib.hid B1
  have g1 : W.cell? ⟨g, 0, none⟩ = some (.int .i64 p) := by rw [B1.cell]; exact RA.out
  have g2 : W.cell? ⟨g, 1 + a, none⟩ = some (.int .i64 x) := by rw [B1.cell]; exact RX.out
  have f1 := B1.frozen 0
  have d1 : W.cell? ⟨w.heap.size, 1, none⟩ = some (.int .i64 a) := by rw [B2.cell]; rfl
  have d4 : W.cell? ⟨w.heap.size, 4, none⟩ = some (.int .i64 k) := by rw [B2.cell]; rfl
  clear hW B1 B2 hF
  have ia : (0 : Int) ≤ (a : Int) := by omega
  have ja : (a : Int) < 8 := by omega
  by_cases hx : x = 0
  · subst hx
    go_quiet (fail)
    go_wp2_with fail
    go_end0
    exact ⟨rfl, (HB1.out.set_ _ _).drewN _, (HF.out.setCell (.inl rfl) _).drewN _⟩
  · have hx' : (x == 0) = false := by simpa using hx
    have HX := Lib.hid hx
    clear hx
    go_quiet (fail)
    go_wp2_with fail
    go_end0
    refine ⟨rfl, ?_, HF.out.drewN _⟩
    unfold zeroTo
    rw [if_neg HX.out, set_self RA.out]
    exact HB1.out.drewN _

/-- What Div comes to: whether it could, and the block. -/
def DivPost (w : World) (g : Nat) (t : TypeId) (ok : Bool) (cs : Array Value) (e : Ending) (w' : World) : Prop := e = .returned (.bool ok) ∧ Blk w' g t cs ∧ Fr (At g) w w'

set_option maxHeartbeats 4000000 in
set_option maxRecDepth 100000 in
theorem div_no (w : World) (g : Nat) (t : TypeId) (cs : Array Value) (hB : Blk w g t cs) (op k a b : Int) (c : Nat) (hc : c < 8) (rc : cs[1 + c]? = some (.int .i64 0)) :
    Calls Tryd.prog 74 #[.pointer (some ⟨g, 0, none⟩), .agg #[.int .i64 op, .int .i64 a, .int .i64 b, .int .i64 c, .int .i64 k]] w (DivPost w g t false cs) := by
  have HB := Lib.hid hB
  have RC := Lib.hid rc
  clear hB rc
  go_enter Tryd.func74, Tryd.ntmps74
  go_wp2_with fail
  generalize hW : w.alloc (.cells _ 98) = W
  obtain ⟨B1, B2, hF, hgl, hlt⟩ := boxed w g t cs HB.out _ W hW
  have HF := Lib.hid hF
  have HB1 := Lib.hid B1
  have g3 : W.cell? ⟨g, 1 + c, none⟩ = some (.int .i64 0) := by rw [B1.cell]; exact RC.out
  have d3 : W.cell? ⟨w.heap.size, 3, none⟩ = some (.int .i64 c) := by rw [B2.cell]; rfl
  clear hW B1 B2 hF
  have ic : (0 : Int) ≤ (c : Int) := by omega
  have jc : (c : Int) < 8 := by omega
  go_quiet (fail)
  go_wp2_with fail
  go_ret
  exact ⟨rfl, HB1.out.drewN _, HF.out.drewN _⟩

set_option maxHeartbeats 4000000 in
set_option maxRecDepth 100000 in
theorem div_yes (w : World) (g : Nat) (t : TypeId) (cs : Array Value) (hB : Blk w g t cs) (op k : Int) (a b c : Nat) (ha : a < 8) (hb : b < 8) (hc : c < 8) (z : Value) (ra : cs[1 + a]? = some z) (x y : Int) (hy : y ≠ 0)
    (rb : cs[1 + b]? = some (.int .i64 x)) (rc : cs[1 + c]? = some (.int .i64 y)) :
    Calls Tryd.prog 74 #[.pointer (some ⟨g, 0, none⟩), .agg #[.int .i64 op, .int .i64 a, .int .i64 b, .int .i64 c, .int .i64 k]] w (DivPost w g t true (cs.setIfInBounds (1 + a) (.int .i64 (wrap64 (x.tdiv y))))) := by
  have HB := Lib.hid hB
  have RA := Lib.hid ra
  have RB := Lib.hid rb
  have RC := Lib.hid rc
  have hy' : (y == 0) = false := by simpa using hy
  clear hB ra rb rc
  go_enter Tryd.func74, Tryd.ntmps74
  go_wp2_with fail
  generalize hW : w.alloc (.cells _ 98) = W
  obtain ⟨B1, B2, hF, hgl, hlt⟩ := boxed w g t cs HB.out _ W hW
  have HF := Lib.hid hF
  have HB1 := Lib.hid B1
  have g1 : W.cell? ⟨g, 1 + a, none⟩ = some z := by rw [B1.cell]; exact RA.out
  have g2 : W.cell? ⟨g, 1 + b, none⟩ = some (.int .i64 x) := by rw [B1.cell]; exact RB.out
  have g3 : W.cell? ⟨g, 1 + c, none⟩ = some (.int .i64 y) := by rw [B1.cell]; exact RC.out
  have f1 := B1.frozen (1 + a)
  have d1 : W.cell? ⟨w.heap.size, 1, none⟩ = some (.int .i64 a) := by rw [B2.cell]; rfl
  have d2 : W.cell? ⟨w.heap.size, 2, none⟩ = some (.int .i64 b) := by rw [B2.cell]; rfl
  have d3 : W.cell? ⟨w.heap.size, 3, none⟩ = some (.int .i64 c) := by rw [B2.cell]; rfl
  clear hW B1 B2 hF
  have ia : (0 : Int) ≤ (a : Int) := by omega
  have ja : (a : Int) < 8 := by omega
  have ib : (0 : Int) ≤ (b : Int) := by omega
  have jb : (b : Int) < 8 := by omega
  have ic : (0 : Int) ≤ (c : Int) := by omega
  have jc : (c : Int) < 8 := by omega
  go_quiet (fail)
  go_wp2_with fail
  generalize hW2 : W.drewN _ = W2
  have HB2 : Hid (Blk W2 g t cs) := Lib.hid (hW2 ▸ HB1.out.drewN _)
  have HF2 : Hid (Fr (At g) w W2) := Lib.hid (hW2 ▸ HF.out.drewN _)
  have hlt2 : w.heap.size < W2.heap.size := by rw [← hW2]; exact hlt
  replace g1 : W2.cell? ⟨g, 1 + a, none⟩ = some z := by rw [← hW2]; exact g1
  replace g2 : W2.cell? ⟨g, 1 + b, none⟩ = some (.int .i64 x) := by rw [← hW2]; exact g2
  replace g3 : W2.cell? ⟨g, 1 + c, none⟩ = some (.int .i64 y) := by rw [← hW2]; exact g3
  replace f1 : W2.frozen? ⟨g, 1 + a, none⟩ = false := by rw [← hW2]; exact f1
  replace d1 : W2.cell? ⟨w.heap.size, 1, none⟩ = some (.int .i64 a) := by rw [← hW2]; exact d1
  replace d2 : W2.cell? ⟨w.heap.size, 2, none⟩ = some (.int .i64 b) := by rw [← hW2]; exact d2
  replace d3 : W2.cell? ⟨w.heap.size, 3, none⟩ = some (.int .i64 c) := by rw [← hW2]; exact d3
  clear hW2
  go_still_tail 21, (by kernel_rfl)
  change wpList _ _ _ _ _ (World.drew _)
  go_wp2_with fail
  go_ret
  exact ⟨rfl, (HB2.out.set_ _ _).drew, (HF2.out.setCell (.inl rfl) _).drew⟩
end Go.Proofs.YtadcenaafoemmaaDoor
