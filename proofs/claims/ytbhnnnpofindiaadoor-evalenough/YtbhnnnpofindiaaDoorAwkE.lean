/-
  The chapter's example (awake) holds.
-/
import Derived.Test.YtbhnnnpofindiaaDoorTop
namespace Go.Proofs.YtbhnnnpofindiaaDoor
open Go.RowKit

/-- One number that was told, one entry of the log. -/
theorem ResAt.one {w : World} {base : Nat} {tv lv : Value} {x : Int} {p : List Int} {s : Int} (h : ResAt w base tv lv [x] [(p, s)]) :
    ∃ tb tc lb lc, tv = .slice (some ⟨tb, 0, none⟩) 1 tc ∧ lv = .slice (some ⟨lb, 0, none⟩) 1 lc ∧ w.cell? ⟨tb, 0, none⟩ = some (.int .i64 x) ∧ w.cell? ⟨lb, 1, none⟩ = some (.int .i64 s) ∧ tb < w.heap.size ∧ lb < w.heap.size := by
  obtain ⟨h1, ll, h2, h3, _⟩ := h
  obtain ⟨y, hy⟩ : ∃ y, ll = [y] := by
    have hl := congrArg List.length h2
    simp at hl
    match ll, hl with
    | [y], _ => exact ⟨y, rfl⟩
  subst hy
  have hys : y.steps = s := by
    have := h2
    simp [LEnt.pure] at this
    exact this.2
  obtain ⟨tb, tc, htv, _, htl⟩ := h1.form (by simp)
  obtain ⟨lb, lc, hlv, _, hll⟩ := h3.form (by simp)
  have c1 := h1.cells (g := tb) (by rw [htv]; rfl) 0 (.int .i64 x) rfl
  have c2 := h3.cells (g := lb) (by rw [hlv]; rfl) 1 (.int .i64 y.steps) rfl
  have a1 : (⟨tb, 0, none⟩ : Addr).add 0 = ⟨tb, 0, none⟩ := by simp [Addr.add]
  have a2 : (⟨lb, 0, none⟩ : Addr).add 1 = ⟨lb, 1, none⟩ := by simp [Addr.add]
  rw [a1] at c1
  rw [a2, hys] at c2
  exact ⟨tb, tc, lb, lc, htv, hlv, c1, c2, htl, hll⟩

theorem awake_val : evalR [⟨0, [⟨1, 1, 0, 0, 7⟩, ⟨15, 1, 0, 0, 0⟩, ⟨17, 1, 0, 0, 0⟩]⟩] [] 9 0 9 = ⟨7, 0, [7], [([], 3)], 0⟩ := by kernel_rfl

/-- A row of one function in new memory, behind its code. -/
theorem lit_row (w : World) (ar : Int) (l : List Ins) (cs : Array Value) (hcs : cs = (l.flatMap Ins.cells).toArray) (n : Nat) (hn : l.length = n) :
    FnRow ((w.alloc (.cells cs 55)).alloc (.cells #[.int .i64 ar, .slice (some ⟨w.heap.size, 0, none⟩) n n] 58)) (fun b => b < ((w.alloc (.cells cs 55)).alloc (.cells #[.int .i64 ar, .slice (some ⟨w.heap.size, 0, none⟩) n n] 58)).heap.size) (some ⟨w.heap.size + 1, 0, none⟩) [⟨⟨ar, l⟩, some ⟨w.heap.size, 0, none⟩, n⟩] := by
  subst hcs hn
  have h1 := Blk.new (w.alloc (.cells (l.flatMap Ins.cells).toArray 55)) 58 #[.int .i64 ar, .slice (some ⟨w.heap.size, 0, none⟩) l.length l.length]
  rw [show (w.alloc (.cells (l.flatMap Ins.cells).toArray 55)).heap.size = w.heap.size + 1 by simp] at h1
  refine ⟨Rd.of_blk (t := 58) (cs := [.int .i64 ar, .slice (some ⟨w.heap.size, 0, none⟩) l.length l.length]) h1 rfl h1.lt, fun x hx => ?_⟩
  rw [List.mem_singleton.1 hx]
  have h2 := (Blk.new w 55 (l.flatMap Ins.cells).toArray).alloc (.cells #[.int .i64 ar, .slice (some ⟨w.heap.size, 0, none⟩) l.length l.length] 58)
  exact Rd.of_blk (t := 55) h2 (flat_length Ins.cells 5 Ins.cells_length l) h2.lt

set_option maxHeartbeats 4000000 in
set_option maxRecDepth 100000 in
theorem awake_any (w : World) (hT : FieldsAt w) : Calls Tryd.prog 17 #[] w fun e w' => e = .returned (.bool true) ∧ Fr None' w w' := by
  have hrow := lit_row w 0 [⟨1, 1, 0, 0, 7⟩, ⟨15, 1, 0, 0, 0⟩, ⟨17, 1, 0, 0, 0⟩] _ rfl 3 rfl
  have hF0 : Fr None' w ((w.alloc (.cells ((([⟨1, 1, 0, 0, 7⟩, ⟨15, 1, 0, 0, 0⟩, ⟨17, 1, 0, 0, 0⟩] : List Ins).flatMap Ins.cells).toArray) 55)).alloc (.cells #[.int .i64 0, .slice (some ⟨w.heap.size, 0, none⟩) 3 3] 58)) := ((Fr.refl _ _).alloc _).alloc _
  have hev := eval_any _ (some ⟨w.heap.size + 1, 0, none⟩) 1 _ hrow (hT.fr hF0 (fun h => h)) (by simp) none [] 0 (fun h => absurd h (by simp)) (by simp) 9 0 9 (by decide)
  rw [show fns [(⟨⟨0, [⟨1, 1, 0, 0, 7⟩, ⟨15, 1, 0, 0, 0⟩, ⟨17, 1, 0, 0, 0⟩]⟩, some ⟨w.heap.size, 0, none⟩, 3⟩ : LFn)] = [⟨0, [⟨1, 1, 0, 0, 7⟩, ⟨15, 1, 0, 0, 0⟩, ⟨17, 1, 0, 0, 0⟩]⟩] from rfl, awake_val] at hev
  have HEV := Lib.hid hev
  have HF0 := Lib.hid hF0
  clear hrow hF0 hev hT
  go_enter Tryd.func17, Tryd.ntmps17
  go_wp2_with fail
  refine HEV.out.mono ?_
  rintro e w1 ⟨tv, lv, rfl, hres, hF1⟩
  obtain ⟨tb, tc, lb, lc, rfl, rfl, c1, c2, l1, l2⟩ := hres.one
  have HF1 := Lib.hid (HF0.out.trans hF1)
  clear hres hF1
  go_wp2_with fail
  go_ret
  exact ⟨rfl, HF1.out.alloc _⟩
end Go.Proofs.YtbhnnnpofindiaaDoor
