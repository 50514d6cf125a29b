/-
  Which frames are within their program. No condition.
-/
import Derived.Test.YtadcenaafoemmaaDoorF19
namespace Go.Proofs.YtadcenaafoemmaaDoor
open Go.RowKit

set_option maxHeartbeats 8000000 in
set_option maxRecDepth 100000 in
theorem within_fn (w : World) (F n pc : Nat) (A : Option Addr) (fn : Int) (f0 : w.cell? ⟨F, 0, none⟩ = some (.int .i64 fn)) (h1 : fn < 0 ∨ (n : Int) ≤ fn) :
    Calls Tryd.prog 26 #[.pointer (some ⟨F, 0, none⟩), .slice A n pc] w fun e w' => e = .returned (.bool false) ∧ Fr None' w w' := by
  have HF := Lib.hid (Fr.refl None' w)
  by_cases h0 : fn < 0
  · have g1 : decide ((0 : Int) ≤ fn) = false := decide_eq_false (by omega)
    go_enter Tryd.func26, Tryd.ntmps26
    go_upto_region 1 with (fail)
    go_quiet (fail)
    go_wp2_with fail
    go_ret
    exact ⟨rfl, HF.out.drewN _⟩
  · have g1 : decide ((0 : Int) ≤ fn) = true := decide_eq_true (by omega)
    have g2 : decide (fn < (n : Int)) = false := decide_eq_false (by omega)
    go_enter Tryd.func26, Tryd.ntmps26
    go_upto_region 1 with (fail)
    go_quiet (fail)
    go_wp2_with fail
    go_ret
    exact ⟨rfl, HF.out.drewN _⟩

set_option maxHeartbeats 8000000 in
set_option maxRecDepth 100000 in
theorem within_at (w : World) (F b off n pc fn cn yc : Nat) (yA : Option Addr) (at_ : Int) (f0 : w.cell? ⟨F, 0, none⟩ = some (.int .i64 (fn : Int))) (f1 : w.cell? ⟨F, 1, none⟩ = some (.int .i64 at_))
    (hc : w.cell? ⟨b, off + fn * 2 + 1, none⟩ = some (.slice yA cn yc)) (h1 : fn < n) (h2 : at_ < 0 ∨ (cn : Int) ≤ at_) :
    Calls Tryd.prog 26 #[.pointer (some ⟨F, 0, none⟩), .slice (some ⟨b, off, none⟩) n pc] w fun e w' => e = .returned (.bool false) ∧ Fr None' w w' := by
  have g1 : decide ((0 : Int) ≤ (fn : Int)) = true := decide_eq_true (by omega)
  have g2 : decide ((fn : Int) < (n : Int)) = true := decide_eq_true (by omega)
  have g5 : (0 : Int) ≤ (fn : Int) := by omega
  have g6 : (fn : Int) < (n : Int) := by omega
  have HF := Lib.hid (Fr.refl None' w)
  by_cases h0 : at_ < 0
  · have g3 : decide ((0 : Int) ≤ at_) = false := decide_eq_false (by omega)
    go_enter Tryd.func26, Tryd.ntmps26
    go_upto_region 1 with (fail)
    go_quiet (fail)
    go_wp2_with fail
    go_ret
    exact ⟨rfl, HF.out.drewN _⟩
  · have g3 : decide ((0 : Int) ≤ at_) = true := decide_eq_true (by omega)
    have g4 : decide (at_ < (cn : Int)) = false := decide_eq_false (by omega)
    go_enter Tryd.func26, Tryd.ntmps26
    go_upto_region 1 with (fail)
    go_quiet (fail)
    go_wp2_with fail
    go_ret
    exact ⟨rfl, HF.out.drewN _⟩
end Go.Proofs.YtadcenaafoemmaaDoor

/-
  Exec, where it is not done: the program may not run, or the limits are none; the frame is not there, or not within its program; the budget is used up. No condition.
-/
namespace Go.Proofs.YtadcenaafoemmaaDoor
open Go.RowKit

set_option maxHeartbeats 8000000 in
set_option maxRecDepth 100000 in
theorem exec_arg (w : World) (PV FV : Value) (bud dep : Int) (HR1 : Hid (∀ w1, Fr None' w w1 → Calls Tryd.prog 25 #[PV, .agg #[.int .i64 bud, .int .i64 dep]] w1 fun e w' => e = .returned (.bool false) ∧ Fr None' w1 w')) :
    Calls Tryd.prog 11 #[PV, .agg #[.int .i64 bud, .int .i64 dep], FV] w  fun e w' => e = .returned (.tuple #[.agg (efZ), .int .i64 1]) ∧ Fr None' w w' := by
  go_enter Tryd.func11, Tryd.ntmps11
  go_upto_region 1 with (fail)
  generalize hW : (w.alloc (.cells _ 43)).alloc (.cells _ 36) = W
  have hF : Fr None' w W := by rw [← hW]; exact ((Fr.refl _ _).alloc _).alloc _
  have hI : Blk W w.heap.size 43 #[.int .i64 bud, .int .i64 dep] := by rw [← hW]; exact (Blk.new _ _ _).alloc _
  have hE : Blk W (w.heap.size + 1) 36 efZ := by
    have h := Blk.new (w.alloc (.cells #[.int .i64 bud, .int .i64 dep] 43)) 36 efZ
    rw [show (w.alloc (.cells #[.int .i64 bud, .int .i64 dep] 43)).heap.size = w.heap.size + 1 by simp] at h
    rw [← hW]; exact h
  have l0 : W.cell? ⟨w.heap.size, 0, none⟩ = some (.int .i64 bud) := by rw [hI.cell]; rfl
  have l1 : W.cell? ⟨w.heap.size, 1, none⟩ = some (.int .i64 dep) := by rw [hI.cell]; rfl
  have HF := Lib.hid hF
  have HI := Lib.hid hI
  have HE := Lib.hid hE
  clear hF hI hE hW
  go_wp2_with fail
  refine (HR1.out _ HF.out).mono ?_
  rintro e wA ⟨rfl, hFA⟩
  have HFA := Lib.hid (HF.out.trans hFA)
  have HIA := Lib.hid (HI.out.fr hFA (fun h => h))
  have HEA := Lib.hid (HE.out.fr hFA (fun h => h))
  clear l0 l1 hFA HF HI HE HR1
  have hE := HEA.out
  have e0 : wA.cell? ⟨(w.heap.size + 1), 0, none⟩ = some (.int .i64 0) := by rw [hE.cell]; rfl
  have y0 : wA.frozen? ⟨(w.heap.size + 1), 0, none⟩ = false := hE.frozen _
  have e1 : wA.cell? ⟨(w.heap.size + 1), 1, none⟩ = some (.int .i64 0) := by rw [hE.cell]; rfl
  have y1 : wA.frozen? ⟨(w.heap.size + 1), 1, none⟩ = false := hE.frozen _
  have e2 : wA.cell? ⟨(w.heap.size + 1), 2, none⟩ = some (.int .i64 0) := by rw [hE.cell]; rfl
  have y2 : wA.frozen? ⟨(w.heap.size + 1), 2, none⟩ = false := hE.frozen _
  have e3 : wA.cell? ⟨(w.heap.size + 1), 3, none⟩ = some (.int .i64 0) := by rw [hE.cell]; rfl
  have y3 : wA.frozen? ⟨(w.heap.size + 1), 3, none⟩ = false := hE.frozen _
  have e4 : wA.cell? ⟨(w.heap.size + 1), 4, none⟩ = some (.int .i64 0) := by rw [hE.cell]; rfl
  have y4 : wA.frozen? ⟨(w.heap.size + 1), 4, none⟩ = false := hE.frozen _
  have e5 : wA.cell? ⟨(w.heap.size + 1), 5, none⟩ = some (.int .i64 0) := by rw [hE.cell]; rfl
  have y5 : wA.frozen? ⟨(w.heap.size + 1), 5, none⟩ = false := hE.frozen _
  have e6 : wA.cell? ⟨(w.heap.size + 1), 6, none⟩ = some (nilS) := by rw [hE.cell]; rfl
  have y6 : wA.frozen? ⟨(w.heap.size + 1), 6, none⟩ = false := hE.frozen _
  have e7 : wA.cell? ⟨(w.heap.size + 1), 7, none⟩ = some (nilS) := by rw [hE.cell]; rfl
  have y7 : wA.frozen? ⟨(w.heap.size + 1), 7, none⟩ = false := hE.frozen _
  clear hE
  go_wp2_with fail
  refine bodyPost_ret (results_ct rfl _ (w.heap.size + 1) rfl (run_loadVar_row _ (w.heap.size + 1) 36 36 _ (0, 0) _ (ef_stored HEA.out _ _ _ _ _ _ _ _) Tryd.underlying36 rfl (by kernel_rfl))) rfl ?_
  exact ⟨rfl, ef_frame HFA.out (.inr (by omega)) _ _ _ _ _ _ _ _⟩

set_option maxHeartbeats 8000000 in
set_option maxRecDepth 100000 in
theorem exec_nil (w : World) (PV : Value) (bud dep : Int) (HR1 : Hid (∀ w1, Fr None' w w1 → Calls Tryd.prog 25 #[PV, .agg #[.int .i64 bud, .int .i64 dep]] w1 fun e w' => e = .returned (.bool true) ∧ Fr None' w1 w')) :
    Calls Tryd.prog 11 #[PV, .agg #[.int .i64 bud, .int .i64 dep], .pointer none] w  fun e w' => e = .returned (.tuple #[.agg (efZ), .int .i64 11]) ∧ Fr None' w w' := by
  go_enter Tryd.func11, Tryd.ntmps11
  go_upto_region 1 with (fail)
  generalize hW : (w.alloc (.cells _ 43)).alloc (.cells _ 36) = W
  have hF : Fr None' w W := by rw [← hW]; exact ((Fr.refl _ _).alloc _).alloc _
  have hI : Blk W w.heap.size 43 #[.int .i64 bud, .int .i64 dep] := by rw [← hW]; exact (Blk.new _ _ _).alloc _
  have hE : Blk W (w.heap.size + 1) 36 efZ := by
    have h := Blk.new (w.alloc (.cells #[.int .i64 bud, .int .i64 dep] 43)) 36 efZ
    rw [show (w.alloc (.cells #[.int .i64 bud, .int .i64 dep] 43)).heap.size = w.heap.size + 1 by simp] at h
    rw [← hW]; exact h
  have l0 : W.cell? ⟨w.heap.size, 0, none⟩ = some (.int .i64 bud) := by rw [hI.cell]; rfl
  have l1 : W.cell? ⟨w.heap.size, 1, none⟩ = some (.int .i64 dep) := by rw [hI.cell]; rfl
  have HF := Lib.hid hF
  have HI := Lib.hid hI
  have HE := Lib.hid hE
  clear hF hI hE hW
  go_wp2_with fail
  refine (HR1.out _ HF.out).mono ?_
  rintro e wA ⟨rfl, hFA⟩
  have HFA := Lib.hid (HF.out.trans hFA)
  have HIA := Lib.hid (HI.out.fr hFA (fun h => h))
  have HEA := Lib.hid (HE.out.fr hFA (fun h => h))
  clear l0 l1 hFA HF HI HE HR1
  have hE := HEA.out
  have e0 : wA.cell? ⟨(w.heap.size + 1), 0, none⟩ = some (.int .i64 0) := by rw [hE.cell]; rfl
  have y0 : wA.frozen? ⟨(w.heap.size + 1), 0, none⟩ = false := hE.frozen _
  have e1 : wA.cell? ⟨(w.heap.size + 1), 1, none⟩ = some (.int .i64 0) := by rw [hE.cell]; rfl
  have y1 : wA.frozen? ⟨(w.heap.size + 1), 1, none⟩ = false := hE.frozen _
  have e2 : wA.cell? ⟨(w.heap.size + 1), 2, none⟩ = some (.int .i64 0) := by rw [hE.cell]; rfl
  have y2 : wA.frozen? ⟨(w.heap.size + 1), 2, none⟩ = false := hE.frozen _
  have e3 : wA.cell? ⟨(w.heap.size + 1), 3, none⟩ = some (.int .i64 0) := by rw [hE.cell]; rfl
  have y3 : wA.frozen? ⟨(w.heap.size + 1), 3, none⟩ = false := hE.frozen _
  have e4 : wA.cell? ⟨(w.heap.size + 1), 4, none⟩ = some (.int .i64 0) := by rw [hE.cell]; rfl
  have y4 : wA.frozen? ⟨(w.heap.size + 1), 4, none⟩ = false := hE.frozen _
  have e5 : wA.cell? ⟨(w.heap.size + 1), 5, none⟩ = some (.int .i64 0) := by rw [hE.cell]; rfl
  have y5 : wA.frozen? ⟨(w.heap.size + 1), 5, none⟩ = false := hE.frozen _
  have e6 : wA.cell? ⟨(w.heap.size + 1), 6, none⟩ = some (nilS) := by rw [hE.cell]; rfl
  have y6 : wA.frozen? ⟨(w.heap.size + 1), 6, none⟩ = false := hE.frozen _
  have e7 : wA.cell? ⟨(w.heap.size + 1), 7, none⟩ = some (nilS) := by rw [hE.cell]; rfl
  have y7 : wA.frozen? ⟨(w.heap.size + 1), 7, none⟩ = false := hE.frozen _
  clear hE
  go_wp2_with fail
  refine bodyPost_ret (results_ct rfl _ (w.heap.size + 1) rfl (run_loadVar_row _ (w.heap.size + 1) 36 36 _ (0, 0) _ (ef_stored HEA.out _ _ _ _ _ _ _ _) Tryd.underlying36 rfl (by kernel_rfl))) rfl ?_
  exact ⟨rfl, ef_frame HFA.out (.inr (by omega)) _ _ _ _ _ _ _ _⟩

set_option maxHeartbeats 8000000 in
set_option maxRecDepth 100000 in
theorem exec_out (w : World) (PV : Value) (F : Nat) (bud dep : Int) (HR1 : Hid (∀ w1, Fr None' w w1 → Calls Tryd.prog 25 #[PV, .agg #[.int .i64 bud, .int .i64 dep]] w1 fun e w' => e = .returned (.bool true) ∧ Fr None' w1 w')) (HWI : Hid (∀ w1, Fr None' w w1 → Calls Tryd.prog 26 #[.pointer (some ⟨F, 0, none⟩), PV] w1 fun e w' => e = .returned (.bool false) ∧ Fr None' w1 w')) :
    Calls Tryd.prog 11 #[PV, .agg #[.int .i64 bud, .int .i64 dep], .pointer (some ⟨F, 0, none⟩)] w  fun e w' => e = .returned (.tuple #[.agg (efZ), .int .i64 11]) ∧ Fr None' w w' := by
  go_enter Tryd.func11, Tryd.ntmps11
  go_upto_region 1 with (fail)
  generalize hW : (w.alloc (.cells _ 43)).alloc (.cells _ 36) = W
  have hF : Fr None' w W := by rw [← hW]; exact ((Fr.refl _ _).alloc _).alloc _
  have hI : Blk W w.heap.size 43 #[.int .i64 bud, .int .i64 dep] := by rw [← hW]; exact (Blk.new _ _ _).alloc _
  have hE : Blk W (w.heap.size + 1) 36 efZ := by
    have h := Blk.new (w.alloc (.cells #[.int .i64 bud, .int .i64 dep] 43)) 36 efZ
    rw [show (w.alloc (.cells #[.int .i64 bud, .int .i64 dep] 43)).heap.size = w.heap.size + 1 by simp] at h
    rw [← hW]; exact h
  have l0 : W.cell? ⟨w.heap.size, 0, none⟩ = some (.int .i64 bud) := by rw [hI.cell]; rfl
  have l1 : W.cell? ⟨w.heap.size, 1, none⟩ = some (.int .i64 dep) := by rw [hI.cell]; rfl
  have HF := Lib.hid hF
  have HI := Lib.hid hI
  have HE := Lib.hid hE
  clear hF hI hE hW
  go_wp2_with fail
  refine (HR1.out _ HF.out).mono ?_
  rintro e wA ⟨rfl, hFA⟩
  have HFA := Lib.hid (HF.out.trans hFA)
  have HIA := Lib.hid (HI.out.fr hFA (fun h => h))
  have HEA := Lib.hid (HE.out.fr hFA (fun h => h))
  clear l0 l1 hFA HF HI HE HR1
  go_wp2_with fail
  refine (HWI.out _ HFA.out).mono ?_
  rintro e wB ⟨rfl, hFB⟩
  have HFB := Lib.hid (HFA.out.trans hFB)
  have HEB := Lib.hid (HEA.out.fr hFB (fun h => h))
  clear hFB HFA HIA HEA HWI
  have hE := HEB.out
  have e0 : wB.cell? ⟨(w.heap.size + 1), 0, none⟩ = some (.int .i64 0) := by rw [hE.cell]; rfl
  have y0 : wB.frozen? ⟨(w.heap.size + 1), 0, none⟩ = false := hE.frozen _
  have e1 : wB.cell? ⟨(w.heap.size + 1), 1, none⟩ = some (.int .i64 0) := by rw [hE.cell]; rfl
  have y1 : wB.frozen? ⟨(w.heap.size + 1), 1, none⟩ = false := hE.frozen _
  have e2 : wB.cell? ⟨(w.heap.size + 1), 2, none⟩ = some (.int .i64 0) := by rw [hE.cell]; rfl
  have y2 : wB.frozen? ⟨(w.heap.size + 1), 2, none⟩ = false := hE.frozen _
  have e3 : wB.cell? ⟨(w.heap.size + 1), 3, none⟩ = some (.int .i64 0) := by rw [hE.cell]; rfl
  have y3 : wB.frozen? ⟨(w.heap.size + 1), 3, none⟩ = false := hE.frozen _
  have e4 : wB.cell? ⟨(w.heap.size + 1), 4, none⟩ = some (.int .i64 0) := by rw [hE.cell]; rfl
  have y4 : wB.frozen? ⟨(w.heap.size + 1), 4, none⟩ = false := hE.frozen _
  have e5 : wB.cell? ⟨(w.heap.size + 1), 5, none⟩ = some (.int .i64 0) := by rw [hE.cell]; rfl
  have y5 : wB.frozen? ⟨(w.heap.size + 1), 5, none⟩ = false := hE.frozen _
  have e6 : wB.cell? ⟨(w.heap.size + 1), 6, none⟩ = some (nilS) := by rw [hE.cell]; rfl
  have y6 : wB.frozen? ⟨(w.heap.size + 1), 6, none⟩ = false := hE.frozen _
  have e7 : wB.cell? ⟨(w.heap.size + 1), 7, none⟩ = some (nilS) := by rw [hE.cell]; rfl
  have y7 : wB.frozen? ⟨(w.heap.size + 1), 7, none⟩ = false := hE.frozen _
  clear hE
  go_wp2_with fail
  refine bodyPost_ret (results_ct rfl _ (w.heap.size + 1) rfl (run_loadVar_row _ (w.heap.size + 1) 36 36 _ (0, 0) _ (ef_stored HEB.out _ _ _ _ _ _ _ _) Tryd.underlying36 rfl (by kernel_rfl))) rfl ?_
  exact ⟨rfl, ef_frame HFB.out (.inr (by omega)) _ _ _ _ _ _ _ _⟩

set_option maxHeartbeats 8000000 in
set_option maxRecDepth 100000 in
theorem exec_over (w : World) (PV : Value) (F : Nat) (bud dep st : Int) (HR1 : Hid (∀ w1, Fr None' w w1 → Calls Tryd.prog 25 #[PV, .agg #[.int .i64 bud, .int .i64 dep]] w1 fun e w' => e = .returned (.bool true) ∧ Fr None' w1 w')) (HWI : Hid (∀ w1, Fr None' w w1 → Calls Tryd.prog 26 #[.pointer (some ⟨F, 0, none⟩), PV] w1 fun e w' => e = .returned (.bool true) ∧ Fr None' w1 w')) (f2 : w.cell? ⟨F, 2, none⟩ = some (.int .i64 st)) (hst : bud ≤ st) :
    Calls Tryd.prog 11 #[PV, .agg #[.int .i64 bud, .int .i64 dep], .pointer (some ⟨F, 0, none⟩)] w  fun e w' => e = .returned (.tuple #[.agg (efC 8 0 0 0 0 3 nilS nilS), .int .i64 0]) ∧ Fr None' w w' := by
  have HF2 := Lib.hid f2
  clear f2
  go_enter Tryd.func11, Tryd.ntmps11
  go_upto_region 1 with (fail)
  generalize hW : (w.alloc (.cells _ 43)).alloc (.cells _ 36) = W
  have hF : Fr None' w W := by rw [← hW]; exact ((Fr.refl _ _).alloc _).alloc _
  have hI : Blk W w.heap.size 43 #[.int .i64 bud, .int .i64 dep] := by rw [← hW]; exact (Blk.new _ _ _).alloc _
  have hE : Blk W (w.heap.size + 1) 36 efZ := by
    have h := Blk.new (w.alloc (.cells #[.int .i64 bud, .int .i64 dep] 43)) 36 efZ
    rw [show (w.alloc (.cells #[.int .i64 bud, .int .i64 dep] 43)).heap.size = w.heap.size + 1 by simp] at h
    rw [← hW]; exact h
  have l0 : W.cell? ⟨w.heap.size, 0, none⟩ = some (.int .i64 bud) := by rw [hI.cell]; rfl
  have l1 : W.cell? ⟨w.heap.size, 1, none⟩ = some (.int .i64 dep) := by rw [hI.cell]; rfl
  have HF := Lib.hid hF
  have HI := Lib.hid hI
  have HE := Lib.hid hE
  clear hF hI hE hW
  go_wp2_with fail
  refine (HR1.out _ HF.out).mono ?_
  rintro e wA ⟨rfl, hFA⟩
  have HFA := Lib.hid (HF.out.trans hFA)
  have HIA := Lib.hid (HI.out.fr hFA (fun h => h))
  have HEA := Lib.hid (HE.out.fr hFA (fun h => h))
  clear l0 l1 hFA HF HI HE HR1
  go_wp2_with fail
  refine (HWI.out _ HFA.out).mono ?_
  rintro e wB ⟨rfl, hFB⟩
  have HFB := Lib.hid (HFA.out.trans hFB)
  have HIB := Lib.hid (HIA.out.fr hFB (fun h => h))
  have HEB := Lib.hid (HEA.out.fr hFB (fun h => h))
  clear hFB HFA HIA HEA HWI
  have l0 : wB.cell? ⟨w.heap.size, 0, none⟩ = some (.int .i64 bud) := by rw [HIB.out.cell]; rfl
  have f2 : wB.cell? ⟨F, 2, none⟩ = some (.int .i64 st) := HFB.out.held HF2.out (fun h => h)
  have hq : decide (bud ≤ st) = true := decide_eq_true hst
  go_upto_region 5 with (fail)
  go_quiet (fail)
  generalize hV : wB.drewN _ = V
  have HFV : Hid (Fr None' w V) := Lib.hid (by rw [← hV]; exact HFB.out.drewN _)
  have HEV : Hid (Blk V (w.heap.size + 1) 36 efZ) := Lib.hid (by rw [← hV]; exact HEB.out.drewN _)
  clear HFB HEB HIB l0 f2 hV
  go_wp2_with fail
  refine (ffails_any _ 3).mono ?_
  rintro e w1 ⟨rfl, hF1⟩
  have HF1 := Lib.hid (HFV.out.trans hF1)
  have hE := HEV.out.fr hF1 (fun h => h)
  have HE := Lib.hid hE
  have e0 : w1.cell? ⟨(w.heap.size + 1), 0, none⟩ = some (.int .i64 0) := by rw [hE.cell]; rfl
  have y0 : w1.frozen? ⟨(w.heap.size + 1), 0, none⟩ = false := hE.frozen _
  have e1 : w1.cell? ⟨(w.heap.size + 1), 1, none⟩ = some (.int .i64 0) := by rw [hE.cell]; rfl
  have y1 : w1.frozen? ⟨(w.heap.size + 1), 1, none⟩ = false := hE.frozen _
  have e2 : w1.cell? ⟨(w.heap.size + 1), 2, none⟩ = some (.int .i64 0) := by rw [hE.cell]; rfl
  have y2 : w1.frozen? ⟨(w.heap.size + 1), 2, none⟩ = false := hE.frozen _
  have e3 : w1.cell? ⟨(w.heap.size + 1), 3, none⟩ = some (.int .i64 0) := by rw [hE.cell]; rfl
  have y3 : w1.frozen? ⟨(w.heap.size + 1), 3, none⟩ = false := hE.frozen _
  have e4 : w1.cell? ⟨(w.heap.size + 1), 4, none⟩ = some (.int .i64 0) := by rw [hE.cell]; rfl
  have y4 : w1.frozen? ⟨(w.heap.size + 1), 4, none⟩ = false := hE.frozen _
  have e5 : w1.cell? ⟨(w.heap.size + 1), 5, none⟩ = some (.int .i64 0) := by rw [hE.cell]; rfl
  have y5 : w1.frozen? ⟨(w.heap.size + 1), 5, none⟩ = false := hE.frozen _
  have e6 : w1.cell? ⟨(w.heap.size + 1), 6, none⟩ = some (nilS) := by rw [hE.cell]; rfl
  have y6 : w1.frozen? ⟨(w.heap.size + 1), 6, none⟩ = false := hE.frozen _
  have e7 : w1.cell? ⟨(w.heap.size + 1), 7, none⟩ = some (nilS) := by rw [hE.cell]; rfl
  have y7 : w1.frozen? ⟨(w.heap.size + 1), 7, none⟩ = false := hE.frozen _
  clear hE hF1 HFV HEV
  unfold efC
  go_wp2_with fail
  refine bodyPost_ret (results_ct rfl _ (w.heap.size + 1) rfl (run_loadVar_row _ (w.heap.size + 1) 36 36 _ (0, 0) _ (ef_stored HE.out _ _ _ _ _ _ _ _) Tryd.underlying36 rfl (by kernel_rfl))) rfl ?_
  exact ⟨rfl, ef_frame HF1.out (.inr (by omega)) _ _ _ _ _ _ _ _⟩
end Go.Proofs.YtadcenaafoemmaaDoor
