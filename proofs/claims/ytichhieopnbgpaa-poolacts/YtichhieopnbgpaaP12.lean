/-
  Package pool: New's errors. No condition.
-/
import Derived.Test.YtichhieopnbgpaaP11
namespace Go.Proofs.Ytichhieopnbgpaa
open Go.RowKit

set_option maxHeartbeats 8000000 in
set_option maxRecDepth 100000 in
theorem new_arg (w : World) (mv : Value) (base : Int) (z : ShI) (hz : z.ok = false) : Calls Try.prog 12 #[mv, .int .i64 base, .agg z.cells] w fun e w' => e = .returned (.tuple #[.pointer none, .int .i64 1]) ∧ Fr F0 w w' := by
  have HSB : Hid (Blk (w.alloc (.cells z.cells 36)) w.heap.size 36 z.cells) := Blk.new _ _ _
  have HFA : Hid (Fr F0 w (w.alloc (.cells z.cells 36))) := (Fr.refl _ _).alloc _
  have HMB : Hid (∀ w2, Calls Try.prog 33 #[.agg z.cells] w2 fun e w' => e = .returned (.bool false) ∧ Fr F0 w2 w') := Lib.hid (fun w2 => by have := maybe_any w2 z; rwa [hz] at this)
  obtain ⟨k, s0, s1, s2, m0, m1, m2⟩ := z
  simp only [ShI.cells] at HSB HFA HMB ⊢
  clear hz
  go_enter Try.func12, Try.ntmps12
  go_wp2_with fail
  refine (HMB.out _).mono ?_
  rintro e w1 ⟨rfl, hF1⟩
  have HF1 := Lib.hid (HFA.out.trans hF1)
  clear hF1
  go_wp2_with fail
  go_ret2
  exact ⟨rfl, HF1.out⟩

set_option maxHeartbeats 8000000 in
set_option maxRecDepth 100000 in
theorem new_long (w : World) (mv : Value) (base : Int) (S : Shp) (hS : S.Ok) (hl : 65536 < S.words) : Calls Try.prog 12 #[mv, .int .i64 base, .agg S.i.cells] w fun e w' => e = .returned (.tuple #[.pointer none, .int .i64 3]) ∧ Fr F0 w w' := by
  have HSB : Hid (Blk (w.alloc (.cells S.i.cells 36)) w.heap.size 36 S.i.cells) := Blk.new _ _ _
  have HFA : Hid (Fr F0 w (w.alloc (.cells S.i.cells 36))) := (Fr.refl _ _).alloc _
  have HMB : Hid (∀ w2, Calls Try.prog 33 #[.agg S.i.cells] w2 fun e w' => e = .returned (.bool true) ∧ Fr F0 w2 w') := Lib.hid (fun w2 => by have := maybe_any w2 S.i; rwa [hS.i] at this)
  have HWO : Hid (∀ w2, Calls Try.prog 34 #[.agg S.i.cells] w2 fun e w' => e = .returned (.int .i64 ((S.words : Nat) : Int)) ∧ Fr F0 w2 w') := Lib.hid (fun w2 => words_ok w2 S hS)
  obtain ⟨SW, hSW⟩ : ∃ n, n = S.words := ⟨_, rfl⟩
  rw [← hSW] at HWO hl
  have g1 : (65536 : Int) < (SW : Int) := by omega
  clear hSW hS
  simp only [ShI.cells, Shp.i] at HSB HFA HMB HWO ⊢
  go_enter Try.func12, Try.ntmps12
  go_wp2_with fail
  refine (HMB.out _).mono ?_
  rintro e w1 ⟨rfl, hF1⟩
  have HF1 := Lib.hid (HFA.out.trans hF1)
  have HSB1 := Lib.hid (HSB.out.fr hF1 (fun h => h))
  have u0 : w1.cell? ⟨w.heap.size, 0, none⟩ = some (.int .i64 (S.k : Int)) := by rw [HSB1.out.cell]; rfl
  have u1 : w1.cell? ⟨w.heap.size, 1, none⟩ = some (.int .i64 (S.s0 : Int)) := by rw [HSB1.out.cell]; rfl
  have u2 : w1.cell? ⟨w.heap.size, 2, none⟩ = some (.int .i64 (S.s1 : Int)) := by rw [HSB1.out.cell]; rfl
  have u3 : w1.cell? ⟨w.heap.size, 3, none⟩ = some (.int .i64 (S.s2 : Int)) := by rw [HSB1.out.cell]; rfl
  have u4 : w1.cell? ⟨w.heap.size, 4, none⟩ = some (.int .i64 (S.m0 : Int)) := by rw [HSB1.out.cell]; rfl
  have u5 : w1.cell? ⟨w.heap.size, 5, none⟩ = some (.int .i64 (S.m1 : Int)) := by rw [HSB1.out.cell]; rfl
  have u6 : w1.cell? ⟨w.heap.size, 6, none⟩ = some (.int .i64 (S.m2 : Int)) := by rw [HSB1.out.cell]; rfl
  clear hF1 HSB HFA
  go_wp2_with fail
  refine (HWO.out _).mono ?_
  rintro e w2 ⟨rfl, hF2⟩
  have HF2 := Lib.hid (HF1.out.trans hF2)
  clear hF2 u0 u1 u2 u3 u4 u5 u6
  go_wp2_with fail
  go_ret2
  exact ⟨rfl, HF2.out⟩

set_option maxHeartbeats 8000000 in
set_option maxRecDepth 100000 in
theorem new_nil (w : World) (base : Int) (S : Shp) (hS : S.Ok) (hl : S.words ≤ 65536) : Calls Try.prog 12 #[.pointer none, .int .i64 base, .agg S.i.cells] w fun e w' => e = .returned (.tuple #[.pointer none, .int .i64 6]) ∧ Fr F0 w w' := by
  have HSB : Hid (Blk (w.alloc (.cells S.i.cells 36)) w.heap.size 36 S.i.cells) := Blk.new _ _ _
  have HFA : Hid (Fr F0 w (w.alloc (.cells S.i.cells 36))) := (Fr.refl _ _).alloc _
  have HMB : Hid (∀ w2, Calls Try.prog 33 #[.agg S.i.cells] w2 fun e w' => e = .returned (.bool true) ∧ Fr F0 w2 w') := Lib.hid (fun w2 => by have := maybe_any w2 S.i; rwa [hS.i] at this)
  have HWO : Hid (∀ w2, Calls Try.prog 34 #[.agg S.i.cells] w2 fun e w' => e = .returned (.int .i64 ((S.words : Nat) : Int)) ∧ Fr F0 w2 w') := Lib.hid (fun w2 => words_ok w2 S hS)
  obtain ⟨SW, hSW⟩ : ∃ n, n = S.words := ⟨_, rfl⟩
  rw [← hSW] at HWO hl
  have g1 : ¬ (65536 : Int) < (SW : Int) := by omega
  clear hSW hS
  simp only [ShI.cells, Shp.i] at HSB HFA HMB HWO ⊢
  go_enter Try.func12, Try.ntmps12
  go_wp2_with fail
  refine (HMB.out _).mono ?_
  rintro e w1 ⟨rfl, hF1⟩
  have HF1 := Lib.hid (HFA.out.trans hF1)
  have HSB1 := Lib.hid (HSB.out.fr hF1 (fun h => h))
  have u0 : w1.cell? ⟨w.heap.size, 0, none⟩ = some (.int .i64 (S.k : Int)) := by rw [HSB1.out.cell]; rfl
  have u1 : w1.cell? ⟨w.heap.size, 1, none⟩ = some (.int .i64 (S.s0 : Int)) := by rw [HSB1.out.cell]; rfl
  have u2 : w1.cell? ⟨w.heap.size, 2, none⟩ = some (.int .i64 (S.s1 : Int)) := by rw [HSB1.out.cell]; rfl
  have u3 : w1.cell? ⟨w.heap.size, 3, none⟩ = some (.int .i64 (S.s2 : Int)) := by rw [HSB1.out.cell]; rfl
  have u4 : w1.cell? ⟨w.heap.size, 4, none⟩ = some (.int .i64 (S.m0 : Int)) := by rw [HSB1.out.cell]; rfl
  have u5 : w1.cell? ⟨w.heap.size, 5, none⟩ = some (.int .i64 (S.m1 : Int)) := by rw [HSB1.out.cell]; rfl
  have u6 : w1.cell? ⟨w.heap.size, 6, none⟩ = some (.int .i64 (S.m2 : Int)) := by rw [HSB1.out.cell]; rfl
  clear hF1 HSB HFA
  go_wp2_with fail
  refine (HWO.out _).mono ?_
  rintro e w2 ⟨rfl, hF2⟩
  have HF2 := Lib.hid (HF1.out.trans hF2)
  clear hF2 u0 u1 u2 u3 u4 u5 u6
  go_wp2_with fail
  go_ret2
  exact ⟨rfl, HF2.out⟩

set_option maxHeartbeats 8000000 in
set_option maxRecDepth 100000 in
theorem new_range (w : World) (base : Int) (S : Shp) (hS : S.Ok) (hl : S.words ≤ 65536) (mp ms : Nat) (ws : List (Bool × Int)) (st : Int) (hM : MemIs w mp ms ws st) (hwl : ws.length ≤ 65536) (hb : base < 0 ∨ (ws.length : Int) - S.words < base) : Calls Try.prog 12 #[.pointer (some ⟨mp, 0, none⟩), .int .i64 base, .agg S.i.cells] w fun e w' => e = .returned (.tuple #[.pointer none, .int .i64 6]) ∧ Fr F0 w w' := by
  have HSB : Hid (Blk (w.alloc (.cells S.i.cells 36)) w.heap.size 36 S.i.cells) := Blk.new _ _ _
  have HFA : Hid (Fr F0 w (w.alloc (.cells S.i.cells 36))) := (Fr.refl _ _).alloc _
  have HMB : Hid (∀ w2, Calls Try.prog 33 #[.agg S.i.cells] w2 fun e w' => e = .returned (.bool true) ∧ Fr F0 w2 w') := Lib.hid (fun w2 => by have := maybe_any w2 S.i; rwa [hS.i] at this)
  have HWO : Hid (∀ w2, Calls Try.prog 34 #[.agg S.i.cells] w2 fun e w' => e = .returned (.int .i64 ((S.words : Nat) : Int)) ∧ Fr F0 w2 w') := Lib.hid (fun w2 => words_ok w2 S hS)
  have HWW : Hid (∀ w2, Fr F0 w w2 → Calls Try.prog 35 #[.pointer (some ⟨mp, 0, none⟩)] w2 fun e w' => e = .returned (.int .i64 (ws.length : Int)) ∧ w2 = w') := Lib.hid (fun w2 hf => words_any w2 mp ms ws st (hM.fr hf (fun h => h) (fun h => h)))
  obtain ⟨SW, hSW⟩ : ∃ n, n = S.words := ⟨_, rfl⟩
  obtain ⟨WL, hWL⟩ : ∃ n, n = ws.length := ⟨_, rfl⟩
  rw [← hSW] at HWO hl hb
  rw [← hWL] at HWW hwl hb
  have g1 : ¬ (65536 : Int) < (SW : Int) := by omega
  clear hSW hWL hS hM
  simp only [ShI.cells, Shp.i] at HSB HFA HMB HWO ⊢
  by_cases hb0 : base < 0
  · go_enter Try.func12, Try.ntmps12
    go_wp2_with fail
    refine (HMB.out _).mono ?_
    rintro e w1 ⟨rfl, hF1⟩
    have HF1 := Lib.hid (HFA.out.trans hF1)
    have HSB1 := Lib.hid (HSB.out.fr hF1 (fun h => h))
    have u0 : w1.cell? ⟨w.heap.size, 0, none⟩ = some (.int .i64 (S.k : Int)) := by rw [HSB1.out.cell]; rfl
    have u1 : w1.cell? ⟨w.heap.size, 1, none⟩ = some (.int .i64 (S.s0 : Int)) := by rw [HSB1.out.cell]; rfl
    have u2 : w1.cell? ⟨w.heap.size, 2, none⟩ = some (.int .i64 (S.s1 : Int)) := by rw [HSB1.out.cell]; rfl
    have u3 : w1.cell? ⟨w.heap.size, 3, none⟩ = some (.int .i64 (S.s2 : Int)) := by rw [HSB1.out.cell]; rfl
    have u4 : w1.cell? ⟨w.heap.size, 4, none⟩ = some (.int .i64 (S.m0 : Int)) := by rw [HSB1.out.cell]; rfl
    have u5 : w1.cell? ⟨w.heap.size, 5, none⟩ = some (.int .i64 (S.m1 : Int)) := by rw [HSB1.out.cell]; rfl
    have u6 : w1.cell? ⟨w.heap.size, 6, none⟩ = some (.int .i64 (S.m2 : Int)) := by rw [HSB1.out.cell]; rfl
    clear hF1 HSB HFA
    go_wp2_with fail
    refine (HWO.out _).mono ?_
    rintro e w2 ⟨rfl, hF2⟩
    have HF2 := Lib.hid (HF1.out.trans hF2)
    clear hF2 u0 u1 u2 u3 u4 u5 u6
    go_wp2_with fail
    go_ret2
    exact ⟨rfl, HF2.out⟩
  · have g3 : (WL : Int) - (SW : Int) < base := by omega
    clear hb
    go_enter Try.func12, Try.ntmps12
    go_wp2_with fail
    refine (HMB.out _).mono ?_
    rintro e w1 ⟨rfl, hF1⟩
    have HF1 := Lib.hid (HFA.out.trans hF1)
    have HSB1 := Lib.hid (HSB.out.fr hF1 (fun h => h))
    have u0 : w1.cell? ⟨w.heap.size, 0, none⟩ = some (.int .i64 (S.k : Int)) := by rw [HSB1.out.cell]; rfl
    have u1 : w1.cell? ⟨w.heap.size, 1, none⟩ = some (.int .i64 (S.s0 : Int)) := by rw [HSB1.out.cell]; rfl
    have u2 : w1.cell? ⟨w.heap.size, 2, none⟩ = some (.int .i64 (S.s1 : Int)) := by rw [HSB1.out.cell]; rfl
    have u3 : w1.cell? ⟨w.heap.size, 3, none⟩ = some (.int .i64 (S.s2 : Int)) := by rw [HSB1.out.cell]; rfl
    have u4 : w1.cell? ⟨w.heap.size, 4, none⟩ = some (.int .i64 (S.m0 : Int)) := by rw [HSB1.out.cell]; rfl
    have u5 : w1.cell? ⟨w.heap.size, 5, none⟩ = some (.int .i64 (S.m1 : Int)) := by rw [HSB1.out.cell]; rfl
    have u6 : w1.cell? ⟨w.heap.size, 6, none⟩ = some (.int .i64 (S.m2 : Int)) := by rw [HSB1.out.cell]; rfl
    clear hF1 HSB HFA
    go_wp2_with fail
    refine (HWO.out _).mono ?_
    rintro e w2 ⟨rfl, hF2⟩
    have HF2 := Lib.hid (HF1.out.trans hF2)
    clear hF2 u0 u1 u2 u3 u4 u5 u6
    go_wp2_with fail
    refine (HWW.out _ HF2.out).mono ?_
    rintro e w3 ⟨rfl, rfl⟩
    go_wp2_with fail
    go_ret2
    exact ⟨rfl, HF2.out⟩
end Go.Proofs.Ytichhieopnbgpaa
