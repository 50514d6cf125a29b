/-
  Package pool: Words; the law's shapes. No condition.
-/
import Derived.Test.YtichhieopnbgpaaP12
namespace Go.Proofs.Ytichhieopnbgpaa
open Go.RowKit

set_option maxHeartbeats 8000000 in
set_option maxRecDepth 100000 in
theorem pwords_no (w : World) (z : ShI) (hz : z.ok = false) : Calls Try.prog 23 #[.agg z.cells] w fun e w' => e = .returned (.int .i64 0) ∧ Fr F0 w w' := by
  have HSB : Hid (Blk (w.alloc (.cells z.cells 36)) w.heap.size 36 z.cells) := Blk.new _ _ _
  have HFA : Hid (Fr F0 w (w.alloc (.cells z.cells 36))) := (Fr.refl _ _).alloc _
  have HMB : Hid (∀ w2, Calls Try.prog 33 #[.agg z.cells] w2 fun e w' => e = .returned (.bool false) ∧ Fr F0 w2 w') := Lib.hid (fun w2 => by have := maybe_any w2 z; rwa [hz] at this)
  obtain ⟨k, s0, s1, s2, m0, m1, m2⟩ := z
  simp only [ShI.cells] at HSB HFA HMB ⊢
  clear hz
  go_enter Try.func23, Try.ntmps23
  go_wp2_with fail
  refine (HMB.out _).mono ?_
  rintro e w1 ⟨rfl, hF1⟩
  first
    | have HF1 := Lib.hid (HFA.out.trans hF1)
      clear hF1
      go_wp2_with fail
      go_ret
      exact ⟨rfl, HF1.out⟩
    | have HF1 := Lib.hid hF1
      clear hF1
      go_wp2_with fail
      go_ret
      exact ⟨rfl, HF1.out⟩

set_option maxHeartbeats 8000000 in
set_option maxRecDepth 100000 in
theorem pwords_ok (w : World) (S : Shp) (hS : S.Ok) : Calls Try.prog 23 #[.agg S.i.cells] w fun e w' => e = .returned (.int .i64 (if 65536 < S.words then 0 else (S.words : Int))) ∧ Fr F0 w w' := by
  have HSB : Hid (Blk (w.alloc (.cells S.i.cells 36)) w.heap.size 36 S.i.cells) := Blk.new _ _ _
  have HFA : Hid (Fr F0 w (w.alloc (.cells S.i.cells 36))) := (Fr.refl _ _).alloc _
  have HMB : Hid (∀ w2, Calls Try.prog 33 #[.agg S.i.cells] w2 fun e w' => e = .returned (.bool true) ∧ Fr F0 w2 w') := Lib.hid (fun w2 => by have := maybe_any w2 S.i; rwa [hS.i] at this)
  have HWO : Hid (∀ w2, Calls Try.prog 34 #[.agg S.i.cells] w2 fun e w' => e = .returned (.int .i64 ((S.words : Nat) : Int)) ∧ Fr F0 w2 w') := Lib.hid (fun w2 => words_ok w2 S hS)
  obtain ⟨SW, hSW⟩ : ∃ n, n = S.words := ⟨_, rfl⟩
  rw [← hSW] at HWO ⊢
  clear hSW hS
  simp only [ShI.cells, Shp.i] at HSB HFA HMB HWO ⊢
  by_cases hl : 65536 < SW
  · have g1 : (65536 : Int) < (SW : Int) := by omega
    rw [if_pos hl]
    go_enter Try.func23, Try.ntmps23
    go_wp2_with fail
    refine (HMB.out _).mono ?_
    rintro e w1 ⟨rfl, hF1⟩
    have HF1 := Lib.hid (HFA.out.trans hF1)
    have HSB1 := Lib.hid (HSB.out.fr hF1 (fun h => h))
    have u0 : w1.cell? ⟨w.heap.size, 0, none⟩ = some (.int .i64 (S.k : Int)) := by rw [HSB1.out.cell]; rfl
    have u1 : w1.cell? ⟨w.heap.size, 1, none⟩ = some (.int .i64 (S.s0 : Int)) := by rw [HSB1.out.cell]; rfl
    have u2 : w1.cell? ⟨w.heap.size, 2, none⟩ = some (.int .i64 (S.s1 : Int)) := by rw [HSB1.out.cell]; rfl
    have u3 : w1.cell? ⟨w.heap.size, 3, none⟩ = some (.int .i64 (S.s2 : Int)) := by rw [HSB1.out.cell]; rfl
    have u4 : w1.cell? ⟨w.heap.size, 4, none⟩ = some (.int .i64 (S.m0 : Int)) := by rw [HSB1.out.cell]; rfl
    have u5 : w1.cell? ⟨w.heap.size, 5, none⟩ = some (.int .i64 (S.m1 : Int)) := by rw [HSB1.out.cell]; rfl
    have u6 : w1.cell? ⟨w.heap.size, 6, none⟩ = some (.int .i64 (S.m2 : Int)) := by rw [HSB1.out.cell]; rfl
    clear hF1 HSB HFA
    go_wp2_with fail
    refine (HWO.out _).mono ?_
    rintro e w2 ⟨rfl, hF2⟩
    have HF2 := Lib.hid (HF1.out.trans hF2)
    clear hF2 u0 u1 u2 u3 u4 u5 u6
    go_wp2_with fail
    go_ret
    exact ⟨rfl, HF2.out⟩
  · have g1 : ¬ (65536 : Int) < (SW : Int) := by omega
    rw [if_neg hl]
    go_enter Try.func23, Try.ntmps23
    go_wp2_with fail
    refine (HMB.out _).mono ?_
    rintro e w1 ⟨rfl, hF1⟩
    have HF1 := Lib.hid (HFA.out.trans hF1)
    have HSB1 := Lib.hid (HSB.out.fr hF1 (fun h => h))
    have u0 : w1.cell? ⟨w.heap.size, 0, none⟩ = some (.int .i64 (S.k : Int)) := by rw [HSB1.out.cell]; rfl
    have u1 : w1.cell? ⟨w.heap.size, 1, none⟩ = some (.int .i64 (S.s0 : Int)) := by rw [HSB1.out.cell]; rfl
    have u2 : w1.cell? ⟨w.heap.size, 2, none⟩ = some (.int .i64 (S.s1 : Int)) := by rw [HSB1.out.cell]; rfl
    have u3 : w1.cell? ⟨w.heap.size, 3, none⟩ = some (.int .i64 (S.s2 : Int)) := by rw [HSB1.out.cell]; rfl
    have u4 : w1.cell? ⟨w.heap.size, 4, none⟩ = some (.int .i64 (S.m0 : Int)) := by rw [HSB1.out.cell]; rfl
    have u5 : w1.cell? ⟨w.heap.size, 5, none⟩ = some (.int .i64 (S.m1 : Int)) := by rw [HSB1.out.cell]; rfl
    have u6 : w1.cell? ⟨w.heap.size, 6, none⟩ = some (.int .i64 (S.m2 : Int)) := by rw [HSB1.out.cell]; rfl
    clear hF1 HSB HFA
    go_wp2_with fail
    refine (HWO.out _).mono ?_
    rintro e w2 ⟨rfl, hF2⟩
    have HF2 := Lib.hid (HF1.out.trans hF2)
    have HSB2 := Lib.hid (HSB1.out.fr hF2 (fun h => h))
    have v0 : w2.cell? ⟨w.heap.size, 0, none⟩ = some (.int .i64 (S.k : Int)) := by rw [HSB2.out.cell]; rfl
    have v1 : w2.cell? ⟨w.heap.size, 1, none⟩ = some (.int .i64 (S.s0 : Int)) := by rw [HSB2.out.cell]; rfl
    have v2 : w2.cell? ⟨w.heap.size, 2, none⟩ = some (.int .i64 (S.s1 : Int)) := by rw [HSB2.out.cell]; rfl
    have v3 : w2.cell? ⟨w.heap.size, 3, none⟩ = some (.int .i64 (S.s2 : Int)) := by rw [HSB2.out.cell]; rfl
    have v4 : w2.cell? ⟨w.heap.size, 4, none⟩ = some (.int .i64 (S.m0 : Int)) := by rw [HSB2.out.cell]; rfl
    have v5 : w2.cell? ⟨w.heap.size, 5, none⟩ = some (.int .i64 (S.m1 : Int)) := by rw [HSB2.out.cell]; rfl
    have v6 : w2.cell? ⟨w.heap.size, 6, none⟩ = some (.int .i64 (S.m2 : Int)) := by rw [HSB2.out.cell]; rfl
    clear hF2 u0 u1 u2 u3 u4 u5 u6
    go_wp2_with fail
    refine (HWO.out _).mono ?_
    rintro e w3 ⟨rfl, hF3⟩
    have HF3 := Lib.hid (HF2.out.trans hF3)
    clear hF3 v0 v1 v2 v3 v4 v5 v6
    go_wp2_with fail
    go_ret
    exact ⟨rfl, HF3.out⟩
end Go.Proofs.Ytichhieopnbgpaa
