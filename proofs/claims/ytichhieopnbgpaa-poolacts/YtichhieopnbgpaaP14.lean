/-
  The law's of. No condition.
-/
import Derived.Test.YtichhieopnbgpaaP13
import Derived.Deep.DeepCutAuto
import Derived.Deep.MidRow
import Derived.Laws.Rows
import Derived.Laws.Tables
namespace Go.Proofs.Ytichhieopnbgpaa
open Go.RowKit

set_option maxHeartbeats 8000000 in
set_option maxRecDepth 100000 in
theorem of_any (w : World) (z : ShI) : Calls Try.prog 13 #[.agg z.cells] w fun e w' => e = .returned (.agg z.cells) ∧ Fr F0 w w' := by
  obtain ⟨k, s0, s1, s2, m0, m1, m2⟩ := z
  simp only [ShI.cells]
  have hf : ∀ C D t u, Fr F0 w ((w.alloc (.cells C t)).alloc (.cells D u)) := fun C D t u => ((Fr.refl _ _).alloc _).alloc _
  go_enter Try.func13, Try.ntmps13
  go_upto_region 1 with (fail)
  generalize hW : (((w.alloc (Obj.cells #[.int .i64 k, .int .i64 s0, .int .i64 s1, .int .i64 s2, .int .i64 m0, .int .i64 m1, .int .i64 m2] 26)).alloc (Obj.cells #[.int .i64 0, .int .i64 0, .int .i64 0, .int .i64 0, .int .i64 0, .int .i64 0, .int .i64 0] 36)) : World) = wk
  have HF : Hid (Fr F0 w wk) := Lib.hid (by rw [← hW]; exact hf _ _ _ _)
  have hB : Blk wk w.heap.size 26 #[.int .i64 k, .int .i64 s0, .int .i64 s1, .int .i64 s2, .int .i64 m0, .int .i64 m1, .int .i64 m2] := by
    rw [← hW]; exact (Blk.new _ _ _).alloc _
  have hC : Blk wk (w.heap.size + 1) 36 #[.int .i64 0, .int .i64 0, .int .i64 0, .int .i64 0, .int .i64 0, .int .i64 0, .int .i64 0] := by
    have h := Blk.new (w.alloc (Obj.cells #[.int .i64 k, .int .i64 s0, .int .i64 s1, .int .i64 s2, .int .i64 m0, .int .i64 m1, .int .i64 m2] 26)) 36 #[.int .i64 0, .int .i64 0, .int .i64 0, .int .i64 0, .int .i64 0, .int .i64 0, .int .i64 0]
    rw [← hW]
    simpa using h
  have c0 : wk.cell? ⟨w.heap.size, 0, none⟩ = some (.int .i64 k) := by rw [hB.cell]; rfl
  have r1 : wk.rangeAt w.heap.size 1 [.int .i64 s0, .int .i64 s1, .int .i64 s2] := by
    intro j v hv
    rw [hB.cell]
    match j, hv with
    | 0, hv => simpa using hv
    | 1, hv => simpa using hv
    | 2, hv => simpa using hv
  have r4 : wk.rangeAt w.heap.size 4 [.int .i64 m0, .int .i64 m1, .int .i64 m2] := by
    intro j v hv
    rw [hB.cell]
    match j, hv with
    | 0, hv => simpa using hv
    | 1, hv => simpa using hv
    | 2, hv => simpa using hv
  have d0 : wk.cell? ⟨w.heap.size + 1, 0, none⟩ = some (.int .i64 0) := by rw [hC.cell]; rfl
  have z0 : wk.frozen? ⟨w.heap.size + 1, 0, none⟩ = false := hC.frozen _
  have d1 : wk.cell? ⟨w.heap.size + 1, 1, none⟩ = some (.int .i64 0) := by rw [hC.cell]; rfl
  have z1 : wk.frozen? ⟨w.heap.size + 1, 1, none⟩ = false := hC.frozen _
  have d2 : wk.cell? ⟨w.heap.size + 1, 2, none⟩ = some (.int .i64 0) := by rw [hC.cell]; rfl
  have z2 : wk.frozen? ⟨w.heap.size + 1, 2, none⟩ = false := hC.frozen _
  have d3 : wk.cell? ⟨w.heap.size + 1, 3, none⟩ = some (.int .i64 0) := by rw [hC.cell]; rfl
  have z3 : wk.frozen? ⟨w.heap.size + 1, 3, none⟩ = false := hC.frozen _
  have d4 : wk.cell? ⟨w.heap.size + 1, 4, none⟩ = some (.int .i64 0) := by rw [hC.cell]; rfl
  have z4 : wk.frozen? ⟨w.heap.size + 1, 4, none⟩ = false := hC.frozen _
  have d5 : wk.cell? ⟨w.heap.size + 1, 5, none⟩ = some (.int .i64 0) := by rw [hC.cell]; rfl
  have z5 : wk.frozen? ⟨w.heap.size + 1, 5, none⟩ = false := hC.frozen _
  have d6 : wk.cell? ⟨w.heap.size + 1, 6, none⟩ = some (.int .i64 0) := by rw [hC.cell]; rfl
  have z6 : wk.frozen? ⟨w.heap.size + 1, 6, none⟩ = false := hC.frozen _
  have HB := Lib.hid hB
  have HC := Lib.hid hC
  clear hB hC hW hf
  go_wp2_with (first
    | refine wpList_load_mid rfl 24 _ rfl w.heap.size 1 rfl _ _ r1 Try.underlying24 rfl (by kernel_rfl) ?_
    | refine wpList_load_mid rfl 24 _ rfl w.heap.size 4 rfl _ _ r4 Try.underlying24 rfl (by kernel_rfl) ?_)
  have hfin : Blk (((((((wk.setCell ⟨w.heap.size + 1, 0, none⟩ (.int .i64 k)).setCell ⟨w.heap.size + 1, 1, none⟩ (.int .i64 s0)).setCell ⟨w.heap.size + 1, 2, none⟩ (.int .i64 s1)).setCell ⟨w.heap.size + 1, 3, none⟩ (.int .i64 s2)).setCell ⟨w.heap.size + 1, 4, none⟩ (.int .i64 m0)).setCell ⟨w.heap.size + 1, 5, none⟩ (.int .i64 m1)).setCell ⟨w.heap.size + 1, 6, none⟩ (.int .i64 m2)) (w.heap.size + 1) 36 #[.int .i64 k, .int .i64 s0, .int .i64 s1, .int .i64 s2, .int .i64 m0, .int .i64 m1, .int .i64 m2] := by
    have h1 := (((((((HC.out.set_ 0 (.int .i64 k)).set_ 1 (.int .i64 s0)).set_ 2 (.int .i64 s1)).set_ 3 (.int .i64 s2)).set_ 4 (.int .i64 m0)).set_ 5 (.int .i64 m1)).set_ 6 (.int .i64 m2))
    simpa using h1
  have hff : Fr F0 w (((((((wk.setCell ⟨w.heap.size + 1, 0, none⟩ (.int .i64 k)).setCell ⟨w.heap.size + 1, 1, none⟩ (.int .i64 s0)).setCell ⟨w.heap.size + 1, 2, none⟩ (.int .i64 s1)).setCell ⟨w.heap.size + 1, 3, none⟩ (.int .i64 s2)).setCell ⟨w.heap.size + 1, 4, none⟩ (.int .i64 m0)).setCell ⟨w.heap.size + 1, 5, none⟩ (.int .i64 m1)).setCell ⟨w.heap.size + 1, 6, none⟩ (.int .i64 m2)) := (((((((HF.out.setCell (p := ⟨w.heap.size + 1, 0, none⟩) (.inr (Nat.le_succ _)) (.int .i64 k)).setCell (p := ⟨w.heap.size + 1, 1, none⟩) (.inr (Nat.le_succ _)) (.int .i64 s0)).setCell (p := ⟨w.heap.size + 1, 2, none⟩) (.inr (Nat.le_succ _)) (.int .i64 s1)).setCell (p := ⟨w.heap.size + 1, 3, none⟩) (.inr (Nat.le_succ _)) (.int .i64 s2)).setCell (p := ⟨w.heap.size + 1, 4, none⟩) (.inr (Nat.le_succ _)) (.int .i64 m0)).setCell (p := ⟨w.heap.size + 1, 5, none⟩) (.inr (Nat.le_succ _)) (.int .i64 m1)).setCell (p := ⟨w.heap.size + 1, 6, none⟩) (.inr (Nat.le_succ _)) (.int .i64 m2))
  refine bodyPost_ret (results_cell_row rfl _ _ (w.heap.size + 1) 36 #[.int .i64 k, .int .i64 s0, .int .i64 s1, .int .i64 s2, .int .i64 m0, .int .i64 m1, .int .i64 m2] (0, 0) _ rfl hfin Try.underlying36 rfl (by kernel_rfl)) rfl ?_
  exact ⟨rfl, hff⟩

set_option maxHeartbeats 8000000 in
set_option maxRecDepth 100000 in
theorem dwords_ok (w : World) (S : Shp) (hS : S.Ok) : Calls Try.prog 11 #[.agg S.i.cells] w fun e w' => e = .returned (.int .i64 (S.words : Int)) ∧ Fr F0 w w' := by
  obtain ⟨hk2, hm0, hm1, hm2⟩ : S.k ≤ 64 ∧ S.m0 ≤ 1000 ∧ S.m1 ≤ 1000 ∧ S.m2 ≤ 1000 := ⟨hS.k2, hS.b0, hS.b1, hS.b2⟩
  obtain ⟨W, hW⟩ : ∃ n, n = S.words := ⟨_, rfl⟩
  obtain ⟨T0, hT0⟩ : ∃ n, n = S.m0 * S.s0 := ⟨_, rfl⟩
  obtain ⟨T1, hT1⟩ : ∃ n, n = S.m1 * S.s1 := ⟨_, rfl⟩
  obtain ⟨T2, hT2⟩ : ∃ n, n = S.m2 * S.s2 := ⟨_, rfl⟩
  obtain ⟨A1, hA1⟩ : ∃ n, n = T0 + T1 := ⟨_, rfl⟩
  obtain ⟨A2, hA2⟩ : ∃ n, n = A1 + T2 := ⟨_, rfl⟩
  have b0 : T0 ≤ 64000 := by rw [hT0]; exact Nat.mul_le_mul hm0 hS.a0.2
  have b1 : T1 ≤ 64000 := by rw [hT1]; exact Nat.mul_le_mul hm1 hS.a1.2
  have b2 : T2 ≤ 64000 := by rw [hT2]; exact Nat.mul_le_mul hm2 hS.a2.2
  have hw : S.k * A2 = W := by
    rw [hW, hA2, hA1, hT0, hT1, hT2, Nat.mul_add, Nat.mul_add, ← Nat.mul_assoc, ← Nat.mul_assoc, ← Nat.mul_assoc]; rfl
  have bw : W ≤ 64 * 192000 := by rw [← hw]; exact Nat.mul_le_mul hk2 (by omega)
  have p0 : (S.m0 : Int) * (S.s0 : Int) = (T0 : Int) := by rw [hT0, Int.natCast_mul]
  have p1 : (S.m1 : Int) * (S.s1 : Int) = (T1 : Int) := by rw [hT1, Int.natCast_mul]
  have p2 : (S.m2 : Int) * (S.s2 : Int) = (T2 : Int) := by rw [hT2, Int.natCast_mul]
  have p3 : (S.k : Int) * (A2 : Int) = (W : Int) := by rw [← hw, Int.natCast_mul]
  have x0 : IntKind.i64.wrap ((S.m0 : Int) * (S.s0 : Int)) = (T0 : Int) := (IntWalk.i64_in _ (by omega)).trans p0
  have x1 : IntKind.i64.wrap ((S.m1 : Int) * (S.s1 : Int)) = (T1 : Int) := (IntWalk.i64_in _ (by omega)).trans p1
  have x2 : IntKind.i64.wrap ((S.m2 : Int) * (S.s2 : Int)) = (T2 : Int) := (IntWalk.i64_in _ (by omega)).trans p2
  have x3 : IntKind.i64.wrap ((S.k : Int) * (A2 : Int)) = (W : Int) := (IntWalk.i64_in _ (by omega)).trans p3
  have e1 : (T0 : Int) + (T1 : Int) = (A1 : Int) := by omega
  have e2 : (A1 : Int) + (T2 : Int) = (A2 : Int) := by omega
  rw [← hW]
  have HB : Hid (Blk (w.alloc (.cells #[.int .i64 (S.k : Int), .int .i64 (S.s0 : Int), .int .i64 (S.s1 : Int), .int .i64 (S.s2 : Int), .int .i64 (S.m0 : Int), .int .i64 (S.m1 : Int), .int .i64 (S.m2 : Int)] 26)) w.heap.size 26 #[.int .i64 (S.k : Int), .int .i64 (S.s0 : Int), .int .i64 (S.s1 : Int), .int .i64 (S.s2 : Int), .int .i64 (S.m0 : Int), .int .i64 (S.m1 : Int), .int .i64 (S.m2 : Int)]) := Blk.new _ _ _
  have HF : Hid (Fr F0 w (w.alloc (.cells #[.int .i64 (S.k : Int), .int .i64 (S.s0 : Int), .int .i64 (S.s1 : Int), .int .i64 (S.s2 : Int), .int .i64 (S.m0 : Int), .int .i64 (S.m1 : Int), .int .i64 (S.m2 : Int)] 26))) := (Fr.refl _ _).alloc _
  clear hW hT0 hT1 hT2 hA1 hA2 hw hS
  simp only [ShI.cells, Shp.i]
  go_enter Try.func11, Try.ntmps11
  go_upto_region 1 with (fail)
  generalize (w.alloc (.cells #[.int .i64 (S.k : Int), .int .i64 (S.s0 : Int), .int .i64 (S.s1 : Int), .int .i64 (S.s2 : Int), .int .i64 (S.m0 : Int), .int .i64 (S.m1 : Int), .int .i64 (S.m2 : Int)] 26)) = wk at HB HF ⊢
  have u0 : wk.cell? ⟨w.heap.size, 0, none⟩ = some (.int .i64 (S.k : Int)) := by rw [HB.out.cell]; rfl
  have u1 : wk.cell? ⟨w.heap.size, 1, none⟩ = some (.int .i64 (S.s0 : Int)) := by rw [HB.out.cell]; rfl
  have u2 : wk.cell? ⟨w.heap.size, 2, none⟩ = some (.int .i64 (S.s1 : Int)) := by rw [HB.out.cell]; rfl
  have u3 : wk.cell? ⟨w.heap.size, 3, none⟩ = some (.int .i64 (S.s2 : Int)) := by rw [HB.out.cell]; rfl
  have u4 : wk.cell? ⟨w.heap.size, 4, none⟩ = some (.int .i64 (S.m0 : Int)) := by rw [HB.out.cell]; rfl
  have u5 : wk.cell? ⟨w.heap.size, 5, none⟩ = some (.int .i64 (S.m1 : Int)) := by rw [HB.out.cell]; rfl
  have u6 : wk.cell? ⟨w.heap.size, 6, none⟩ = some (.int .i64 (S.m2 : Int)) := by rw [HB.out.cell]; rfl
  go_wp2_with fail
  go_ret
  exact ⟨rfl, HF.out⟩
end Go.Proofs.Ytichhieopnbgpaa
