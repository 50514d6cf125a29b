/-
  Package pool: how the classes are laid out. No condition.
-/
import Derived.Test.YtichhieopnbgpaaP9
namespace Go.Proofs.Ytichhieopnbgpaa
open Go.RowKit

/-- The classes' cells. -/
def clsC (S : Shp) (base : Nat) : Array Value :=
  #[.int .i64 1, .int .i64 (base : Int), .int .i64 (S.s0 : Int), .int .i64 (S.m0 : Int),
    .int .i64 ((1 + S.q0 : Nat) : Int), .int .i64 ((base + S.r0 : Nat) : Int), .int .i64 (S.s1 : Int), .int .i64 (S.m1 : Int),
    .int .i64 ((1 + S.q0 + S.q1 : Nat) : Int), .int .i64 ((base + S.r0 + S.r1 : Nat) : Int), .int .i64 (S.s2 : Int), .int .i64 (S.m2 : Int)]

set_option maxHeartbeats 16000000 in
set_option maxRecDepth 100000 in
theorem layout_ok (w : World) (S : Shp) (hS : S.Ok) (base : Nat) (hbase : base ≤ 100000) : Calls Try.prog 36 #[.agg S.i.cells, .int .i64 (base : Int)] w fun e w' => e = .returned (.agg (clsC S base)) ∧ Fr F0 w w' := by
  obtain ⟨hq0, hq1, hq2⟩ := hS.q
  obtain ⟨hr0, hr1, hr2⟩ := hS.r
  obtain ⟨hk2, hm0, hm1, hm2⟩ : S.k ≤ 64 ∧ S.m0 ≤ 1000 ∧ S.m1 ≤ 1000 ∧ S.m2 ≤ 1000 := ⟨hS.k2, hS.b0, hS.b1, hS.b2⟩
  have p0 : (S.k : Int) * (S.m0 : Int) = (S.q0 : Int) := by rw [← Int.natCast_mul]; rfl
  have x0 : IntKind.i64.wrap ((S.k : Int) * (S.m0 : Int)) = (S.q0 : Int) := (IntWalk.i64_in _ (by omega)).trans p0
  have t0 : (S.q0 : Int) * (S.s0 : Int) = (S.r0 : Int) := by rw [← Int.natCast_mul]; rfl
  have y0 : IntKind.i64.wrap ((S.q0 : Int) * (S.s0 : Int)) = (S.r0 : Int) := (IntWalk.i64_in _ (by omega)).trans t0
  have p1 : (S.k : Int) * (S.m1 : Int) = (S.q1 : Int) := by rw [← Int.natCast_mul]; rfl
  have x1 : IntKind.i64.wrap ((S.k : Int) * (S.m1 : Int)) = (S.q1 : Int) := (IntWalk.i64_in _ (by omega)).trans p1
  have t1 : (S.q1 : Int) * (S.s1 : Int) = (S.r1 : Int) := by rw [← Int.natCast_mul]; rfl
  have y1 : IntKind.i64.wrap ((S.q1 : Int) * (S.s1 : Int)) = (S.r1 : Int) := (IntWalk.i64_in _ (by omega)).trans t1
  have p2 : (S.k : Int) * (S.m2 : Int) = (S.q2 : Int) := by rw [← Int.natCast_mul]; rfl
  have x2 : IntKind.i64.wrap ((S.k : Int) * (S.m2 : Int)) = (S.q2 : Int) := (IntWalk.i64_in _ (by omega)).trans p2
  have t2 : (S.q2 : Int) * (S.s2 : Int) = (S.r2 : Int) := by rw [← Int.natCast_mul]; rfl
  have y2 : IntKind.i64.wrap ((S.q2 : Int) * (S.s2 : Int)) = (S.r2 : Int) := (IntWalk.i64_in _ (by omega)).trans t2
  obtain ⟨F1, hF1⟩ : ∃ n, n = 1 + S.q0 := ⟨_, rfl⟩
  obtain ⟨F2, hF2⟩ : ∃ n, n = 1 + S.q0 + S.q1 := ⟨_, rfl⟩
  obtain ⟨F3, hF3⟩ : ∃ n, n = 1 + S.q0 + S.q1 + S.q2 := ⟨_, rfl⟩
  obtain ⟨A1, hA1⟩ : ∃ n, n = base + S.r0 := ⟨_, rfl⟩
  obtain ⟨A2, hA2⟩ : ∃ n, n = base + S.r0 + S.r1 := ⟨_, rfl⟩
  obtain ⟨A3, hA3⟩ : ∃ n, n = base + S.r0 + S.r1 + S.r2 := ⟨_, rfl⟩
  have HCE : Hid (clsC S base = #[.int .i64 1, .int .i64 (base : Int), .int .i64 (S.s0 : Int), .int .i64 (S.m0 : Int), .int .i64 (F1 : Int), .int .i64 (A1 : Int), .int .i64 (S.s1 : Int), .int .i64 (S.m1 : Int), .int .i64 (F2 : Int), .int .i64 (A2 : Int), .int .i64 (S.s2 : Int), .int .i64 (S.m2 : Int)]) := Lib.hid (by rw [hF1, hF2, hA1, hA2]; rfl)
  have f1 : 1 + (S.q0 : Int) = (F1 : Int) := by omega
  have f2 : (F1 : Int) + (S.q1 : Int) = (F2 : Int) := by omega
  have f3 : (F2 : Int) + (S.q2 : Int) = (F3 : Int) := by omega
  have a1 : (base : Int) + (S.r0 : Int) = (A1 : Int) := by omega
  have a2 : (A1 : Int) + (S.r1 : Int) = (A2 : Int) := by omega
  have a3 : (A2 : Int) + (S.r2 : Int) = (A3 : Int) := by omega
  have fw1 : IntKind.i64.wrap (1 + (S.q0 : Int)) = (F1 : Int) := (IntWalk.i64_in _ (by omega)).trans f1
  have fw2 : IntKind.i64.wrap ((F1 : Int) + (S.q1 : Int)) = (F2 : Int) := (IntWalk.i64_in _ (by omega)).trans f2
  have fw3 : IntKind.i64.wrap ((F2 : Int) + (S.q2 : Int)) = (F3 : Int) := (IntWalk.i64_in _ (by omega)).trans f3
  have aw1 : IntKind.i64.wrap ((base : Int) + (S.r0 : Int)) = (A1 : Int) := (IntWalk.i64_in _ (by omega)).trans a1
  have aw2 : IntKind.i64.wrap ((A1 : Int) + (S.r1 : Int)) = (A2 : Int) := (IntWalk.i64_in _ (by omega)).trans a2
  have aw3 : IntKind.i64.wrap ((A2 : Int) + (S.r2 : Int)) = (A3 : Int) := (IntWalk.i64_in _ (by omega)).trans a3
  clear hF1 hF2 hF3 hA1 hA2 hA3 hS
  have HB0 : Hid (Blk ((w.alloc (.cells S.i.cells 36)).alloc (.cells #[.int .i64 0, .int .i64 0, .int .i64 0, .int .i64 0, .int .i64 0, .int .i64 0, .int .i64 0, .int .i64 0, .int .i64 0, .int .i64 0, .int .i64 0, .int .i64 0] 70)) w.heap.size 36 S.i.cells) := (Blk.new _ _ _).alloc _
  have HC0 : Hid (Blk ((w.alloc (.cells S.i.cells 36)).alloc (.cells #[.int .i64 0, .int .i64 0, .int .i64 0, .int .i64 0, .int .i64 0, .int .i64 0, .int .i64 0, .int .i64 0, .int .i64 0, .int .i64 0, .int .i64 0, .int .i64 0] 70)) (w.heap.size + 1) 70 #[.int .i64 0, .int .i64 0, .int .i64 0, .int .i64 0, .int .i64 0, .int .i64 0, .int .i64 0, .int .i64 0, .int .i64 0, .int .i64 0, .int .i64 0, .int .i64 0]) := Lib.hid (by
    have := Blk.new (w.alloc (.cells S.i.cells 36)) 70 #[.int .i64 0, .int .i64 0, .int .i64 0, .int .i64 0, .int .i64 0, .int .i64 0, .int .i64 0, .int .i64 0, .int .i64 0, .int .i64 0, .int .i64 0, .int .i64 0]
    simpa using this)
  have HFF0 : Hid (Fr F0 w ((w.alloc (.cells S.i.cells 36)).alloc (.cells #[.int .i64 0, .int .i64 0, .int .i64 0, .int .i64 0, .int .i64 0, .int .i64 0, .int .i64 0, .int .i64 0, .int .i64 0, .int .i64 0, .int .i64 0, .int .i64 0] 70))) := ((Fr.refl _ _).alloc _).alloc _
  simp only [ShI.cells, Shp.i] at HB0 HC0 HFF0 ⊢
  go_enter Try.func36, Try.ntmps36
  go_wp2_with fail
  go_loopw [1, 5, 7] (fun bv fv i wx => ((i = .int .i64 0 ∧ fv = .int .i64 1 ∧ bv = .int .i64 (base : Int) ∧ Hid (Blk wx (w.heap.size + 1) 70 #[.int .i64 0, .int .i64 0, .int .i64 0, .int .i64 0, .int .i64 0, .int .i64 0, .int .i64 0, .int .i64 0, .int .i64 0, .int .i64 0, .int .i64 0, .int .i64 0])) ∨ (i = .int .i64 1 ∧ fv = .int .i64 (F1 : Int) ∧ bv = .int .i64 (A1 : Int) ∧ Hid (Blk wx (w.heap.size + 1) 70 #[.int .i64 1, .int .i64 (base : Int), .int .i64 (S.s0 : Int), .int .i64 (S.m0 : Int), .int .i64 0, .int .i64 0, .int .i64 0, .int .i64 0, .int .i64 0, .int .i64 0, .int .i64 0, .int .i64 0])) ∨ (i = .int .i64 2 ∧ fv = .int .i64 (F2 : Int) ∧ bv = .int .i64 (A2 : Int) ∧ Hid (Blk wx (w.heap.size + 1) 70 #[.int .i64 1, .int .i64 (base : Int), .int .i64 (S.s0 : Int), .int .i64 (S.m0 : Int), .int .i64 (F1 : Int), .int .i64 (A1 : Int), .int .i64 (S.s1 : Int), .int .i64 (S.m1 : Int), .int .i64 0, .int .i64 0, .int .i64 0, .int .i64 0])) ∨ (i = .int .i64 3 ∧ fv = .int .i64 (F3 : Int) ∧ bv = .int .i64 (A3 : Int) ∧ Hid (Blk wx (w.heap.size + 1) 70 #[.int .i64 1, .int .i64 (base : Int), .int .i64 (S.s0 : Int), .int .i64 (S.m0 : Int), .int .i64 (F1 : Int), .int .i64 (A1 : Int), .int .i64 (S.s1 : Int), .int .i64 (S.m1 : Int), .int .i64 (F2 : Int), .int .i64 (A2 : Int), .int .i64 (S.s2 : Int), .int .i64 (S.m2 : Int)]))) ∧ Hid (Fr F0 w wx) ∧ Hid (Blk wx w.heap.size 36 #[.int .i64 (S.k : Int), .int .i64 (S.s0 : Int), .int .i64 (S.s1 : Int), .int .i64 (S.s2 : Int), .int .i64 (S.m0 : Int), .int .i64 (S.m1 : Int), .int .i64 (S.m2 : Int)])) (fun _ _ i _ => 4 - (intOf i).toNat)
  case atStart => exact ⟨.inl ⟨rfl, rfl, rfl, HC0⟩, HFF0, HB0⟩
  case round =>
    obtain ⟨hi, HF, HB⟩ := hrel
    have hbl := HB.out.lt
    rcases hi with ⟨rfl, rfl, rfl, HC⟩ | ⟨rfl, rfl, rfl, HC⟩ | ⟨rfl, rfl, rfl, HC⟩ | ⟨rfl, rfl, rfl, HC⟩
    · have cs : wr.cell? ⟨w.heap.size, 1, none⟩ = some (.int .i64 (S.s0 : Int)) := by rw [HB.out.cell]; rfl
      have cm : wr.cell? ⟨w.heap.size, 4, none⟩ = some (.int .i64 (S.m0 : Int)) := by rw [HB.out.cell]; rfl
      have ck : wr.cell? ⟨w.heap.size, 0, none⟩ = some (.int .i64 (S.k : Int)) := by rw [HB.out.cell]; rfl
      have z0 : wr.cell? ⟨w.heap.size + 1, 0, none⟩ = some (.int .i64 0) := by rw [HC.out.cell]; rfl
      have zf0 : wr.frozen? ⟨w.heap.size + 1, 0, none⟩ = false := HC.out.frozen _
      have z1 : wr.cell? ⟨w.heap.size + 1, 1, none⟩ = some (.int .i64 0) := by rw [HC.out.cell]; rfl
      have zf1 : wr.frozen? ⟨w.heap.size + 1, 1, none⟩ = false := HC.out.frozen _
      have z2 : wr.cell? ⟨w.heap.size + 1, 2, none⟩ = some (.int .i64 0) := by rw [HC.out.cell]; rfl
      have zf2 : wr.frozen? ⟨w.heap.size + 1, 2, none⟩ = false := HC.out.frozen _
      have z3 : wr.cell? ⟨w.heap.size + 1, 3, none⟩ = some (.int .i64 0) := by rw [HC.out.cell]; rfl
      have zf3 : wr.frozen? ⟨w.heap.size + 1, 3, none⟩ = false := HC.out.frozen _
      go_wp2_with fail
      refine region_K 13 (fun w' : World => w'.cell? ⟨w.heap.size, 1, none⟩ = some (.int .i64 (S.s0 : Int)) ∧ w'.cell? ⟨w.heap.size, 4, none⟩ = some (.int .i64 (S.m0 : Int))) (by kernel_rfl) ?_
      have HS0 : (fun w' : World => w'.cell? ⟨w.heap.size, 1, none⟩ = some (.int .i64 (S.s0 : Int)) ∧ w'.cell? ⟨w.heap.size, 4, none⟩ = some (.int .i64 (S.m0 : Int))) wr.drew := ⟨cs, cm⟩
      refine AnyK.take (i := 0) rfl (by decide) (by kernel_rfl) (by kernel_rfl) (by kernel_rfl) (fun _ _ _ _ h => h) HS0 (fun K hK => ?_)
      go_simp
      refine hK.out _ ⟨_, by rfl, Or.inl ⟨by rfl, by intro w hSw; (try dsimp only at hSw); go_simp⟩, ?_⟩
      clear hK K
      refine AnyK.take (i := 1) rfl (by decide) (by kernel_rfl) (by kernel_rfl) (by kernel_rfl) (fun _ _ _ _ h => h) HS0 (fun K hK => ?_)
      go_simp
      refine hK.out _ ⟨_, by rfl, Or.inl ⟨by rfl, by intro w hSw; (try dsimp only at hSw); go_simp⟩, ?_⟩
      clear hK K
      refine AnyK.take (i := 2) rfl (by decide) (by kernel_rfl) (by kernel_rfl) (by kernel_rfl) (fun _ _ _ _ h => h) HS0 (fun K hK => ?_)
      go_simp
      refine hK.out _ ⟨_, by rfl, Or.inl ⟨by rfl, by intro w hSw; (try dsimp only at hSw); go_simp⟩, ?_⟩
      clear hK K
      refine AnyK.take (i := 3) rfl (by decide) (by kernel_rfl) (by kernel_rfl) (by kernel_rfl) (fun _ _ _ _ h => h) HS0 (fun K hK => ?_)
      go_simp
      refine hK.out _ ⟨_, by rfl, Or.inl ⟨by rfl, by intro w hSw; (try dsimp only at hSw); go_simp⟩, ?_⟩
      clear hK K
      refine AnyK.take (i := 4) rfl (by decide) (by kernel_rfl) (by kernel_rfl) (by kernel_rfl) (fun _ _ _ _ h => h) HS0 (fun K hK => ?_)
      go_simp
      refine hK.out _ ⟨_, by rfl, Or.inl ⟨by rfl, by intro w hSw; (try dsimp only at hSw); go_simp⟩, ?_⟩
      clear hK K
      refine AnyK.take (i := 5) rfl (by decide) (by kernel_rfl) (by kernel_rfl) (by kernel_rfl) (fun _ _ _ _ h => h) HS0 (fun K hK => ?_)
      go_simp
      refine hK.out _ ⟨_, by rfl, Or.inl ⟨by rfl, by intro w hSw; (try dsimp only at hSw); go_simp⟩, ?_⟩
      clear hK K
      refine AnyK.take (i := 6) rfl (by decide) (by kernel_rfl) (by kernel_rfl) (by kernel_rfl) (fun _ _ _ _ h => h) HS0 (fun K hK => ?_)
      go_simp
      refine hK.out _ ⟨_, by rfl, Or.inl ⟨by rfl, by intro w hSw; (try dsimp only at hSw); go_simp⟩, ?_⟩
      clear hK K
      refine AnyK.take (i := 7) rfl (by decide) (by kernel_rfl) (by kernel_rfl) (by kernel_rfl) (fun _ _ _ _ h => h) HS0 (fun K hK => ?_)
      go_simp
      refine hK.out _ ⟨_, by rfl, Or.inl ⟨by rfl, by intro w hSw; (try dsimp only at hSw); go_simp⟩, ?_⟩
      clear hK K
      refine AnyK.take (i := 8) rfl (by decide) (by kernel_rfl) (by kernel_rfl) (by kernel_rfl) (fun _ _ _ _ h => h) HS0 (fun K hK => ?_)
      go_simp
      refine hK.out _ ⟨_, by rfl, Or.inl ⟨by rfl, by intro w hSw; (try dsimp only at hSw); go_simp⟩, ?_⟩
      clear hK K
      refine AnyK.take (i := 9) rfl (by decide) (by kernel_rfl) (by kernel_rfl) (by kernel_rfl) (fun _ _ _ _ h => h) HS0 (fun K hK => ?_)
      go_simp
      refine hK.out _ ⟨_, by rfl, Or.inl ⟨by rfl, by intro w hSw; (try dsimp only at hSw); go_simp⟩, ?_⟩
      clear hK K
      refine AnyK.take (i := 10) rfl (by decide) (by kernel_rfl) (by kernel_rfl) (by kernel_rfl) (fun _ _ _ _ h => h) HS0 (fun K hK => ?_)
      go_simp
      refine hK.out _ ⟨_, by rfl, Or.inl ⟨by rfl, by intro w hSw; (try dsimp only at hSw); go_simp⟩, ?_⟩
      clear hK K
      refine AnyK.take (i := 11) rfl (by decide) (by kernel_rfl) (by kernel_rfl) (by kernel_rfl) (fun _ _ _ _ h => h) HS0 (fun K hK => ?_)
      go_simp
      refine hK.out _ ⟨_, by rfl, Or.inl ⟨by rfl, by intro w hSw; (try dsimp only at hSw); go_simp⟩, ?_⟩
      clear hK K
      refine AnyK.take (i := 12) rfl (by decide) (by kernel_rfl) (by kernel_rfl) (by kernel_rfl) (fun _ _ _ _ h => h) HS0 (fun K hK => ?_)
      go_simp
      refine hK.out _ ⟨_, by rfl, Or.inl ⟨by rfl, by intro w hSw; (try dsimp only at hSw); go_simp⟩, ?_⟩
      clear hK K
      refine AnyK.one (i := 13) rfl (by kernel_rfl) (fun K hK => ?_)
      go_simp
      obtain ⟨X, hX⟩ : ∃ X, X = ((((wr.setCell ⟨w.heap.size + 1, 0, none⟩ (.int .i64 1)).setCell ⟨w.heap.size + 1, 1, none⟩ (.int .i64 (base : Int))).setCell ⟨w.heap.size + 1, 2, none⟩ (.int .i64 (S.s0 : Int))).setCell ⟨w.heap.size + 1, 3, none⟩ (.int .i64 (S.m0 : Int))).drew := ⟨_, rfl⟩
      have HFX : Hid (Fr F0 w X) := Lib.hid (by rw [hX]; exact ((((HF.out.setCell (p := ⟨w.heap.size + 1, 0, none⟩) (.inr (Nat.le_succ _)) _).setCell (p := ⟨w.heap.size + 1, 1, none⟩) (.inr (Nat.le_succ _)) _).setCell (p := ⟨w.heap.size + 1, 2, none⟩) (.inr (Nat.le_succ _)) _).setCell (p := ⟨w.heap.size + 1, 3, none⟩) (.inr (Nat.le_succ _)) _).drew)
      have HBX : Hid (Blk X w.heap.size 36 #[.int .i64 (S.k : Int), .int .i64 (S.s0 : Int), .int .i64 (S.s1 : Int), .int .i64 (S.s2 : Int), .int .i64 (S.m0 : Int), .int .i64 (S.m1 : Int), .int .i64 (S.m2 : Int)]) := Lib.hid (by rw [hX]; exact ((((HB.out.far (p := ⟨w.heap.size + 1, 0, none⟩) (show w.heap.size ≠ w.heap.size + 1 by omega) _).far (p := ⟨w.heap.size + 1, 1, none⟩) (show w.heap.size ≠ w.heap.size + 1 by omega) _).far (p := ⟨w.heap.size + 1, 2, none⟩) (show w.heap.size ≠ w.heap.size + 1 by omega) _).far (p := ⟨w.heap.size + 1, 3, none⟩) (show w.heap.size ≠ w.heap.size + 1 by omega) _).drew)
      have HC2 : Hid (Blk X (w.heap.size + 1) 70 #[.int .i64 1, .int .i64 (base : Int), .int .i64 (S.s0 : Int), .int .i64 (S.m0 : Int), .int .i64 0, .int .i64 0, .int .i64 0, .int .i64 0, .int .i64 0, .int .i64 0, .int .i64 0, .int .i64 0]) := Lib.hid (by
        have h1 := Blk.drew ((((HC.out.set_ 0 (.int .i64 1)).set_ 1 (.int .i64 (base : Int))).set_ 2 (.int .i64 (S.s0 : Int))).set_ 3 (.int .i64 (S.m0 : Int)))
        rw [hX]
        simpa using h1)
      have HSX : (fun w' : World => w'.cell? ⟨w.heap.size, 1, none⟩ = some (.int .i64 (S.s0 : Int)) ∧ w'.cell? ⟨w.heap.size, 4, none⟩ = some (.int .i64 (S.m0 : Int))) X := ⟨by rw [HBX.out.cell]; rfl, by rw [HBX.out.cell]; rfl⟩
      have xs := HSX.1
      have xm := HSX.2
      have xk : X.cell? ⟨w.heap.size, 0, none⟩ = some (.int .i64 (S.k : Int)) := by rw [HBX.out.cell]; rfl
      have xl := HBX.out.lt
      rw [← hX]
      refine hK.out _ _ (fun _ => HSX) ?_
      clear hK K
      refine AnyK.done (by kernel_rfl) ?_ _
      clear hX HS0 cs cm ck z0 z1 z2 z3 zf0 zf1 zf2 zf3 HC HB HF hbl
      have HFY : Hid (∀ q, Fr F0 w (X.drewN q)) := Lib.hid (fun q => HFX.out.drewN q)
      have HBY : Hid (∀ q, Blk (X.drewN q) w.heap.size 36 #[.int .i64 (S.k : Int), .int .i64 (S.s0 : Int), .int .i64 (S.s1 : Int), .int .i64 (S.s2 : Int), .int .i64 (S.m0 : Int), .int .i64 (S.m1 : Int), .int .i64 (S.m2 : Int)]) := Lib.hid (fun q => HBX.out.drewN q)
      have HCY : Hid (∀ q, Blk (X.drewN q) (w.heap.size + 1) 70 #[.int .i64 1, .int .i64 (base : Int), .int .i64 (S.s0 : Int), .int .i64 (S.m0 : Int), .int .i64 0, .int .i64 0, .int .i64 0, .int .i64 0, .int .i64 0, .int .i64 0, .int .i64 0, .int .i64 0]) := Lib.hid (fun q => HC2.out.drewN q)
      go_wp2_with fail
      go_quiet (fail)
      go_wp2_with fail
      go_quiet (fail)
      go_wp2_with fail
      exact ⟨⟨.inr (.inl ⟨rfl, rfl, rfl, Lib.hid (HCY.out _)⟩), Lib.hid (HFY.out _), Lib.hid (HBY.out _)⟩, by simp [intOf]⟩
    · have cs : wr.cell? ⟨w.heap.size, 2, none⟩ = some (.int .i64 (S.s1 : Int)) := by rw [HB.out.cell]; rfl
      have cm : wr.cell? ⟨w.heap.size, 5, none⟩ = some (.int .i64 (S.m1 : Int)) := by rw [HB.out.cell]; rfl
      have ck : wr.cell? ⟨w.heap.size, 0, none⟩ = some (.int .i64 (S.k : Int)) := by rw [HB.out.cell]; rfl
      have z0 : wr.cell? ⟨w.heap.size + 1, 4, none⟩ = some (.int .i64 0) := by rw [HC.out.cell]; rfl
      have zf0 : wr.frozen? ⟨w.heap.size + 1, 4, none⟩ = false := HC.out.frozen _
      have z1 : wr.cell? ⟨w.heap.size + 1, 5, none⟩ = some (.int .i64 0) := by rw [HC.out.cell]; rfl
      have zf1 : wr.frozen? ⟨w.heap.size + 1, 5, none⟩ = false := HC.out.frozen _
      have z2 : wr.cell? ⟨w.heap.size + 1, 6, none⟩ = some (.int .i64 0) := by rw [HC.out.cell]; rfl
      have zf2 : wr.frozen? ⟨w.heap.size + 1, 6, none⟩ = false := HC.out.frozen _
      have z3 : wr.cell? ⟨w.heap.size + 1, 7, none⟩ = some (.int .i64 0) := by rw [HC.out.cell]; rfl
      have zf3 : wr.frozen? ⟨w.heap.size + 1, 7, none⟩ = false := HC.out.frozen _
      go_wp2_with fail
      refine region_K 13 (fun w' : World => w'.cell? ⟨w.heap.size, 2, none⟩ = some (.int .i64 (S.s1 : Int)) ∧ w'.cell? ⟨w.heap.size, 5, none⟩ = some (.int .i64 (S.m1 : Int))) (by kernel_rfl) ?_
      have HS0 : (fun w' : World => w'.cell? ⟨w.heap.size, 2, none⟩ = some (.int .i64 (S.s1 : Int)) ∧ w'.cell? ⟨w.heap.size, 5, none⟩ = some (.int .i64 (S.m1 : Int))) wr.drew := ⟨cs, cm⟩
      refine AnyK.take (i := 0) rfl (by decide) (by kernel_rfl) (by kernel_rfl) (by kernel_rfl) (fun _ _ _ _ h => h) HS0 (fun K hK => ?_)
      go_simp
      refine hK.out _ ⟨_, by rfl, Or.inl ⟨by rfl, by intro w hSw; (try dsimp only at hSw); go_simp⟩, ?_⟩
      clear hK K
      refine AnyK.take (i := 1) rfl (by decide) (by kernel_rfl) (by kernel_rfl) (by kernel_rfl) (fun _ _ _ _ h => h) HS0 (fun K hK => ?_)
      go_simp
      refine hK.out _ ⟨_, by rfl, Or.inl ⟨by rfl, by intro w hSw; (try dsimp only at hSw); go_simp⟩, ?_⟩
      clear hK K
      refine AnyK.take (i := 2) rfl (by decide) (by kernel_rfl) (by kernel_rfl) (by kernel_rfl) (fun _ _ _ _ h => h) HS0 (fun K hK => ?_)
      go_simp
      refine hK.out _ ⟨_, by rfl, Or.inl ⟨by rfl, by intro w hSw; (try dsimp only at hSw); go_simp⟩, ?_⟩
      clear hK K
      refine AnyK.take (i := 3) rfl (by decide) (by kernel_rfl) (by kernel_rfl) (by kernel_rfl) (fun _ _ _ _ h => h) HS0 (fun K hK => ?_)
      go_simp
      refine hK.out _ ⟨_, by rfl, Or.inl ⟨by rfl, by intro w hSw; (try dsimp only at hSw); go_simp⟩, ?_⟩
      clear hK K
      refine AnyK.take (i := 4) rfl (by decide) (by kernel_rfl) (by kernel_rfl) (by kernel_rfl) (fun _ _ _ _ h => h) HS0 (fun K hK => ?_)
      go_simp
      refine hK.out _ ⟨_, by rfl, Or.inl ⟨by rfl, by intro w hSw; (try dsimp only at hSw); go_simp⟩, ?_⟩
      clear hK K
      refine AnyK.take (i := 5) rfl (by decide) (by kernel_rfl) (by kernel_rfl) (by kernel_rfl) (fun _ _ _ _ h => h) HS0 (fun K hK => ?_)
      go_simp
      refine hK.out _ ⟨_, by rfl, Or.inl ⟨by rfl, by intro w hSw; (try dsimp only at hSw); go_simp⟩, ?_⟩
      clear hK K
      refine AnyK.take (i := 6) rfl (by decide) (by kernel_rfl) (by kernel_rfl) (by kernel_rfl) (fun _ _ _ _ h => h) HS0 (fun K hK => ?_)
      go_simp
      refine hK.out _ ⟨_, by rfl, Or.inl ⟨by rfl, by intro w hSw; (try dsimp only at hSw); go_simp⟩, ?_⟩
      clear hK K
      refine AnyK.take (i := 7) rfl (by decide) (by kernel_rfl) (by kernel_rfl) (by kernel_rfl) (fun _ _ _ _ h => h) HS0 (fun K hK => ?_)
      go_simp
      refine hK.out _ ⟨_, by rfl, Or.inl ⟨by rfl, by intro w hSw; (try dsimp only at hSw); go_simp⟩, ?_⟩
      clear hK K
      refine AnyK.take (i := 8) rfl (by decide) (by kernel_rfl) (by kernel_rfl) (by kernel_rfl) (fun _ _ _ _ h => h) HS0 (fun K hK => ?_)
      go_simp
      refine hK.out _ ⟨_, by rfl, Or.inl ⟨by rfl, by intro w hSw; (try dsimp only at hSw); go_simp⟩, ?_⟩
      clear hK K
      refine AnyK.take (i := 9) rfl (by decide) (by kernel_rfl) (by kernel_rfl) (by kernel_rfl) (fun _ _ _ _ h => h) HS0 (fun K hK => ?_)
      go_simp
      refine hK.out _ ⟨_, by rfl, Or.inl ⟨by rfl, by intro w hSw; (try dsimp only at hSw); go_simp⟩, ?_⟩
      clear hK K
      refine AnyK.take (i := 10) rfl (by decide) (by kernel_rfl) (by kernel_rfl) (by kernel_rfl) (fun _ _ _ _ h => h) HS0 (fun K hK => ?_)
      go_simp
      refine hK.out _ ⟨_, by rfl, Or.inl ⟨by rfl, by intro w hSw; (try dsimp only at hSw); go_simp⟩, ?_⟩
      clear hK K
      refine AnyK.take (i := 11) rfl (by decide) (by kernel_rfl) (by kernel_rfl) (by kernel_rfl) (fun _ _ _ _ h => h) HS0 (fun K hK => ?_)
      go_simp
      refine hK.out _ ⟨_, by rfl, Or.inl ⟨by rfl, by intro w hSw; (try dsimp only at hSw); go_simp⟩, ?_⟩
      clear hK K
      refine AnyK.take (i := 12) rfl (by decide) (by kernel_rfl) (by kernel_rfl) (by kernel_rfl) (fun _ _ _ _ h => h) HS0 (fun K hK => ?_)
      go_simp
      refine hK.out _ ⟨_, by rfl, Or.inl ⟨by rfl, by intro w hSw; (try dsimp only at hSw); go_simp⟩, ?_⟩
      clear hK K
      refine AnyK.one (i := 13) rfl (by kernel_rfl) (fun K hK => ?_)
      go_simp
      obtain ⟨X, hX⟩ : ∃ X, X = ((((wr.setCell ⟨w.heap.size + 1, 4, none⟩ (.int .i64 (F1 : Int))).setCell ⟨w.heap.size + 1, 5, none⟩ (.int .i64 (A1 : Int))).setCell ⟨w.heap.size + 1, 6, none⟩ (.int .i64 (S.s1 : Int))).setCell ⟨w.heap.size + 1, 7, none⟩ (.int .i64 (S.m1 : Int))).drew := ⟨_, rfl⟩
      have HFX : Hid (Fr F0 w X) := Lib.hid (by rw [hX]; exact ((((HF.out.setCell (p := ⟨w.heap.size + 1, 4, none⟩) (.inr (Nat.le_succ _)) _).setCell (p := ⟨w.heap.size + 1, 5, none⟩) (.inr (Nat.le_succ _)) _).setCell (p := ⟨w.heap.size + 1, 6, none⟩) (.inr (Nat.le_succ _)) _).setCell (p := ⟨w.heap.size + 1, 7, none⟩) (.inr (Nat.le_succ _)) _).drew)
      have HBX : Hid (Blk X w.heap.size 36 #[.int .i64 (S.k : Int), .int .i64 (S.s0 : Int), .int .i64 (S.s1 : Int), .int .i64 (S.s2 : Int), .int .i64 (S.m0 : Int), .int .i64 (S.m1 : Int), .int .i64 (S.m2 : Int)]) := Lib.hid (by rw [hX]; exact ((((HB.out.far (p := ⟨w.heap.size + 1, 4, none⟩) (show w.heap.size ≠ w.heap.size + 1 by omega) _).far (p := ⟨w.heap.size + 1, 5, none⟩) (show w.heap.size ≠ w.heap.size + 1 by omega) _).far (p := ⟨w.heap.size + 1, 6, none⟩) (show w.heap.size ≠ w.heap.size + 1 by omega) _).far (p := ⟨w.heap.size + 1, 7, none⟩) (show w.heap.size ≠ w.heap.size + 1 by omega) _).drew)
      have HC2 : Hid (Blk X (w.heap.size + 1) 70 #[.int .i64 1, .int .i64 (base : Int), .int .i64 (S.s0 : Int), .int .i64 (S.m0 : Int), .int .i64 (F1 : Int), .int .i64 (A1 : Int), .int .i64 (S.s1 : Int), .int .i64 (S.m1 : Int), .int .i64 0, .int .i64 0, .int .i64 0, .int .i64 0]) := Lib.hid (by
        have h1 := Blk.drew ((((HC.out.set_ 4 (.int .i64 (F1 : Int))).set_ 5 (.int .i64 (A1 : Int))).set_ 6 (.int .i64 (S.s1 : Int))).set_ 7 (.int .i64 (S.m1 : Int)))
        rw [hX]
        simpa using h1)
      have HSX : (fun w' : World => w'.cell? ⟨w.heap.size, 2, none⟩ = some (.int .i64 (S.s1 : Int)) ∧ w'.cell? ⟨w.heap.size, 5, none⟩ = some (.int .i64 (S.m1 : Int))) X := ⟨by rw [HBX.out.cell]; rfl, by rw [HBX.out.cell]; rfl⟩
      have xs := HSX.1
      have xm := HSX.2
      have xk : X.cell? ⟨w.heap.size, 0, none⟩ = some (.int .i64 (S.k : Int)) := by rw [HBX.out.cell]; rfl
      have xl := HBX.out.lt
      rw [← hX]
      refine hK.out _ _ (fun _ => HSX) ?_
      clear hK K
      refine AnyK.done (by kernel_rfl) ?_ _
      clear hX HS0 cs cm ck z0 z1 z2 z3 zf0 zf1 zf2 zf3 HC HB HF hbl
      have HFY : Hid (∀ q, Fr F0 w (X.drewN q)) := Lib.hid (fun q => HFX.out.drewN q)
      have HBY : Hid (∀ q, Blk (X.drewN q) w.heap.size 36 #[.int .i64 (S.k : Int), .int .i64 (S.s0 : Int), .int .i64 (S.s1 : Int), .int .i64 (S.s2 : Int), .int .i64 (S.m0 : Int), .int .i64 (S.m1 : Int), .int .i64 (S.m2 : Int)]) := Lib.hid (fun q => HBX.out.drewN q)
      have HCY : Hid (∀ q, Blk (X.drewN q) (w.heap.size + 1) 70 #[.int .i64 1, .int .i64 (base : Int), .int .i64 (S.s0 : Int), .int .i64 (S.m0 : Int), .int .i64 (F1 : Int), .int .i64 (A1 : Int), .int .i64 (S.s1 : Int), .int .i64 (S.m1 : Int), .int .i64 0, .int .i64 0, .int .i64 0, .int .i64 0]) := Lib.hid (fun q => HC2.out.drewN q)
      go_wp2_with fail
      go_quiet (fail)
      go_wp2_with fail
      go_quiet (fail)
      go_wp2_with fail
      exact ⟨⟨.inr (.inr (.inl ⟨rfl, rfl, rfl, Lib.hid (HCY.out _)⟩)), Lib.hid (HFY.out _), Lib.hid (HBY.out _)⟩, by simp [intOf]⟩
    · have cs : wr.cell? ⟨w.heap.size, 3, none⟩ = some (.int .i64 (S.s2 : Int)) := by rw [HB.out.cell]; rfl
      have cm : wr.cell? ⟨w.heap.size, 6, none⟩ = some (.int .i64 (S.m2 : Int)) := by rw [HB.out.cell]; rfl
      have ck : wr.cell? ⟨w.heap.size, 0, none⟩ = some (.int .i64 (S.k : Int)) := by rw [HB.out.cell]; rfl
      have z0 : wr.cell? ⟨w.heap.size + 1, 8, none⟩ = some (.int .i64 0) := by rw [HC.out.cell]; rfl
      have zf0 : wr.frozen? ⟨w.heap.size + 1, 8, none⟩ = false := HC.out.frozen _
      have z1 : wr.cell? ⟨w.heap.size + 1, 9, none⟩ = some (.int .i64 0) := by rw [HC.out.cell]; rfl
      have zf1 : wr.frozen? ⟨w.heap.size + 1, 9, none⟩ = false := HC.out.frozen _
      have z2 : wr.cell? ⟨w.heap.size + 1, 10, none⟩ = some (.int .i64 0) := by rw [HC.out.cell]; rfl
      have zf2 : wr.frozen? ⟨w.heap.size + 1, 10, none⟩ = false := HC.out.frozen _
      have z3 : wr.cell? ⟨w.heap.size + 1, 11, none⟩ = some (.int .i64 0) := by rw [HC.out.cell]; rfl
      have zf3 : wr.frozen? ⟨w.heap.size + 1, 11, none⟩ = false := HC.out.frozen _
      go_wp2_with fail
      refine region_K 13 (fun w' : World => w'.cell? ⟨w.heap.size, 3, none⟩ = some (.int .i64 (S.s2 : Int)) ∧ w'.cell? ⟨w.heap.size, 6, none⟩ = some (.int .i64 (S.m2 : Int))) (by kernel_rfl) ?_
      have HS0 : (fun w' : World => w'.cell? ⟨w.heap.size, 3, none⟩ = some (.int .i64 (S.s2 : Int)) ∧ w'.cell? ⟨w.heap.size, 6, none⟩ = some (.int .i64 (S.m2 : Int))) wr.drew := ⟨cs, cm⟩
      refine AnyK.take (i := 0) rfl (by decide) (by kernel_rfl) (by kernel_rfl) (by kernel_rfl) (fun _ _ _ _ h => h) HS0 (fun K hK => ?_)
      go_simp
      refine hK.out _ ⟨_, by rfl, Or.inl ⟨by rfl, by intro w hSw; (try dsimp only at hSw); go_simp⟩, ?_⟩
      clear hK K
      refine AnyK.take (i := 1) rfl (by decide) (by kernel_rfl) (by kernel_rfl) (by kernel_rfl) (fun _ _ _ _ h => h) HS0 (fun K hK => ?_)
      go_simp
      refine hK.out _ ⟨_, by rfl, Or.inl ⟨by rfl, by intro w hSw; (try dsimp only at hSw); go_simp⟩, ?_⟩
      clear hK K
      refine AnyK.take (i := 2) rfl (by decide) (by kernel_rfl) (by kernel_rfl) (by kernel_rfl) (fun _ _ _ _ h => h) HS0 (fun K hK => ?_)
      go_simp
      refine hK.out _ ⟨_, by rfl, Or.inl ⟨by rfl, by intro w hSw; (try dsimp only at hSw); go_simp⟩, ?_⟩
      clear hK K
      refine AnyK.take (i := 3) rfl (by decide) (by kernel_rfl) (by kernel_rfl) (by kernel_rfl) (fun _ _ _ _ h => h) HS0 (fun K hK => ?_)
      go_simp
      refine hK.out _ ⟨_, by rfl, Or.inl ⟨by rfl, by intro w hSw; (try dsimp only at hSw); go_simp⟩, ?_⟩
      clear hK K
      refine AnyK.take (i := 4) rfl (by decide) (by kernel_rfl) (by kernel_rfl) (by kernel_rfl) (fun _ _ _ _ h => h) HS0 (fun K hK => ?_)
      go_simp
      refine hK.out _ ⟨_, by rfl, Or.inl ⟨by rfl, by intro w hSw; (try dsimp only at hSw); go_simp⟩, ?_⟩
      clear hK K
      refine AnyK.take (i := 5) rfl (by decide) (by kernel_rfl) (by kernel_rfl) (by kernel_rfl) (fun _ _ _ _ h => h) HS0 (fun K hK => ?_)
      go_simp
      refine hK.out _ ⟨_, by rfl, Or.inl ⟨by rfl, by intro w hSw; (try dsimp only at hSw); go_simp⟩, ?_⟩
      clear hK K
      refine AnyK.take (i := 6) rfl (by decide) (by kernel_rfl) (by kernel_rfl) (by kernel_rfl) (fun _ _ _ _ h => h) HS0 (fun K hK => ?_)
      go_simp
      refine hK.out _ ⟨_, by rfl, Or.inl ⟨by rfl, by intro w hSw; (try dsimp only at hSw); go_simp⟩, ?_⟩
      clear hK K
      refine AnyK.take (i := 7) rfl (by decide) (by kernel_rfl) (by kernel_rfl) (by kernel_rfl) (fun _ _ _ _ h => h) HS0 (fun K hK => ?_)
      go_simp
      refine hK.out _ ⟨_, by rfl, Or.inl ⟨by rfl, by intro w hSw; (try dsimp only at hSw); go_simp⟩, ?_⟩
      clear hK K
      refine AnyK.take (i := 8) rfl (by decide) (by kernel_rfl) (by kernel_rfl) (by kernel_rfl) (fun _ _ _ _ h => h) HS0 (fun K hK => ?_)
      go_simp
      refine hK.out _ ⟨_, by rfl, Or.inl ⟨by rfl, by intro w hSw; (try dsimp only at hSw); go_simp⟩, ?_⟩
      clear hK K
      refine AnyK.take (i := 9) rfl (by decide) (by kernel_rfl) (by kernel_rfl) (by kernel_rfl) (fun _ _ _ _ h => h) HS0 (fun K hK => ?_)
      go_simp
      refine hK.out _ ⟨_, by rfl, Or.inl ⟨by rfl, by intro w hSw; (try dsimp only at hSw); go_simp⟩, ?_⟩
      clear hK K
      refine AnyK.take (i := 10) rfl (by decide) (by kernel_rfl) (by kernel_rfl) (by kernel_rfl) (fun _ _ _ _ h => h) HS0 (fun K hK => ?_)
      go_simp
      refine hK.out _ ⟨_, by rfl, Or.inl ⟨by rfl, by intro w hSw; (try dsimp only at hSw); go_simp⟩, ?_⟩
      clear hK K
      refine AnyK.take (i := 11) rfl (by decide) (by kernel_rfl) (by kernel_rfl) (by kernel_rfl) (fun _ _ _ _ h => h) HS0 (fun K hK => ?_)
      go_simp
      refine hK.out _ ⟨_, by rfl, Or.inl ⟨by rfl, by intro w hSw; (try dsimp only at hSw); go_simp⟩, ?_⟩
      clear hK K
      refine AnyK.take (i := 12) rfl (by decide) (by kernel_rfl) (by kernel_rfl) (by kernel_rfl) (fun _ _ _ _ h => h) HS0 (fun K hK => ?_)
      go_simp
      refine hK.out _ ⟨_, by rfl, Or.inl ⟨by rfl, by intro w hSw; (try dsimp only at hSw); go_simp⟩, ?_⟩
      clear hK K
      refine AnyK.one (i := 13) rfl (by kernel_rfl) (fun K hK => ?_)
      go_simp
      obtain ⟨X, hX⟩ : ∃ X, X = ((((wr.setCell ⟨w.heap.size + 1, 8, none⟩ (.int .i64 (F2 : Int))).setCell ⟨w.heap.size + 1, 9, none⟩ (.int .i64 (A2 : Int))).setCell ⟨w.heap.size + 1, 10, none⟩ (.int .i64 (S.s2 : Int))).setCell ⟨w.heap.size + 1, 11, none⟩ (.int .i64 (S.m2 : Int))).drew := ⟨_, rfl⟩
      have HFX : Hid (Fr F0 w X) := Lib.hid (by rw [hX]; exact ((((HF.out.setCell (p := ⟨w.heap.size + 1, 8, none⟩) (.inr (Nat.le_succ _)) _).setCell (p := ⟨w.heap.size + 1, 9, none⟩) (.inr (Nat.le_succ _)) _).setCell (p := ⟨w.heap.size + 1, 10, none⟩) (.inr (Nat.le_succ _)) _).setCell (p := ⟨w.heap.size + 1, 11, none⟩) (.inr (Nat.le_succ _)) _).drew)
      have HBX : Hid (Blk X w.heap.size 36 #[.int .i64 (S.k : Int), .int .i64 (S.s0 : Int), .int .i64 (S.s1 : Int), .int .i64 (S.s2 : Int), .int .i64 (S.m0 : Int), .int .i64 (S.m1 : Int), .int .i64 (S.m2 : Int)]) := Lib.hid (by rw [hX]; exact ((((HB.out.far (p := ⟨w.heap.size + 1, 8, none⟩) (show w.heap.size ≠ w.heap.size + 1 by omega) _).far (p := ⟨w.heap.size + 1, 9, none⟩) (show w.heap.size ≠ w.heap.size + 1 by omega) _).far (p := ⟨w.heap.size + 1, 10, none⟩) (show w.heap.size ≠ w.heap.size + 1 by omega) _).far (p := ⟨w.heap.size + 1, 11, none⟩) (show w.heap.size ≠ w.heap.size + 1 by omega) _).drew)
      have HC2 : Hid (Blk X (w.heap.size + 1) 70 #[.int .i64 1, .int .i64 (base : Int), .int .i64 (S.s0 : Int), .int .i64 (S.m0 : Int), .int .i64 (F1 : Int), .int .i64 (A1 : Int), .int .i64 (S.s1 : Int), .int .i64 (S.m1 : Int), .int .i64 (F2 : Int), .int .i64 (A2 : Int), .int .i64 (S.s2 : Int), .int .i64 (S.m2 : Int)]) := Lib.hid (by
        have h1 := Blk.drew ((((HC.out.set_ 8 (.int .i64 (F2 : Int))).set_ 9 (.int .i64 (A2 : Int))).set_ 10 (.int .i64 (S.s2 : Int))).set_ 11 (.int .i64 (S.m2 : Int)))
        rw [hX]
        simpa using h1)
      have HSX : (fun w' : World => w'.cell? ⟨w.heap.size, 3, none⟩ = some (.int .i64 (S.s2 : Int)) ∧ w'.cell? ⟨w.heap.size, 6, none⟩ = some (.int .i64 (S.m2 : Int))) X := ⟨by rw [HBX.out.cell]; rfl, by rw [HBX.out.cell]; rfl⟩
      have xs := HSX.1
      have xm := HSX.2
      have xk : X.cell? ⟨w.heap.size, 0, none⟩ = some (.int .i64 (S.k : Int)) := by rw [HBX.out.cell]; rfl
      have xl := HBX.out.lt
      rw [← hX]
      refine hK.out _ _ (fun _ => HSX) ?_
      clear hK K
      refine AnyK.done (by kernel_rfl) ?_ _
      clear hX HS0 cs cm ck z0 z1 z2 z3 zf0 zf1 zf2 zf3 HC HB HF hbl
      have HFY : Hid (∀ q, Fr F0 w (X.drewN q)) := Lib.hid (fun q => HFX.out.drewN q)
      have HBY : Hid (∀ q, Blk (X.drewN q) w.heap.size 36 #[.int .i64 (S.k : Int), .int .i64 (S.s0 : Int), .int .i64 (S.s1 : Int), .int .i64 (S.s2 : Int), .int .i64 (S.m0 : Int), .int .i64 (S.m1 : Int), .int .i64 (S.m2 : Int)]) := Lib.hid (fun q => HBX.out.drewN q)
      have HCY : Hid (∀ q, Blk (X.drewN q) (w.heap.size + 1) 70 #[.int .i64 1, .int .i64 (base : Int), .int .i64 (S.s0 : Int), .int .i64 (S.m0 : Int), .int .i64 (F1 : Int), .int .i64 (A1 : Int), .int .i64 (S.s1 : Int), .int .i64 (S.m1 : Int), .int .i64 (F2 : Int), .int .i64 (A2 : Int), .int .i64 (S.s2 : Int), .int .i64 (S.m2 : Int)]) := Lib.hid (fun q => HC2.out.drewN q)
      go_wp2_with fail
      go_quiet (fail)
      go_wp2_with fail
      go_quiet (fail)
      go_wp2_with fail
      exact ⟨⟨.inr (.inr (.inr ⟨rfl, rfl, rfl, Lib.hid (HCY.out _)⟩)), Lib.hid (HFY.out _), Lib.hid (HBY.out _)⟩, by simp [intOf]⟩
    · have z0 : wr.cell? ⟨w.heap.size + 1, 0, none⟩ = some (.int .i64 1) := by rw [HC.out.cell]; rfl
      have zf0 : wr.frozen? ⟨w.heap.size + 1, 0, none⟩ = false := HC.out.frozen _
      have z1 : wr.cell? ⟨w.heap.size + 1, 1, none⟩ = some (.int .i64 (base : Int)) := by rw [HC.out.cell]; rfl
      have zf1 : wr.frozen? ⟨w.heap.size + 1, 1, none⟩ = false := HC.out.frozen _
      have z2 : wr.cell? ⟨w.heap.size + 1, 2, none⟩ = some (.int .i64 (S.s0 : Int)) := by rw [HC.out.cell]; rfl
      have zf2 : wr.frozen? ⟨w.heap.size + 1, 2, none⟩ = false := HC.out.frozen _
      have z3 : wr.cell? ⟨w.heap.size + 1, 3, none⟩ = some (.int .i64 (S.m0 : Int)) := by rw [HC.out.cell]; rfl
      have zf3 : wr.frozen? ⟨w.heap.size + 1, 3, none⟩ = false := HC.out.frozen _
      have z4 : wr.cell? ⟨w.heap.size + 1, 4, none⟩ = some (.int .i64 (F1 : Int)) := by rw [HC.out.cell]; rfl
      have zf4 : wr.frozen? ⟨w.heap.size + 1, 4, none⟩ = false := HC.out.frozen _
      have z5 : wr.cell? ⟨w.heap.size + 1, 5, none⟩ = some (.int .i64 (A1 : Int)) := by rw [HC.out.cell]; rfl
      have zf5 : wr.frozen? ⟨w.heap.size + 1, 5, none⟩ = false := HC.out.frozen _
      have z6 : wr.cell? ⟨w.heap.size + 1, 6, none⟩ = some (.int .i64 (S.s1 : Int)) := by rw [HC.out.cell]; rfl
      have zf6 : wr.frozen? ⟨w.heap.size + 1, 6, none⟩ = false := HC.out.frozen _
      have z7 : wr.cell? ⟨w.heap.size + 1, 7, none⟩ = some (.int .i64 (S.m1 : Int)) := by rw [HC.out.cell]; rfl
      have zf7 : wr.frozen? ⟨w.heap.size + 1, 7, none⟩ = false := HC.out.frozen _
      have z8 : wr.cell? ⟨w.heap.size + 1, 8, none⟩ = some (.int .i64 (F2 : Int)) := by rw [HC.out.cell]; rfl
      have zf8 : wr.frozen? ⟨w.heap.size + 1, 8, none⟩ = false := HC.out.frozen _
      have z9 : wr.cell? ⟨w.heap.size + 1, 9, none⟩ = some (.int .i64 (A2 : Int)) := by rw [HC.out.cell]; rfl
      have zf9 : wr.frozen? ⟨w.heap.size + 1, 9, none⟩ = false := HC.out.frozen _
      have z10 : wr.cell? ⟨w.heap.size + 1, 10, none⟩ = some (.int .i64 (S.s2 : Int)) := by rw [HC.out.cell]; rfl
      have zf10 : wr.frozen? ⟨w.heap.size + 1, 10, none⟩ = false := HC.out.frozen _
      have z11 : wr.cell? ⟨w.heap.size + 1, 11, none⟩ = some (.int .i64 (S.m2 : Int)) := by rw [HC.out.cell]; rfl
      have zf11 : wr.frozen? ⟨w.heap.size + 1, 11, none⟩ = false := HC.out.frozen _
      have HCF := Lib.hid ((((((((((((HC.out.set_ 0 (.int .i64 1)).set_ 1 (.int .i64 (base : Int))).set_ 2 (.int .i64 (S.s0 : Int))).set_ 3 (.int .i64 (S.m0 : Int))).set_ 4 (.int .i64 (F1 : Int))).set_ 5 (.int .i64 (A1 : Int))).set_ 6 (.int .i64 (S.s1 : Int))).set_ 7 (.int .i64 (S.m1 : Int))).set_ 8 (.int .i64 (F2 : Int))).set_ 9 (.int .i64 (A2 : Int))).set_ 10 (.int .i64 (S.s2 : Int))).set_ 11 (.int .i64 (S.m2 : Int)))
      have HFF := Lib.hid ((((((((((((HF.out.setCell (p := ⟨w.heap.size + 1, 0, none⟩) (.inr (Nat.le_succ _)) (.int .i64 1)).setCell (p := ⟨w.heap.size + 1, 1, none⟩) (.inr (Nat.le_succ _)) (.int .i64 (base : Int))).setCell (p := ⟨w.heap.size + 1, 2, none⟩) (.inr (Nat.le_succ _)) (.int .i64 (S.s0 : Int))).setCell (p := ⟨w.heap.size + 1, 3, none⟩) (.inr (Nat.le_succ _)) (.int .i64 (S.m0 : Int))).setCell (p := ⟨w.heap.size + 1, 4, none⟩) (.inr (Nat.le_succ _)) (.int .i64 (F1 : Int))).setCell (p := ⟨w.heap.size + 1, 5, none⟩) (.inr (Nat.le_succ _)) (.int .i64 (A1 : Int))).setCell (p := ⟨w.heap.size + 1, 6, none⟩) (.inr (Nat.le_succ _)) (.int .i64 (S.s1 : Int))).setCell (p := ⟨w.heap.size + 1, 7, none⟩) (.inr (Nat.le_succ _)) (.int .i64 (S.m1 : Int))).setCell (p := ⟨w.heap.size + 1, 8, none⟩) (.inr (Nat.le_succ _)) (.int .i64 (F2 : Int))).setCell (p := ⟨w.heap.size + 1, 9, none⟩) (.inr (Nat.le_succ _)) (.int .i64 (A2 : Int))).setCell (p := ⟨w.heap.size + 1, 10, none⟩) (.inr (Nat.le_succ _)) (.int .i64 (S.s2 : Int))).setCell (p := ⟨w.heap.size + 1, 11, none⟩) (.inr (Nat.le_succ _)) (.int .i64 (S.m2 : Int)))
      go_wp2_with fail
      have hfin : Blk ((((((((((((wr.setCell ⟨w.heap.size + 1, 0, none⟩ (.int .i64 1)).setCell ⟨w.heap.size + 1, 1, none⟩ (.int .i64 (base : Int))).setCell ⟨w.heap.size + 1, 2, none⟩ (.int .i64 (S.s0 : Int))).setCell ⟨w.heap.size + 1, 3, none⟩ (.int .i64 (S.m0 : Int))).setCell ⟨w.heap.size + 1, 4, none⟩ (.int .i64 (F1 : Int))).setCell ⟨w.heap.size + 1, 5, none⟩ (.int .i64 (A1 : Int))).setCell ⟨w.heap.size + 1, 6, none⟩ (.int .i64 (S.s1 : Int))).setCell ⟨w.heap.size + 1, 7, none⟩ (.int .i64 (S.m1 : Int))).setCell ⟨w.heap.size + 1, 8, none⟩ (.int .i64 (F2 : Int))).setCell ⟨w.heap.size + 1, 9, none⟩ (.int .i64 (A2 : Int))).setCell ⟨w.heap.size + 1, 10, none⟩ (.int .i64 (S.s2 : Int))).setCell ⟨w.heap.size + 1, 11, none⟩ (.int .i64 (S.m2 : Int))) (w.heap.size + 1) 70 #[.int .i64 1, .int .i64 (base : Int), .int .i64 (S.s0 : Int), .int .i64 (S.m0 : Int), .int .i64 (F1 : Int), .int .i64 (A1 : Int), .int .i64 (S.s1 : Int), .int .i64 (S.m1 : Int), .int .i64 (F2 : Int), .int .i64 (A2 : Int), .int .i64 (S.s2 : Int), .int .i64 (S.m2 : Int)] := by
        have h1 := HCF.out
        simpa using h1
      refine bodyPost_ret (results_cell_row rfl _ _ (w.heap.size + 1) 70 #[.int .i64 1, .int .i64 (base : Int), .int .i64 (S.s0 : Int), .int .i64 (S.m0 : Int), .int .i64 (F1 : Int), .int .i64 (A1 : Int), .int .i64 (S.s1 : Int), .int .i64 (S.m1 : Int), .int .i64 (F2 : Int), .int .i64 (A2 : Int), .int .i64 (S.s2 : Int), .int .i64 (S.m2 : Int)] (0, 0) _ rfl hfin Try.underlying70 rfl (by kernel_rfl)) rfl ?_
      exact ⟨by rw [HCE.out], HFF.out⟩
end Go.Proofs.Ytichhieopnbgpaa
