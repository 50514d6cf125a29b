/-
  Package pool: Where. No condition.
-/
import Derived.Test.YtichhieopnbgpaaP1
namespace Go.Proofs.Ytichhieopnbgpaa
open Go.RowKit

set_option maxHeartbeats 8000000 in
set_option maxRecDepth 100000 in
theorem where_0 (w : World) (P : Nat) (S : Shp) (base mp b t : Nat) (hP : PoolB w P S base mp b t) (hS : S.Ok) (hbase : base ≤ 100000) (n : Nat) (hn : 1 ≤ n) (hnb : n ≤ 9223372036854775807) (h0 : n - 1 < S.q0) :
    Calls Try.prog 24 #[.pointer (some ⟨P, 0, none⟩), .int .i64 (n : Int)] w fun e w' => e = .returned (.tuple #[.int .i64 ((base + (n - 1) * S.s0 : Nat) : Int), .int .i64 (S.s0 : Int), .int .i64 (((n - 1) / S.m0 : Nat) : Int), .int .i64 0, .bool true]) ∧ Fr F0 w w' := by
  have hPl := hP.lt
  have hP0 := hP
  obtain ⟨hq0, hq1, hq2⟩ := hS.q
  obtain ⟨hr0, hr1, hr2⟩ := hS.r
  have hk2 := hS.k2
  have hm0 := hS.b0
  have hm1 := hS.b1
  have hm2 := hS.b2
  have hs0 := hS.a0.2
  have hs1 := hS.a1.2
  have hs2 := hS.a2.2
  have p0 : (S.m0 : Int) * (S.k : Int) = (S.q0 : Int) := by rw [Int.mul_comm, ← Int.natCast_mul]; rfl
  have p1 : (S.m1 : Int) * (S.k : Int) = (S.q1 : Int) := by rw [Int.mul_comm, ← Int.natCast_mul]; rfl
  have p2 : (S.m2 : Int) * (S.k : Int) = (S.q2 : Int) := by rw [Int.mul_comm, ← Int.natCast_mul]; rfl
  obtain ⟨f1, hf1⟩ : ∃ f1, f1 = 1 + S.q0 := ⟨_, rfl⟩
  obtain ⟨f2, hf2⟩ : ∃ f2, f2 = 1 + S.q0 + S.q1 := ⟨_, rfl⟩
  obtain ⟨a1, ha1⟩ : ∃ a1, a1 = base + S.r0 := ⟨_, rfl⟩
  obtain ⟨a2, ha2⟩ : ∃ a2, a2 = base + S.r0 + S.r1 := ⟨_, rfl⟩
  have hU := mul_bound (s := S.s0) h0
  have hD := div_bound (k := S.k) (m := S.m0) h0
  obtain ⟨u, hu⟩ : ∃ u, u = (n - 1) * S.s0 := ⟨_, rfl⟩
  obtain ⟨ow, how⟩ : ∃ ow, ow = (n - 1) / S.m0 := ⟨_, rfl⟩
  rw [← hu, ← how]
  rw [← hu] at hU
  rw [← how] at hD
  have hub : u ≤ 4096000 := by
    have : S.q0 * S.s0 = S.r0 := rfl
    omega
  obtain ⟨e0, he0⟩ : ∃ e0, e0 = n - 1 := ⟨_, rfl⟩
  have pu : (e0 : Int) * (S.s0 : Int) = (u : Int) := by rw [hu, he0, Int.natCast_mul]
  have pd : (e0 : Int).tdiv (S.m0 : Int) = (ow : Int) := by rw [how, he0]; rfl
  have pz : ¬ (S.m0 : Int) = 0 := by omega
  have pz2 : ¬ S.m0 = 0 := by omega
  have pw : IntKind.i64.wrap (ow : Int) = (ow : Int) := IntWalk.i64_in _ (by omega)
  have xu : IntKind.i64.wrap ((e0 : Int) * (S.s0 : Int)) = (u : Int) := (IntWalk.i64_in _ (by omega)).trans pu
  have xs : IntKind.i64.wrap ((base : Int) + (u : Int)) = (base : Int) + (u : Int) := IntWalk.i64_in _ (by omega)
  have v0 : (n : Int) - 1 = (e0 : Int) := by omega
  have y0 : IntKind.i64.wrap ((n : Int) - 1) = (e0 : Int) := (IntWalk.i64_in _ (by omega)).trans v0
  have x0 : IntKind.i64.wrap ((S.m0 : Int) * (S.k : Int)) = (S.q0 : Int) := (IntWalk.i64_in _ (by omega)).trans p0
  have z0 : (e0 : Int) < (S.q0 : Int) := by omega
  have k13 : w.cell? ⟨P, 13, none⟩ = some (.slice (some ⟨b, 0, none⟩) S.k S.k) := by rw [hP.cell]; rfl
  have k1 : w.cell? ⟨P, 1, none⟩ = some (.int .i64 1) := by rw [hP.cell]; rfl
  have k2 : w.cell? ⟨P, 2, none⟩ = some (.int .i64 (base : Int)) := by rw [hP.cell]; rfl
  have k3 : w.cell? ⟨P, 3, none⟩ = some (.int .i64 (S.s0 : Int)) := by rw [hP.cell]; rfl
  have k4 : w.cell? ⟨P, 4, none⟩ = some (.int .i64 (S.m0 : Int)) := by rw [hP.cell]; rfl
  have k5 : w.cell? ⟨P, 5, none⟩ = some (.int .i64 (f1 : Int)) := by rw [hf1]; rw [hP.cell]; rfl
  have k6 : w.cell? ⟨P, 6, none⟩ = some (.int .i64 (a1 : Int)) := by rw [ha1]; rw [hP.cell]; rfl
  have k7 : w.cell? ⟨P, 7, none⟩ = some (.int .i64 (S.s1 : Int)) := by rw [hP.cell]; rfl
  have k8 : w.cell? ⟨P, 8, none⟩ = some (.int .i64 (S.m1 : Int)) := by rw [hP.cell]; rfl
  have k9 : w.cell? ⟨P, 9, none⟩ = some (.int .i64 (f2 : Int)) := by rw [hf2]; rw [hP.cell]; rfl
  have k10 : w.cell? ⟨P, 10, none⟩ = some (.int .i64 (a2 : Int)) := by rw [ha2]; rw [hP.cell]; rfl
  have k11 : w.cell? ⟨P, 11, none⟩ = some (.int .i64 (S.s2 : Int)) := by rw [hP.cell]; rfl
  have k12 : w.cell? ⟨P, 12, none⟩ = some (.int .i64 (S.m2 : Int)) := by rw [hP.cell]; rfl
  have g1 : ¬ (n : Int) < 1 := by omega
  have i0 := index_0
  have i1 := index_1
  have i2 := index_2
  have HK := Lib.hid (And.intro hPl (And.intro trivial k13))
  clear hP hS hf1 hf2 ha1 ha2 hn h0 he0 hU hu how hD
  have HP := Lib.hid hP0
  clear hP0
  go_enter Try.func24, Try.ntmps24
  go_wp2_with fail
  clear k1 k2 k3 k4 k5 k6 k7 k8 k9 k10 k11 k12 k13
  go_loopw [22] (fun i wx => (i = .int .i64 0) ∧ Hid (Fr F0 w wx)) (fun i _ => 4 - (intOf i).toNat)
  case atStart => exact ⟨rfl, Lib.hid (Fr.refl _ _)⟩
  case round =>
    obtain ⟨hi, HF⟩ := hrel
    have k13 := HF.out.held HK.out.2.2 (fun h => h)
    have hPl := HF.out.size
    have hPl2 : P < wr.heap.size := by have := HK.out.1; omega
    clear hPl
    subst hi
    go_wp2_with fail
    go_quiet (fail)
    go_wp2_with fail
    go_quiet (fail)
    go_wp2_with fail
    refine bodyPost_ret (results_5 rfl _) rfl ?_
    refine ⟨?_, ?_⟩
    · first | rfl | (simp; done) | (simp; omega)
    · refine HF.out.trans ?_
      repeat (first | exact Fr.refl _ _ | apply Fr.drewN | apply Fr.drew | apply Fr.alloc)

set_option maxHeartbeats 8000000 in
set_option maxRecDepth 100000 in
theorem where_1 (w : World) (P : Nat) (S : Shp) (base mp b t : Nat) (hP : PoolB w P S base mp b t) (hS : S.Ok) (hbase : base ≤ 100000) (n : Nat) (hn : 1 ≤ n) (hnb : n ≤ 9223372036854775807) (h0 : S.q0 ≤ n - 1) (h1 : n - 1 - S.q0 < S.q1) :
    Calls Try.prog 24 #[.pointer (some ⟨P, 0, none⟩), .int .i64 (n : Int)] w fun e w' => e = .returned (.tuple #[.int .i64 ((base + S.r0 + (n - 1 - S.q0) * S.s1 : Nat) : Int), .int .i64 (S.s1 : Int), .int .i64 (((n - 1 - S.q0) / S.m1 : Nat) : Int), .int .i64 1, .bool true]) ∧ Fr F0 w w' := by
  have hPl := hP.lt
  have hP0 := hP
  obtain ⟨hq0, hq1, hq2⟩ := hS.q
  obtain ⟨hr0, hr1, hr2⟩ := hS.r
  have hk2 := hS.k2
  have hm0 := hS.b0
  have hm1 := hS.b1
  have hm2 := hS.b2
  have hs0 := hS.a0.2
  have hs1 := hS.a1.2
  have hs2 := hS.a2.2
  have p0 : (S.m0 : Int) * (S.k : Int) = (S.q0 : Int) := by rw [Int.mul_comm, ← Int.natCast_mul]; rfl
  have p1 : (S.m1 : Int) * (S.k : Int) = (S.q1 : Int) := by rw [Int.mul_comm, ← Int.natCast_mul]; rfl
  have p2 : (S.m2 : Int) * (S.k : Int) = (S.q2 : Int) := by rw [Int.mul_comm, ← Int.natCast_mul]; rfl
  obtain ⟨f1, hf1⟩ : ∃ f1, f1 = 1 + S.q0 := ⟨_, rfl⟩
  obtain ⟨f2, hf2⟩ : ∃ f2, f2 = 1 + S.q0 + S.q1 := ⟨_, rfl⟩
  obtain ⟨a1, ha1⟩ : ∃ a1, a1 = base + S.r0 := ⟨_, rfl⟩
  obtain ⟨a2, ha2⟩ : ∃ a2, a2 = base + S.r0 + S.r1 := ⟨_, rfl⟩
  have hU := mul_bound (s := S.s1) h1
  have hD := div_bound (k := S.k) (m := S.m1) h1
  obtain ⟨u, hu⟩ : ∃ u, u = (n - 1 - S.q0) * S.s1 := ⟨_, rfl⟩
  obtain ⟨ow, how⟩ : ∃ ow, ow = (n - 1 - S.q0) / S.m1 := ⟨_, rfl⟩
  rw [← hu, ← how]
  rw [← hu] at hU
  rw [← how] at hD
  have hub : u ≤ 4096000 := by
    have : S.q1 * S.s1 = S.r1 := rfl
    omega
  rw [← ha1]
  obtain ⟨e0, he0⟩ : ∃ e0, e0 = n - 1 := ⟨_, rfl⟩
  obtain ⟨e1, he1⟩ : ∃ e1, e1 = n - 1 - S.q0 := ⟨_, rfl⟩
  have pu : (e1 : Int) * (S.s1 : Int) = (u : Int) := by rw [hu, he1, Int.natCast_mul]
  have pd : (e1 : Int).tdiv (S.m1 : Int) = (ow : Int) := by rw [how, he1]; rfl
  have pz : ¬ (S.m1 : Int) = 0 := by omega
  have pz2 : ¬ S.m1 = 0 := by omega
  have pw : IntKind.i64.wrap (ow : Int) = (ow : Int) := IntWalk.i64_in _ (by omega)
  have xu : IntKind.i64.wrap ((e1 : Int) * (S.s1 : Int)) = (u : Int) := (IntWalk.i64_in _ (by omega)).trans pu
  have xs : IntKind.i64.wrap ((a1 : Int) + (u : Int)) = (a1 : Int) + (u : Int) := IntWalk.i64_in _ (by omega)
  have v0 : (n : Int) - 1 = (e0 : Int) := by omega
  have y0 : IntKind.i64.wrap ((n : Int) - 1) = (e0 : Int) := (IntWalk.i64_in _ (by omega)).trans v0
  have x0 : IntKind.i64.wrap ((S.m0 : Int) * (S.k : Int)) = (S.q0 : Int) := (IntWalk.i64_in _ (by omega)).trans p0
  have z0 : ¬ (e0 : Int) < (S.q0 : Int) := by omega
  have v1 : (n : Int) - (f1 : Int) = (e1 : Int) := by omega
  have y1 : IntKind.i64.wrap ((n : Int) - (f1 : Int)) = (e1 : Int) := (IntWalk.i64_in _ (by omega)).trans v1
  have x1 : IntKind.i64.wrap ((S.m1 : Int) * (S.k : Int)) = (S.q1 : Int) := (IntWalk.i64_in _ (by omega)).trans p1
  have z1 : (e1 : Int) < (S.q1 : Int) := by omega
  have k13 : w.cell? ⟨P, 13, none⟩ = some (.slice (some ⟨b, 0, none⟩) S.k S.k) := by rw [hP.cell]; rfl
  have k1 : w.cell? ⟨P, 1, none⟩ = some (.int .i64 1) := by rw [hP.cell]; rfl
  have k2 : w.cell? ⟨P, 2, none⟩ = some (.int .i64 (base : Int)) := by rw [hP.cell]; rfl
  have k3 : w.cell? ⟨P, 3, none⟩ = some (.int .i64 (S.s0 : Int)) := by rw [hP.cell]; rfl
  have k4 : w.cell? ⟨P, 4, none⟩ = some (.int .i64 (S.m0 : Int)) := by rw [hP.cell]; rfl
  have k5 : w.cell? ⟨P, 5, none⟩ = some (.int .i64 (f1 : Int)) := by rw [hf1]; rw [hP.cell]; rfl
  have k6 : w.cell? ⟨P, 6, none⟩ = some (.int .i64 (a1 : Int)) := by rw [ha1]; rw [hP.cell]; rfl
  have k7 : w.cell? ⟨P, 7, none⟩ = some (.int .i64 (S.s1 : Int)) := by rw [hP.cell]; rfl
  have k8 : w.cell? ⟨P, 8, none⟩ = some (.int .i64 (S.m1 : Int)) := by rw [hP.cell]; rfl
  have k9 : w.cell? ⟨P, 9, none⟩ = some (.int .i64 (f2 : Int)) := by rw [hf2]; rw [hP.cell]; rfl
  have k10 : w.cell? ⟨P, 10, none⟩ = some (.int .i64 (a2 : Int)) := by rw [ha2]; rw [hP.cell]; rfl
  have k11 : w.cell? ⟨P, 11, none⟩ = some (.int .i64 (S.s2 : Int)) := by rw [hP.cell]; rfl
  have k12 : w.cell? ⟨P, 12, none⟩ = some (.int .i64 (S.m2 : Int)) := by rw [hP.cell]; rfl
  have g1 : ¬ (n : Int) < 1 := by omega
  have i0 := index_0
  have i1 := index_1
  have i2 := index_2
  have HK := Lib.hid (And.intro hPl (And.intro trivial k13))
  clear hP hS hf1 hf2 ha1 ha2 hn h0 h1 he0 he1 hU hu how hD
  have HP := Lib.hid hP0
  clear hP0
  go_enter Try.func24, Try.ntmps24
  go_wp2_with fail
  clear k1 k2 k3 k4 k5 k6 k7 k8 k9 k10 k11 k12 k13
  go_loopw [22] (fun i wx => (i = .int .i64 0 ∨ i = .int .i64 1) ∧ Hid (Fr F0 w wx)) (fun i _ => 4 - (intOf i).toNat)
  case atStart => exact ⟨.inl rfl, Lib.hid (Fr.refl _ _)⟩
  case round =>
    obtain ⟨hi, HF⟩ := hrel
    have k13 := HF.out.held HK.out.2.2 (fun h => h)
    have hPl := HF.out.size
    have hPl2 : P < wr.heap.size := by have := HK.out.1; omega
    clear hPl
    rcases hi with rfl | rfl
    · go_wp2_with fail
      go_quiet (fail)
      go_wp2_with fail
      refine ⟨⟨.inr rfl, Lib.hid ?_⟩, by simp [intOf]⟩
      refine HF.out.trans ?_
      repeat (first | exact Fr.refl _ _ | apply Fr.drewN | apply Fr.drew | apply Fr.alloc)
    · go_wp2_with fail
      go_quiet (fail)
      go_wp2_with fail
      go_quiet (fail)
      go_wp2_with fail
      refine bodyPost_ret (results_5 rfl _) rfl ?_
      refine ⟨?_, ?_⟩
      · first | rfl | (simp; done) | (simp; omega)
      · refine HF.out.trans ?_
        repeat (first | exact Fr.refl _ _ | apply Fr.drewN | apply Fr.drew | apply Fr.alloc)

set_option maxHeartbeats 8000000 in
set_option maxRecDepth 100000 in
theorem where_2 (w : World) (P : Nat) (S : Shp) (base mp b t : Nat) (hP : PoolB w P S base mp b t) (hS : S.Ok) (hbase : base ≤ 100000) (n : Nat) (hn : 1 ≤ n) (hnb : n ≤ 9223372036854775807) (h0 : S.q0 ≤ n - 1) (h1 : S.q1 ≤ n - 1 - S.q0) (h2 : n - 1 - S.q0 - S.q1 < S.q2) :
    Calls Try.prog 24 #[.pointer (some ⟨P, 0, none⟩), .int .i64 (n : Int)] w fun e w' => e = .returned (.tuple #[.int .i64 ((base + S.r0 + S.r1 + (n - 1 - S.q0 - S.q1) * S.s2 : Nat) : Int), .int .i64 (S.s2 : Int), .int .i64 (((n - 1 - S.q0 - S.q1) / S.m2 : Nat) : Int), .int .i64 2, .bool true]) ∧ Fr F0 w w' := by
  have hPl := hP.lt
  have hP0 := hP
  obtain ⟨hq0, hq1, hq2⟩ := hS.q
  obtain ⟨hr0, hr1, hr2⟩ := hS.r
  have hk2 := hS.k2
  have hm0 := hS.b0
  have hm1 := hS.b1
  have hm2 := hS.b2
  have hs0 := hS.a0.2
  have hs1 := hS.a1.2
  have hs2 := hS.a2.2
  have p0 : (S.m0 : Int) * (S.k : Int) = (S.q0 : Int) := by rw [Int.mul_comm, ← Int.natCast_mul]; rfl
  have p1 : (S.m1 : Int) * (S.k : Int) = (S.q1 : Int) := by rw [Int.mul_comm, ← Int.natCast_mul]; rfl
  have p2 : (S.m2 : Int) * (S.k : Int) = (S.q2 : Int) := by rw [Int.mul_comm, ← Int.natCast_mul]; rfl
  obtain ⟨f1, hf1⟩ : ∃ f1, f1 = 1 + S.q0 := ⟨_, rfl⟩
  obtain ⟨f2, hf2⟩ : ∃ f2, f2 = 1 + S.q0 + S.q1 := ⟨_, rfl⟩
  obtain ⟨a1, ha1⟩ : ∃ a1, a1 = base + S.r0 := ⟨_, rfl⟩
  obtain ⟨a2, ha2⟩ : ∃ a2, a2 = base + S.r0 + S.r1 := ⟨_, rfl⟩
  have hU := mul_bound (s := S.s2) h2
  have hD := div_bound (k := S.k) (m := S.m2) h2
  obtain ⟨u, hu⟩ : ∃ u, u = (n - 1 - S.q0 - S.q1) * S.s2 := ⟨_, rfl⟩
  obtain ⟨ow, how⟩ : ∃ ow, ow = (n - 1 - S.q0 - S.q1) / S.m2 := ⟨_, rfl⟩
  rw [← hu, ← how]
  rw [← hu] at hU
  rw [← how] at hD
  have hub : u ≤ 4096000 := by
    have : S.q2 * S.s2 = S.r2 := rfl
    omega
  rw [← ha2]
  obtain ⟨e0, he0⟩ : ∃ e0, e0 = n - 1 := ⟨_, rfl⟩
  obtain ⟨e1, he1⟩ : ∃ e1, e1 = n - 1 - S.q0 := ⟨_, rfl⟩
  obtain ⟨e2, he2⟩ : ∃ e2, e2 = n - 1 - S.q0 - S.q1 := ⟨_, rfl⟩
  have pu : (e2 : Int) * (S.s2 : Int) = (u : Int) := by rw [hu, he2, Int.natCast_mul]
  have pd : (e2 : Int).tdiv (S.m2 : Int) = (ow : Int) := by rw [how, he2]; rfl
  have pz : ¬ (S.m2 : Int) = 0 := by omega
  have pz2 : ¬ S.m2 = 0 := by omega
  have pw : IntKind.i64.wrap (ow : Int) = (ow : Int) := IntWalk.i64_in _ (by omega)
  have xu : IntKind.i64.wrap ((e2 : Int) * (S.s2 : Int)) = (u : Int) := (IntWalk.i64_in _ (by omega)).trans pu
  have xs : IntKind.i64.wrap ((a2 : Int) + (u : Int)) = (a2 : Int) + (u : Int) := IntWalk.i64_in _ (by omega)
  have v0 : (n : Int) - 1 = (e0 : Int) := by omega
  have y0 : IntKind.i64.wrap ((n : Int) - 1) = (e0 : Int) := (IntWalk.i64_in _ (by omega)).trans v0
  have x0 : IntKind.i64.wrap ((S.m0 : Int) * (S.k : Int)) = (S.q0 : Int) := (IntWalk.i64_in _ (by omega)).trans p0
  have z0 : ¬ (e0 : Int) < (S.q0 : Int) := by omega
  have v1 : (n : Int) - (f1 : Int) = (e1 : Int) := by omega
  have y1 : IntKind.i64.wrap ((n : Int) - (f1 : Int)) = (e1 : Int) := (IntWalk.i64_in _ (by omega)).trans v1
  have x1 : IntKind.i64.wrap ((S.m1 : Int) * (S.k : Int)) = (S.q1 : Int) := (IntWalk.i64_in _ (by omega)).trans p1
  have z1 : ¬ (e1 : Int) < (S.q1 : Int) := by omega
  have v2 : (n : Int) - (f2 : Int) = (e2 : Int) := by omega
  have y2 : IntKind.i64.wrap ((n : Int) - (f2 : Int)) = (e2 : Int) := (IntWalk.i64_in _ (by omega)).trans v2
  have x2 : IntKind.i64.wrap ((S.m2 : Int) * (S.k : Int)) = (S.q2 : Int) := (IntWalk.i64_in _ (by omega)).trans p2
  have z2 : (e2 : Int) < (S.q2 : Int) := by omega
  have k13 : w.cell? ⟨P, 13, none⟩ = some (.slice (some ⟨b, 0, none⟩) S.k S.k) := by rw [hP.cell]; rfl
  have k1 : w.cell? ⟨P, 1, none⟩ = some (.int .i64 1) := by rw [hP.cell]; rfl
  have k2 : w.cell? ⟨P, 2, none⟩ = some (.int .i64 (base : Int)) := by rw [hP.cell]; rfl
  have k3 : w.cell? ⟨P, 3, none⟩ = some (.int .i64 (S.s0 : Int)) := by rw [hP.cell]; rfl
  have k4 : w.cell? ⟨P, 4, none⟩ = some (.int .i64 (S.m0 : Int)) := by rw [hP.cell]; rfl
  have k5 : w.cell? ⟨P, 5, none⟩ = some (.int .i64 (f1 : Int)) := by rw [hf1]; rw [hP.cell]; rfl
  have k6 : w.cell? ⟨P, 6, none⟩ = some (.int .i64 (a1 : Int)) := by rw [ha1]; rw [hP.cell]; rfl
  have k7 : w.cell? ⟨P, 7, none⟩ = some (.int .i64 (S.s1 : Int)) := by rw [hP.cell]; rfl
  have k8 : w.cell? ⟨P, 8, none⟩ = some (.int .i64 (S.m1 : Int)) := by rw [hP.cell]; rfl
  have k9 : w.cell? ⟨P, 9, none⟩ = some (.int .i64 (f2 : Int)) := by rw [hf2]; rw [hP.cell]; rfl
  have k10 : w.cell? ⟨P, 10, none⟩ = some (.int .i64 (a2 : Int)) := by rw [ha2]; rw [hP.cell]; rfl
  have k11 : w.cell? ⟨P, 11, none⟩ = some (.int .i64 (S.s2 : Int)) := by rw [hP.cell]; rfl
  have k12 : w.cell? ⟨P, 12, none⟩ = some (.int .i64 (S.m2 : Int)) := by rw [hP.cell]; rfl
  have g1 : ¬ (n : Int) < 1 := by omega
  have i0 := index_0
  have i1 := index_1
  have i2 := index_2
  have HK := Lib.hid (And.intro hPl (And.intro trivial k13))
  clear hP hS hf1 hf2 ha1 ha2 hn h0 h1 h2 he0 he1 he2 hU hu how hD
  have HP := Lib.hid hP0
  clear hP0
  go_enter Try.func24, Try.ntmps24
  go_wp2_with fail
  clear k1 k2 k3 k4 k5 k6 k7 k8 k9 k10 k11 k12 k13
  go_loopw [22] (fun i wx => (i = .int .i64 0 ∨ i = .int .i64 1 ∨ i = .int .i64 2) ∧ Hid (Fr F0 w wx)) (fun i _ => 4 - (intOf i).toNat)
  case atStart => exact ⟨.inl rfl, Lib.hid (Fr.refl _ _)⟩
  case round =>
    obtain ⟨hi, HF⟩ := hrel
    have k13 := HF.out.held HK.out.2.2 (fun h => h)
    have hPl := HF.out.size
    have hPl2 : P < wr.heap.size := by have := HK.out.1; omega
    clear hPl
    rcases hi with rfl | rfl | rfl
    · go_wp2_with fail
      go_quiet (fail)
      go_wp2_with fail
      refine ⟨⟨.inr (.inl rfl), Lib.hid ?_⟩, by simp [intOf]⟩
      refine HF.out.trans ?_
      repeat (first | exact Fr.refl _ _ | apply Fr.drewN | apply Fr.drew | apply Fr.alloc)
    · go_wp2_with fail
      go_quiet (fail)
      go_wp2_with fail
      refine ⟨⟨.inr (.inr rfl), Lib.hid ?_⟩, by simp [intOf]⟩
      refine HF.out.trans ?_
      repeat (first | exact Fr.refl _ _ | apply Fr.drewN | apply Fr.drew | apply Fr.alloc)
    · go_wp2_with fail
      go_quiet (fail)
      go_wp2_with fail
      go_quiet (fail)
      go_wp2_with fail
      refine bodyPost_ret (results_5 rfl _) rfl ?_
      refine ⟨?_, ?_⟩
      · first | rfl | (simp; done) | (simp; omega)
      · refine HF.out.trans ?_
        repeat (first | exact Fr.refl _ _ | apply Fr.drewN | apply Fr.drew | apply Fr.alloc)

set_option maxHeartbeats 8000000 in
set_option maxRecDepth 100000 in
theorem where_3 (w : World) (P : Nat) (S : Shp) (base mp b t : Nat) (hP : PoolB w P S base mp b t) (hS : S.Ok) (_hbase : base ≤ 100000) (n : Nat) (hn : 1 ≤ n) (hnb : n ≤ 9223372036854775807) (h0 : S.q0 ≤ n - 1) (h1 : S.q1 ≤ n - 1 - S.q0) (h2 : S.q2 ≤ n - 1 - S.q0 - S.q1) :
    Calls Try.prog 24 #[.pointer (some ⟨P, 0, none⟩), .int .i64 (n : Int)] w fun e w' => e = .returned (.tuple #[.int .i64 0, .int .i64 0, .int .i64 0, .int .i64 0, .bool false]) ∧ Fr F0 w w' := by
  have hPl := hP.lt
  have hP0 := hP
  obtain ⟨hq0, hq1, hq2⟩ := hS.q
  obtain ⟨hr0, hr1, hr2⟩ := hS.r
  have hk2 := hS.k2
  have hm0 := hS.b0
  have hm1 := hS.b1
  have hm2 := hS.b2
  have hs0 := hS.a0.2
  have hs1 := hS.a1.2
  have hs2 := hS.a2.2
  have p0 : (S.m0 : Int) * (S.k : Int) = (S.q0 : Int) := by rw [Int.mul_comm, ← Int.natCast_mul]; rfl
  have p1 : (S.m1 : Int) * (S.k : Int) = (S.q1 : Int) := by rw [Int.mul_comm, ← Int.natCast_mul]; rfl
  have p2 : (S.m2 : Int) * (S.k : Int) = (S.q2 : Int) := by rw [Int.mul_comm, ← Int.natCast_mul]; rfl
  obtain ⟨f1, hf1⟩ : ∃ f1, f1 = 1 + S.q0 := ⟨_, rfl⟩
  obtain ⟨f2, hf2⟩ : ∃ f2, f2 = 1 + S.q0 + S.q1 := ⟨_, rfl⟩
  obtain ⟨a1, ha1⟩ : ∃ a1, a1 = base + S.r0 := ⟨_, rfl⟩
  obtain ⟨a2, ha2⟩ : ∃ a2, a2 = base + S.r0 + S.r1 := ⟨_, rfl⟩
  obtain ⟨e0, he0⟩ : ∃ e0, e0 = n - 1 := ⟨_, rfl⟩
  obtain ⟨e1, he1⟩ : ∃ e1, e1 = n - 1 - S.q0 := ⟨_, rfl⟩
  obtain ⟨e2, he2⟩ : ∃ e2, e2 = n - 1 - S.q0 - S.q1 := ⟨_, rfl⟩
  have v0 : (n : Int) - 1 = (e0 : Int) := by omega
  have y0 : IntKind.i64.wrap ((n : Int) - 1) = (e0 : Int) := (IntWalk.i64_in _ (by omega)).trans v0
  have x0 : IntKind.i64.wrap ((S.m0 : Int) * (S.k : Int)) = (S.q0 : Int) := (IntWalk.i64_in _ (by omega)).trans p0
  have z0 : ¬ (e0 : Int) < (S.q0 : Int) := by omega
  have v1 : (n : Int) - (f1 : Int) = (e1 : Int) := by omega
  have y1 : IntKind.i64.wrap ((n : Int) - (f1 : Int)) = (e1 : Int) := (IntWalk.i64_in _ (by omega)).trans v1
  have x1 : IntKind.i64.wrap ((S.m1 : Int) * (S.k : Int)) = (S.q1 : Int) := (IntWalk.i64_in _ (by omega)).trans p1
  have z1 : ¬ (e1 : Int) < (S.q1 : Int) := by omega
  have v2 : (n : Int) - (f2 : Int) = (e2 : Int) := by omega
  have y2 : IntKind.i64.wrap ((n : Int) - (f2 : Int)) = (e2 : Int) := (IntWalk.i64_in _ (by omega)).trans v2
  have x2 : IntKind.i64.wrap ((S.m2 : Int) * (S.k : Int)) = (S.q2 : Int) := (IntWalk.i64_in _ (by omega)).trans p2
  have z2 : ¬ (e2 : Int) < (S.q2 : Int) := by omega
  have k13 : w.cell? ⟨P, 13, none⟩ = some (.slice (some ⟨b, 0, none⟩) S.k S.k) := by rw [hP.cell]; rfl
  have k1 : w.cell? ⟨P, 1, none⟩ = some (.int .i64 1) := by rw [hP.cell]; rfl
  have k2 : w.cell? ⟨P, 2, none⟩ = some (.int .i64 (base : Int)) := by rw [hP.cell]; rfl
  have k3 : w.cell? ⟨P, 3, none⟩ = some (.int .i64 (S.s0 : Int)) := by rw [hP.cell]; rfl
  have k4 : w.cell? ⟨P, 4, none⟩ = some (.int .i64 (S.m0 : Int)) := by rw [hP.cell]; rfl
  have k5 : w.cell? ⟨P, 5, none⟩ = some (.int .i64 (f1 : Int)) := by rw [hf1]; rw [hP.cell]; rfl
  have k6 : w.cell? ⟨P, 6, none⟩ = some (.int .i64 (a1 : Int)) := by rw [ha1]; rw [hP.cell]; rfl
  have k7 : w.cell? ⟨P, 7, none⟩ = some (.int .i64 (S.s1 : Int)) := by rw [hP.cell]; rfl
  have k8 : w.cell? ⟨P, 8, none⟩ = some (.int .i64 (S.m1 : Int)) := by rw [hP.cell]; rfl
  have k9 : w.cell? ⟨P, 9, none⟩ = some (.int .i64 (f2 : Int)) := by rw [hf2]; rw [hP.cell]; rfl
  have k10 : w.cell? ⟨P, 10, none⟩ = some (.int .i64 (a2 : Int)) := by rw [ha2]; rw [hP.cell]; rfl
  have k11 : w.cell? ⟨P, 11, none⟩ = some (.int .i64 (S.s2 : Int)) := by rw [hP.cell]; rfl
  have k12 : w.cell? ⟨P, 12, none⟩ = some (.int .i64 (S.m2 : Int)) := by rw [hP.cell]; rfl
  have g1 : ¬ (n : Int) < 1 := by omega
  have i0 := index_0
  have i1 := index_1
  have i2 := index_2
  have HK := Lib.hid (And.intro hPl (And.intro trivial k13))
  clear hP hS hf1 hf2 ha1 ha2 hn h0 h1 h2 he0 he1 he2
  have HP := Lib.hid hP0
  clear hP0
  go_enter Try.func24, Try.ntmps24
  go_wp2_with fail
  clear k1 k2 k3 k4 k5 k6 k7 k8 k9 k10 k11 k12 k13
  go_loopw [22] (fun i wx => (i = .int .i64 0 ∨ i = .int .i64 1 ∨ i = .int .i64 2 ∨ i = .int .i64 3) ∧ Hid (Fr F0 w wx)) (fun i _ => 4 - (intOf i).toNat)
  case atStart => exact ⟨.inl rfl, Lib.hid (Fr.refl _ _)⟩
  case round =>
    obtain ⟨hi, HF⟩ := hrel
    have k13 := HF.out.held HK.out.2.2 (fun h => h)
    have hPl := HF.out.size
    have hPl2 : P < wr.heap.size := by have := HK.out.1; omega
    clear hPl
    rcases hi with rfl | rfl | rfl | rfl
    · go_wp2_with fail
      go_quiet (fail)
      go_wp2_with fail
      refine ⟨⟨.inr (.inl rfl), Lib.hid ?_⟩, by simp [intOf]⟩
      refine HF.out.trans ?_
      repeat (first | exact Fr.refl _ _ | apply Fr.drewN | apply Fr.drew | apply Fr.alloc)
    · go_wp2_with fail
      go_quiet (fail)
      go_wp2_with fail
      refine ⟨⟨.inr (.inr (.inl rfl)), Lib.hid ?_⟩, by simp [intOf]⟩
      refine HF.out.trans ?_
      repeat (first | exact Fr.refl _ _ | apply Fr.drewN | apply Fr.drew | apply Fr.alloc)
    · go_wp2_with fail
      go_quiet (fail)
      go_wp2_with fail
      refine ⟨⟨.inr (.inr (.inr rfl)), Lib.hid ?_⟩, by simp [intOf]⟩
      refine HF.out.trans ?_
      repeat (first | exact Fr.refl _ _ | apply Fr.drewN | apply Fr.drew | apply Fr.alloc)
    · go_wp2_with fail
      refine bodyPost_ret (results_5 rfl _) rfl ?_
      refine ⟨?_, ?_⟩
      · first | rfl | (simp; done) | (simp; omega)
      · refine HF.out.trans ?_
        repeat (first | exact Fr.refl _ _ | apply Fr.drewN | apply Fr.drew | apply Fr.alloc)

end Go.Proofs.Ytichhieopnbgpaa
