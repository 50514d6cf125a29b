/-
  Package pool: what asks whether a worker misses a block. No condition.
-/
import Derived.Test.YtichhieopnbgpaaP16
namespace Go.Proofs.Ytichhieopnbgpaa
open Go.RowKit

set_option maxHeartbeats 8000000 in
set_option maxRecDepth 100000 in
theorem misses_any (w : World) (P : Nat) (S : Shp) (base mp b t : Nat) (hP : PoolB w P S base mp b t) (c : Nat) (hc : w.cell? ⟨c, 0, none⟩ = some (.pointer (some ⟨P, 0, none⟩))) (A0 A1 A2 : Option Addr) (c0 c1 c2 n0 n1 n2 : Nat) (v3 : Value) :
    Calls Try.prog 49 #[.agg #[.slice A0 n0 c0, .slice A1 n1 c1, .slice A2 n2 c2, v3], .pointer (some ⟨c, 0, none⟩)] w fun e w' => e = .returned (.bool (decide (n0 ≠ S.m0) || decide (n1 ≠ S.m1) || decide (n2 ≠ S.m2))) ∧ Fr F0 w w' := by
  have hcl : c < w.heap.size := cell_lt hc
  have hPl := hP.lt
  have k1 : w.cell? ⟨P, 1, none⟩ = some (.int .i64 1) := by rw [hP.cell]; rfl
  have k2 : w.cell? ⟨P, 2, none⟩ = some (.int .i64 (base : Int)) := by rw [hP.cell]; rfl
  have k3 : w.cell? ⟨P, 3, none⟩ = some (.int .i64 (S.s0 : Int)) := by rw [hP.cell]; rfl
  have k4 : w.cell? ⟨P, 4, none⟩ = some (.int .i64 (S.m0 : Int)) := by rw [hP.cell]; rfl
  have k5 : w.cell? ⟨P, 5, none⟩ = some (.int .i64 ((1 + S.q0 : Nat) : Int)) := by rw [hP.cell]; rfl
  have k6 : w.cell? ⟨P, 6, none⟩ = some (.int .i64 ((base + S.r0 : Nat) : Int)) := by rw [hP.cell]; rfl
  have k7 : w.cell? ⟨P, 7, none⟩ = some (.int .i64 (S.s1 : Int)) := by rw [hP.cell]; rfl
  have k8 : w.cell? ⟨P, 8, none⟩ = some (.int .i64 (S.m1 : Int)) := by rw [hP.cell]; rfl
  have k9 : w.cell? ⟨P, 9, none⟩ = some (.int .i64 ((1 + S.q0 + S.q1 : Nat) : Int)) := by rw [hP.cell]; rfl
  have k10 : w.cell? ⟨P, 10, none⟩ = some (.int .i64 ((base + S.r0 + S.r1 : Nat) : Int)) := by rw [hP.cell]; rfl
  have k11 : w.cell? ⟨P, 11, none⟩ = some (.int .i64 (S.s2 : Int)) := by rw [hP.cell]; rfl
  have k12 : w.cell? ⟨P, 12, none⟩ = some (.int .i64 (S.m2 : Int)) := by rw [hP.cell]; rfl
  have i0 := index_0
  have i1 := index_1
  have i2 := index_2
  obtain ⟨R, hR⟩ : ∃ R, R = (decide (n0 ≠ S.m0) || decide (n1 ≠ S.m1) || decide (n2 ≠ S.m2)) := ⟨_, rfl⟩
  rw [← hR]
  have HR := Lib.hid hR
  have HFA : Hid (Fr F0 w (w.alloc (.cells #[.slice A0 n0 c0, .slice A1 n1 c1, .slice A2 n2 c2, v3] 79))) := (Fr.refl _ _).alloc _
  have HBA : Hid (Blk (w.alloc (.cells #[.slice A0 n0 c0, .slice A1 n1 c1, .slice A2 n2 c2, v3] 79)) w.heap.size 79 #[.slice A0 n0 c0, .slice A1 n1 c1, .slice A2 n2 c2, v3]) := Blk.new _ _ _
  clear hR hP
  go_enter Try.func49, Try.ntmps49
  go_wp2_with fail
  clear k1 k2 k3 k4 k5 k6 k7 k8 k9 k10 k11 k12
  go_loopw [10] (fun iv wx => ((iv = .int .i64 0 ∧ Hid True) ∨ (iv = .int .i64 1 ∧ Hid (n0 = S.m0)) ∨ (iv = .int .i64 2 ∧ Hid (n0 = S.m0 ∧ n1 = S.m1)) ∨ (iv = .int .i64 3 ∧ Hid (n0 = S.m0 ∧ n1 = S.m1 ∧ n2 = S.m2))) ∧ Hid (Fr F0 w wx) ∧ Hid (Blk wx w.heap.size 79 #[.slice A0 n0 c0, .slice A1 n1 c1, .slice A2 n2 c2, v3])) (fun iv _ => 4 - (intOf iv).toNat)
  case atStart => exact ⟨.inl ⟨rfl, trivial⟩, HFA, HBA⟩
  case round =>
    obtain ⟨hi, HF, HB⟩ := hrel
    rcases hi with ⟨rfl, HH⟩ | ⟨rfl, HH⟩ | ⟨rfl, HH⟩ | ⟨rfl, HH⟩
    · have q0 : wr.cell? ⟨w.heap.size, 0, none⟩ = some (.slice A0 n0 c0) := by rw [HB.out.cell]; rfl
      have hzl := HB.out.lt
      by_cases h : n0 = S.m0
      · have g : (n0 : Int) = (S.m0 : Int) := by omega
        have g2 : ((n0 : Int) != (S.m0 : Int)) = false := bne_eq_false_iff_eq.2 g
        have HH2 := Lib.hid (show (n0 = S.m0) from h)
        clear h
        go_wp2_with fail
        go_quiet (fail)
        go_wp2_with fail
        refine ⟨⟨.inr (.inl ⟨rfl, HH2⟩), Lib.hid (HF.out.trans ?_), Lib.hid (HB.out.fr (B := F0) ?_ (fun h => h))⟩, by simp [intOf]⟩ <;> (repeat (first | exact Fr.refl _ _ | apply Fr.drewN | apply Fr.drew | apply Fr.alloc))
      · have g : ¬ (n0 : Int) = (S.m0 : Int) := by omega
        have g2 : ((n0 : Int) != (S.m0 : Int)) = true := bne_iff_ne.2 g
        have HV : Hid (R = true) := Lib.hid (by rw [HR.out]; simp [h])
        clear h
        go_wp2_with fail
        go_quiet (fail)
        go_wp2_with fail
        go_ret
        refine ⟨by rw [HV.out]; rfl, HF.out.trans ?_⟩
        repeat (first | exact Fr.refl _ _ | apply Fr.drewN | apply Fr.drew | apply Fr.alloc)
    · have q1 : wr.cell? ⟨w.heap.size, 1, none⟩ = some (.slice A1 n1 c1) := by rw [HB.out.cell]; rfl
      have hzl := HB.out.lt
      by_cases h : n1 = S.m1
      · have g : (n1 : Int) = (S.m1 : Int) := by omega
        have g2 : ((n1 : Int) != (S.m1 : Int)) = false := bne_eq_false_iff_eq.2 g
        have HH2 := Lib.hid (show (n0 = S.m0 ∧ n1 = S.m1) from ⟨HH.out, h⟩)
        clear h
        go_wp2_with fail
        go_quiet (fail)
        go_wp2_with fail
        refine ⟨⟨.inr (.inr (.inl ⟨rfl, HH2⟩)), Lib.hid (HF.out.trans ?_), Lib.hid (HB.out.fr (B := F0) ?_ (fun h => h))⟩, by simp [intOf]⟩ <;> (repeat (first | exact Fr.refl _ _ | apply Fr.drewN | apply Fr.drew | apply Fr.alloc))
      · have g : ¬ (n1 : Int) = (S.m1 : Int) := by omega
        have g2 : ((n1 : Int) != (S.m1 : Int)) = true := bne_iff_ne.2 g
        have HV : Hid (R = true) := Lib.hid (by rw [HR.out]; simp [h])
        clear h
        go_wp2_with fail
        go_quiet (fail)
        go_wp2_with fail
        go_ret
        refine ⟨by rw [HV.out]; rfl, HF.out.trans ?_⟩
        repeat (first | exact Fr.refl _ _ | apply Fr.drewN | apply Fr.drew | apply Fr.alloc)
    · have q2 : wr.cell? ⟨w.heap.size, 2, none⟩ = some (.slice A2 n2 c2) := by rw [HB.out.cell]; rfl
      have hzl := HB.out.lt
      by_cases h : n2 = S.m2
      · have g : (n2 : Int) = (S.m2 : Int) := by omega
        have g2 : ((n2 : Int) != (S.m2 : Int)) = false := bne_eq_false_iff_eq.2 g
        have HH2 := Lib.hid (show (n0 = S.m0 ∧ n1 = S.m1 ∧ n2 = S.m2) from ⟨HH.out.1, HH.out.2, h⟩)
        clear h
        go_wp2_with fail
        go_quiet (fail)
        go_wp2_with fail
        refine ⟨⟨.inr (.inr (.inr ⟨rfl, HH2⟩)), Lib.hid (HF.out.trans ?_), Lib.hid (HB.out.fr (B := F0) ?_ (fun h => h))⟩, by simp [intOf]⟩ <;> (repeat (first | exact Fr.refl _ _ | apply Fr.drewN | apply Fr.drew | apply Fr.alloc))
      · have g : ¬ (n2 : Int) = (S.m2 : Int) := by omega
        have g2 : ((n2 : Int) != (S.m2 : Int)) = true := bne_iff_ne.2 g
        have HV : Hid (R = true) := Lib.hid (by rw [HR.out]; simp [h])
        clear h
        go_wp2_with fail
        go_quiet (fail)
        go_wp2_with fail
        go_ret
        refine ⟨by rw [HV.out]; rfl, HF.out.trans ?_⟩
        repeat (first | exact Fr.refl _ _ | apply Fr.drewN | apply Fr.drew | apply Fr.alloc)
    · have HV : Hid (R = false) := Lib.hid (by rw [HR.out, HH.out.1, HH.out.2.1, HH.out.2.2]; simp)
      go_wp2_with fail
      go_ret
      exact ⟨by rw [HV.out]; rfl, HF.out⟩
end Go.Proofs.Ytichhieopnbgpaa
