/-
  Package pool: Home. No condition.
-/
import Derived.Test.YtichhieopnbgpaaP17
namespace Go.Proofs.Ytichhieopnbgpaa
open Go.RowKit

/-- Worker i misses a block. -/
def missAt (S : Shp) (ls : List (List Nat)) (i : Nat) : Bool := decide ((ls.getD (i * 4) []).length ≠ S.m0) || decide ((ls.getD (i * 4 + 1) []).length ≠ S.m1) || decide ((ls.getD (i * 4 + 2) []).length ≠ S.m2)
def missL (S : Shp) (ls : List (List Nat)) : Bool := (List.range S.k).any (missAt S ls)

set_option maxHeartbeats 8000000 in
set_option maxRecDepth 100000 in
theorem hidx_any (w : World) (x P mp ms b t : Nat) (S : Shp) (base : Nat) (st : Int) (vs : List Value) (ls : List (List Nat)) (tk : List Bool) (ws : List (Bool × Int)) (h : PR w x P mp ms b t S base st vs ls tk ws) (c : Nat) (hc : w.cell? ⟨c, 0, none⟩ = some (.pointer (some ⟨P, 0, none⟩))) :
    Calls Try.prog 53 #[.slice (some ⟨b, 0, none⟩) S.k S.k, .func (.func 49) #[] #[.pointer (some ⟨c, 0, none⟩)]] w fun e w' => ∃ r : Int, e = .returned (.int .i64 r) ∧ decide (0 ≤ r) = missL S ls ∧ Fr F0 w w' := by
  obtain ⟨n, hnn⟩ : ∃ n, n = S.k := ⟨_, rfl⟩
  have hn : n ≤ 64 := by rw [hnn]; exact h.hS.k2
  rw [← hnn]
  have HH := Lib.hid h
  have HC := Lib.hid hc
  have HNN := Lib.hid hnn
  clear h hc hnn
  go_enter Try.func53, Try.ntmps53
  go_wp2_with fail
  go_loopw [8] (fun i wx => ∃ k : Nat, k ≤ n ∧ i = .int .i64 (k : Int) ∧ Hid (∀ j, j < k → missAt S ls j = false) ∧ Hid (Fr F0 w wx)) (fun i _ => n - (intOf i).toNat)
  case atStart => exact ⟨0, by omega, rfl, Lib.hid (fun j hj => by omega), Lib.hid (Fr.refl _ _)⟩
  case round =>
    obtain ⟨k, hkn, rfl, HA, HF⟩ := hrel
    by_cases hk : k < n
    · have g1 : (k : Int) < (n : Int) := by omega
      have HP := Lib.hid (HH.out.f0 HF.out)
      have hvl : vs.length = 4 * n := by rw [HP.out.vlen, HNN.out]
      have hll : ls.length = 4 * n := by rw [HP.out.hl, HNN.out]
      obtain ⟨v0, e0⟩ := of_lt (show k * 4 < vs.length by omega)
      obtain ⟨v1, e1⟩ := of_lt (show k * 4 + 1 < vs.length by omega)
      obtain ⟨v2, e2⟩ := of_lt (show k * 4 + 2 < vs.length by omega)
      obtain ⟨v3, e3⟩ := of_lt (show k * 4 + 3 < vs.length by omega)
      obtain ⟨l0, f0⟩ := of_lt (show k * 4 < ls.length by omega)
      obtain ⟨l1, f1⟩ := of_lt (show k * 4 + 1 < ls.length by omega)
      obtain ⟨l2, f2⟩ := of_lt (show k * 4 + 2 < ls.length by omega)
      obtain ⟨A0, d0, rfl⟩ := own_slice (HP.out.hr.own _ _ _ e0 f0)
      obtain ⟨A1, d1, rfl⟩ := own_slice (HP.out.hr.own _ _ _ e1 f1)
      obtain ⟨A2, d2, rfl⟩ := own_slice (HP.out.hr.own _ _ _ e2 f2)
      have c0 : wr.cell? ⟨b, k * 4, none⟩ = some (.slice A0 l0.length d0) := by rw [HP.out.hb.cell, List.getElem?_toArray, e0]
      have c1 : wr.cell? ⟨b, k * 4 + 1, none⟩ = some (.slice A1 l1.length d1) := by rw [HP.out.hb.cell, List.getElem?_toArray, e1]
      have c2 : wr.cell? ⟨b, k * 4 + 2, none⟩ = some (.slice A2 l2.length d2) := by rw [HP.out.hb.cell, List.getElem?_toArray, e2]
      have c3 : wr.cell? ⟨b, k * 4 + 3, none⟩ = some v3 := by rw [HP.out.hb.cell, List.getElem?_toArray, e3]
      obtain ⟨m, hm⟩ : ∃ m, m = missAt S ls k := ⟨_, rfl⟩
      have HL := Lib.hid (misses_any wr P S base mp b t HP.out.hP c (HF.out.held HC.out (fun h => h)) A0 A1 A2 d0 d1 d2 l0.length l1.length l2.length v3)
      have hm2 : (decide (l0.length ≠ S.m0) || decide (l1.length ≠ S.m1) || decide (l2.length ≠ S.m2)) = m := by
        rw [hm, missAt, List.getD_eq_getElem?_getD, List.getD_eq_getElem?_getD, List.getD_eq_getElem?_getD, f0, f1, f2]; rfl
      rw [hm2] at HL
      have HM := Lib.hid hm
      clear hm hm2 e0 e1 e2 e3 f0 f1 f2 hvl hll
      cases m with
      | false =>
        go_wp2_with fail
        refine HL.out.mono ?_
        rintro e w1 ⟨rfl, hF1⟩
        have HF1 := Lib.hid (HF.out.trans hF1)
        clear hF1
        go_wp2_with fail
        refine ⟨⟨k + 1, by omega, by go_num, Lib.hid (fun j hj => ?_), HF1⟩, by simp [intOf]; omega⟩
        by_cases hjk : j = k
        · rw [hjk]; exact HM.out.symm
        · exact HA.out j (by omega)
      | true =>
        go_wp2_with fail
        refine HL.out.mono ?_
        rintro e w1 ⟨rfl, hF1⟩
        have HF1 := Lib.hid (HF.out.trans hF1)
        clear hF1
        go_wp2_with fail
        go_ret
        refine ⟨(k : Int), rfl, ?_, HF1.out⟩
        rw [decide_eq_true (by omega), Eq.comm, missL, List.any_eq_true]
        exact ⟨k, List.mem_range.2 (by have := HNN.out; omega), HM.out.symm⟩
    · obtain rfl : k = n := by omega
      go_wp2_with fail
      go_ret
      refine ⟨-1, rfl, ?_, HF.out⟩
      rw [decide_eq_false (by decide), Eq.comm, missL, List.any_eq_false]
      intro j hj
      rw [HA.out j (by have := List.mem_range.1 hj; have := HNN.out; omega)]
      decide
end Go.Proofs.Ytichhieopnbgpaa
