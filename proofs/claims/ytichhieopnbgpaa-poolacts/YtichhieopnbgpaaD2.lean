/-
  The document's Where. No condition.
-/
import Derived.Test.YtichhieopnbgpaaD1
namespace Go.Proofs.Ytichhieopnbgpaa
open Go.RowKit

/-- What the document's Where tells. -/
def whrV (r : Option (Nat × Nat × Nat × Nat)) : Value := match r with
  | some (a, z, o, c) => .tuple #[.int .i64 (a : Int), .int .i64 (z : Int), .int .i64 (o : Int), .int .i64 (c : Int), .bool true]
  | none => .tuple #[.int .i64 0, .int .i64 0, .int .i64 0, .int .i64 0, .bool false]
section
variable {w : World} {Q : Nat → Prop} {x D fb rb : Nat} {S : Shp} {fv : List Value} {fl : List (List Nat)} {rv : List Value} {rl : List (List Nat)} {tv : Value} {tk : List Bool}
theorem DR.class_ (h : DR w Q x D fb rb S fv fl rv rl tv tk) (c : Nat) (hc : c < 3) : w.cell? ⟨D, 1 + c, none⟩ = some (.int .i64 (siz S c : Int)) ∧ w.cell? ⟨D, 4 + c, none⟩ = some (.int .i64 (mny S c : Int)) := by
  have : c = 0 ∨ c = 1 ∨ c = 2 := by omega
  rcases this with rfl | rfl | rfl
  all_goals (refine ⟨?_, ?_⟩ <;> (rw [h.hD.cell]; rfl))
theorem siz_le (hk : Small S) (c : Nat) : siz S c ≤ 4 ∧ mny S c ≤ 4 := by
  have := hk.s0
  have := hk.s1
  have := hk.s2
  have := hk.m0
  have := hk.m1
  have := hk.m2
  unfold siz mny
  constructor <;> (split <;> (try split)) <;> omega

set_option maxHeartbeats 8000000 in
set_option maxRecDepth 100000 in
theorem dwhere_in (h : DR w Q x D fb rb S fv fl rv rl tv tk) (hk : Small S) (n : Nat) (hn1 : 1 ≤ n) (hn : n ≤ S.many) :
    Calls Try.prog 25 #[.pointer (some ⟨D, 0, none⟩), .int .i64 (n : Int)] w fun e w' => e = .returned (whrV (whr S n)) ∧ Fr F0 w w' := by
  obtain ⟨k0, k7, k8, k9⟩ := h.cells
  obtain ⟨A, cp, rfl⟩ := own_slice h.ht
  have hlen := h.htl
  have hk4 := hk.k
  have hn50 : n ≤ 50 := by have := hk.n; omega
  have HW := Lib.hid (whr_dW (S := S) hn1)
  have HD := Lib.hid h
  have HK := Lib.hid hk
  have g1 : ¬ (n : Int) < 1 := by omega
  have g2 : ¬ ((S.many + 1 : Nat) : Int) ≤ (n : Int) := by omega
  rw [hlen] at k9
  have hsm : S.many ≤ 50 := hk.n
  clear h hk hlen k7 k8
  go_enter Try.func25, Try.ntmps25
  go_wp2_with fail
  clear k0 k9
  go_loopw [9, 10, 11] (fun av kv cv wx => ∃ (a k c : Nat), c ≤ 3 ∧ cv = .int .i64 (c : Int) ∧ av = .int .i64 (a : Int) ∧ kv = .int .i64 (k : Int) ∧ k ≤ 50 ∧ a ≤ 300 * c ∧ Hid (whr S n = dW S (3 - c) c a k) ∧ Hid (Fr F0 w wx)) (fun _ _ cv _ => 3 - (intOf cv).toNat)
  case atStart => exact ⟨0, n - 1, 0, by omega, rfl, rfl, by congr 1; omega, by omega, by omega, HW, Lib.hid (Fr.refl _ _)⟩
  case round =>
    obtain ⟨a, k, c, hc, rfl, rfl, rfl, hk50, ha, HE, HF⟩ := hrel
    by_cases hc3 : c < 3
    · have g3 : (c : Int) < 3 := by omega
      have hR := HD.out.f0 HF.out
      obtain ⟨k1, k4⟩ := hR.class_ c hc3
      obtain ⟨k0, -, -, -⟩ := hR.cells
      obtain ⟨hs, hm⟩ := siz_le HK.out c
      have hE := HE.out
      rw [show 3 - c = (2 - c) + 1 by omega, dW] at hE
      obtain ⟨q, hq⟩ : ∃ q, q = S.k * mny S c := ⟨_, rfl⟩
      have hq16 : q ≤ 16 := by rw [hq]; exact Nat.mul_le_mul hk4 hm
      rw [← hq] at hE
      have pq : (S.k : Int) * (mny S c : Int) = (q : Int) := by rw [hq, Int.natCast_mul]
      have xq : IntKind.i64.wrap ((S.k : Int) * (mny S c : Int)) = (q : Int) := (IntWalk.i64_in _ (by omega)).trans pq
      obtain ⟨sz, hsz⟩ : ∃ sz, sz = siz S c := ⟨_, rfl⟩
      obtain ⟨mc, hmc⟩ : ∃ mc, mc = mny S c := ⟨_, rfl⟩
      rw [← hsz] at k1 hE hs
      rw [← hmc] at k4 hE pq xq hm
      have hPl := HD.out.hD.lt
      have hPl2 : D < wr.heap.size := hR.hD.lt
      by_cases hkq : k < q
      · have g4 : (k : Int) < (q : Int) := by omega
        rw [if_pos hkq] at hE
        obtain ⟨u, hu⟩ : ∃ u, u = k * sz := ⟨_, rfl⟩
        have hu64 : u ≤ 64 := by rw [hu]; exact Nat.mul_le_mul (show k ≤ 16 by omega) hs
        obtain ⟨ow, how⟩ : ∃ ow, ow = k / mc := ⟨_, rfl⟩
        rw [← hu, ← how] at hE
        have hmp : 0 < mc := by
          rcases Nat.eq_zero_or_pos mc with e | e
          · rw [← hmc, e, Nat.mul_zero] at hq; omega
          · exact e
        have how50 : ow ≤ 50 := by rw [how]; exact Nat.le_trans (Nat.div_le_self _ _) hk50
        have pu : (k : Int) * (sz : Int) = (u : Int) := by rw [hu, Int.natCast_mul]
        have pd : (k : Int).tdiv (mc : Int) = (ow : Int) := by rw [how]; rfl
        have pz : ¬ (mc : Int) = 0 := by omega
        have pz2 : ¬ mc = 0 := by omega
        have pw : IntKind.i64.wrap (ow : Int) = (ow : Int) := IntWalk.i64_in _ (by omega)
        have xu : IntKind.i64.wrap ((k : Int) * (sz : Int)) = (u : Int) := (IntWalk.i64_in _ (by omega)).trans pu
        have xs : IntKind.i64.wrap ((a : Int) + (u : Int)) = (a : Int) + (u : Int) := IntWalk.i64_in _ (by omega)
        have HE := Lib.hid hE
        have HF := Lib.hid HF.out
        clear hE hq hsz hmc hu how HD
        go_wp2_with fail
        go_quiet (fail)
        go_wp2_with fail
        go_quiet (fail)
        go_wp2_with fail
        refine bodyPost_ret (results_5 rfl _) rfl ?_
        refine ⟨?_, ?_⟩
        · rw [HE.out]
          first | rfl | (simp [whrV]; done) | (simp [whrV]; omega)
        · refine HF.out.trans ?_
          repeat (first | exact Fr.refl _ _ | apply Fr.drewN | apply Fr.drew | apply Fr.alloc)
      · have g4 : ¬ (k : Int) < (q : Int) := by omega
        rw [if_neg hkq] at hE
        obtain ⟨u, hu⟩ : ∃ u, u = q * sz := ⟨_, rfl⟩
        have hu64 : u ≤ 64 := by rw [hu]; exact Nat.mul_le_mul hq16 hs
        rw [← hu] at hE
        have pu : (q : Int) * (sz : Int) = (u : Int) := by rw [hu, Int.natCast_mul]
        have xu : IntKind.i64.wrap ((q : Int) * (sz : Int)) = (u : Int) := (IntWalk.i64_in _ (by omega)).trans pu
        have HE : Hid (whr S n = dW S (3 - (c + 1)) (c + 1) (a + u) (k - q)) := Lib.hid (by rw [show 3 - (c + 1) = 2 - c by omega]; exact hE)
        clear hE hq hsz hmc hu
        go_wp2_with fail
        go_quiet (fail)
        go_wp2_with fail
        exact ⟨⟨a + u, k - q, c + 1, by omega, by go_num, by go_num, by go_num, by omega, by omega, HE, Lib.hid (HF.out.trans (by repeat (first | exact Fr.refl _ _ | apply Fr.drewN | apply Fr.drew | apply Fr.alloc)))⟩, by simp [intOf]; omega⟩
    · obtain rfl : c = 3 := by omega
      have hE := HE.out
      have : whr S n = none := hE
      obtain ⟨a', z', o', c', hw⟩ := whr_some hn1 hn
      rw [hw] at this
      cases this
end
end Go.Proofs.Ytichhieopnbgpaa
