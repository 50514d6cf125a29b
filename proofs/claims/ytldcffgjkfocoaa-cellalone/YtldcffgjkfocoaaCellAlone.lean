/-
  haymowlaw13.CellAlone returns true for every two numbers and every byte. No condition.
-/
import Derived.Test.YtldcffgjkfocoaaCl11
import Derived.Test.YtldcffgjkfocoaaRows
import Derived.ProofKit
import Derived.OpenShut
import Derived.ShutString
import Derived.ChangeOld
namespace Go.Proofs.Ytldcffgjkfocoaa.cellAlone
open Go.ChangeShapes Go.WideShapes Go.ChangeAt Go.RowKit
open Go.ChangeMaps (open_string shut_string)

/-- Behind j of the five. -/
def al (value why : Int) (n : Nat) : Nat → (Nat → PO) × List Int
  | 0 => (ops0 value why, m0)
  | j + 1 => wrun (j + 1) 3 (if j = n then wrun 0 4 (al value why n j) else al value why n j)
def fin_ (value why : Int) (n : Nat) : (Nat → PO) × List Int := if n = 5 then wrun 0 4 (al value why n 5) else al value why n 5
theorem fin_0 (value why : Int) (n : Nat) (hn : n < 6) : ((fin_ value why n).1 0).ended = true ∧ ((fin_ value why n).1 0).first = (n : Int) ∧ ((fin_ value why n).1 0).waits = false ∧ ((fin_ value why n).1 0).ev = 0 ∧ ((fin_ value why n).1 0).ey = 0 := by
  have : n = 0 ∨ n = 1 ∨ n = 2 ∨ n = 3 ∨ n = 4 ∨ n = 5 := by omega
  rcases this with rfl | rfl | rfl | rfl | rfl | rfl <;> exact ⟨by kernel_rfl, by kernel_rfl, by kernel_rfl, by kernel_rfl, by kernel_rfl⟩
theorem fin_x (value why : Int) (n : Nat) (hn : n < 6) (x : Nat) (h1 : 1 ≤ x) (h5 : x ≤ 5) : ((fin_ value why n).1 x).ended = true ∧ ((fin_ value why n).1 x).first = 0 ∧ ((fin_ value why n).1 x).waits = decide (x ≤ n) ∧ ((fin_ value why n).1 x).ev = (if x ≤ n then 0 else value) ∧ ((fin_ value why n).1 x).ey = (if x ≤ n then 0 else why) := by
  have : n = 0 ∨ n = 1 ∨ n = 2 ∨ n = 3 ∨ n = 4 ∨ n = 5 := by omega
  have hx : x = 1 ∨ x = 2 ∨ x = 3 ∨ x = 4 ∨ x = 5 := by omega
  rcases this with rfl | rfl | rfl | rfl | rfl | rfl <;> rcases hx with rfl | rfl | rfl | rfl | rfl <;> exact ⟨by kernel_rfl, by kernel_rfl, by kernel_rfl, by kernel_rfl, by kernel_rfl⟩

set_option maxHeartbeats 16000000 in
set_option maxRecDepth 100000 in
theorem walk_f (value why : Int) (c : Nat) (hc : c < 256) (w : World) :
    Calls Try.prog 6 #[.int .i64 value, .int .i64 why, .int .u8 (c : Int)] w fun e w' => e = .returned (.bool true) ∧ Fr F0 w w' := by
  obtain ⟨n, hn⟩ : ∃ n, n = c % 6 := ⟨_, rfl⟩
  have hn6 : n < 6 := by omega
  have e1 : (c : Int) % 6 = (n : Int) := by omega
  clear hn
  go_enter Try.func6, Try.ntmps6
  go_wp2_with fail
  refine (world_any w value why).mono ?_
  rintro e w1 ⟨q, rfl, hW⟩
  have HW : Hid (WIs w w1 q (al value why n 0) 0) := Lib.hid hW
  clear hW
  go_wp2_with fail
  rw [e1]
  clear e1
  go_loopw [10, 11, 12] (fun iv _ _ wx => ∃ (j : Nat), j ≤ 5 ∧ iv = .int .i64 ((j : Int) + 1) ∧ Hid (WIs w wx q (al value why n j) (63 * j))) (fun iv _ _ _ => 6 - (intOf iv).toNat)
  case atStart => exact ⟨0, by omega, rfl, HW⟩
  case round =>
    clear HW
    obtain ⟨j, hj5, rfl, HW⟩ := hrel
    by_cases hj : j < 5
    · have g1 : (j : Int) + 1 ≤ 5 := by omega
      by_cases hjn : j = n
      · have g2 : ((j : Int) + 1 == (n : Int) + 1) = true := by simp; omega
        have HN := Lib.hid hjn
        clear hjn
        go_wp2_with fail
        go_loopw [11] (fun iv wx => ∃ (i : Nat), i ≤ 4 ∧ iv = .int .i64 (i : Int) ∧ Hid (WIs w wx q (wrun 0 i (al value why n j)) (63 * j + 9 * i))) (fun iv _ => 4 - (intOf iv).toNat)
        case atStart => exact ⟨0, by omega, rfl, HW⟩
        case round =>
          clear HW
          obtain ⟨i, hi4, rfl, HB⟩ := hrel
          by_cases hi : i < 4
          · have g3 : (i : Int) < 4 := by omega
            have hmv := wmove_k w wr q _ _ HB.out (by omega) 0 (by omega)
            rw [show ((0 : Nat) : Int) = 0 from rfl] at hmv
            have HMV := Lib.hid hmv
            clear hmv
            go_wp2_with fail
            refine HMV.out.mono ?_
            rintro e w3 ⟨rfl, hW3⟩
            have HW3 := Lib.hid hW3
            clear hW3 HMV HB
            go_wp2_with fail
            exact ⟨⟨i + 1, by omega, by go_num, HW3⟩, by simp [intOf]; omega⟩
          · obtain rfl : i = 4 := by omega
            (try rw [show ((4 : Nat) : Int) = 4 from rfl])
            have HX : Hid (WIs w wr q (wrun (j + 1) 0 (wrun 0 4 (al value why n j))) (63 * j + 36 + 9 * 0)) := HB
            clear HB
            go_wp2_with fail
            go_loopw [12] (fun iv wx => ∃ (i : Nat), i ≤ 3 ∧ iv = .int .i64 (i : Int) ∧ Hid (WIs w wx q (wrun (j + 1) i (wrun 0 4 (al value why n j))) (63 * j + 36 + 9 * i))) (fun iv _ => 3 - (intOf iv).toNat)
            case atStart => exact ⟨0, by omega, rfl, HX⟩
            case round =>
              clear HX
              obtain ⟨i, hi3, rfl, HB⟩ := hrel
              by_cases hi : i < 3
              · have g3 : (i : Int) < 3 := by omega
                have hmv := wmove_k w wr q _ _ HB.out (by omega) (j + 1) (by omega)
                rw [show ((j + 1 : Nat) : Int) = (j : Int) + 1 by omega] at hmv
                have HMV := Lib.hid hmv
                clear hmv
                go_wp2_with fail
                refine HMV.out.mono ?_
                rintro e w3 ⟨rfl, hW3⟩
                have HW3 := Lib.hid hW3
                clear hW3 HMV HB
                go_wp2_with fail
                exact ⟨⟨i + 1, by omega, by go_num, HW3⟩, by simp [intOf]; omega⟩
              · obtain rfl : i = 3 := by omega
                (try rw [show ((3 : Nat) : Int) = 3 from rfl])
                go_wp2_with fail
                exact ⟨⟨j + 1, by omega, by go_num, by show Hid (WIs w _ q (wrun (j + 1) 3 (if j = n then wrun 0 4 (al value why n j) else al value why n j)) _); rw [if_pos HN.out]; exact HB⟩, by simp [intOf]; omega⟩
      · have g2 : ((j : Int) + 1 == (n : Int) + 1) = false := by simp; omega
        have HN := Lib.hid hjn
        clear hjn
        have HX : Hid (WIs w wr q (wrun (j + 1) 0 (al value why n j)) (63 * j + 36 + 9 * 0)) := Lib.hid ⟨HW.out.hV, HW.out.hM.more (by omega), HW.out.hL, HW.out.hO, HW.out.hR, HW.out.sep, HW.out.new, HW.out.newo, HW.out.fr, HW.out.len, HW.out.sta, HW.out.wf⟩
        clear HW
        go_wp2_with fail
        go_loopw [12] (fun iv wx => ∃ (i : Nat), i ≤ 3 ∧ iv = .int .i64 (i : Int) ∧ Hid (WIs w wx q (wrun (j + 1) i (al value why n j)) (63 * j + 36 + 9 * i))) (fun iv _ => 3 - (intOf iv).toNat)
        case atStart => exact ⟨0, by omega, rfl, HX⟩
        case round =>
          clear HX
          obtain ⟨i, hi3, rfl, HB⟩ := hrel
          by_cases hi : i < 3
          · have g3 : (i : Int) < 3 := by omega
            have hmv := wmove_k w wr q _ _ HB.out (by omega) (j + 1) (by omega)
            rw [show ((j + 1 : Nat) : Int) = (j : Int) + 1 by omega] at hmv
            have HMV := Lib.hid hmv
            clear hmv
            go_wp2_with fail
            refine HMV.out.mono ?_
            rintro e w3 ⟨rfl, hW3⟩
            have HW3 := Lib.hid hW3
            clear hW3 HMV HB
            go_wp2_with fail
            exact ⟨⟨i + 1, by omega, by go_num, HW3⟩, by simp [intOf]; omega⟩
          · obtain rfl : i = 3 := by omega
            (try rw [show ((3 : Nat) : Int) = 3 from rfl])
            go_wp2_with fail
            exact ⟨⟨j + 1, by omega, by go_num, by show Hid (WIs w _ q (wrun (j + 1) 3 (if j = n then wrun 0 4 (al value why n j) else al value why n j)) _); rw [if_neg HN.out]; exact HB⟩, by simp [intOf]; omega⟩
    · obtain rfl : j = 5 := by omega
      rw [show ((5 : Nat) : Int) + 1 = 6 from rfl]
      by_cases hn5 : n = 5
      · have g5 : ((n : Int) == 5) = true := by simp; omega
        have HN := Lib.hid hn5
        clear hn5
        go_wp2_with fail
        go_loopw [13] (fun iv wx => ∃ (i : Nat), i ≤ 4 ∧ iv = .int .i64 (i : Int) ∧ Hid (WIs w wx q (wrun 0 i (al value why n 5)) (63 * 5 + 9 * i))) (fun iv _ => 4 - (intOf iv).toNat)
        case atStart => exact ⟨0, by omega, rfl, HW⟩
        case round =>
          clear HW
          obtain ⟨i, hi4, rfl, HB⟩ := hrel
          by_cases hi : i < 4
          · have g3 : (i : Int) < 4 := by omega
            have hmv := wmove_k w wr q _ _ HB.out (by omega) 0 (by omega)
            rw [show ((0 : Nat) : Int) = 0 from rfl] at hmv
            have HMV := Lib.hid hmv
            clear hmv
            go_wp2_with fail
            refine HMV.out.mono ?_
            rintro e w3 ⟨rfl, hW3⟩
            have HW3 := Lib.hid hW3
            clear hW3 HMV HB
            go_wp2_with fail
            exact ⟨⟨i + 1, by omega, by go_num, HW3⟩, by simp [intOf]; omega⟩
          · obtain rfl : i = 4 := by omega
            (try rw [show ((4 : Nat) : Int) = 4 from rfl])
            have HF : Hid (WIs w wr q (fin_ value why n) 400) := by
              show Hid (WIs w wr q (if n = 5 then wrun 0 4 (al value why n 5) else al value why n 5) 400)
              rw [if_pos HN.out]
              exact Lib.hid ⟨HB.out.hV, HB.out.hM.more (by omega), HB.out.hL, HB.out.hO, HB.out.hR, HB.out.sep, HB.out.new, HB.out.newo, HB.out.fr, HB.out.len, HB.out.sta, HB.out.wf⟩
            clear HB
            have p0 := HF.out.op 0 (by omega)
            have HE0 := Lib.hid (HF.out.end_ 0 (by omega) (fin_0 value why n hn6).1 false 0 0 (n : Int) (fin_0 value why n hn6).2.2.1 (fin_0 value why n hn6).2.2.2.1 (fin_0 value why n hn6).2.2.2.2 (fin_0 value why n hn6).2.1)
            go_wp2_with fail
            refine HE0.out.mono ?_
            rintro e w4 ⟨rfl, hf4⟩
            have hf5 : Fr F0 w4 (w4.alloc (.cells #[.bool false, .int .i64 0, .int .i64 0, .int .i64 (n : Int)] 45)) := (Fr.refl _ _).alloc _
            have HF5 := Lib.hid ((HF.out.f0 hf4).f0 hf5)
            have HB5 := Lib.hid (Blk.new w4 45 #[.bool false, .int .i64 0, .int .i64 0, .int .i64 (n : Int)])
            clear hf4 hf5 p0 HE0 HF
            obtain ⟨D, hD⟩ : ∃ D, D = w4.heap.size := ⟨_, rfl⟩
            go_wp2_with fail
            rw [← hD] at HB5 ⊢
            clear hD
            go_loopw [16] (fun iv wx => ∃ (x : Nat), 1 ≤ x ∧ x ≤ 6 ∧ iv = .int .i64 (x : Int) ∧ Hid (WIs w wx q (fin_ value why n) 400) ∧ Hid (Blk wx D 45 #[.bool false, .int .i64 0, .int .i64 0, .int .i64 (n : Int)])) (fun iv _ => 6 - (intOf iv).toNat)
            case atStart => exact ⟨1, by omega, by omega, rfl, HF5, HB5⟩
            case round =>
              clear HF5 HB5
              obtain ⟨x, hx1, hx6, rfl, HF, HB⟩ := hrel
              by_cases hx : x ≤ 5
              · have k1 : (x : Int) ≤ 5 := by omega
                have k2 : (x : Int) < 6 := by omega
                have k3 : x < 6 := by omega
                have px := HF.out.op x (by omega)
                obtain ⟨x1, x2, x3, x4, x5⟩ := fin_x value why n hn6 x hx1 hx
                by_cases hxn : x ≤ n
                · rw [decide_eq_true hxn] at x3
                  rw [if_pos hxn] at x4 x5
                  have HE := Lib.hid (HF.out.end_ x (by omega) x1 true 0 0 0 x3 x4 x5 x2)
                  have d1 : decide ((x : Int) ≤ (n : Int)) = true := decide_eq_true (by omega)
                  have d2 : decide (x ≤ n) = true := decide_eq_true (by omega)
                  have d3 : decide ((n : Int) < (x : Int)) = false := decide_eq_false (by omega)
                  have d4 : decide (n < x) = false := decide_eq_false (by omega)
                  clear x1 x2 x3 x4 x5
                  go_wp2_with fail
                  refine HE.out.mono ?_
                  rintro e w6 ⟨rfl, hf6⟩
                  have HF6 := Lib.hid ((HF.out.f0 hf6).f0 ((Fr.refl _ _).alloc (.cells #[.bool true, .int .i64 0, .int .i64 0, .int .i64 0] 45)))
                  have HB6 := Lib.hid ((HB.out.fr hf6 (fun h => h)).alloc (.cells #[.bool true, .int .i64 0, .int .i64 0, .int .i64 0] 45))
                  clear hf6 HE HF HB px
                  go_wp2_with fail
                  exact ⟨⟨x + 1, by omega, by omega, by go_num, HF6, HB6⟩, by simp [intOf]; omega⟩
                · rw [decide_eq_false hxn] at x3
                  rw [if_neg hxn] at x4 x5
                  have HE := Lib.hid (HF.out.end_ x (by omega) x1 false value why 0 x3 x4 x5 x2)
                  have d1 : decide ((x : Int) ≤ (n : Int)) = false := decide_eq_false (by omega)
                  have d2 : decide (x ≤ n) = false := decide_eq_false (by omega)
                  have d3 : decide ((n : Int) < (x : Int)) = true := decide_eq_true (by omega)
                  have d4 : decide (n < x) = true := decide_eq_true (by omega)
                  have v1 : (value != value) = false := by simp
                  have v2 : (why != why) = false := by simp
                  clear x1 x2 x3 x4 x5
                  go_wp2_with fail
                  refine HE.out.mono ?_
                  rintro e w6 ⟨rfl, hf6⟩
                  have HF6 := Lib.hid ((HF.out.f0 hf6).f0 ((Fr.refl _ _).alloc (.cells #[.bool false, .int .i64 value, .int .i64 why, .int .i64 0] 45)))
                  have HB6 := Lib.hid ((HB.out.fr hf6 (fun h => h)).alloc (.cells #[.bool false, .int .i64 value, .int .i64 why, .int .i64 0] 45))
                  clear hf6 HE HF HB px
                  go_wp2_with fail
                  exact ⟨⟨x + 1, by omega, by omega, by go_num, HF6, HB6⟩, by simp [intOf]; omega⟩
              · obtain rfl : x = 6 := by omega
                have b3 : wr.cell? ⟨D, 3, none⟩ = some (.int .i64 (n : Int)) := by rw [HB.out.cell]; rfl
                have bn : ((n : Int) == (n : Int)) = true := by simp
                go_wp2_with fail
                refine (awake_any _).mono ?_
                rintro e w7 ⟨rfl, hf7⟩
                have HFE := Lib.hid (HF.out.fr.trans hf7)
                clear hf7 HF HB b3
                go_wp2_with fail
                go_ret
                exact ⟨rfl, HFE.out⟩
      · have g5 : ((n : Int) == 5) = false := by simp; omega
        have HF : Hid (WIs w wr q (fin_ value why n) 400) := by
          show Hid (WIs w wr q (if n = 5 then wrun 0 4 (al value why n 5) else al value why n 5) 400)
          rw [if_neg hn5]
          exact Lib.hid ⟨HW.out.hV, HW.out.hM.more (by omega), HW.out.hL, HW.out.hO, HW.out.hR, HW.out.sep, HW.out.new, HW.out.newo, HW.out.fr, HW.out.len, HW.out.sta, HW.out.wf⟩
        clear HW hn5
        have p0 := HF.out.op 0 (by omega)
        have HE0 := Lib.hid (HF.out.end_ 0 (by omega) (fin_0 value why n hn6).1 false 0 0 (n : Int) (fin_0 value why n hn6).2.2.1 (fin_0 value why n hn6).2.2.2.1 (fin_0 value why n hn6).2.2.2.2 (fin_0 value why n hn6).2.1)
        go_wp2_with fail
        refine HE0.out.mono ?_
        rintro e w4 ⟨rfl, hf4⟩
        have hf5 : Fr F0 w4 (w4.alloc (.cells #[.bool false, .int .i64 0, .int .i64 0, .int .i64 (n : Int)] 45)) := (Fr.refl _ _).alloc _
        have HF5 := Lib.hid ((HF.out.f0 hf4).f0 hf5)
        have HB5 := Lib.hid (Blk.new w4 45 #[.bool false, .int .i64 0, .int .i64 0, .int .i64 (n : Int)])
        clear hf4 hf5 p0 HE0 HF
        obtain ⟨D, hD⟩ : ∃ D, D = w4.heap.size := ⟨_, rfl⟩
        go_wp2_with fail
        rw [← hD] at HB5 ⊢
        clear hD
        go_loopw [16] (fun iv wx => ∃ (x : Nat), 1 ≤ x ∧ x ≤ 6 ∧ iv = .int .i64 (x : Int) ∧ Hid (WIs w wx q (fin_ value why n) 400) ∧ Hid (Blk wx D 45 #[.bool false, .int .i64 0, .int .i64 0, .int .i64 (n : Int)])) (fun iv _ => 6 - (intOf iv).toNat)
        case atStart => exact ⟨1, by omega, by omega, rfl, HF5, HB5⟩
        case round =>
          clear HF5 HB5
          obtain ⟨x, hx1, hx6, rfl, HF, HB⟩ := hrel
          by_cases hx : x ≤ 5
          · have k1 : (x : Int) ≤ 5 := by omega
            have k2 : (x : Int) < 6 := by omega
            have k3 : x < 6 := by omega
            have px := HF.out.op x (by omega)
            obtain ⟨x1, x2, x3, x4, x5⟩ := fin_x value why n hn6 x hx1 hx
            by_cases hxn : x ≤ n
            · rw [decide_eq_true hxn] at x3
              rw [if_pos hxn] at x4 x5
              have HE := Lib.hid (HF.out.end_ x (by omega) x1 true 0 0 0 x3 x4 x5 x2)
              have d1 : decide ((x : Int) ≤ (n : Int)) = true := decide_eq_true (by omega)
              have d2 : decide (x ≤ n) = true := decide_eq_true (by omega)
              have d3 : decide ((n : Int) < (x : Int)) = false := decide_eq_false (by omega)
              have d4 : decide (n < x) = false := decide_eq_false (by omega)
              clear x1 x2 x3 x4 x5
              go_wp2_with fail
              refine HE.out.mono ?_
              rintro e w6 ⟨rfl, hf6⟩
              have HF6 := Lib.hid ((HF.out.f0 hf6).f0 ((Fr.refl _ _).alloc (.cells #[.bool true, .int .i64 0, .int .i64 0, .int .i64 0] 45)))
              have HB6 := Lib.hid ((HB.out.fr hf6 (fun h => h)).alloc (.cells #[.bool true, .int .i64 0, .int .i64 0, .int .i64 0] 45))
              clear hf6 HE HF HB px
              go_wp2_with fail
              exact ⟨⟨x + 1, by omega, by omega, by go_num, HF6, HB6⟩, by simp [intOf]; omega⟩
            · rw [decide_eq_false hxn] at x3
              rw [if_neg hxn] at x4 x5
              have HE := Lib.hid (HF.out.end_ x (by omega) x1 false value why 0 x3 x4 x5 x2)
              have d1 : decide ((x : Int) ≤ (n : Int)) = false := decide_eq_false (by omega)
              have d2 : decide (x ≤ n) = false := decide_eq_false (by omega)
              have d3 : decide ((n : Int) < (x : Int)) = true := decide_eq_true (by omega)
              have d4 : decide (n < x) = true := decide_eq_true (by omega)
              have v1 : (value != value) = false := by simp
              have v2 : (why != why) = false := by simp
              clear x1 x2 x3 x4 x5
              go_wp2_with fail
              refine HE.out.mono ?_
              rintro e w6 ⟨rfl, hf6⟩
              have HF6 := Lib.hid ((HF.out.f0 hf6).f0 ((Fr.refl _ _).alloc (.cells #[.bool false, .int .i64 value, .int .i64 why, .int .i64 0] 45)))
              have HB6 := Lib.hid ((HB.out.fr hf6 (fun h => h)).alloc (.cells #[.bool false, .int .i64 value, .int .i64 why, .int .i64 0] 45))
              clear hf6 HE HF HB px
              go_wp2_with fail
              exact ⟨⟨x + 1, by omega, by omega, by go_num, HF6, HB6⟩, by simp [intOf]; omega⟩
          · obtain rfl : x = 6 := by omega
            have b3 : wr.cell? ⟨D, 3, none⟩ = some (.int .i64 (n : Int)) := by rw [HB.out.cell]; rfl
            have bn : ((n : Int) == (n : Int)) = true := by simp
            go_wp2_with fail
            refine (awake_any _).mono ?_
            rintro e w7 ⟨rfl, hf7⟩
            have HFE := Lib.hid (HF.out.fr.trans hf7)
            clear hf7 HF HB b3
            go_wp2_with fail
            go_ret
            exact ⟨rfl, HFE.out⟩
theorem walk (a0 : Int) (_w0 : (Lit.int .i64 a0).wf = true) (a1 : Int) (_w1 : (Lit.int .i64 a1).wf = true) (a2 : Int) (w2 : (Lit.int .u8 a2).wf = true) (w : World) :
    Calls Try.prog 6 #[.int .i64 a0, .int .i64 a1, .int .u8 a2] w fun e w' => e = .returned (.bool true) ∧ Below w.heap.size w w' := by
  obtain ⟨h1, h2⟩ : 0 ≤ a2 ∧ a2 < 256 := by
    have hm : IntKind.u8.min = 0 := rfl
    have hM : IntKind.u8.max = 255 := rfl
    simp [Lit.wf, hm, hM] at w2
    omega
  obtain ⟨c, rfl⟩ : ∃ c : Nat, a2 = c := ⟨a2.toNat, by omega⟩
  exact (walk_f a0 a1 c (by omega) w).mono fun _ _ ⟨he, hf⟩ => ⟨he, hf.below (Nat.le_refl _) (fun _ h => h.elim)⟩

/-! ### The row's step -/
theorem own : ownKnob Try.prog.godebug = none := by kernel_rfl
theorem laidOut : laidOutB Try.prog = true := by kernel_rfl

set_option maxRecDepth 100000 in
theorem lifted (os : Os) (started : os.Started) (H : Type) (enc : TypeId × Value → H) :
    ReturnsInHanded {} Try.checked os 6 .any (Rows.cellAloneSpec.pre6 enc Try.prog Try.f6 Rows.cellAloneRow.domain false) (Rows.cellAloneSpec.post enc Try.prog Try.f6 false true false false) := by
  refine returnsInHanded_of_change (C := Try.checked) own started (by kernel_rfl) Try.func6
    (ChangeSpec.witness6 (enc := enc) (C := Try.checked) false ⟨#[], #[.int .i64 0, .int .i64 0, .int .u8 0], []⟩ 8 (by kernel_rfl) (by kernel_rfl) (by kernel_rfl) (by kernel_rfl)) ?_
  intro W base args ds gs before hval0 hW hcnd _
  have hval : ∀ (j : Nat) t v, Try.f6.params[j]? = some t → args[j]? = some v → Value.okWide Try.prog W .any base t v := hval0
  have hW' := hW
  obtain ⟨p, q, hA0, hV, rfl, hfz, hnd⟩ := hW
  have hA : DataW.TrodAll enc Try.prog W 0 (fun _ => true) true Try.f6.params.toList args.toList ds p := hA0
  rw [Try.params6] at hA hval
  obtain ⟨v0, vs0, d0, ds0, p0, q0, hargs, rfl, rfl, h0, r0⟩ := trodAll_cons hA
  obtain ⟨v1, vs1, d1, ds1, p1, q1, rfl, rfl, rfl, h1, r1⟩ := trodAll_cons r0
  obtain ⟨v2, vs2, d2, ds2, p2, q2, rfl, rfl, rfl, h2, r2⟩ := trodAll_cons r1
  obtain ⟨rfl, rfl, rfl⟩ := trodAll_nil r2
  obtain rfl : args = #[v0, v1, v2] := by cases args; simp_all
  obtain ⟨rfl, rfl⟩ := trodVars_none hV
  obtain ⟨a0, rfl, rfl, rfl, w0⟩ := open_int Try.underlying2 (hval 0 2 v0 rfl rfl) h0
  obtain ⟨a1, rfl, rfl, rfl, w1⟩ := open_int Try.underlying2 (hval 1 2 v1 rfl rfl) h1
  obtain ⟨a2, rfl, rfl, rfl, w2⟩ := open_int Try.underlying5 (hval 2 5 v2 rfl rfl) h2
  clear hA0 hval0
  refine (walk a0 w0 a1 w1 a2 w2 W).mono fun e W' ⟨he, bel⟩ => ?_
  subst he
  exact ⟨_, rfl, _, _, _, [], _, [], hW', trodAll_mk1 (shut_bool Try.underlying4 _), (trodAll_cons_mk (shut_int Try.underlying2 w0) (trodAll_cons_mk (shut_int Try.underlying2 w1) (trodAll_cons_mk (shut_int Try.underlying5 w2) trodAll_mk0))), rfl, bel.frame _, fun h => by cases h⟩

theorem over : Rows.cellAloneRow.holds Try.pinned (OpenSpec.ofChange Rows.cellAloneSpec) :=
  OpenClaim.holds_of_wide 6 Try.f6 rfl rfl rfl rfl rfl rfl rfl ⟨rfl, rfl, rfl, rfl, rfl⟩ rfl rfl rfl rfl rfl (by kernel_rfl) Try.func6 (by kernel_rfl)
    (of_decide_eq_true (by kernel_rfl)) (by unfold Func.isWrapper; first | (rw [if_pos (by decide +kernel)]; kernel_rfl) | (rw [if_neg (by decide +kernel)]; exact ⟨rfl, rfl⟩))
    (fun os started H enc _ => lifted os started H enc)

/-- The statement. -/
theorem proved : Rows.CellAloneSaid := over
#print axioms proved
end Go.Proofs.Ytldcffgjkfocoaa.cellAlone
