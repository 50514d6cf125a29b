/-
  haymowlaw13.CellNone returns true for every bool and every number. No condition.
-/
import Derived.Test.YtldcffgjkfocoaaCl12
import Derived.Test.YtldcffgjkfocoaaCl10
import Derived.Test.YtldcffgjkfocoaaRows
import Derived.ProofKit
import Derived.OpenShut
import Derived.ShutString
import Derived.ChangeOld
namespace Go.Proofs.Ytldcffgjkfocoaa.cellNone
open Go.ChangeShapes Go.WideShapes Go.ChangeAt Go.RowKit
open Go.ChangeMaps (open_string shut_string)

theorem thr_ge {w0 : World} {o a p s : Nat} (h1 : w0.heap.size ≤ o) (h2 : w0.heap.size ≤ a) (h3 : w0.heap.size ≤ p) (h4 : w0.heap.size ≤ s) : ∀ i, Four o a p s i → F0 i ∨ w0.heap.size ≤ i := fun i hi => .inr (by rcases hi with rfl | rfl | rfl | rfl <;> assumption)

set_option maxHeartbeats 16000000 in
set_option maxRecDepth 100000 in
theorem walk_f (b : Bool) (value : Int) (w : World) :
    Calls Try.prog 5 #[.bool b, .int .i64 value] w fun e w' => e = .returned (.bool true) ∧ Fr F0 w w' := by
  go_enter Try.func5, Try.ntmps5
  go_wp2_with fail
  refine (end_nil w).mono ?_
  rintro e w1 ⟨rfl, hf1⟩
  have hf2 : Fr F0 w1 (w1.alloc (.cells #[.bool false, .int .i64 0, .int .i64 0, .int .i64 0] 45)) := (Fr.refl _ _).alloc _
  have HF2 := Lib.hid (hf1.trans hf2)
  have HB2 := Lib.hid (Blk.new w1 45 e0)
  obtain ⟨E6, hE6⟩ : ∃ E, E = w1.heap.size := ⟨_, rfl⟩
  have HN := Lib.hid (new_yes 9 (by decide) (w1.alloc (.cells #[.bool false, .int .i64 0, .int .i64 0, .int .i64 0] 45)))
  rw [← hE6] at HB2
  clear hf1 hf2
  go_wp2_with fail
  refine HN.out.mono ?_
  rintro e w3 ⟨rfl, hM3, hF3⟩
  rw [← hE6]
  obtain ⟨P, hP⟩ : ∃ P, P = (w1.alloc (.cells #[.bool false, .int .i64 0, .int .i64 0, .int .i64 0] 45)).heap.size + 1 := ⟨_, rfl⟩
  obtain ⟨S, hS⟩ : ∃ S, S = (w1.alloc (.cells #[.bool false, .int .i64 0, .int .i64 0, .int .i64 0] 45)).heap.size := ⟨_, rfl⟩
  rw [← hP, ← hS] at hM3
  rw [← hP]
  have hnP : w.heap.size ≤ P := by have := HF2.out.size; omega
  have hnS : w.heap.size ≤ S := by have := HF2.out.size; omega
  have HM3 : Hid (MF w3 P S) := Lib.hid hM3
  have HF3 := Lib.hid (HF2.out.trans hF3)
  have HB3 := Lib.hid (HB2.out.fr hF3 (fun h => h))
  clear hM3 hF3 hE6 hP hS HN HF2 HB2
  go_wp2_with fail
  refine (at_any w3 0).mono ?_
  rintro e w4 ⟨rfl, hf4⟩
  have HM4 := Lib.hid (HM3.out.fr hf4 (fun h => h) (fun h => h))
  have HF4 := Lib.hid (HF3.out.trans hf4)
  have HB4 := Lib.hid (HB3.out.fr hf4 (fun h => h))
  clear hf4 HM3 HF3 HB3
  go_wp2_with fail
  refine (wait_any w4 0 1 5).mono ?_
  rintro e w5 ⟨rfl, hO5, hf5⟩
  obtain ⟨o, ho⟩ : ∃ o, o = w4.heap.size + 2 := ⟨_, rfl⟩
  obtain ⟨a, ha⟩ : ∃ a, a = w4.heap.size + 1 := ⟨_, rfl⟩
  rw [← ho, ← ha] at hO5
  rw [← ho]
  have hno : w.heap.size ≤ o := by have := HF4.out.size; omega
  have hna : w.heap.size ≤ a := by have := HF4.out.size; omega
  have HM5 := Lib.hid (HM4.out.fr hf5 (fun h => h) (fun h => h))
  have HF5 := Lib.hid (HF4.out.trans hf5)
  have HB5 := Lib.hid (HB4.out.fr hf5 (fun h => h))
  have HO5 := Lib.hid hO5
  clear hf5 HM4 HF4 HB4 hO5 ho ha
  cases b with
  | false =>
    have HMV : Hid (Calls Try.prog 17 #[.pointer (some ⟨o, 0, none⟩), .pointer (some ⟨P, 0, none⟩)] w5 fun e w' => e = .returned (.bool true) ∧ Blk w' o 67 #[.nilFunc, .bool true, .bool false, .int .i64 0, .int .i64 0, .int .i64 0, .int .i64 7] ∧ MF w' P S ∧ Fr (Four o a P S) w5 w') := Lib.hid (by
      have hA := HO5.out.hw rfl
      have hop := MF.ne HO5.out.ho HM5.out (by decide) (by decide)
      have hc := w_looks_er w5 a P S 0 1 5 0 0 hA HM5.out 7 (by decide) (fun W h => load_f W P S h 0 (by decide))
      refine (move_er w5 o a P S _ _ 22 w_looks_own false 0 0 0 HO5.out.ho 7 hc HO5.out.ne hop.1 hop.2).mono ?_
      rintro e w' ⟨he, h1, _, h2, h3⟩
      exact ⟨he, h1, h2, h3⟩)
    have HEO : Hid (¬ Four o a P S E6) := by
      have c1 := HB5.out
      have q1 := HO5.out.away c1 (by decide) (by decide) (by decide)
      have q2 := MF.ne c1 HM5.out (by decide) (by decide)
      exact Lib.hid (fun h => h.elim q1.1 (fun h => h.elim q1.2 (fun h => h.elim q2.1 q2.2)))
    clear HO5
    go_wp2_with fail
    refine HMV.out.mono ?_
    rintro e w7 ⟨rfl, hO7, hM7, hF7⟩
    have HM7 := Lib.hid hM7
    have HF7 := Lib.hid (Fr.then HF5.out hF7 (thr_ge hno hna hnP hnS))
    have HB7 := Lib.hid (HB5.out.fr hF7 HEO.out)
    have HE7 := Lib.hid (end_er w7 o 7 hO7)
    clear hM7 hF7 hO7 HM5 HF5 HB5 HMV HEO
    go_wp2_with fail
    refine HE7.out.mono ?_
    rintro e w8 ⟨rfl, hf8⟩
    have hf9 : Fr F0 w8 (w8.alloc (.cells #[.bool false, .int .i64 0, .int .i64 0, .int .i64 0] 45)) := (Fr.refl _ _).alloc _
    have HM9 := Lib.hid ((HM7.out.fr hf8 (fun h => h) (fun h => h)).fr hf9 (fun h => h) (fun h => h))
    have HF9 := Lib.hid ((HF7.out.trans hf8).trans hf9)
    have HB9 := Lib.hid ((HB7.out.fr hf8 (fun h => h)).fr hf9 (fun h => h))
    have HC9 := Lib.hid (Blk.new w8 45 e0)
    obtain ⟨E12, hE12⟩ : ∃ E, E = w8.heap.size := ⟨_, rfl⟩
    rw [← hE12] at HC9
    clear hf8 hf9 HM7 HF7 HB7 HE7
    go_wp2_with fail
    refine (at_any _ 100).mono ?_
    rintro e w10 ⟨rfl, hf10⟩
    rw [← hE12]
    clear hE12
    have HM10 := Lib.hid (HM9.out.fr hf10 (fun h => h) (fun h => h))
    have HF10 := Lib.hid (HF9.out.trans hf10)
    have HB10 := Lib.hid (HB9.out.fr hf10 (fun h => h))
    have HC10 := Lib.hid (HC9.out.fr hf10 (fun h => h))
    clear hf10 HM9 HF9 HB9 HC9
    go_wp2_with fail
    refine (wait_any w10 100 1 5).mono ?_
    rintro e w11 ⟨rfl, hO11, hf11⟩
    obtain ⟨o', ho'⟩ : ∃ o, o = w10.heap.size + 2 := ⟨_, rfl⟩
    obtain ⟨a', ha'⟩ : ∃ a, a = w10.heap.size + 1 := ⟨_, rfl⟩
    rw [← ho', ← ha'] at hO11
    rw [← ho']
    have hno' : w.heap.size ≤ o' := by have := HF10.out.size; omega
    have hna' : w.heap.size ≤ a' := by have := HF10.out.size; omega
    have HM11 := Lib.hid (HM10.out.fr hf11 (fun h => h) (fun h => h))
    have HF11 := Lib.hid (HF10.out.trans hf11)
    have HB11 := Lib.hid (HB10.out.fr hf11 (fun h => h))
    have HC11 := Lib.hid (HC10.out.fr hf11 (fun h => h))
    have HO11 := Lib.hid hO11
    clear hf11 HM10 HF10 HB10 HC10 hO11 ho' ha'
    have HMV2 : Hid (Calls Try.prog 17 #[.pointer (some ⟨o', 0, none⟩), .pointer (some ⟨P, 0, none⟩)] w11 fun e w' => e = .returned (.bool true) ∧ Blk w' o' 67 #[.nilFunc, .bool true, .bool false, .int .i64 0, .int .i64 0, .int .i64 0, .int .i64 6] ∧ MF w' P S ∧ Fr (Four o' a' P S) w11 w') := Lib.hid (by
      have hA := HO11.out.hw rfl
      have hop := MF.ne HO11.out.ho HM11.out (by decide) (by decide)
      have hc := w_looks_er w11 a' P S 100 1 5 0 0 hA HM11.out 6 (by decide) (fun W h => load_h W P S h 100 (by decide))
      refine (move_er w11 o' a' P S _ _ 22 w_looks_own false 0 0 0 HO11.out.ho 6 hc HO11.out.ne hop.1 hop.2).mono ?_
      rintro e w' ⟨he, h1, _, h2, h3⟩
      exact ⟨he, h1, h2, h3⟩)
    have HEO2 : Hid (¬ Four o' a' P S E6 ∧ ¬ Four o' a' P S E12) := by
      have c1 := HB11.out
      have q1 := HO11.out.away c1 (by decide) (by decide) (by decide)
      have q2 := MF.ne c1 HM11.out (by decide) (by decide)
      have c2 := HC11.out
      have r1 := HO11.out.away c2 (by decide) (by decide) (by decide)
      have r2 := MF.ne c2 HM11.out (by decide) (by decide)
      exact Lib.hid ⟨fun h => h.elim q1.1 (fun h => h.elim q1.2 (fun h => h.elim q2.1 q2.2)), fun h => h.elim r1.1 (fun h => h.elim r1.2 (fun h => h.elim r2.1 r2.2))⟩
    clear HO11
    go_wp2_with fail
    refine HMV2.out.mono ?_
    rintro e w12 ⟨rfl, hO12, hM12, hF12⟩
    have HF12 := Lib.hid (Fr.then HF11.out hF12 (thr_ge hno' hna' hnP hnS))
    have HB12 := Lib.hid (HB11.out.fr hF12 HEO2.out.1)
    have HC12 := Lib.hid (HC11.out.fr hF12 HEO2.out.2)
    have HE12 := Lib.hid (end_er w12 o' 6 hO12)
    clear hM12 hF12 hO12 HM11 HF11 HB11 HC11 HMV2 HEO2
    go_wp2_with fail
    refine HE12.out.mono ?_
    rintro e w13 ⟨rfl, hf13⟩
    have hf14 : Fr F0 w13 (w13.alloc (.cells #[.bool false, .int .i64 0, .int .i64 0, .int .i64 0] 45)) := (Fr.refl _ _).alloc _
    have HF14 := Lib.hid ((HF12.out.trans hf13).trans hf14)
    have hB14 := (HB12.out.fr hf13 (fun h => h)).fr hf14 (fun h => h)
    have hC14 := (HC12.out.fr hf13 (fun h => h)).fr hf14 (fun h => h)
    have HB14 := Lib.hid hB14
    have HC14 := Lib.hid hC14
    clear hf13 hf14 HF12 HB12 HC12 HE12 hB14 hC14
    go_wp2_with fail
    refine (move_nil _ _).mono ?_
    rintro e w15 ⟨rfl, rfl⟩
    have yE60 : (w13.alloc (.cells #[.bool false, .int .i64 0, .int .i64 0, .int .i64 0] 45)).cell? ⟨E6, 0, none⟩ = some (.bool false) := by rw [HB14.out.cell]; rfl
    have yE61 : (w13.alloc (.cells #[.bool false, .int .i64 0, .int .i64 0, .int .i64 0] 45)).cell? ⟨E6, 1, none⟩ = some (.int .i64 0) := by rw [HB14.out.cell]; rfl
    have yE62 : (w13.alloc (.cells #[.bool false, .int .i64 0, .int .i64 0, .int .i64 0] 45)).cell? ⟨E6, 2, none⟩ = some (.int .i64 0) := by rw [HB14.out.cell]; rfl
    have yE63 : (w13.alloc (.cells #[.bool false, .int .i64 0, .int .i64 0, .int .i64 0] 45)).cell? ⟨E6, 3, none⟩ = some (.int .i64 0) := by rw [HB14.out.cell]; rfl
    have yE120 : (w13.alloc (.cells #[.bool false, .int .i64 0, .int .i64 0, .int .i64 0] 45)).cell? ⟨E12, 0, none⟩ = some (.bool false) := by rw [HC14.out.cell]; rfl
    have yE121 : (w13.alloc (.cells #[.bool false, .int .i64 0, .int .i64 0, .int .i64 0] 45)).cell? ⟨E12, 1, none⟩ = some (.int .i64 0) := by rw [HC14.out.cell]; rfl
    have yE122 : (w13.alloc (.cells #[.bool false, .int .i64 0, .int .i64 0, .int .i64 0] 45)).cell? ⟨E12, 2, none⟩ = some (.int .i64 0) := by rw [HC14.out.cell]; rfl
    have yE123 : (w13.alloc (.cells #[.bool false, .int .i64 0, .int .i64 0, .int .i64 0] 45)).cell? ⟨E12, 3, none⟩ = some (.int .i64 0) := by rw [HC14.out.cell]; rfl
    go_wp2_with fail
    refine (awake_any _).mono ?_
    rintro e w16 ⟨rfl, hf16⟩
    have HFE := Lib.hid (HF14.out.trans hf16)
    clear hf16 HF14
    go_wp2_with fail
    go_ret
    exact ⟨rfl, HFE.out⟩
  | true =>
    go_wp2_with fail
    refine (at_any w5 0).mono ?_
    rintro e w6 ⟨rfl, hf6⟩
    have HM6 := Lib.hid (HM5.out.fr hf6 (fun h => h) (fun h => h))
    have HF6 := Lib.hid (HF5.out.trans hf6)
    have HB6 := Lib.hid (HB5.out.fr hf6 (fun h => h))
    clear hf6 HM5 HF5 HB5 HO5
    go_wp2_with fail
    refine (fill_any w6 0 value 0).mono ?_
    rintro e w5 ⟨rfl, hO5, hf5⟩
    obtain ⟨o, ho⟩ : ∃ o, o = w6.heap.size + 2 := ⟨_, rfl⟩
    obtain ⟨a, ha⟩ : ∃ a, a = w6.heap.size + 1 := ⟨_, rfl⟩
    rw [← ho, ← ha] at hO5
    rw [← ho]
    have hno : w.heap.size ≤ o := by have := HF6.out.size; omega
    have hna : w.heap.size ≤ a := by have := HF6.out.size; omega
    have HM5 := Lib.hid (HM6.out.fr hf5 (fun h => h) (fun h => h))
    have HF5 := Lib.hid (HF6.out.trans hf5)
    have HB5 := Lib.hid (HB6.out.fr hf5 (fun h => h))
    have HO5 := Lib.hid hO5
    clear hf5 HM6 HF6 HB6 hO5 ho ha
    have HMV : Hid (Calls Try.prog 17 #[.pointer (some ⟨o, 0, none⟩), .pointer (some ⟨P, 0, none⟩)] w5 fun e w' => e = .returned (.bool true) ∧ Blk w' o 67 #[.nilFunc, .bool true, .bool false, .int .i64 0, .int .i64 0, .int .i64 0, .int .i64 7] ∧ MF w' P S ∧ Fr (Four o a P S) w5 w') := Lib.hid (by
      have hA := HO5.out.hf rfl
      have hop := MF.ne HO5.out.ho HM5.out (by decide) (by decide)
      have hc := f_stores_er w5 a P S 0 value 0 0 hA HM5.out (by decide)
      refine (move_er w5 o a P S _ _ 23 f_storesValue_own false 0 0 0 HO5.out.ho 7 hc HO5.out.ne hop.1 hop.2).mono ?_
      rintro e w' ⟨he, h1, _, h2, h3⟩
      exact ⟨he, h1, h2, h3⟩)
    have HEO : Hid (¬ Four o a P S E6) := by
      have c1 := HB5.out
      have q1 := HO5.out.away c1 (by decide) (by decide) (by decide)
      have q2 := MF.ne c1 HM5.out (by decide) (by decide)
      exact Lib.hid (fun h => h.elim q1.1 (fun h => h.elim q1.2 (fun h => h.elim q2.1 q2.2)))
    clear HO5
    go_wp2_with fail
    refine HMV.out.mono ?_
    rintro e w7 ⟨rfl, hO7, hM7, hF7⟩
    have HM7 := Lib.hid hM7
    have HF7 := Lib.hid (Fr.then HF5.out hF7 (thr_ge hno hna hnP hnS))
    have HB7 := Lib.hid (HB5.out.fr hF7 HEO.out)
    have HE7 := Lib.hid (end_er w7 o 7 hO7)
    clear hM7 hF7 hO7 HM5 HF5 HB5 HMV HEO
    go_wp2_with fail
    refine HE7.out.mono ?_
    rintro e w8 ⟨rfl, hf8⟩
    have hf9 : Fr F0 w8 (w8.alloc (.cells #[.bool false, .int .i64 0, .int .i64 0, .int .i64 0] 45)) := (Fr.refl _ _).alloc _
    have HM9 := Lib.hid ((HM7.out.fr hf8 (fun h => h) (fun h => h)).fr hf9 (fun h => h) (fun h => h))
    have HF9 := Lib.hid ((HF7.out.trans hf8).trans hf9)
    have HB9 := Lib.hid ((HB7.out.fr hf8 (fun h => h)).fr hf9 (fun h => h))
    have HC9 := Lib.hid (Blk.new w8 45 e0)
    obtain ⟨E12, hE12⟩ : ∃ E, E = w8.heap.size := ⟨_, rfl⟩
    rw [← hE12] at HC9
    clear hf8 hf9 HM7 HF7 HB7 HE7
    go_wp2_with fail
    refine (at_any _ 100).mono ?_
    rintro e w10 ⟨rfl, hf10⟩
    rw [← hE12]
    clear hE12
    have HM10 := Lib.hid (HM9.out.fr hf10 (fun h => h) (fun h => h))
    have HF10 := Lib.hid (HF9.out.trans hf10)
    have HB10 := Lib.hid (HB9.out.fr hf10 (fun h => h))
    have HC10 := Lib.hid (HC9.out.fr hf10 (fun h => h))
    clear hf10 HM9 HF9 HB9 HC9
    go_wp2_with fail
    refine (wait_any w10 100 1 5).mono ?_
    rintro e w11 ⟨rfl, hO11, hf11⟩
    obtain ⟨o', ho'⟩ : ∃ o, o = w10.heap.size + 2 := ⟨_, rfl⟩
    obtain ⟨a', ha'⟩ : ∃ a, a = w10.heap.size + 1 := ⟨_, rfl⟩
    rw [← ho', ← ha'] at hO11
    rw [← ho']
    have hno' : w.heap.size ≤ o' := by have := HF10.out.size; omega
    have hna' : w.heap.size ≤ a' := by have := HF10.out.size; omega
    have HM11 := Lib.hid (HM10.out.fr hf11 (fun h => h) (fun h => h))
    have HF11 := Lib.hid (HF10.out.trans hf11)
    have HB11 := Lib.hid (HB10.out.fr hf11 (fun h => h))
    have HC11 := Lib.hid (HC10.out.fr hf11 (fun h => h))
    have HO11 := Lib.hid hO11
    clear hf11 HM10 HF10 HB10 HC10 hO11 ho' ha'
    have HMV2 : Hid (Calls Try.prog 17 #[.pointer (some ⟨o', 0, none⟩), .pointer (some ⟨P, 0, none⟩)] w11 fun e w' => e = .returned (.bool true) ∧ Blk w' o' 67 #[.nilFunc, .bool true, .bool false, .int .i64 0, .int .i64 0, .int .i64 0, .int .i64 6] ∧ MF w' P S ∧ Fr (Four o' a' P S) w11 w') := Lib.hid (by
      have hA := HO11.out.hw rfl
      have hop := MF.ne HO11.out.ho HM11.out (by decide) (by decide)
      have hc := w_looks_er w11 a' P S 100 1 5 0 0 hA HM11.out 6 (by decide) (fun W h => load_h W P S h 100 (by decide))
      refine (move_er w11 o' a' P S _ _ 22 w_looks_own false 0 0 0 HO11.out.ho 6 hc HO11.out.ne hop.1 hop.2).mono ?_
      rintro e w' ⟨he, h1, _, h2, h3⟩
      exact ⟨he, h1, h2, h3⟩)
    have HEO2 : Hid (¬ Four o' a' P S E6 ∧ ¬ Four o' a' P S E12) := by
      have c1 := HB11.out
      have q1 := HO11.out.away c1 (by decide) (by decide) (by decide)
      have q2 := MF.ne c1 HM11.out (by decide) (by decide)
      have c2 := HC11.out
      have r1 := HO11.out.away c2 (by decide) (by decide) (by decide)
      have r2 := MF.ne c2 HM11.out (by decide) (by decide)
      exact Lib.hid ⟨fun h => h.elim q1.1 (fun h => h.elim q1.2 (fun h => h.elim q2.1 q2.2)), fun h => h.elim r1.1 (fun h => h.elim r1.2 (fun h => h.elim r2.1 r2.2))⟩
    clear HO11
    go_wp2_with fail
    refine HMV2.out.mono ?_
    rintro e w12 ⟨rfl, hO12, hM12, hF12⟩
    have HF12 := Lib.hid (Fr.then HF11.out hF12 (thr_ge hno' hna' hnP hnS))
    have HB12 := Lib.hid (HB11.out.fr hF12 HEO2.out.1)
    have HC12 := Lib.hid (HC11.out.fr hF12 HEO2.out.2)
    have HE12 := Lib.hid (end_er w12 o' 6 hO12)
    clear hM12 hF12 hO12 HM11 HF11 HB11 HC11 HMV2 HEO2
    go_wp2_with fail
    refine HE12.out.mono ?_
    rintro e w13 ⟨rfl, hf13⟩
    have hf14 : Fr F0 w13 (w13.alloc (.cells #[.bool false, .int .i64 0, .int .i64 0, .int .i64 0] 45)) := (Fr.refl _ _).alloc _
    have HF14 := Lib.hid ((HF12.out.trans hf13).trans hf14)
    have hB14 := (HB12.out.fr hf13 (fun h => h)).fr hf14 (fun h => h)
    have hC14 := (HC12.out.fr hf13 (fun h => h)).fr hf14 (fun h => h)
    have HB14 := Lib.hid hB14
    have HC14 := Lib.hid hC14
    clear hf13 hf14 HF12 HB12 HC12 HE12 hB14 hC14
    go_wp2_with fail
    refine (move_nil _ _).mono ?_
    rintro e w15 ⟨rfl, rfl⟩
    have yE60 : (w13.alloc (.cells #[.bool false, .int .i64 0, .int .i64 0, .int .i64 0] 45)).cell? ⟨E6, 0, none⟩ = some (.bool false) := by rw [HB14.out.cell]; rfl
    have yE61 : (w13.alloc (.cells #[.bool false, .int .i64 0, .int .i64 0, .int .i64 0] 45)).cell? ⟨E6, 1, none⟩ = some (.int .i64 0) := by rw [HB14.out.cell]; rfl
    have yE62 : (w13.alloc (.cells #[.bool false, .int .i64 0, .int .i64 0, .int .i64 0] 45)).cell? ⟨E6, 2, none⟩ = some (.int .i64 0) := by rw [HB14.out.cell]; rfl
    have yE63 : (w13.alloc (.cells #[.bool false, .int .i64 0, .int .i64 0, .int .i64 0] 45)).cell? ⟨E6, 3, none⟩ = some (.int .i64 0) := by rw [HB14.out.cell]; rfl
    have yE120 : (w13.alloc (.cells #[.bool false, .int .i64 0, .int .i64 0, .int .i64 0] 45)).cell? ⟨E12, 0, none⟩ = some (.bool false) := by rw [HC14.out.cell]; rfl
    have yE121 : (w13.alloc (.cells #[.bool false, .int .i64 0, .int .i64 0, .int .i64 0] 45)).cell? ⟨E12, 1, none⟩ = some (.int .i64 0) := by rw [HC14.out.cell]; rfl
    have yE122 : (w13.alloc (.cells #[.bool false, .int .i64 0, .int .i64 0, .int .i64 0] 45)).cell? ⟨E12, 2, none⟩ = some (.int .i64 0) := by rw [HC14.out.cell]; rfl
    have yE123 : (w13.alloc (.cells #[.bool false, .int .i64 0, .int .i64 0, .int .i64 0] 45)).cell? ⟨E12, 3, none⟩ = some (.int .i64 0) := by rw [HC14.out.cell]; rfl
    go_wp2_with fail
    refine (awake_any _).mono ?_
    rintro e w16 ⟨rfl, hf16⟩
    have HFE := Lib.hid (HF14.out.trans hf16)
    clear hf16 HF14
    go_wp2_with fail
    go_ret
    exact ⟨rfl, HFE.out⟩
theorem walk (a0 : Bool) (a1 : Int) (_w1 : (Lit.int .i64 a1).wf = true) (w : World) :
    Calls Try.prog 5 #[.bool a0, .int .i64 a1] w fun e w' => e = .returned (.bool true) ∧ Below w.heap.size w w' :=
  (walk_f a0 a1 w).mono fun _ _ ⟨he, hf⟩ => ⟨he, hf.below (Nat.le_refl _) (fun _ h => h.elim)⟩

/-! ### The row's step -/
theorem own : ownKnob Try.prog.godebug = none := by kernel_rfl
theorem laidOut : laidOutB Try.prog = true := by kernel_rfl

set_option maxRecDepth 100000 in
theorem lifted (os : Os) (started : os.Started) (H : Type) (enc : TypeId × Value → H) :
    ReturnsInHanded {} Try.checked os 5 .any (Rows.cellNoneSpec.pre6 enc Try.prog Try.f5 Rows.cellNoneRow.domain false) (Rows.cellNoneSpec.post enc Try.prog Try.f5 false true false false) := by
  refine returnsInHanded_of_change (C := Try.checked) own started (by kernel_rfl) Try.func5
    (ChangeSpec.witness6 (enc := enc) (C := Try.checked) false ⟨#[], #[.bool false, .int .i64 0], []⟩ 8 (by kernel_rfl) (by kernel_rfl) (by kernel_rfl) (by kernel_rfl)) ?_
  intro W base args ds gs before hval0 hW hcnd _
  have hval : ∀ (j : Nat) t v, Try.f5.params[j]? = some t → args[j]? = some v → Value.okWide Try.prog W .any base t v := hval0
  have hW' := hW
  obtain ⟨p, q, hA0, hV, rfl, hfz, hnd⟩ := hW
  have hA : DataW.TrodAll enc Try.prog W 0 (fun _ => true) true Try.f5.params.toList args.toList ds p := hA0
  rw [Try.params5] at hA hval
  obtain ⟨v0, vs0, d0, ds0, p0, q0, hargs, rfl, rfl, h0, r0⟩ := trodAll_cons hA
  obtain ⟨v1, vs1, d1, ds1, p1, q1, rfl, rfl, rfl, h1, r1⟩ := trodAll_cons r0
  obtain ⟨rfl, rfl, rfl⟩ := trodAll_nil r1
  obtain rfl : args = #[v0, v1] := by cases args; simp_all
  obtain ⟨rfl, rfl⟩ := trodVars_none hV
  obtain ⟨a0, rfl, rfl, rfl⟩ := open_bool Try.underlying4 (hval 0 4 v0 rfl rfl) h0
  obtain ⟨a1, rfl, rfl, rfl, w1⟩ := open_int Try.underlying2 (hval 1 2 v1 rfl rfl) h1
  clear hA0 hval0
  refine (walk a0 a1 w1 W).mono fun e W' ⟨he, bel⟩ => ?_
  subst he
  exact ⟨_, rfl, _, _, _, [], _, [], hW', trodAll_mk1 (shut_bool Try.underlying4 _), (trodAll_cons_mk (shut_bool Try.underlying4 _) (trodAll_cons_mk (shut_int Try.underlying2 w1) trodAll_mk0)), rfl, bel.frame _, fun h => by cases h⟩

theorem over : Rows.cellNoneRow.holds Try.pinned (OpenSpec.ofChange Rows.cellNoneSpec) :=
  OpenClaim.holds_of_wide 5 Try.f5 rfl rfl rfl rfl rfl rfl rfl ⟨rfl, rfl, rfl, rfl, rfl⟩ rfl rfl rfl rfl rfl (by kernel_rfl) Try.func5 (by kernel_rfl)
    (of_decide_eq_true (by kernel_rfl)) (by unfold Func.isWrapper; first | (rw [if_pos (by decide +kernel)]; kernel_rfl) | (rw [if_neg (by decide +kernel)]; exact ⟨rfl, rfl⟩))
    (fun os started H enc _ => lifted os started H enc)

/-- The statement. -/
theorem proved : Rows.CellNoneSaid := over
#print axioms proved
end Go.Proofs.Ytldcffgjkfocoaa.cellNone
