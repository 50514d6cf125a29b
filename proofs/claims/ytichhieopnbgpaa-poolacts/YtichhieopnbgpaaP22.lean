/-
  The chapter's example (awake) of layer 10 holds. No condition.
-/
import Derived.Test.YtichhieopnbgpaaP21
namespace Go.Proofs.Ytichhieopnbgpaa
open Go.RowKit

theorem Fr.g {w0 w w' : World} {G : Nat → Prop} (h : Fr F0 w0 w) (k : FrG w0 G w w') : Fr F0 w0 w' := h.then k (fun _ hi => .inr hi.1)
theorem free_at {n j : Nat} (h : j < n) : ∃ m, (List.replicate n ((false, 0) : Bool × Int))[j]? = some (false, m) := ⟨0, by rw [List.getElem?_replicate, if_pos h]⟩

abbrev exS : Shp := ⟨2, 4, 1, 1, 2, 0, 0⟩
abbrev exW : List (Bool × Int) := List.replicate 100 (false, 0)
abbrev ex1 : St := takeSt exS 0 (initSt exS exW) (0 * 4 + 0) [2] 1
abbrev ex2 : St := takeSt exS 0 ex1 (0 * 4 + 0) [] 2
abbrev ex3 : St := giveSt exS 0 ex2 (0 * 4 + 3) [] 1
theorem ex_t1 : takeP exS 0 (initSt exS exW) 0 0 = (1, 0, ex1) := takeP_some (i := 0) (c := 0) (by decide) (by decide) rfl
theorem ex_t2 : takeP exS 0 ex1 0 0 = (2, 0, ex2) := takeP_some (i := 0) (c := 0) (by decide) (by decide) rfl
theorem ex_g : giveP exS 0 ex2 1 1 = (0, ex3) := giveP_yes (i := 1) (n := 1) (a := 0) (z := 4) (o := 0) (c := 0) (by decide) rfl rfl rfl rfl
theorem ex_t3 : takeP exS 0 ex3 0 0 = (0, 9, ex3) := takeP_empty (i := 0) (c := 0) (by decide) (by decide) rfl
theorem ex_d : drainP exS ex3 0 = (1, drainSt exS ex3 0) := drainP_yes (S := exS) (σ := ex3) (i := 0) (by decide) rfl
theorem ex_f : (((drainSt exS ex3 0).ls).getD (0 * 4 + 0) []).length = 1 := by rfl
theorem exS_ok : exS.Ok := ⟨by decide, by decide, by decide, by decide, by decide, by decide, by decide, by decide⟩

set_option maxHeartbeats 4000000 in
theorem awake_any (w : World) : Calls Try.prog 22 #[] w fun e w' => e = .returned (.bool true) ∧ Fr F0 w w' := by
  have HM : Hid (Calls Try.prog 10 #[.int .i64 100] w fun e w' => e = .returned (.tuple #[.pointer (some ⟨w.heap.size + 1, 0, none⟩), .int .i64 0]) ∧ MemIs w' (w.heap.size + 1) w.heap.size exW 0 ∧ Fr (fun _ => False) w w') := new_yes 100 (by decide) w
  go_enter Try.func22, Try.ntmps22
  go_wp2_with fail
  refine HM.out.mono ?_
  rintro e w1 ⟨rfl, hM1, hF1⟩
  have HN : Hid (Calls Try.prog 12 #[.pointer (some ⟨w.heap.size + 1, 0, none⟩), .int .i64 0, .agg #[.int .i64 2, .int .i64 4, .int .i64 1, .int .i64 1, .int .i64 2, .int .i64 0, .int .i64 0]] w1 fun e w' => ∃ P, e = .returned (.tuple #[.pointer (some ⟨P, 0, none⟩), .int .i64 0]) ∧ Pl w F0 w' P (w.heap.size + 1) exS 0 0 (initSt exS exW) ∧ Fr F0 w1 w') :=
    new_pl w w1 hF1 exS exS_ok (by decide) 0 (w.heap.size + 1) w.heap.size (by decide) exW 0 hM1 (by omega) (by omega) (by decide) (by decide) (fun j hj => by
      rw [Nat.zero_add]
      exact free_at (Nat.lt_of_lt_of_le hj (by decide)))
  have HF1 := Lib.hid hF1
  clear hF1 hM1 HM
  go_wp2_with fail
  refine HN.out.mono ?_
  rintro e w2 ⟨P, rfl, hP2, hF2⟩
  have HF2 := Lib.hid (HF1.out.trans hF2)
  have HT1 := Lib.hid (take_pl hP2 0 0)
  rw [ex_t1] at HT1
  clear HN hP2 hF2
  go_wp2_with fail
  refine HT1.out.mono ?_
  rintro e w3 ⟨rfl, hP3, hF3⟩
  have HF3 := Lib.hid (HF2.out.g hF3)
  have HT2 := Lib.hid (take_pl hP3 0 0)
  rw [ex_t2] at HT2
  clear HT1 hP3 hF3
  go_wp2_with fail
  refine HT2.out.mono ?_
  rintro e w4 ⟨rfl, hP4, hF4⟩
  have HF4 := Lib.hid (HF3.out.g hF4)
  have HG := Lib.hid (give_pl hP4 1 1 (by decide))
  rw [ex_g] at HG
  clear HT2 hP4 hF4
  go_wp2_with fail
  refine HG.out.mono ?_
  rintro e w5 ⟨rfl, hP5, hF5⟩
  have HF5 := Lib.hid (HF4.out.g hF5)
  have HT3 := Lib.hid (take_pl hP5 0 0)
  rw [ex_t3] at HT3
  clear HG hP5 hF5
  go_wp2_with fail
  refine HT3.out.mono ?_
  rintro e w6 ⟨rfl, hP6, hF6⟩
  have HF6 := Lib.hid (HF5.out.g hF6)
  have HD := Lib.hid (drain_pl hP6 0)
  rw [ex_d] at HD
  clear HT3 hP6 hF6
  go_wp2_with fail
  refine HD.out.mono ?_
  rintro e w7 ⟨rfl, hP7, hF7⟩
  have HF7 := Lib.hid (HF6.out.g hF7)
  have HFR : Hid (Calls Try.prog 29 #[.pointer (some ⟨P, 0, none⟩), .int .i64 0, .int .i64 0] w7 fun e w' => e = .returned (.int .i64 1) ∧ w' = w7) := by
    have h := free_pl hP7 0 (by decide) 0 (by decide)
    rw [ex_f] at h
    exact h
  clear HD hP7 hF7
  go_wp2_with fail
  refine HFR.out.mono ?_
  rintro e w8 ⟨rfl, rfl⟩
  go_wp2_with fail
  go_ret
  exact ⟨rfl, HF7.out⟩
end Go.Proofs.Ytichhieopnbgpaa
