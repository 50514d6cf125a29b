/-
  haymowlaw01.MemBounds returns true for every two 64-bit numbers and byte, and each argument reads as it did. No condition.
-/
import Derived.Test.YtlhhnpbpmjbbaaaEasy
import Derived.Test.YtlhhnpbpmjbbaaaRows
import Derived.ProofKit
import Derived.OpenShut
import Derived.ShutString
import Derived.ChangeOld
namespace Go.Proofs.Ytlhhnpbpmjbbaaa.memBounds
open Go.ChangeShapes Go.WideShapes Go.ChangeAt Go.RowKit
open Go.ChangeMaps (open_string shut_string)

/-- The words: all free, but k, which is 7. -/
def S1 (k : Nat) : List (Bool × Int) := (setR (List.replicate 50 ((false, 0) : Bool × Int)) k 1 (true, 0)).set k (true, 7)
theorem S1_length (k : Nat) : (S1 k).length = 50 := by unfold S1; rw [List.length_set, setR_length, List.length_replicate]
theorem S1_get (k i : Nat) (hk : k < 50) (hi : i < 50) : (S1 k)[i]? = if i = k then some (true, 7) else some (false, 0) := by
  unfold S1
  rw [List.getElem?_set, setR_length, List.length_replicate]
  by_cases e : k = i
  · subst e; rw [if_pos rfl, if_pos hk, if_pos rfl]
  · rw [if_neg e, if_neg (by omega), setR_get _ _ _ _ _ (by rw [List.length_replicate]; omega), if_neg (by omega), List.getElem?_replicate, if_pos hi]
theorem S1_fold (k : Nat) : (setR (List.replicate 50 ((false, 0) : Bool × Int)) k 1 (true, 0)).set k (true, 7) = S1 k := rfl
theorem R_get (k i a n : Nat) (hk : k < 50) (hi : i < 50) (han : a + n ≤ 50) : (setR (S1 k) a n (true, 0))[i]? = if a ≤ i ∧ i < a + n then some (true, 0) else if i = k then some (true, 7) else some (false, 0) := by
  rw [setR_get _ _ _ _ _ (by rw [S1_length]; exact han), S1_get k i hk hi]
theorem hB {w : World} : ∀ i, Two (w.heap.size + 1) w.heap.size i → False ∨ w.heap.size ≤ i := by
  rintro i (rfl | rfl)
  · exact .inr (by omega)
  · exact .inr (by omega)

set_option maxHeartbeats 2000000 in
theorem out_neg (a n : Int) (b k : Nat) (hbl : b < 256) (hk : (b : Int) % 50 = k) (hkl : k < 50) (hal : -9223372036854775808 ≤ a ∧ a ≤ 9223372036854775807) (hn : n < 0) (w : World) :
    Calls Try.prog 9 #[.int .i64 a, .int .i64 n, .int .u8 b] w fun e w' => e = .returned (.bool true) ∧ Below w.heap.size w w' := by
  have f1 : decide (0 ≤ n) = false := by simp; omega
  have HK := Lib.hid hk
  clear hk
  go_enter Try.func9, Try.ntmps9
  go_wp2_with (go_at_call 10; refine (new_yes 50 (by omega) w).mono ?_; rintro e w1 ⟨rfl, hM1, hF1⟩)
  rw [HK.out]
  refine (live_ok w1 _ _ _ _ hM1 _ _ k 1 rfl rfl (by rw [List.length_replicate]; omega) (by rw [List.length_replicate]; omega) (fun j hj => ⟨0, by rw [List.getElem?_replicate, if_pos (by omega)]⟩)).mono ?_
  rintro e w2 ⟨rfl, hM2, hF2⟩
  go_wp2_with fail
  refine (store_ok w2 _ _ _ _ hM2 k 0 7 (by rw [setR_get _ _ _ _ _ (by rw [List.length_replicate]; omega), if_pos (by omega)]) (by omega) (by omega)).mono ?_
  rintro e w3 ⟨rfl, hM3, hF3⟩
  rw [S1_fold] at hM3
  go_wp2_with fail
  refine (live_out w3 _ _ _ _ hM3 _ _ (by rw [S1_length]; omega) hal (by rw [S1_length]; omega)).mono ?_
  rintro e w4 ⟨rfl, hM4, hF4⟩
  go_wp2_with fail
  refine (load_ok w4 _ _ _ _ hM4 k 7 (by rw [S1_get _ _ hkl hkl, if_pos rfl]) (by omega) (by omega)).mono ?_
  rintro e w5 ⟨rfl, hM5, hF5⟩
  go_wp2_with fail
  go_loopw [15] (fun i wr => ∃ j : Nat, j ≤ 50 ∧ i = .int .i64 j ∧ ∃ st : Int, 0 ≤ st ∧ st ≤ 100 + j ∧ MemIs wr (w.heap.size + 1) w.heap.size (S1 k) st ∧ Fr (fun _ => False) w wr) (fun i _ => 50 - (intOf i).toNat)
  case atStart => exact ⟨0, by omega, rfl, _, by omega, by omega, hM5, (((hF1.then hF2 hB).then hF3 hB).then hF4 hB).then hF5 hB⟩
  case round =>
    obtain ⟨j, hj, rfl, st, hst0, hst1, hMr, hFr⟩ := hrel
    by_cases hlt : j < 50
    · go_wp2_with fail
      by_cases hjk : j = k
      · subst hjk
        refine (load_ok wr _ _ _ _ hMr j 7 (by rw [S1_get _ _ hlt hlt, if_pos rfl]) (by omega) (by omega)).mono ?_
        rintro e w6 ⟨rfl, hM6, hF6⟩
        go_wp2_with fail
        exact ⟨⟨j + 1, by omega, by go_num, st + 1, by omega, by omega, hM6, hFr.then hF6 hB⟩, by simp [intOf]; omega⟩
      · have hb : ((j : Int) == (k : Int)) = false := by simp; omega
        refine (load_free wr _ _ _ _ hMr j 0 (by rw [S1_get _ _ hkl hlt, if_neg hjk])).mono ?_
        rintro e w6 ⟨rfl, hM6, hF6⟩
        go_wp2_with fail
        exact ⟨⟨j + 1, by omega, by go_num, st, by omega, by omega, hM6, hFr.then hF6 hB⟩, by simp [intOf]; omega⟩

    · go_wp2_with (go_at_call 15; refine (awake_any _).mono ?_; rintro e w6 ⟨rfl, hF6⟩)
      go_ret
      exact ⟨rfl, (hFr.trans hF6).below (Nat.le_refl _) (fun _ h => h.elim)⟩

set_option maxHeartbeats 2000000 in
theorem out_low (a n : Int) (b k : Nat) (hbl : b < 256) (hk : (b : Int) % 50 = k) (hkl : k < 50) (hal : -9223372036854775808 ≤ a ∧ a ≤ 9223372036854775807) (hn : 0 ≤ n) (ha : a < 0) (w : World) :
    Calls Try.prog 9 #[.int .i64 a, .int .i64 n, .int .u8 b] w fun e w' => e = .returned (.bool true) ∧ Below w.heap.size w w' := by
  have f1 : decide (0 ≤ n) = true := by simp; omega
  have f2 : decide (0 ≤ a) = false := by simp; omega
  have HK := Lib.hid hk
  clear hk
  go_enter Try.func9, Try.ntmps9
  go_wp2_with (go_at_call 10; refine (new_yes 50 (by omega) w).mono ?_; rintro e w1 ⟨rfl, hM1, hF1⟩)
  rw [HK.out]
  refine (live_ok w1 _ _ _ _ hM1 _ _ k 1 rfl rfl (by rw [List.length_replicate]; omega) (by rw [List.length_replicate]; omega) (fun j hj => ⟨0, by rw [List.getElem?_replicate, if_pos (by omega)]⟩)).mono ?_
  rintro e w2 ⟨rfl, hM2, hF2⟩
  go_wp2_with fail
  refine (store_ok w2 _ _ _ _ hM2 k 0 7 (by rw [setR_get _ _ _ _ _ (by rw [List.length_replicate]; omega), if_pos (by omega)]) (by omega) (by omega)).mono ?_
  rintro e w3 ⟨rfl, hM3, hF3⟩
  rw [S1_fold] at hM3
  go_wp2_with fail
  refine (live_out w3 _ _ _ _ hM3 _ _ (by rw [S1_length]; omega) hal (by rw [S1_length]; omega)).mono ?_
  rintro e w4 ⟨rfl, hM4, hF4⟩
  go_wp2_with fail
  refine (load_ok w4 _ _ _ _ hM4 k 7 (by rw [S1_get _ _ hkl hkl, if_pos rfl]) (by omega) (by omega)).mono ?_
  rintro e w5 ⟨rfl, hM5, hF5⟩
  go_wp2_with fail
  go_loopw [15] (fun i wr => ∃ j : Nat, j ≤ 50 ∧ i = .int .i64 j ∧ ∃ st : Int, 0 ≤ st ∧ st ≤ 100 + j ∧ MemIs wr (w.heap.size + 1) w.heap.size (S1 k) st ∧ Fr (fun _ => False) w wr) (fun i _ => 50 - (intOf i).toNat)
  case atStart => exact ⟨0, by omega, rfl, _, by omega, by omega, hM5, (((hF1.then hF2 hB).then hF3 hB).then hF4 hB).then hF5 hB⟩
  case round =>
    obtain ⟨j, hj, rfl, st, hst0, hst1, hMr, hFr⟩ := hrel
    by_cases hlt : j < 50
    · go_wp2_with fail
      by_cases hjk : j = k
      · subst hjk
        refine (load_ok wr _ _ _ _ hMr j 7 (by rw [S1_get _ _ hlt hlt, if_pos rfl]) (by omega) (by omega)).mono ?_
        rintro e w6 ⟨rfl, hM6, hF6⟩
        go_wp2_with fail
        exact ⟨⟨j + 1, by omega, by go_num, st + 1, by omega, by omega, hM6, hFr.then hF6 hB⟩, by simp [intOf]; omega⟩
      · have hb : ((j : Int) == (k : Int)) = false := by simp; omega
        refine (load_free wr _ _ _ _ hMr j 0 (by rw [S1_get _ _ hkl hlt, if_neg hjk])).mono ?_
        rintro e w6 ⟨rfl, hM6, hF6⟩
        go_wp2_with fail
        exact ⟨⟨j + 1, by omega, by go_num, st, by omega, by omega, hM6, hFr.then hF6 hB⟩, by simp [intOf]; omega⟩

    · go_wp2_with (go_at_call 15; refine (awake_any _).mono ?_; rintro e w6 ⟨rfl, hF6⟩)
      go_ret
      exact ⟨rfl, (hFr.trans hF6).below (Nat.le_refl _) (fun _ h => h.elim)⟩

set_option maxHeartbeats 2000000 in
theorem out_high (a n : Int) (b k : Nat) (hbl : b < 256) (hk : (b : Int) % 50 = k) (hkl : k < 50) (hal : -9223372036854775808 ≤ a ∧ a ≤ 9223372036854775807) (hn : 0 ≤ n) (ha : 50 < a) (w : World) :
    Calls Try.prog 9 #[.int .i64 a, .int .i64 n, .int .u8 b] w fun e w' => e = .returned (.bool true) ∧ Below w.heap.size w w' := by
  have f1 : decide (0 ≤ n) = true := by simp; omega
  have f2 : decide (0 ≤ a) = true := by simp; omega
  have f3 : decide (a ≤ 50) = false := by simp; omega
  have HK := Lib.hid hk
  clear hk
  go_enter Try.func9, Try.ntmps9
  go_wp2_with (go_at_call 10; refine (new_yes 50 (by omega) w).mono ?_; rintro e w1 ⟨rfl, hM1, hF1⟩)
  rw [HK.out]
  refine (live_ok w1 _ _ _ _ hM1 _ _ k 1 rfl rfl (by rw [List.length_replicate]; omega) (by rw [List.length_replicate]; omega) (fun j hj => ⟨0, by rw [List.getElem?_replicate, if_pos (by omega)]⟩)).mono ?_
  rintro e w2 ⟨rfl, hM2, hF2⟩
  go_wp2_with fail
  refine (store_ok w2 _ _ _ _ hM2 k 0 7 (by rw [setR_get _ _ _ _ _ (by rw [List.length_replicate]; omega), if_pos (by omega)]) (by omega) (by omega)).mono ?_
  rintro e w3 ⟨rfl, hM3, hF3⟩
  rw [S1_fold] at hM3
  go_wp2_with fail
  refine (live_out w3 _ _ _ _ hM3 _ _ (by rw [S1_length]; omega) hal (by rw [S1_length]; omega)).mono ?_
  rintro e w4 ⟨rfl, hM4, hF4⟩
  go_wp2_with fail
  refine (load_ok w4 _ _ _ _ hM4 k 7 (by rw [S1_get _ _ hkl hkl, if_pos rfl]) (by omega) (by omega)).mono ?_
  rintro e w5 ⟨rfl, hM5, hF5⟩
  go_wp2_with fail
  go_loopw [15] (fun i wr => ∃ j : Nat, j ≤ 50 ∧ i = .int .i64 j ∧ ∃ st : Int, 0 ≤ st ∧ st ≤ 100 + j ∧ MemIs wr (w.heap.size + 1) w.heap.size (S1 k) st ∧ Fr (fun _ => False) w wr) (fun i _ => 50 - (intOf i).toNat)
  case atStart => exact ⟨0, by omega, rfl, _, by omega, by omega, hM5, (((hF1.then hF2 hB).then hF3 hB).then hF4 hB).then hF5 hB⟩
  case round =>
    obtain ⟨j, hj, rfl, st, hst0, hst1, hMr, hFr⟩ := hrel
    by_cases hlt : j < 50
    · go_wp2_with fail
      by_cases hjk : j = k
      · subst hjk
        refine (load_ok wr _ _ _ _ hMr j 7 (by rw [S1_get _ _ hlt hlt, if_pos rfl]) (by omega) (by omega)).mono ?_
        rintro e w6 ⟨rfl, hM6, hF6⟩
        go_wp2_with fail
        exact ⟨⟨j + 1, by omega, by go_num, st + 1, by omega, by omega, hM6, hFr.then hF6 hB⟩, by simp [intOf]; omega⟩
      · have hb : ((j : Int) == (k : Int)) = false := by simp; omega
        refine (load_free wr _ _ _ _ hMr j 0 (by rw [S1_get _ _ hkl hlt, if_neg hjk])).mono ?_
        rintro e w6 ⟨rfl, hM6, hF6⟩
        go_wp2_with fail
        exact ⟨⟨j + 1, by omega, by go_num, st, by omega, by omega, hM6, hFr.then hF6 hB⟩, by simp [intOf]; omega⟩

    · go_wp2_with (go_at_call 15; refine (awake_any _).mono ?_; rintro e w6 ⟨rfl, hF6⟩)
      go_ret
      exact ⟨rfl, (hFr.trans hF6).below (Nat.le_refl _) (fun _ h => h.elim)⟩

set_option maxHeartbeats 2000000 in
theorem out_long (a n : Int) (b k : Nat) (hbl : b < 256) (hk : (b : Int) % 50 = k) (hkl : k < 50) (hal : -9223372036854775808 ≤ a ∧ a ≤ 9223372036854775807) (hn : 50 - a < n) (ha : 0 ≤ a) (ha2 : a ≤ 50) (w : World) :
    Calls Try.prog 9 #[.int .i64 a, .int .i64 n, .int .u8 b] w fun e w' => e = .returned (.bool true) ∧ Below w.heap.size w w' := by
  have f1 : decide (0 ≤ n) = true := by simp; omega
  have f2 : decide (0 ≤ a) = true := by simp; omega
  have f3 : decide (a ≤ 50) = true := by simp; omega
  have f4 : decide (n ≤ 50 - a) = false := by simp; omega
  have HK := Lib.hid hk
  clear hk
  go_enter Try.func9, Try.ntmps9
  go_wp2_with (go_at_call 10; refine (new_yes 50 (by omega) w).mono ?_; rintro e w1 ⟨rfl, hM1, hF1⟩)
  rw [HK.out]
  refine (live_ok w1 _ _ _ _ hM1 _ _ k 1 rfl rfl (by rw [List.length_replicate]; omega) (by rw [List.length_replicate]; omega) (fun j hj => ⟨0, by rw [List.getElem?_replicate, if_pos (by omega)]⟩)).mono ?_
  rintro e w2 ⟨rfl, hM2, hF2⟩
  go_wp2_with fail
  refine (store_ok w2 _ _ _ _ hM2 k 0 7 (by rw [setR_get _ _ _ _ _ (by rw [List.length_replicate]; omega), if_pos (by omega)]) (by omega) (by omega)).mono ?_
  rintro e w3 ⟨rfl, hM3, hF3⟩
  rw [S1_fold] at hM3
  go_wp2_with fail
  refine (live_out w3 _ _ _ _ hM3 _ _ (by rw [S1_length]; omega) hal (by rw [S1_length]; omega)).mono ?_
  rintro e w4 ⟨rfl, hM4, hF4⟩
  go_wp2_with fail
  refine (load_ok w4 _ _ _ _ hM4 k 7 (by rw [S1_get _ _ hkl hkl, if_pos rfl]) (by omega) (by omega)).mono ?_
  rintro e w5 ⟨rfl, hM5, hF5⟩
  go_wp2_with fail
  go_loopw [15] (fun i wr => ∃ j : Nat, j ≤ 50 ∧ i = .int .i64 j ∧ ∃ st : Int, 0 ≤ st ∧ st ≤ 100 + j ∧ MemIs wr (w.heap.size + 1) w.heap.size (S1 k) st ∧ Fr (fun _ => False) w wr) (fun i _ => 50 - (intOf i).toNat)
  case atStart => exact ⟨0, by omega, rfl, _, by omega, by omega, hM5, (((hF1.then hF2 hB).then hF3 hB).then hF4 hB).then hF5 hB⟩
  case round =>
    obtain ⟨j, hj, rfl, st, hst0, hst1, hMr, hFr⟩ := hrel
    by_cases hlt : j < 50
    · go_wp2_with fail
      by_cases hjk : j = k
      · subst hjk
        refine (load_ok wr _ _ _ _ hMr j 7 (by rw [S1_get _ _ hlt hlt, if_pos rfl]) (by omega) (by omega)).mono ?_
        rintro e w6 ⟨rfl, hM6, hF6⟩
        go_wp2_with fail
        exact ⟨⟨j + 1, by omega, by go_num, st + 1, by omega, by omega, hM6, hFr.then hF6 hB⟩, by simp [intOf]; omega⟩
      · have hb : ((j : Int) == (k : Int)) = false := by simp; omega
        refine (load_free wr _ _ _ _ hMr j 0 (by rw [S1_get _ _ hkl hlt, if_neg hjk])).mono ?_
        rintro e w6 ⟨rfl, hM6, hF6⟩
        go_wp2_with fail
        exact ⟨⟨j + 1, by omega, by go_num, st, by omega, by omega, hM6, hFr.then hF6 hB⟩, by simp [intOf]; omega⟩

    · go_wp2_with (go_at_call 15; refine (awake_any _).mono ?_; rintro e w6 ⟨rfl, hF6⟩)
      go_ret
      exact ⟨rfl, (hFr.trans hF6).below (Nat.le_refl _) (fun _ h => h.elim)⟩

set_option maxHeartbeats 2000000 in
theorem in_hit (a n b k : Nat) (hbl : b < 256) (hk : (b : Int) % 50 = k) (hkl : k < 50) (han : a + n ≤ 50) (h1 : a ≤ k) (h2 : k < a + n) (w : World) :
    Calls Try.prog 9 #[.int .i64 a, .int .i64 n, .int .u8 b] w fun e w' => e = .returned (.bool true) ∧ Below w.heap.size w w' := by
  have f3 : decide ((a : Int) ≤ 50) = true := by simp; omega
  have f4 : decide ((n : Int) ≤ 50 - (a : Int)) = true := by simp; omega
  have f5 : (a : Int) ≤ (k : Int) := by omega
  have f6 : (k : Int) < (a : Int) + (n : Int) := by omega
  have HK := Lib.hid hk
  clear hk
  go_enter Try.func9, Try.ntmps9
  go_wp2_with (go_at_call 10; refine (new_yes 50 (by omega) w).mono ?_; rintro e w1 ⟨rfl, hM1, hF1⟩)
  rw [HK.out]
  refine (live_ok w1 _ _ _ _ hM1 _ _ k 1 rfl rfl (by rw [List.length_replicate]; omega) (by rw [List.length_replicate]; omega) (fun j hj => ⟨0, by rw [List.getElem?_replicate, if_pos (by omega)]⟩)).mono ?_
  rintro e w2 ⟨rfl, hM2, hF2⟩
  go_wp2_with fail
  refine (store_ok w2 _ _ _ _ hM2 k 0 7 (by rw [setR_get _ _ _ _ _ (by rw [List.length_replicate]; omega), if_pos (by omega)]) (by omega) (by omega)).mono ?_
  rintro e w3 ⟨rfl, hM3, hF3⟩
  rw [S1_fold] at hM3
  go_wp2_with fail
  refine (live_hit w3 _ _ _ _ hM3 _ _ a n rfl rfl (by rw [S1_length]; omega) (by rw [S1_length]; omega) (k - a) (by omega) 7 (by rw [show a + (k - a) = k from by omega, S1_get _ _ hkl hkl, if_pos rfl])).mono ?_
  rintro e w4 ⟨rfl, hM4, hF4⟩
  go_wp2_with fail
  refine (load_ok w4 _ _ _ _ hM4 k 7 (by rw [S1_get _ _ hkl hkl, if_pos rfl]) (by omega) (by omega)).mono ?_
  rintro e w5 ⟨rfl, hM5, hF5⟩
  go_wp2_with fail
  go_loopw [15] (fun i wr => ∃ j : Nat, j ≤ 50 ∧ i = .int .i64 j ∧ ∃ st : Int, 0 ≤ st ∧ st ≤ 100 + j ∧ MemIs wr (w.heap.size + 1) w.heap.size (S1 k) st ∧ Fr (fun _ => False) w wr) (fun i _ => 50 - (intOf i).toNat)
  case atStart => exact ⟨0, by omega, rfl, _, by omega, by omega, hM5, (((hF1.then hF2 hB).then hF3 hB).then hF4 hB).then hF5 hB⟩
  case round =>
    obtain ⟨j, hj, rfl, st, hst0, hst1, hMr, hFr⟩ := hrel
    by_cases hlt : j < 50
    · go_wp2_with fail
      by_cases hjk : j = k
      · subst hjk
        refine (load_ok wr _ _ _ _ hMr j 7 (by rw [S1_get _ _ hlt hlt, if_pos rfl]) (by omega) (by omega)).mono ?_
        rintro e w6 ⟨rfl, hM6, hF6⟩
        go_wp2_with fail
        exact ⟨⟨j + 1, by omega, by go_num, st + 1, by omega, by omega, hM6, hFr.then hF6 hB⟩, by simp [intOf]; omega⟩
      · have hb : ((j : Int) == (k : Int)) = false := by simp; omega
        refine (load_free wr _ _ _ _ hMr j 0 (by rw [S1_get _ _ hkl hlt, if_neg hjk])).mono ?_
        rintro e w6 ⟨rfl, hM6, hF6⟩
        go_wp2_with fail
        exact ⟨⟨j + 1, by omega, by go_num, st, by omega, by omega, hM6, hFr.then hF6 hB⟩, by simp [intOf]; omega⟩

    · go_wp2_with (go_at_call 15; refine (awake_any _).mono ?_; rintro e w6 ⟨rfl, hF6⟩)
      go_ret
      exact ⟨rfl, (hFr.trans hF6).below (Nat.le_refl _) (fun _ h => h.elim)⟩

set_option maxHeartbeats 2000000 in
theorem in_below (a n b k : Nat) (hbl : b < 256) (hk : (b : Int) % 50 = k) (hkl : k < 50) (han : a + n ≤ 50) (h1 : k < a) (w : World) :
    Calls Try.prog 9 #[.int .i64 a, .int .i64 n, .int .u8 b] w fun e w' => e = .returned (.bool true) ∧ Below w.heap.size w w' := by
  have f3 : decide ((a : Int) ≤ 50) = true := by simp; omega
  have f4 : decide ((n : Int) ≤ 50 - (a : Int)) = true := by simp; omega
  have f5 : decide ((a : Int) ≤ (k : Int)) = false := by simp; omega
  have HK := Lib.hid hk
  clear hk
  go_enter Try.func9, Try.ntmps9
  go_wp2_with (go_at_call 10; refine (new_yes 50 (by omega) w).mono ?_; rintro e w1 ⟨rfl, hM1, hF1⟩)
  rw [HK.out]
  refine (live_ok w1 _ _ _ _ hM1 _ _ k 1 rfl rfl (by rw [List.length_replicate]; omega) (by rw [List.length_replicate]; omega) (fun j hj => ⟨0, by rw [List.getElem?_replicate, if_pos (by omega)]⟩)).mono ?_
  rintro e w2 ⟨rfl, hM2, hF2⟩
  go_wp2_with fail
  refine (store_ok w2 _ _ _ _ hM2 k 0 7 (by rw [setR_get _ _ _ _ _ (by rw [List.length_replicate]; omega), if_pos (by omega)]) (by omega) (by omega)).mono ?_
  rintro e w3 ⟨rfl, hM3, hF3⟩
  rw [S1_fold] at hM3
  go_wp2_with fail
  refine (live_ok w3 _ _ _ _ hM3 _ _ a n rfl rfl (by rw [S1_length]; omega) (by rw [S1_length]; omega) (fun j hj => ⟨0, by rw [S1_get _ _ hkl (by omega), if_neg (by omega)]⟩)).mono ?_
  rintro e w4 ⟨rfl, hM4, hF4⟩
  go_wp2_with fail
  refine (load_ok w4 _ _ _ _ hM4 k 7 (by rw [R_get _ _ _ _ hkl hkl han, if_neg (by omega), if_pos rfl]) (by omega) (by omega)).mono ?_
  rintro e w5 ⟨rfl, hM5, hF5⟩
  go_wp2_with fail
  go_loopw [15] (fun i wr => ∃ j : Nat, j ≤ 50 ∧ i = .int .i64 j ∧ ∃ st : Int, 0 ≤ st ∧ st ≤ 100 + j ∧ MemIs wr (w.heap.size + 1) w.heap.size (setR (S1 k) a n (true, 0)) st ∧ Fr (fun _ => False) w wr) (fun i _ => 50 - (intOf i).toNat)
  case atStart => exact ⟨0, by omega, rfl, _, by omega, by omega, hM5, (((hF1.then hF2 hB).then hF3 hB).then hF4 hB).then hF5 hB⟩
  case round =>
    obtain ⟨j, hj, rfl, st, hst0, hst1, hMr, hFr⟩ := hrel
    by_cases hlt : j < 50
    · go_wp2_with fail
      by_cases hjk : j = k
      · subst hjk
        refine (load_ok wr _ _ _ _ hMr j 7 (by rw [R_get _ _ _ _ hlt hlt han, if_neg (by omega), if_pos rfl]) (by omega) (by omega)).mono ?_
        rintro e w6 ⟨rfl, hM6, hF6⟩
        go_wp2_with fail
        exact ⟨⟨j + 1, by omega, by go_num, st + 1, by omega, by omega, hM6, hFr.then hF6 hB⟩, by simp [intOf]; omega⟩
      · have hb : ((j : Int) == (k : Int)) = false := by simp; omega
        by_cases hja : a ≤ j
        · by_cases hjn : j < a + n
          · have q1 : (a : Int) ≤ (j : Int) := by omega
            have q2 : (j : Int) < (a : Int) + (n : Int) := by omega
            refine (load_ok wr _ _ _ _ hMr j 0 (by rw [R_get _ _ _ _ hkl hlt han, if_pos ⟨hja, hjn⟩]) (by omega) (by omega)).mono ?_
            rintro e w6 ⟨rfl, hM6, hF6⟩
            go_wp2_with fail
            exact ⟨⟨j + 1, by omega, by go_num, st + 1, by omega, by omega, hM6, hFr.then hF6 hB⟩, by simp [intOf]; omega⟩
          · have q1 : (a : Int) ≤ (j : Int) := by omega
            have q2 : decide ((j : Int) < (a : Int) + (n : Int)) = false := by simp; omega
            refine (load_free wr _ _ _ _ hMr j 0 (by rw [R_get _ _ _ _ hkl hlt han, if_neg (by omega), if_neg hjk])).mono ?_
            rintro e w6 ⟨rfl, hM6, hF6⟩
            go_wp2_with fail
            exact ⟨⟨j + 1, by omega, by go_num, st, by omega, by omega, hM6, hFr.then hF6 hB⟩, by simp [intOf]; omega⟩
        · have q1 : decide ((a : Int) ≤ (j : Int)) = false := by simp; omega
          refine (load_free wr _ _ _ _ hMr j 0 (by rw [R_get _ _ _ _ hkl hlt han, if_neg (by omega), if_neg hjk])).mono ?_
          rintro e w6 ⟨rfl, hM6, hF6⟩
          go_wp2_with fail
          exact ⟨⟨j + 1, by omega, by go_num, st, by omega, by omega, hM6, hFr.then hF6 hB⟩, by simp [intOf]; omega⟩

    · go_wp2_with (go_at_call 15; refine (awake_any _).mono ?_; rintro e w6 ⟨rfl, hF6⟩)
      go_ret
      exact ⟨rfl, (hFr.trans hF6).below (Nat.le_refl _) (fun _ h => h.elim)⟩

set_option maxHeartbeats 2000000 in
theorem in_above (a n b k : Nat) (hbl : b < 256) (hk : (b : Int) % 50 = k) (hkl : k < 50) (han : a + n ≤ 50) (h1 : a ≤ k) (h2 : a + n ≤ k) (w : World) :
    Calls Try.prog 9 #[.int .i64 a, .int .i64 n, .int .u8 b] w fun e w' => e = .returned (.bool true) ∧ Below w.heap.size w w' := by
  have f3 : decide ((a : Int) ≤ 50) = true := by simp; omega
  have f4 : decide ((n : Int) ≤ 50 - (a : Int)) = true := by simp; omega
  have f5 : decide ((a : Int) ≤ (k : Int)) = true := by simp; omega
  have f6 : decide ((k : Int) < (a : Int) + (n : Int)) = false := by simp; omega
  have HK := Lib.hid hk
  clear hk
  go_enter Try.func9, Try.ntmps9
  go_wp2_with (go_at_call 10; refine (new_yes 50 (by omega) w).mono ?_; rintro e w1 ⟨rfl, hM1, hF1⟩)
  rw [HK.out]
  refine (live_ok w1 _ _ _ _ hM1 _ _ k 1 rfl rfl (by rw [List.length_replicate]; omega) (by rw [List.length_replicate]; omega) (fun j hj => ⟨0, by rw [List.getElem?_replicate, if_pos (by omega)]⟩)).mono ?_
  rintro e w2 ⟨rfl, hM2, hF2⟩
  go_wp2_with fail
  refine (store_ok w2 _ _ _ _ hM2 k 0 7 (by rw [setR_get _ _ _ _ _ (by rw [List.length_replicate]; omega), if_pos (by omega)]) (by omega) (by omega)).mono ?_
  rintro e w3 ⟨rfl, hM3, hF3⟩
  rw [S1_fold] at hM3
  go_wp2_with fail
  refine (live_ok w3 _ _ _ _ hM3 _ _ a n rfl rfl (by rw [S1_length]; omega) (by rw [S1_length]; omega) (fun j hj => ⟨0, by rw [S1_get _ _ hkl (by omega), if_neg (by omega)]⟩)).mono ?_
  rintro e w4 ⟨rfl, hM4, hF4⟩
  go_wp2_with fail
  refine (load_ok w4 _ _ _ _ hM4 k 7 (by rw [R_get _ _ _ _ hkl hkl han, if_neg (by omega), if_pos rfl]) (by omega) (by omega)).mono ?_
  rintro e w5 ⟨rfl, hM5, hF5⟩
  go_wp2_with fail
  go_loopw [15] (fun i wr => ∃ j : Nat, j ≤ 50 ∧ i = .int .i64 j ∧ ∃ st : Int, 0 ≤ st ∧ st ≤ 100 + j ∧ MemIs wr (w.heap.size + 1) w.heap.size (setR (S1 k) a n (true, 0)) st ∧ Fr (fun _ => False) w wr) (fun i _ => 50 - (intOf i).toNat)
  case atStart => exact ⟨0, by omega, rfl, _, by omega, by omega, hM5, (((hF1.then hF2 hB).then hF3 hB).then hF4 hB).then hF5 hB⟩
  case round =>
    obtain ⟨j, hj, rfl, st, hst0, hst1, hMr, hFr⟩ := hrel
    by_cases hlt : j < 50
    · go_wp2_with fail
      by_cases hjk : j = k
      · subst hjk
        refine (load_ok wr _ _ _ _ hMr j 7 (by rw [R_get _ _ _ _ hlt hlt han, if_neg (by omega), if_pos rfl]) (by omega) (by omega)).mono ?_
        rintro e w6 ⟨rfl, hM6, hF6⟩
        go_wp2_with fail
        exact ⟨⟨j + 1, by omega, by go_num, st + 1, by omega, by omega, hM6, hFr.then hF6 hB⟩, by simp [intOf]; omega⟩
      · have hb : ((j : Int) == (k : Int)) = false := by simp; omega
        by_cases hja : a ≤ j
        · by_cases hjn : j < a + n
          · have q1 : (a : Int) ≤ (j : Int) := by omega
            have q2 : (j : Int) < (a : Int) + (n : Int) := by omega
            refine (load_ok wr _ _ _ _ hMr j 0 (by rw [R_get _ _ _ _ hkl hlt han, if_pos ⟨hja, hjn⟩]) (by omega) (by omega)).mono ?_
            rintro e w6 ⟨rfl, hM6, hF6⟩
            go_wp2_with fail
            exact ⟨⟨j + 1, by omega, by go_num, st + 1, by omega, by omega, hM6, hFr.then hF6 hB⟩, by simp [intOf]; omega⟩
          · have q1 : (a : Int) ≤ (j : Int) := by omega
            have q2 : decide ((j : Int) < (a : Int) + (n : Int)) = false := by simp; omega
            refine (load_free wr _ _ _ _ hMr j 0 (by rw [R_get _ _ _ _ hkl hlt han, if_neg (by omega), if_neg hjk])).mono ?_
            rintro e w6 ⟨rfl, hM6, hF6⟩
            go_wp2_with fail
            exact ⟨⟨j + 1, by omega, by go_num, st, by omega, by omega, hM6, hFr.then hF6 hB⟩, by simp [intOf]; omega⟩
        · have q1 : decide ((a : Int) ≤ (j : Int)) = false := by simp; omega
          refine (load_free wr _ _ _ _ hMr j 0 (by rw [R_get _ _ _ _ hkl hlt han, if_neg (by omega), if_neg hjk])).mono ?_
          rintro e w6 ⟨rfl, hM6, hF6⟩
          go_wp2_with fail
          exact ⟨⟨j + 1, by omega, by go_num, st, by omega, by omega, hM6, hFr.then hF6 hB⟩, by simp [intOf]; omega⟩

    · go_wp2_with (go_at_call 15; refine (awake_any _).mono ?_; rintro e w6 ⟨rfl, hF6⟩)
      go_ret
      exact ⟨rfl, (hFr.trans hF6).below (Nat.le_refl _) (fun _ h => h.elim)⟩

theorem walk (a0 : Int) (h0 : (Lit.int .i64 a0).wf = true) (a1 : Int) (_ : (Lit.int .i64 a1).wf = true) (a2 : Int) (h2 : (Lit.int .u8 a2).wf = true) (w : World) :
    Calls Try.prog 9 #[.int .i64 a0, .int .i64 a1, .int .u8 a2] w fun e w' => e = .returned (.bool true) ∧ Below w.heap.size w w' := by
  have b2 := bounds_u8 h2
  have b0 := bounds_i64 h0
  obtain ⟨b, rfl⟩ := Int.eq_ofNat_of_zero_le b2.1
  obtain ⟨k, hk, hkl⟩ : ∃ k : Nat, (b : Int) % 50 = k ∧ k < 50 := ⟨b % 50, by omega, by omega⟩
  by_cases h1 : a1 < 0
  · exact out_neg a0 a1 b k (by omega) hk hkl (by omega) h1 w
  · by_cases h2 : a0 < 0
    · exact out_low a0 a1 b k (by omega) hk hkl (by omega) (by omega) h2 w
    · by_cases h3 : 50 < a0
      · exact out_high a0 a1 b k (by omega) hk hkl (by omega) (by omega) h3 w
      · by_cases h4 : 50 - a0 < a1
        · exact out_long a0 a1 b k (by omega) hk hkl (by omega) h4 (by omega) (by omega) w
        · obtain ⟨a, rfl⟩ := Int.eq_ofNat_of_zero_le (a := a0) (by omega)
          obtain ⟨n, rfl⟩ := Int.eq_ofNat_of_zero_le (a := a1) (by omega)
          by_cases h5 : k < a
          · exact in_below a n b k (by omega) hk hkl (by omega) h5 w
          · by_cases h6 : k < a + n
            · exact in_hit a n b k (by omega) hk hkl (by omega) (by omega) h6 w
            · exact in_above a n b k (by omega) hk hkl (by omega) (by omega) (by omega) w


/-! ### The row's step -/
theorem own : ownKnob Try.prog.godebug = none := by kernel_rfl
theorem laidOut : laidOutB Try.prog = true := by kernel_rfl

set_option maxRecDepth 100000 in
theorem lifted (os : Os) (started : os.Started) (H : Type) (enc : TypeId × Value → H) :
    ReturnsInHanded {} Try.checked os 9 .any (Rows.memBoundsSpec.pre6 enc Try.prog Try.f9 Rows.memBoundsRow.domain false) (Rows.memBoundsSpec.post enc Try.prog Try.f9 false true false false) := by
  refine returnsInHanded_of_change (C := Try.checked) own started (by kernel_rfl) Try.func9
    (ChangeSpec.witness6 (enc := enc) (C := Try.checked) false ⟨#[], #[.int .i64 0, .int .i64 0, .int .u8 0], []⟩ 8 (by kernel_rfl) (by kernel_rfl) (by kernel_rfl) (by kernel_rfl)) ?_
  intro W base args ds gs before hval0 hW hcnd _
  have hval : ∀ (j : Nat) t v, Try.f9.params[j]? = some t → args[j]? = some v → Value.okWide Try.prog W .any base t v := hval0
  have hW' := hW
  obtain ⟨p, q, hA0, hV, rfl, hfz, hnd⟩ := hW
  have hA : DataW.TrodAll enc Try.prog W 0 (fun _ => true) true Try.f9.params.toList args.toList ds p := hA0
  rw [Try.params9] at hA hval
  obtain ⟨v0, vs0, d0, ds0, p0, q0, hargs, rfl, rfl, h0, r0⟩ := trodAll_cons hA
  obtain ⟨v1, vs1, d1, ds1, p1, q1, rfl, rfl, rfl, h1, r1⟩ := trodAll_cons r0
  obtain ⟨v2, vs2, d2, ds2, p2, q2, rfl, rfl, rfl, h2, r2⟩ := trodAll_cons r1
  obtain ⟨rfl, rfl, rfl⟩ := trodAll_nil r2
  obtain rfl : args = #[v0, v1, v2] := by cases args; simp_all
  obtain ⟨rfl, rfl⟩ := trodVars_none hV
  obtain ⟨a0, rfl, rfl, rfl, w0⟩ := open_int Try.underlying3 (hval 0 3 v0 rfl rfl) h0
  obtain ⟨a1, rfl, rfl, rfl, w1⟩ := open_int Try.underlying3 (hval 1 3 v1 rfl rfl) h1
  obtain ⟨a2, rfl, rfl, rfl, w2⟩ := open_int Try.underlying5 (hval 2 5 v2 rfl rfl) h2
  clear hA0 hval0
  refine (walk a0 w0 a1 w1 a2 w2 W).mono fun e W' ⟨he, bel⟩ => ?_
  subst he
  exact ⟨_, rfl, _, _, _, [], _, [], hW', trodAll_mk1 (shut_bool Try.underlying4 _), (trodAll_cons_mk (shut_int Try.underlying3 w0) (trodAll_cons_mk (shut_int Try.underlying3 w1) (trodAll_cons_mk (shut_int Try.underlying5 w2) trodAll_mk0))), rfl, bel.frame _, fun h => by cases h⟩

theorem over : Rows.memBoundsRow.holds Try.pinned (OpenSpec.ofChange Rows.memBoundsSpec) :=
  OpenClaim.holds_of_wide 9 Try.f9 rfl rfl rfl rfl rfl rfl rfl ⟨rfl, rfl, rfl, rfl, rfl⟩ rfl rfl rfl rfl rfl (by kernel_rfl) Try.func9 (by kernel_rfl)
    (of_decide_eq_true (by kernel_rfl)) (by unfold Func.isWrapper; first | (rw [if_pos (by decide +kernel)]; kernel_rfl) | (rw [if_neg (by decide +kernel)]; exact ⟨rfl, rfl⟩))
    (fun os started H enc _ => lifted os started H enc)

/-- The statement. -/
theorem proved : Rows.MemBoundsSaid := over
#print axioms proved
end Go.Proofs.Ytlhhnpbpmjbbaaa.memBounds
