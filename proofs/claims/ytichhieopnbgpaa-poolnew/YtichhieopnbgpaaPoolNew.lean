/-
  The statement PoolNew holds: which pools there are, and what one that is not there answers. No condition.
-/
import Derived.Test.YtichhieopnbgpaaShpO
import Derived.Laws.Rows
import Derived.Test.YtichhieopnbgpaaRows
namespace Go.Proofs.Ytichhieopnbgpaa.poolNew
open Go.ChangeShapes Go.WideShapes Go.ChangeAt Go.RowKit
open Go.ChangeMaps (open_string shut_string)

set_option maxHeartbeats 4000000 in
set_option maxRecDepth 100000 in
theorem walk_a (w : World) (z : ShI) (base : Int) (hz : z.ok = false) :
    Calls Try.prog 5 #[.agg z.cells, .int .i64 base] w fun e w' => e = .returned (.bool true) ∧ Fr F0 w w' := by
  obtain ⟨wb, hwb⟩ : ∃ wb, wb = w.alloc (.cells z.cells 26) := ⟨_, rfl⟩
  have HF0 : Hid (Fr F0 w wb) := Lib.hid (by rw [hwb]; exact (Fr.refl _ _).alloc _)
  have HB : Hid (Blk wb w.heap.size 26 z.cells) := Lib.hid (by rw [hwb]; exact Blk.new _ _ _)
  have HM : Hid (Calls Try.prog 10 #[.int .i64 3000] wb fun e w' => e = .returned (.tuple #[.pointer (some ⟨wb.heap.size + 1, 0, none⟩), .int .i64 0]) ∧ MemIs w' (wb.heap.size + 1) wb.heap.size (List.replicate 3000 (false, 0)) 0 ∧ Fr (fun _ => False) wb w') := new_yes 3000 (by decide) wb
  go_enter Try.func5, Try.ntmps5
  go_wp2_with fail
  rw [← hwb]
  clear hwb
  refine HM.out.mono ?_
  rintro e w1 ⟨rfl, hM1, hF1⟩
  have HM1 := Lib.hid hM1
  have HB := Lib.hid (HB.out.fr hF1 (fun h => h))
  have HF1 := Lib.hid (HF0.out.trans hF1)
  clear hM1 hF1 HM
  go_wp2_with (refine wpList_load_row rfl 26 _ rfl w.heap.size rfl 26 z.cells (0, 0) _ HB.out Try.underlying26 rfl (by show _ = some 7; kernel_rfl) ?_)
  refine (of_any w1 z).mono ?_
  rintro e w2 ⟨rfl, hF2⟩
  have HF2 := Lib.hid (HF1.out.trans hF2)
  have HB := Lib.hid (HB.out.fr hF2 (fun h => h))
  have HM2 := Lib.hid (HM1.out.fr hF2 (fun h => h) (fun h => h))
  clear hF2 HM1 HF1
  go_wp2_with (refine wpList_load_row rfl 26 _ rfl w.heap.size rfl 26 z.cells (0, 0) _ HB.out Try.underlying26 rfl (by show _ = some 7; kernel_rfl) ?_)
  refine (new_arg w2 _ base z hz).mono ?_
  rintro e w3 ⟨rfl, hF⟩
  have HF3 := Lib.hid (HF2.out.trans hF)
  have HB := Lib.hid (HB.out.fr hF (fun h => h))
  clear hF
  go_wp2_with (refine wpList_load_row rfl 26 _ rfl w.heap.size rfl 26 z.cells (0, 0) _ HB.out Try.underlying26 rfl (by show _ = some 7; kernel_rfl) ?_)
  refine (take_nil w3 0 0).mono ?_
  rintro e w4 ⟨rfl, rfl⟩
  have HF4 := HF3
  go_wp2_with (refine wpList_load_row rfl 26 _ rfl w.heap.size rfl 26 z.cells (0, 0) _ HB.out Try.underlying26 rfl (by show _ = some 7; kernel_rfl) ?_)
  refine (where_nil w4 1).mono ?_
  rintro e w5 ⟨rfl, rfl⟩
  have HF5 := HF4
  go_wp2_with (refine wpList_load_row rfl 26 _ rfl w.heap.size rfl 26 z.cells (0, 0) _ HB.out Try.underlying26 rfl (by show _ = some 7; kernel_rfl) ?_)
  refine (give_nil w5 0 1).mono ?_
  rintro e w6 ⟨rfl, rfl⟩
  have HF6 := HF5
  go_wp2_with (refine wpList_load_row rfl 26 _ rfl w.heap.size rfl 26 z.cells (0, 0) _ HB.out Try.underlying26 rfl (by show _ = some 7; kernel_rfl) ?_)
  refine (drain_nil w6 0).mono ?_
  rintro e w7 ⟨rfl, rfl⟩
  have HF7 := HF6
  go_wp2_with (refine wpList_load_row rfl 26 _ rfl w.heap.size rfl 26 z.cells (0, 0) _ HB.out Try.underlying26 rfl (by show _ = some 7; kernel_rfl) ?_)
  refine (pfree_nil w7 0 0).mono ?_
  rintro e w8 ⟨rfl, rfl⟩
  have HF8 := HF7
  go_wp2_with (refine wpList_load_row rfl 26 _ rfl w.heap.size rfl 26 z.cells (0, 0) _ HB.out Try.underlying26 rfl (by show _ = some 7; kernel_rfl) ?_)
  refine (remote_nil w8 0).mono ?_
  rintro e w9 ⟨rfl, rfl⟩
  have HF9 := HF8
  go_wp2_with (refine wpList_load_row rfl 26 _ rfl w.heap.size rfl 26 z.cells (0, 0) _ HB.out Try.underlying26 rfl (by show _ = some 7; kernel_rfl) ?_)
  refine (home_nil w9).mono ?_
  rintro e w10 ⟨rfl, hF⟩
  have HF10 := Lib.hid (HF9.out.trans hF)
  have HB := Lib.hid (HB.out.fr hF (fun h => h))
  clear hF
  go_wp2_with (refine wpList_load_row rfl 26 _ rfl w.heap.size rfl 26 z.cells (0, 0) _ HB.out Try.underlying26 rfl (by show _ = some 7; kernel_rfl) ?_)
  refine (dright_any w10 z).mono ?_
  rintro e w11 ⟨rfl, hF⟩
  have HF11 := Lib.hid (HF10.out.trans hF)
  have HB := Lib.hid (HB.out.fr hF (fun h => h))
  clear hF
  rw [hz]
  have c0 : w11.cell? ⟨w.heap.size, 0, none⟩ = some (.int .i64 z.k) := by rw [HB.out.cell]; rfl
  have c1 : w11.cell? ⟨w.heap.size, 1, none⟩ = some (.int .i64 z.s0) := by rw [HB.out.cell]; rfl
  have c2 : w11.cell? ⟨w.heap.size, 2, none⟩ = some (.int .i64 z.s1) := by rw [HB.out.cell]; rfl
  have c3 : w11.cell? ⟨w.heap.size, 3, none⟩ = some (.int .i64 z.s2) := by rw [HB.out.cell]; rfl
  have c4 : w11.cell? ⟨w.heap.size, 4, none⟩ = some (.int .i64 z.m0) := by rw [HB.out.cell]; rfl
  have c5 : w11.cell? ⟨w.heap.size, 5, none⟩ = some (.int .i64 z.m1) := by rw [HB.out.cell]; rfl
  have c6 : w11.cell? ⟨w.heap.size, 6, none⟩ = some (.int .i64 z.m2) := by rw [HB.out.cell]; rfl
  go_wp2_with (refine wpList_load_row rfl 26 _ rfl w.heap.size rfl 26 z.cells (0, 0) _ HB.out Try.underlying26 rfl (by show _ = some 7; kernel_rfl) ?_)
  refine (of_any w11 z).mono ?_
  rintro e w12 ⟨rfl, hF⟩
  have HF12 := Lib.hid (HF11.out.trans hF)
  have HB := Lib.hid (HB.out.fr hF (fun h => h))
  clear hF
  clear c0 c1 c2 c3 c4 c5 c6
  go_wp2_with (refine wpList_load_row rfl 26 _ rfl w.heap.size rfl 26 z.cells (0, 0) _ HB.out Try.underlying26 rfl (by show _ = some 7; kernel_rfl) ?_)
  refine (pwords_no w12 z hz).mono ?_
  rintro e w13 ⟨rfl, hF⟩
  have HF13 := Lib.hid (HF12.out.trans hF)
  have HB := Lib.hid (HB.out.fr hF (fun h => h))
  clear hF
  go_wp2_with (refine wpList_load_row rfl 26 _ rfl w.heap.size rfl 26 z.cells (0, 0) _ HB.out Try.underlying26 rfl (by show _ = some 7; kernel_rfl) ?_)
  refine (awake_any w13).mono ?_
  rintro e w14 ⟨rfl, hF⟩
  have HF14 := Lib.hid (HF13.out.trans hF)
  have HB := Lib.hid (HB.out.fr hF (fun h => h))
  clear hF
  go_wp2_with fail
  go_ret
  exact ⟨rfl, HF14.out⟩

set_option maxHeartbeats 4000000 in
set_option maxRecDepth 100000 in
theorem walk_b (w : World) (S : Shp) (hS : S.Ok) (base : Int) (hl : 65536 < S.words) :
    Calls Try.prog 5 #[.agg S.i.cells, .int .i64 base] w fun e w' => e = .returned (.bool true) ∧ Fr F0 w w' := by
  obtain ⟨n, hn⟩ : ∃ n, n = S.words := ⟨_, rfl⟩
  have g1 : (65536 : Int) < (n : Int) := by omega
  have HPW := Lib.hid (fun w => pwords_ok w S hS)
  rw [if_pos hl] at HPW
  have HDW := Lib.hid (fun w => dwords_ok w S hS)
  rw [← hn] at HDW
  have HDR := Lib.hid (fun w => dright_any w S.i)
  rw [hS.i] at HDR
  have HNL := Lib.hid (fun w mv => new_long w mv base S hS hl)
  clear hl hn
  obtain ⟨wb, hwb⟩ : ∃ wb, wb = w.alloc (.cells S.i.cells 26) := ⟨_, rfl⟩
  have HF0 : Hid (Fr F0 w wb) := Lib.hid (by rw [hwb]; exact (Fr.refl _ _).alloc _)
  have HB : Hid (Blk wb w.heap.size 26 S.i.cells) := Lib.hid (by rw [hwb]; exact Blk.new _ _ _)
  have HM : Hid (Calls Try.prog 10 #[.int .i64 3000] wb fun e w' => e = .returned (.tuple #[.pointer (some ⟨wb.heap.size + 1, 0, none⟩), .int .i64 0]) ∧ MemIs w' (wb.heap.size + 1) wb.heap.size (List.replicate 3000 (false, 0)) 0 ∧ Fr (fun _ => False) wb w') := new_yes 3000 (by decide) wb
  go_enter Try.func5, Try.ntmps5
  go_wp2_with fail
  rw [← hwb]
  clear hwb
  refine HM.out.mono ?_
  rintro e w1 ⟨rfl, hM1, hF1⟩
  have HM1 := Lib.hid hM1
  have HB := Lib.hid (HB.out.fr hF1 (fun h => h))
  have HF1 := Lib.hid (HF0.out.trans hF1)
  clear hM1 hF1 HM
  go_wp2_with (refine wpList_load_row rfl 26 _ rfl w.heap.size rfl 26 S.i.cells (0, 0) _ HB.out Try.underlying26 rfl (by show _ = some 7; kernel_rfl) ?_)
  refine (of_any w1 S.i).mono ?_
  rintro e w2 ⟨rfl, hF2⟩
  have HF2 := Lib.hid (HF1.out.trans hF2)
  have HB := Lib.hid (HB.out.fr hF2 (fun h => h))
  have HM2 := Lib.hid (HM1.out.fr hF2 (fun h => h) (fun h => h))
  clear hF2 HM1 HF1
  go_wp2_with (refine wpList_load_row rfl 26 _ rfl w.heap.size rfl 26 S.i.cells (0, 0) _ HB.out Try.underlying26 rfl (by show _ = some 7; kernel_rfl) ?_)
  refine (HNL.out w2 _).mono ?_
  rintro e w3 ⟨rfl, hF⟩
  have HF3 := Lib.hid (HF2.out.trans hF)
  have HB := Lib.hid (HB.out.fr hF (fun h => h))
  clear hF
  go_wp2_with (refine wpList_load_row rfl 26 _ rfl w.heap.size rfl 26 S.i.cells (0, 0) _ HB.out Try.underlying26 rfl (by show _ = some 7; kernel_rfl) ?_)
  refine (take_nil w3 0 0).mono ?_
  rintro e w4 ⟨rfl, rfl⟩
  have HF4 := HF3
  go_wp2_with (refine wpList_load_row rfl 26 _ rfl w.heap.size rfl 26 S.i.cells (0, 0) _ HB.out Try.underlying26 rfl (by show _ = some 7; kernel_rfl) ?_)
  refine (where_nil w4 1).mono ?_
  rintro e w5 ⟨rfl, rfl⟩
  have HF5 := HF4
  go_wp2_with (refine wpList_load_row rfl 26 _ rfl w.heap.size rfl 26 S.i.cells (0, 0) _ HB.out Try.underlying26 rfl (by show _ = some 7; kernel_rfl) ?_)
  refine (give_nil w5 0 1).mono ?_
  rintro e w6 ⟨rfl, rfl⟩
  have HF6 := HF5
  go_wp2_with (refine wpList_load_row rfl 26 _ rfl w.heap.size rfl 26 S.i.cells (0, 0) _ HB.out Try.underlying26 rfl (by show _ = some 7; kernel_rfl) ?_)
  refine (drain_nil w6 0).mono ?_
  rintro e w7 ⟨rfl, rfl⟩
  have HF7 := HF6
  go_wp2_with (refine wpList_load_row rfl 26 _ rfl w.heap.size rfl 26 S.i.cells (0, 0) _ HB.out Try.underlying26 rfl (by show _ = some 7; kernel_rfl) ?_)
  refine (pfree_nil w7 0 0).mono ?_
  rintro e w8 ⟨rfl, rfl⟩
  have HF8 := HF7
  go_wp2_with (refine wpList_load_row rfl 26 _ rfl w.heap.size rfl 26 S.i.cells (0, 0) _ HB.out Try.underlying26 rfl (by show _ = some 7; kernel_rfl) ?_)
  refine (remote_nil w8 0).mono ?_
  rintro e w9 ⟨rfl, rfl⟩
  have HF9 := HF8
  go_wp2_with (refine wpList_load_row rfl 26 _ rfl w.heap.size rfl 26 S.i.cells (0, 0) _ HB.out Try.underlying26 rfl (by show _ = some 7; kernel_rfl) ?_)
  refine (home_nil w9).mono ?_
  rintro e w10 ⟨rfl, hF⟩
  have HF10 := Lib.hid (HF9.out.trans hF)
  have HB := Lib.hid (HB.out.fr hF (fun h => h))
  clear hF
  go_wp2_with (refine wpList_load_row rfl 26 _ rfl w.heap.size rfl 26 S.i.cells (0, 0) _ HB.out Try.underlying26 rfl (by show _ = some 7; kernel_rfl) ?_)
  refine (HDR.out w10).mono ?_
  rintro e w11 ⟨rfl, hF⟩
  have HF11 := Lib.hid (HF10.out.trans hF)
  have HB := Lib.hid (HB.out.fr hF (fun h => h))
  clear hF
  go_wp2_with (refine wpList_load_row rfl 26 _ rfl w.heap.size rfl 26 S.i.cells (0, 0) _ HB.out Try.underlying26 rfl (by show _ = some 7; kernel_rfl) ?_)
  refine (HDW.out w11).mono ?_
  rintro e w12 ⟨rfl, hF⟩
  have HF12 := Lib.hid (HF11.out.trans hF)
  have HB := Lib.hid (HB.out.fr hF (fun h => h))
  clear hF
  have c0 : w12.cell? ⟨w.heap.size, 0, none⟩ = some (.int .i64 (S.k : Int)) := by rw [HB.out.cell]; rfl
  have c1 : w12.cell? ⟨w.heap.size, 1, none⟩ = some (.int .i64 (S.s0 : Int)) := by rw [HB.out.cell]; rfl
  have c2 : w12.cell? ⟨w.heap.size, 2, none⟩ = some (.int .i64 (S.s1 : Int)) := by rw [HB.out.cell]; rfl
  have c3 : w12.cell? ⟨w.heap.size, 3, none⟩ = some (.int .i64 (S.s2 : Int)) := by rw [HB.out.cell]; rfl
  have c4 : w12.cell? ⟨w.heap.size, 4, none⟩ = some (.int .i64 (S.m0 : Int)) := by rw [HB.out.cell]; rfl
  have c5 : w12.cell? ⟨w.heap.size, 5, none⟩ = some (.int .i64 (S.m1 : Int)) := by rw [HB.out.cell]; rfl
  have c6 : w12.cell? ⟨w.heap.size, 6, none⟩ = some (.int .i64 (S.m2 : Int)) := by rw [HB.out.cell]; rfl
  go_wp2_with (refine wpList_load_row rfl 26 _ rfl w.heap.size rfl 26 S.i.cells (0, 0) _ HB.out Try.underlying26 rfl (by show _ = some 7; kernel_rfl) ?_)
  refine (of_any w12 S.i).mono ?_
  rintro e w13 ⟨rfl, hF⟩
  have HF13 := Lib.hid (HF12.out.trans hF)
  have HB := Lib.hid (HB.out.fr hF (fun h => h))
  clear hF
  clear c0 c1 c2 c3 c4 c5 c6
  go_wp2_with (refine wpList_load_row rfl 26 _ rfl w.heap.size rfl 26 S.i.cells (0, 0) _ HB.out Try.underlying26 rfl (by show _ = some 7; kernel_rfl) ?_)
  refine (HPW.out w13).mono ?_
  rintro e w14 ⟨rfl, hF⟩
  have HF14 := Lib.hid (HF13.out.trans hF)
  have HB := Lib.hid (HB.out.fr hF (fun h => h))
  clear hF
  go_wp2_with (refine wpList_load_row rfl 26 _ rfl w.heap.size rfl 26 S.i.cells (0, 0) _ HB.out Try.underlying26 rfl (by show _ = some 7; kernel_rfl) ?_)
  refine (awake_any w14).mono ?_
  rintro e w15 ⟨rfl, hF⟩
  have HF15 := Lib.hid (HF14.out.trans hF)
  have HB := Lib.hid (HB.out.fr hF (fun h => h))
  clear hF
  go_wp2_with fail
  go_ret
  exact ⟨rfl, HF15.out⟩

set_option maxHeartbeats 4000000 in
set_option maxRecDepth 100000 in
theorem walk_c (w : World) (S : Shp) (hS : S.Ok) (base : Int) (hl : S.words ≤ 65536) (hb : base < 0 ∨ (3000 : Int) - S.words < base) :
    Calls Try.prog 5 #[.agg S.i.cells, .int .i64 base] w fun e w' => e = .returned (.bool true) ∧ Fr F0 w w' := by
  obtain ⟨n, hn⟩ : ∃ n, n = S.words := ⟨_, rfl⟩
  have hln : n ≤ 65536 := by omega
  have g1 : ¬ (65536 : Int) < (n : Int) := by omega
  have HPW := Lib.hid (fun w => pwords_ok w S hS)
  rw [if_neg (by omega), ← hn] at HPW
  have HDW := Lib.hid (fun w => dwords_ok w S hS)
  rw [← hn] at HDW
  have HDR := Lib.hid (fun w => dright_any w S.i)
  rw [hS.i] at HDR
  have HNR := Lib.hid (fun w mp ms ws st hM hwl hb => new_range w base S hS hl mp ms ws st hM hwl hb)
  rw [← hn] at hb
  have HBS := Lib.hid hb
  have HN := Lib.hid hn
  obtain ⟨b0, hb0⟩ : ∃ b0, decide (base < 0) = b0 := ⟨_, rfl⟩
  have HB1 : Hid (b0 = false → decide ((3000 : Int) - (n : Int) < base) = true) := Lib.hid (fun h => by
    subst h
    have := of_decide_eq_false hb0
    exact decide_eq_true (by omega))
  clear hl hn hb
  cases b0 with
  | true =>
    obtain ⟨wb, hwb⟩ : ∃ wb, wb = w.alloc (.cells S.i.cells 26) := ⟨_, rfl⟩
    have HF0 : Hid (Fr F0 w wb) := Lib.hid (by rw [hwb]; exact (Fr.refl _ _).alloc _)
    have HB : Hid (Blk wb w.heap.size 26 S.i.cells) := Lib.hid (by rw [hwb]; exact Blk.new _ _ _)
    have HM : Hid (Calls Try.prog 10 #[.int .i64 3000] wb fun e w' => e = .returned (.tuple #[.pointer (some ⟨wb.heap.size + 1, 0, none⟩), .int .i64 0]) ∧ MemIs w' (wb.heap.size + 1) wb.heap.size (List.replicate 3000 (false, 0)) 0 ∧ Fr (fun _ => False) wb w') := new_yes 3000 (by decide) wb
    go_enter Try.func5, Try.ntmps5
    go_wp2_with fail
    rw [← hwb]
    clear hwb
    refine HM.out.mono ?_
    rintro e w1 ⟨rfl, hM1, hF1⟩
    have HM1 := Lib.hid hM1
    have HB := Lib.hid (HB.out.fr hF1 (fun h => h))
    have HF1 := Lib.hid (HF0.out.trans hF1)
    clear hM1 hF1 HM
    go_wp2_with (refine wpList_load_row rfl 26 _ rfl w.heap.size rfl 26 S.i.cells (0, 0) _ HB.out Try.underlying26 rfl (by show _ = some 7; kernel_rfl) ?_)
    refine (of_any w1 S.i).mono ?_
    rintro e w2 ⟨rfl, hF2⟩
    have HF2 := Lib.hid (HF1.out.trans hF2)
    have HB := Lib.hid (HB.out.fr hF2 (fun h => h))
    have HM2 := Lib.hid (HM1.out.fr hF2 (fun h => h) (fun h => h))
    clear hF2 HM1 HF1
    have HNR2 := Lib.hid (HNR.out w2 _ _ _ _ HM2.out (by simp) (by rw [List.length_replicate, ← HN.out]; exact HBS.out))
    go_wp2_with (refine wpList_load_row rfl 26 _ rfl w.heap.size rfl 26 S.i.cells (0, 0) _ HB.out Try.underlying26 rfl (by show _ = some 7; kernel_rfl) ?_)
    refine HNR2.out.mono ?_
    rintro e w3 ⟨rfl, hF⟩
    have HF3 := Lib.hid (HF2.out.trans hF)
    have HB := Lib.hid (HB.out.fr hF (fun h => h))
    clear hF
    go_wp2_with (refine wpList_load_row rfl 26 _ rfl w.heap.size rfl 26 S.i.cells (0, 0) _ HB.out Try.underlying26 rfl (by show _ = some 7; kernel_rfl) ?_)
    refine (take_nil w3 0 0).mono ?_
    rintro e w4 ⟨rfl, rfl⟩
    have HF4 := HF3
    go_wp2_with (refine wpList_load_row rfl 26 _ rfl w.heap.size rfl 26 S.i.cells (0, 0) _ HB.out Try.underlying26 rfl (by show _ = some 7; kernel_rfl) ?_)
    refine (where_nil w4 1).mono ?_
    rintro e w5 ⟨rfl, rfl⟩
    have HF5 := HF4
    go_wp2_with (refine wpList_load_row rfl 26 _ rfl w.heap.size rfl 26 S.i.cells (0, 0) _ HB.out Try.underlying26 rfl (by show _ = some 7; kernel_rfl) ?_)
    refine (give_nil w5 0 1).mono ?_
    rintro e w6 ⟨rfl, rfl⟩
    have HF6 := HF5
    go_wp2_with (refine wpList_load_row rfl 26 _ rfl w.heap.size rfl 26 S.i.cells (0, 0) _ HB.out Try.underlying26 rfl (by show _ = some 7; kernel_rfl) ?_)
    refine (drain_nil w6 0).mono ?_
    rintro e w7 ⟨rfl, rfl⟩
    have HF7 := HF6
    go_wp2_with (refine wpList_load_row rfl 26 _ rfl w.heap.size rfl 26 S.i.cells (0, 0) _ HB.out Try.underlying26 rfl (by show _ = some 7; kernel_rfl) ?_)
    refine (pfree_nil w7 0 0).mono ?_
    rintro e w8 ⟨rfl, rfl⟩
    have HF8 := HF7
    go_wp2_with (refine wpList_load_row rfl 26 _ rfl w.heap.size rfl 26 S.i.cells (0, 0) _ HB.out Try.underlying26 rfl (by show _ = some 7; kernel_rfl) ?_)
    refine (remote_nil w8 0).mono ?_
    rintro e w9 ⟨rfl, rfl⟩
    have HF9 := HF8
    go_wp2_with (refine wpList_load_row rfl 26 _ rfl w.heap.size rfl 26 S.i.cells (0, 0) _ HB.out Try.underlying26 rfl (by show _ = some 7; kernel_rfl) ?_)
    refine (home_nil w9).mono ?_
    rintro e w10 ⟨rfl, hF⟩
    have HF10 := Lib.hid (HF9.out.trans hF)
    have HB := Lib.hid (HB.out.fr hF (fun h => h))
    clear hF
    go_wp2_with (refine wpList_load_row rfl 26 _ rfl w.heap.size rfl 26 S.i.cells (0, 0) _ HB.out Try.underlying26 rfl (by show _ = some 7; kernel_rfl) ?_)
    refine (HDR.out w10).mono ?_
    rintro e w11 ⟨rfl, hF⟩
    have HF11 := Lib.hid (HF10.out.trans hF)
    have HB := Lib.hid (HB.out.fr hF (fun h => h))
    clear hF
    go_wp2_with (refine wpList_load_row rfl 26 _ rfl w.heap.size rfl 26 S.i.cells (0, 0) _ HB.out Try.underlying26 rfl (by show _ = some 7; kernel_rfl) ?_)
    refine (HDW.out w11).mono ?_
    rintro e w12 ⟨rfl, hF⟩
    have HF12 := Lib.hid (HF11.out.trans hF)
    have HB := Lib.hid (HB.out.fr hF (fun h => h))
    clear hF
    have c0 : w12.cell? ⟨w.heap.size, 0, none⟩ = some (.int .i64 (S.k : Int)) := by rw [HB.out.cell]; rfl
    have c1 : w12.cell? ⟨w.heap.size, 1, none⟩ = some (.int .i64 (S.s0 : Int)) := by rw [HB.out.cell]; rfl
    have c2 : w12.cell? ⟨w.heap.size, 2, none⟩ = some (.int .i64 (S.s1 : Int)) := by rw [HB.out.cell]; rfl
    have c3 : w12.cell? ⟨w.heap.size, 3, none⟩ = some (.int .i64 (S.s2 : Int)) := by rw [HB.out.cell]; rfl
    have c4 : w12.cell? ⟨w.heap.size, 4, none⟩ = some (.int .i64 (S.m0 : Int)) := by rw [HB.out.cell]; rfl
    have c5 : w12.cell? ⟨w.heap.size, 5, none⟩ = some (.int .i64 (S.m1 : Int)) := by rw [HB.out.cell]; rfl
    have c6 : w12.cell? ⟨w.heap.size, 6, none⟩ = some (.int .i64 (S.m2 : Int)) := by rw [HB.out.cell]; rfl
    go_wp2_with (refine wpList_load_row rfl 26 _ rfl w.heap.size rfl 26 S.i.cells (0, 0) _ HB.out Try.underlying26 rfl (by show _ = some 7; kernel_rfl) ?_)
    refine (of_any w12 S.i).mono ?_
    rintro e w13 ⟨rfl, hF⟩
    have HF13 := Lib.hid (HF12.out.trans hF)
    have HB := Lib.hid (HB.out.fr hF (fun h => h))
    clear hF
    clear c0 c1 c2 c3 c4 c5 c6
    go_wp2_with (refine wpList_load_row rfl 26 _ rfl w.heap.size rfl 26 S.i.cells (0, 0) _ HB.out Try.underlying26 rfl (by show _ = some 7; kernel_rfl) ?_)
    refine (HPW.out w13).mono ?_
    rintro e w14 ⟨rfl, hF⟩
    have HF14 := Lib.hid (HF13.out.trans hF)
    have HB := Lib.hid (HB.out.fr hF (fun h => h))
    clear hF
    go_wp2_with (refine wpList_load_row rfl 26 _ rfl w.heap.size rfl 26 S.i.cells (0, 0) _ HB.out Try.underlying26 rfl (by show _ = some 7; kernel_rfl) ?_)
    refine (awake_any w14).mono ?_
    rintro e w15 ⟨rfl, hF⟩
    have HF15 := Lib.hid (HF14.out.trans hF)
    have HB := Lib.hid (HB.out.fr hF (fun h => h))
    clear hF
    go_wp2_with fail
    go_ret
    exact ⟨rfl, HF15.out⟩
  | false =>
    have d2 := HB1.out rfl
    obtain ⟨wb, hwb⟩ : ∃ wb, wb = w.alloc (.cells S.i.cells 26) := ⟨_, rfl⟩
    have HF0 : Hid (Fr F0 w wb) := Lib.hid (by rw [hwb]; exact (Fr.refl _ _).alloc _)
    have HB : Hid (Blk wb w.heap.size 26 S.i.cells) := Lib.hid (by rw [hwb]; exact Blk.new _ _ _)
    have HM : Hid (Calls Try.prog 10 #[.int .i64 3000] wb fun e w' => e = .returned (.tuple #[.pointer (some ⟨wb.heap.size + 1, 0, none⟩), .int .i64 0]) ∧ MemIs w' (wb.heap.size + 1) wb.heap.size (List.replicate 3000 (false, 0)) 0 ∧ Fr (fun _ => False) wb w') := new_yes 3000 (by decide) wb
    go_enter Try.func5, Try.ntmps5
    go_wp2_with fail
    rw [← hwb]
    clear hwb
    refine HM.out.mono ?_
    rintro e w1 ⟨rfl, hM1, hF1⟩
    have HM1 := Lib.hid hM1
    have HB := Lib.hid (HB.out.fr hF1 (fun h => h))
    have HF1 := Lib.hid (HF0.out.trans hF1)
    clear hM1 hF1 HM
    go_wp2_with (refine wpList_load_row rfl 26 _ rfl w.heap.size rfl 26 S.i.cells (0, 0) _ HB.out Try.underlying26 rfl (by show _ = some 7; kernel_rfl) ?_)
    refine (of_any w1 S.i).mono ?_
    rintro e w2 ⟨rfl, hF2⟩
    have HF2 := Lib.hid (HF1.out.trans hF2)
    have HB := Lib.hid (HB.out.fr hF2 (fun h => h))
    have HM2 := Lib.hid (HM1.out.fr hF2 (fun h => h) (fun h => h))
    clear hF2 HM1 HF1
    have HNR2 := Lib.hid (HNR.out w2 _ _ _ _ HM2.out (by simp) (by rw [List.length_replicate, ← HN.out]; exact HBS.out))
    go_wp2_with (refine wpList_load_row rfl 26 _ rfl w.heap.size rfl 26 S.i.cells (0, 0) _ HB.out Try.underlying26 rfl (by show _ = some 7; kernel_rfl) ?_)
    refine HNR2.out.mono ?_
    rintro e w3 ⟨rfl, hF⟩
    have HF3 := Lib.hid (HF2.out.trans hF)
    have HB := Lib.hid (HB.out.fr hF (fun h => h))
    clear hF
    go_wp2_with (refine wpList_load_row rfl 26 _ rfl w.heap.size rfl 26 S.i.cells (0, 0) _ HB.out Try.underlying26 rfl (by show _ = some 7; kernel_rfl) ?_)
    refine (take_nil w3 0 0).mono ?_
    rintro e w4 ⟨rfl, rfl⟩
    have HF4 := HF3
    go_wp2_with (refine wpList_load_row rfl 26 _ rfl w.heap.size rfl 26 S.i.cells (0, 0) _ HB.out Try.underlying26 rfl (by show _ = some 7; kernel_rfl) ?_)
    refine (where_nil w4 1).mono ?_
    rintro e w5 ⟨rfl, rfl⟩
    have HF5 := HF4
    go_wp2_with (refine wpList_load_row rfl 26 _ rfl w.heap.size rfl 26 S.i.cells (0, 0) _ HB.out Try.underlying26 rfl (by show _ = some 7; kernel_rfl) ?_)
    refine (give_nil w5 0 1).mono ?_
    rintro e w6 ⟨rfl, rfl⟩
    have HF6 := HF5
    go_wp2_with (refine wpList_load_row rfl 26 _ rfl w.heap.size rfl 26 S.i.cells (0, 0) _ HB.out Try.underlying26 rfl (by show _ = some 7; kernel_rfl) ?_)
    refine (drain_nil w6 0).mono ?_
    rintro e w7 ⟨rfl, rfl⟩
    have HF7 := HF6
    go_wp2_with (refine wpList_load_row rfl 26 _ rfl w.heap.size rfl 26 S.i.cells (0, 0) _ HB.out Try.underlying26 rfl (by show _ = some 7; kernel_rfl) ?_)
    refine (pfree_nil w7 0 0).mono ?_
    rintro e w8 ⟨rfl, rfl⟩
    have HF8 := HF7
    go_wp2_with (refine wpList_load_row rfl 26 _ rfl w.heap.size rfl 26 S.i.cells (0, 0) _ HB.out Try.underlying26 rfl (by show _ = some 7; kernel_rfl) ?_)
    refine (remote_nil w8 0).mono ?_
    rintro e w9 ⟨rfl, rfl⟩
    have HF9 := HF8
    go_wp2_with (refine wpList_load_row rfl 26 _ rfl w.heap.size rfl 26 S.i.cells (0, 0) _ HB.out Try.underlying26 rfl (by show _ = some 7; kernel_rfl) ?_)
    refine (home_nil w9).mono ?_
    rintro e w10 ⟨rfl, hF⟩
    have HF10 := Lib.hid (HF9.out.trans hF)
    have HB := Lib.hid (HB.out.fr hF (fun h => h))
    clear hF
    go_wp2_with (refine wpList_load_row rfl 26 _ rfl w.heap.size rfl 26 S.i.cells (0, 0) _ HB.out Try.underlying26 rfl (by show _ = some 7; kernel_rfl) ?_)
    refine (HDR.out w10).mono ?_
    rintro e w11 ⟨rfl, hF⟩
    have HF11 := Lib.hid (HF10.out.trans hF)
    have HB := Lib.hid (HB.out.fr hF (fun h => h))
    clear hF
    go_wp2_with (refine wpList_load_row rfl 26 _ rfl w.heap.size rfl 26 S.i.cells (0, 0) _ HB.out Try.underlying26 rfl (by show _ = some 7; kernel_rfl) ?_)
    refine (HDW.out w11).mono ?_
    rintro e w12 ⟨rfl, hF⟩
    have HF12 := Lib.hid (HF11.out.trans hF)
    have HB := Lib.hid (HB.out.fr hF (fun h => h))
    clear hF
    have c0 : w12.cell? ⟨w.heap.size, 0, none⟩ = some (.int .i64 (S.k : Int)) := by rw [HB.out.cell]; rfl
    have c1 : w12.cell? ⟨w.heap.size, 1, none⟩ = some (.int .i64 (S.s0 : Int)) := by rw [HB.out.cell]; rfl
    have c2 : w12.cell? ⟨w.heap.size, 2, none⟩ = some (.int .i64 (S.s1 : Int)) := by rw [HB.out.cell]; rfl
    have c3 : w12.cell? ⟨w.heap.size, 3, none⟩ = some (.int .i64 (S.s2 : Int)) := by rw [HB.out.cell]; rfl
    have c4 : w12.cell? ⟨w.heap.size, 4, none⟩ = some (.int .i64 (S.m0 : Int)) := by rw [HB.out.cell]; rfl
    have c5 : w12.cell? ⟨w.heap.size, 5, none⟩ = some (.int .i64 (S.m1 : Int)) := by rw [HB.out.cell]; rfl
    have c6 : w12.cell? ⟨w.heap.size, 6, none⟩ = some (.int .i64 (S.m2 : Int)) := by rw [HB.out.cell]; rfl
    go_wp2_with (refine wpList_load_row rfl 26 _ rfl w.heap.size rfl 26 S.i.cells (0, 0) _ HB.out Try.underlying26 rfl (by show _ = some 7; kernel_rfl) ?_)
    refine (of_any w12 S.i).mono ?_
    rintro e w13 ⟨rfl, hF⟩
    have HF13 := Lib.hid (HF12.out.trans hF)
    have HB := Lib.hid (HB.out.fr hF (fun h => h))
    clear hF
    clear c0 c1 c2 c3 c4 c5 c6
    go_wp2_with (refine wpList_load_row rfl 26 _ rfl w.heap.size rfl 26 S.i.cells (0, 0) _ HB.out Try.underlying26 rfl (by show _ = some 7; kernel_rfl) ?_)
    refine (HPW.out w13).mono ?_
    rintro e w14 ⟨rfl, hF⟩
    have HF14 := Lib.hid (HF13.out.trans hF)
    have HB := Lib.hid (HB.out.fr hF (fun h => h))
    clear hF
    go_wp2_with (refine wpList_load_row rfl 26 _ rfl w.heap.size rfl 26 S.i.cells (0, 0) _ HB.out Try.underlying26 rfl (by show _ = some 7; kernel_rfl) ?_)
    refine (awake_any w14).mono ?_
    rintro e w15 ⟨rfl, hF⟩
    have HF15 := Lib.hid (HF14.out.trans hF)
    have HB := Lib.hid (HB.out.fr hF (fun h => h))
    clear hF
    go_wp2_with fail
    go_ret
    exact ⟨rfl, HF15.out⟩

theorem many_words {S : Shp} (h : S.Ok) : S.many ≤ S.words := by
  have a0 : S.q0 * 1 ≤ S.q0 * S.s0 := Nat.mul_le_mul_left _ h.a0.1
  have a1 : S.q1 * 1 ≤ S.q1 * S.s1 := Nat.mul_le_mul_left _ h.a1.1
  have a2 : S.q2 * 1 ≤ S.q2 * S.s2 := Nat.mul_le_mul_left _ h.a2.1
  unfold Shp.many Shp.words Shp.r0 Shp.r1 Shp.r2
  omega
set_option maxHeartbeats 4000000 in
set_option maxRecDepth 100000 in
theorem walk_d (w : World) (S : Shp) (hS : S.Ok) (base : Nat) (hl : base + S.words ≤ 3000) :
    Calls Try.prog 5 #[.agg S.i.cells, .int .i64 (base : Int)] w fun e w' => e = .returned (.bool true) ∧ Fr F0 w w' := by
  obtain ⟨n, hn⟩ : ∃ n, n = S.words := ⟨_, rfl⟩
  have hbn : base + n ≤ 3000 := by omega
  have g1 : ¬ (65536 : Int) < (n : Int) := by omega
  have g2 : ¬ ((base : Int) < 0) := by omega
  have g3 : ¬ ((3000 : Int) - (n : Int) < (base : Int)) := by omega
  have d2 : decide ((base : Int) < 0) = false := decide_eq_false g2
  have d3 : decide ((3000 : Int) - (n : Int) < (base : Int)) = false := decide_eq_false g3
  have HPW := Lib.hid (fun w => pwords_ok w S hS)
  rw [if_neg (by omega), ← hn] at HPW
  have HDW := Lib.hid (fun w => dwords_ok w S hS)
  rw [← hn] at HDW
  have HDR := Lib.hid (fun w => dright_any w S.i)
  rw [hS.i] at HDR
  have HNN := Lib.hid (fun w => new_nil w (base : Int) S hS (by omega))
  have HL := Lib.hid hl
  have HMW := Lib.hid (many_words hS)
  have HS := Lib.hid hS
  clear hl hn hS
  obtain ⟨wb, hwb⟩ : ∃ wb, wb = w.alloc (.cells S.i.cells 26) := ⟨_, rfl⟩
  have HF0 : Hid (Fr F0 w wb) := Lib.hid (by rw [hwb]; exact (Fr.refl _ _).alloc _)
  have HB : Hid (Blk wb w.heap.size 26 S.i.cells) := Lib.hid (by rw [hwb]; exact Blk.new _ _ _)
  have HM : Hid (Calls Try.prog 10 #[.int .i64 3000] wb fun e w' => e = .returned (.tuple #[.pointer (some ⟨wb.heap.size + 1, 0, none⟩), .int .i64 0]) ∧ MemIs w' (wb.heap.size + 1) wb.heap.size (List.replicate 3000 (false, 0)) 0 ∧ Fr (fun _ => False) wb w') := new_yes 3000 (by decide) wb
  go_enter Try.func5, Try.ntmps5
  go_wp2_with fail
  rw [← hwb]
  clear hwb
  refine HM.out.mono ?_
  rintro e w1 ⟨rfl, hM1, hF1⟩
  have HM1 := Lib.hid hM1
  have HB := Lib.hid (HB.out.fr hF1 (fun h => h))
  have HF1 := Lib.hid (HF0.out.trans hF1)
  clear hM1 hF1 HM
  go_wp2_with (refine wpList_load_row rfl 26 _ rfl w.heap.size rfl 26 S.i.cells (0, 0) _ HB.out Try.underlying26 rfl (by show _ = some 7; kernel_rfl) ?_)
  refine (of_any w1 S.i).mono ?_
  rintro e w2 ⟨rfl, hF2⟩
  have HF2 := Lib.hid (HF1.out.trans hF2)
  have HB := Lib.hid (HB.out.fr hF2 (fun h => h))
  have HM2 := Lib.hid (HM1.out.fr hF2 (fun h => h) (fun h => h))
  clear hF2 HM1 HF1
  have HNP := Lib.hid (new_pl w w2 HF2.out S HS.out (by have := HMW.out; have := HL.out; omega) base _ _ (by have := HL.out; omega) _ 0 HM2.out (by have := HF0.out.size; omega) (by have := HF0.out.size; omega) (by simp) (by rw [List.length_replicate]; exact HL.out) (fun j hj => free_at (by have := HL.out; omega)))
  go_wp2_with (refine wpList_load_row rfl 26 _ rfl w.heap.size rfl 26 S.i.cells (0, 0) _ HB.out Try.underlying26 rfl (by show _ = some 7; kernel_rfl) ?_)
  refine HNP.out.mono ?_
  rintro e w3 ⟨P, rfl, hP, hF⟩
  have HF3 := Lib.hid (HF2.out.trans hF)
  have HB := Lib.hid (HB.out.fr hF (fun h => h))
  clear hF
  have HP := Lib.hid hP
  clear hP
  go_wp2_with (refine wpList_load_row rfl 26 _ rfl w.heap.size rfl 26 S.i.cells (0, 0) _ HB.out Try.underlying26 rfl (by show _ = some 7; kernel_rfl) ?_)
  refine (take_nil w3 0 0).mono ?_
  rintro e w4 ⟨rfl, rfl⟩
  have HF4 := HF3
  go_wp2_with (refine wpList_load_row rfl 26 _ rfl w.heap.size rfl 26 S.i.cells (0, 0) _ HB.out Try.underlying26 rfl (by show _ = some 7; kernel_rfl) ?_)
  refine (where_nil w4 1).mono ?_
  rintro e w5 ⟨rfl, rfl⟩
  have HF5 := HF4
  go_wp2_with (refine wpList_load_row rfl 26 _ rfl w.heap.size rfl 26 S.i.cells (0, 0) _ HB.out Try.underlying26 rfl (by show _ = some 7; kernel_rfl) ?_)
  refine (give_nil w5 0 1).mono ?_
  rintro e w6 ⟨rfl, rfl⟩
  have HF6 := HF5
  go_wp2_with (refine wpList_load_row rfl 26 _ rfl w.heap.size rfl 26 S.i.cells (0, 0) _ HB.out Try.underlying26 rfl (by show _ = some 7; kernel_rfl) ?_)
  refine (drain_nil w6 0).mono ?_
  rintro e w7 ⟨rfl, rfl⟩
  have HF7 := HF6
  go_wp2_with (refine wpList_load_row rfl 26 _ rfl w.heap.size rfl 26 S.i.cells (0, 0) _ HB.out Try.underlying26 rfl (by show _ = some 7; kernel_rfl) ?_)
  refine (pfree_nil w7 0 0).mono ?_
  rintro e w8 ⟨rfl, rfl⟩
  have HF8 := HF7
  go_wp2_with (refine wpList_load_row rfl 26 _ rfl w.heap.size rfl 26 S.i.cells (0, 0) _ HB.out Try.underlying26 rfl (by show _ = some 7; kernel_rfl) ?_)
  refine (remote_nil w8 0).mono ?_
  rintro e w9 ⟨rfl, rfl⟩
  have HF9 := HF8
  go_wp2_with (refine wpList_load_row rfl 26 _ rfl w.heap.size rfl 26 S.i.cells (0, 0) _ HB.out Try.underlying26 rfl (by show _ = some 7; kernel_rfl) ?_)
  refine (home_nil w9).mono ?_
  rintro e w10 ⟨rfl, hF⟩
  have HF10 := Lib.hid (HF9.out.trans hF)
  have HB := Lib.hid (HB.out.fr hF (fun h => h))
  have HP := Lib.hid (HP.out.f0 hF)
  clear hF
  go_wp2_with (refine wpList_load_row rfl 26 _ rfl w.heap.size rfl 26 S.i.cells (0, 0) _ HB.out Try.underlying26 rfl (by show _ = some 7; kernel_rfl) ?_)
  refine (HDR.out w10).mono ?_
  rintro e w11 ⟨rfl, hF⟩
  have HF11 := Lib.hid (HF10.out.trans hF)
  have HB := Lib.hid (HB.out.fr hF (fun h => h))
  have HP := Lib.hid (HP.out.f0 hF)
  clear hF
  go_wp2_with (refine wpList_load_row rfl 26 _ rfl w.heap.size rfl 26 S.i.cells (0, 0) _ HB.out Try.underlying26 rfl (by show _ = some 7; kernel_rfl) ?_)
  refine (HDW.out w11).mono ?_
  rintro e w12 ⟨rfl, hF⟩
  have HF12 := Lib.hid (HF11.out.trans hF)
  have HB := Lib.hid (HB.out.fr hF (fun h => h))
  have HP := Lib.hid (HP.out.f0 hF)
  clear hF
  have c0 : w12.cell? ⟨w.heap.size, 0, none⟩ = some (.int .i64 (S.k : Int)) := by rw [HB.out.cell]; rfl
  have c1 : w12.cell? ⟨w.heap.size, 1, none⟩ = some (.int .i64 (S.s0 : Int)) := by rw [HB.out.cell]; rfl
  have c2 : w12.cell? ⟨w.heap.size, 2, none⟩ = some (.int .i64 (S.s1 : Int)) := by rw [HB.out.cell]; rfl
  have c3 : w12.cell? ⟨w.heap.size, 3, none⟩ = some (.int .i64 (S.s2 : Int)) := by rw [HB.out.cell]; rfl
  have c4 : w12.cell? ⟨w.heap.size, 4, none⟩ = some (.int .i64 (S.m0 : Int)) := by rw [HB.out.cell]; rfl
  have c5 : w12.cell? ⟨w.heap.size, 5, none⟩ = some (.int .i64 (S.m1 : Int)) := by rw [HB.out.cell]; rfl
  have c6 : w12.cell? ⟨w.heap.size, 6, none⟩ = some (.int .i64 (S.m2 : Int)) := by rw [HB.out.cell]; rfl
  go_wp2_with (refine wpList_load_row rfl 26 _ rfl w.heap.size rfl 26 S.i.cells (0, 0) _ HB.out Try.underlying26 rfl (by show _ = some 7; kernel_rfl) ?_)
  refine (of_any w12 S.i).mono ?_
  rintro e w13 ⟨rfl, hF⟩
  have HF13 := Lib.hid (HF12.out.trans hF)
  have HB := Lib.hid (HB.out.fr hF (fun h => h))
  have HP := Lib.hid (HP.out.f0 hF)
  clear hF
  clear c0 c1 c2 c3 c4 c5 c6
  go_wp2_with (refine wpList_load_row rfl 26 _ rfl w.heap.size rfl 26 S.i.cells (0, 0) _ HB.out Try.underlying26 rfl (by show _ = some 7; kernel_rfl) ?_)
  refine (HNN.out w13).mono ?_
  rintro e w14 ⟨rfl, hF⟩
  have HF14 := Lib.hid (HF13.out.trans hF)
  have HB := Lib.hid (HB.out.fr hF (fun h => h))
  have HP := Lib.hid (HP.out.f0 hF)
  clear hF
  have c0 : w14.cell? ⟨w.heap.size, 0, none⟩ = some (.int .i64 (S.k : Int)) := by rw [HB.out.cell]; rfl
  have c1 : w14.cell? ⟨w.heap.size, 1, none⟩ = some (.int .i64 (S.s0 : Int)) := by rw [HB.out.cell]; rfl
  have c2 : w14.cell? ⟨w.heap.size, 2, none⟩ = some (.int .i64 (S.s1 : Int)) := by rw [HB.out.cell]; rfl
  have c3 : w14.cell? ⟨w.heap.size, 3, none⟩ = some (.int .i64 (S.s2 : Int)) := by rw [HB.out.cell]; rfl
  have c4 : w14.cell? ⟨w.heap.size, 4, none⟩ = some (.int .i64 (S.m0 : Int)) := by rw [HB.out.cell]; rfl
  have c5 : w14.cell? ⟨w.heap.size, 5, none⟩ = some (.int .i64 (S.m1 : Int)) := by rw [HB.out.cell]; rfl
  have c6 : w14.cell? ⟨w.heap.size, 6, none⟩ = some (.int .i64 (S.m2 : Int)) := by rw [HB.out.cell]; rfl
  go_wp2_with (refine wpList_load_row rfl 26 _ rfl w.heap.size rfl 26 S.i.cells (0, 0) _ HB.out Try.underlying26 rfl (by show _ = some 7; kernel_rfl) ?_)
  refine (of_any w14 S.i).mono ?_
  rintro e w15 ⟨rfl, hF⟩
  have HF15 := Lib.hid (HF14.out.trans hF)
  have HB := Lib.hid (HB.out.fr hF (fun h => h))
  have HP := Lib.hid (HP.out.f0 hF)
  clear hF
  clear c0 c1 c2 c3 c4 c5 c6
  go_wp2_with (refine wpList_load_row rfl 26 _ rfl w.heap.size rfl 26 S.i.cells (0, 0) _ HB.out Try.underlying26 rfl (by show _ = some 7; kernel_rfl) ?_)
  refine (HPW.out w15).mono ?_
  rintro e w16 ⟨rfl, hF⟩
  have HF16 := Lib.hid (HF15.out.trans hF)
  have HB := Lib.hid (HB.out.fr hF (fun h => h))
  have HP := Lib.hid (HP.out.f0 hF)
  clear hF
  have HHM := Lib.hid (home_pl HP.out)
  rw [show missL S (initSt S (List.replicate 3000 (false, 0))).ls = false from miss_init S] at HHM
  go_wp2_with (refine wpList_load_row rfl 26 _ rfl w.heap.size rfl 26 S.i.cells (0, 0) _ HB.out Try.underlying26 rfl (by show _ = some 7; kernel_rfl) ?_)
  refine HHM.out.mono ?_
  rintro e w17 ⟨rfl, hF⟩
  have HF17 := Lib.hid (HF16.out.trans hF)
  have HB := Lib.hid (HB.out.fr hF (fun h => h))
  have HP := Lib.hid (HP.out.f0 hF)
  clear hF
  go_wp2_with (refine wpList_load_row rfl 26 _ rfl w.heap.size rfl 26 S.i.cells (0, 0) _ HB.out Try.underlying26 rfl (by show _ = some 7; kernel_rfl) ?_)
  refine (awake_any w17).mono ?_
  rintro e w18 ⟨rfl, hF⟩
  have HF18 := Lib.hid (HF17.out.trans hF)
  have HB := Lib.hid (HB.out.fr hF (fun h => h))
  have HP := Lib.hid (HP.out.f0 hF)
  clear hF
  go_wp2_with fail
  go_ret
  exact ⟨rfl, HF18.out⟩

theorem walk (z : ShI) (_ : z.wf) (base : Int) (_ : (Lit.int .i64 base).wf = true) (w : World) :
    Calls Try.prog 5 #[.agg z.cells, .int .i64 base] w fun e w' => e = .returned (.bool true) ∧ Below w.heap.size w w' := by
  have key : Calls Try.prog 5 #[.agg z.cells, .int .i64 base] w fun e w' => e = .returned (.bool true) ∧ Fr F0 w w' := by
    cases hz : z.ok with
    | false => exact walk_a w z base hz
    | true =>
      obtain ⟨S, rfl, hS⟩ := shp_of hz
      by_cases h1 : 65536 < S.words
      · exact walk_b w S hS base h1
      · by_cases h2 : base < 0 ∨ (3000 : Int) - S.words < base
        · exact walk_c w S hS base (by omega) h2
        · obtain ⟨b, rfl⟩ : ∃ b : Nat, base = b := ⟨base.toNat, by omega⟩
          exact walk_d w S hS b (by omega)
  exact key.mono fun _ _ ⟨he, hF⟩ => ⟨he, hF.below (Nat.le_refl _) (fun _ h => h.elim)⟩
/-! ### The row's step -/
theorem own : ownKnob Try.prog.godebug = none := by kernel_rfl
theorem laidOut : laidOutB Try.prog = true := by kernel_rfl

set_option maxRecDepth 100000 in
theorem lifted (os : Os) (started : os.Started) (H : Type) (enc : TypeId × Value → H) :
    ReturnsInHanded {} Try.checked os 5 .any (Rows.poolNewSpec.pre6 enc Try.prog Try.f5 Rows.poolNewRow.domain false) (Rows.poolNewSpec.post enc Try.prog Try.f5 false true false false) := by
  refine returnsInHanded_of_change (C := Try.checked) own started (by kernel_rfl) Try.func5
    (ChangeSpec.witness6 (enc := enc) (C := Try.checked) false ⟨#[], #[.agg #[.int .i64 0, .int .i64 0, .int .i64 0, .int .i64 0, .int .i64 0, .int .i64 0, .int .i64 0], .int .i64 0], []⟩ 8 (by kernel_rfl) (by kernel_rfl) (by kernel_rfl) (by kernel_rfl)) ?_
  intro W base args ds gs before hval0 hW hcnd _
  have hval : ∀ (j : Nat) t v, Try.f5.params[j]? = some t → args[j]? = some v → Value.okWide Try.prog W .any base t v := hval0
  have hW' := hW
  obtain ⟨p, q, hA0, hV, rfl, hfz, hnd⟩ := hW
  have hA : DataW.TrodAll enc Try.prog W 0 (fun _ => true) true Try.f5.params.toList args.toList ds p := hA0
  rw [Try.params5] at hA hval
  obtain ⟨v0, vs0, d0, ds0, p0, q0, hargs, rfl, rfl, h0, r0⟩ := trodAll_cons hA
  obtain ⟨v1, vs1, d1, ds1, p1, q1, rfl, rfl, rfl, h1, r1⟩ := trodAll_cons r0
  obtain ⟨rfl, rfl, rfl⟩ := trodAll_nil r1
  obtain rfl : args = #[v0, v1] := by cases args; simp_all
  obtain ⟨rfl, rfl⟩ := trodVars_none hV
  have k0 := h0
  have lt0 : ∀ x ∈ p0, x.block < W.heap.size := by obtain ⟨m, hm⟩ := k0; exact DataW.trod_lt m _ _ _ hm
  obtain ⟨z0, rfl, w0⟩ := open_shape (hval 0 26 v0 rfl rfl) h0
  obtain ⟨a1, rfl, rfl, rfl, w1⟩ := open_int Try.underlying3 (hval 1 3 v1 rfl rfl) h1
  clear hA0 hval0
  refine (walk z0 w0 a1 w1 W).mono fun e W' ⟨he, bel⟩ => ?_
  subst he
  exact ⟨_, rfl, _, _, _, [], _, [], hW', trodAll_mk1 (shut_bool Try.underlying4 _), (trodAll_cons_mk (Below.trod laidOut (by kernel_rfl) (of_decide_eq_true (by kernel_rfl)) k0 bel lt0) (trodAll_cons_mk (shut_int Try.underlying3 w1) trodAll_mk0)), rfl, bel.frame _, fun h => by cases h⟩

theorem over : Rows.poolNewRow.holds Try.pinned (OpenSpec.ofChange Rows.poolNewSpec) :=
  OpenClaim.holds_of_wide 5 Try.f5 rfl rfl rfl rfl rfl rfl rfl ⟨rfl, rfl, rfl, rfl, rfl⟩ rfl rfl rfl rfl rfl (by kernel_rfl) Try.func5 (by kernel_rfl)
    (of_decide_eq_true (by kernel_rfl)) (by unfold Func.isWrapper; first | (rw [if_pos (by decide +kernel)]; kernel_rfl) | (rw [if_neg (by decide +kernel)]; exact ⟨rfl, rfl⟩))
    (fun os started H enc _ => lifted os started H enc)

/-- The statement. -/
theorem proved : Rows.PoolNewSaid := over
#print axioms proved
end Go.Proofs.Ytichhieopnbgpaa.poolNew
