/-
  haymowlaw06.EvalSums returns true for every count, number and kind of tasks, with the table of fields as it was laid.
-/
import Derived.Test.YtbhnnnpofindiaaDoorLits
import Derived.Test.YtbhnnnpofindiaaDoorLaidV
import Derived.Test.YtbhnnnpofindiaaDoorTie
import Derived.Test.YtbhnnnpofindiaaDoorCards
import Derived.ShutString
import Derived.ChangeOld
import Derived.SevenTiedAt
namespace Go.Proofs.YtbhnnnpofindiaaDoor.evalSums
open Go.ChangeShapes Go.WideShapes Go.ChangeAt Go.RowKit
open Go.ChangeMaps (open_string shut_string)

theorem prog_ok (futures : Bool) (k : Nat) (hk : k < 20) : rightB (sumP k futures) 1 100 1 = true := by
  have : k = 0 ∨ k = 1 ∨ k = 2 ∨ k = 3 ∨ k = 4 ∨ k = 5 ∨ k = 6 ∨ k = 7 ∨ k = 8 ∨ k = 9 ∨ k = 10 ∨ k = 11 ∨ k = 12 ∨ k = 13 ∨ k = 14 ∨ k = 15 ∨ k = 16 ∨ k = 17 ∨ k = 18 ∨ k = 19 := by omega
  rcases this with rfl | rfl | rfl | rfl | rfl | rfl | rfl | rfl | rfl | rfl | rfl | rfl | rfl | rfl | rfl | rfl | rfl | rfl | rfl | rfl <;> cases futures <;> show _ = _ <;> kernel_rfl
theorem val (futures : Bool) (k : Nat) (hk : k < 20) (v : Int) : evalR (sumP k futures) [v] 100 1 3000 = ⟨if k = 0 then 0 else wrap64 (v + v), 0, List.replicate k v, ([], (if futures then 3 else 2) * k + 2) :: (List.range k).map fun i => ([Int.ofNat i], 3), 0⟩ := by
  rw [evalR_begun (show rightB (sumP k futures) [v].length 100 1 = true from prog_ok futures k hk), sum_any futures k hk v]
  rfl

/-- The instructions of one task that is begun. -/
abbrev blk (futures : Bool) : List Ins := if futures then [⟨13, 2, 1, 1, 0⟩, ⟨12, 0, 0, 0, 0⟩, ⟨14, 2, 2, 0, 0⟩] else [⟨11, 2, 1, 1, 0⟩, ⟨12, 0, 0, 0, 0⟩]
/-- The code, so far. -/
def pre (k : Nat) (futures : Bool) : List Ins := [⟨2, 1, 0, 0, 0⟩] ++ (List.replicate k (blk futures)).flatten
theorem pre_succ (k : Nat) (futures : Bool) : pre (k + 1) futures = pre k futures ++ blk futures := by
  unfold pre
  rw [List.replicate_succ', List.flatten_append, List.append_assoc]
  simp
theorem pre_len (k : Nat) (futures : Bool) : (pre k futures).length = 1 + k * (if futures then 3 else 2) := by
  induction k with
  | zero => simp [pre]
  | succ k ih =>
    rw [pre_succ, List.length_append, ih]
    cases futures
    · show 1 + k * 2 + 2 = 1 + (k + 1) * 2; omega
    · show 1 + k * 3 + 3 = 1 + (k + 1) * 3; omega
theorem pre_sum (k : Nat) (futures : Bool) : sumC k futures = pre k futures ++ [⟨17, 2, 0, 0, 0⟩] := rfl

/-- A function whose code was grown, and one that was laid behind it. -/
theorem row2 (W : World) (base : Nat) (A : Option Addr) (n c : Nat) (l0 l1 : List Ins) (n1 : Nat) (c1 cf : Array Value) (v : Value) (ca : Array Value)
    (hown : W.ownsRow base 55 5 (.slice A n c) n (l0.flatMap Ins.cells)) (h0 : l0.length = n) (h1 : l1.length = n1) (e1 : c1 = (l1.flatMap Ins.cells).toArray)
    (ef : cf = #[.int .i64 1, .slice A n c, .int .i64 1, .slice (some ⟨W.heap.size, 0, none⟩) n1 n1]) (ea : ca = #[v]) :
    FnRow (((W.alloc (.cells c1 55)).alloc (.cells cf 58)).alloc (.cells ca 2)) (fun b => b < (((W.alloc (.cells c1 55)).alloc (.cells cf 58)).alloc (.cells ca 2)).heap.size) (some ⟨W.heap.size + 1, 0, none⟩)
      [⟨⟨1, l0⟩, A, c⟩, ⟨⟨1, l1⟩, some ⟨W.heap.size, 0, none⟩, n1⟩] ∧
    Blk (((W.alloc (.cells c1 55)).alloc (.cells cf 58)).alloc (.cells ca 2)) (W.heap.size + 2) 2 #[v] ∧
    Fr None' W (((W.alloc (.cells c1 55)).alloc (.cells cf 58)).alloc (.cells ca 2)) := by
  subst h0 h1 e1 ef ea
  have hF : Fr None' W (((W.alloc (.cells (l1.flatMap Ins.cells).toArray 55)).alloc (.cells #[.int .i64 1, .slice A l0.length c, .int .i64 1, .slice (some ⟨W.heap.size, 0, none⟩) l1.length l1.length] 58)).alloc (.cells #[v] 2)) := (((Fr.refl _ _).alloc _).alloc _).alloc _
  have b1 := ((Blk.new W 55 (l1.flatMap Ins.cells).toArray).alloc (.cells #[.int .i64 1, .slice A l0.length c, .int .i64 1, .slice (some ⟨W.heap.size, 0, none⟩) l1.length l1.length] 58)).alloc (.cells #[v] 2)
  have b3 := (Blk.new (W.alloc (.cells (l1.flatMap Ins.cells).toArray 55)) 58 #[.int .i64 1, .slice A l0.length c, .int .i64 1, .slice (some ⟨W.heap.size, 0, none⟩) l1.length l1.length]).alloc (.cells #[v] 2)
  have b4 := Blk.new ((W.alloc (.cells (l1.flatMap Ins.cells).toArray 55)).alloc (.cells #[.int .i64 1, .slice A l0.length c, .int .i64 1, .slice (some ⟨W.heap.size, 0, none⟩) l1.length l1.length] 58)) 2 #[v]
  rw [sz] at b3
  rw [sz, sz] at b4
  refine ⟨fn_row (L := [⟨⟨1, l0⟩, A, c⟩, ⟨⟨1, l1⟩, some ⟨W.heap.size, 0, none⟩, l1.length⟩]) b3 (fun x hx => ?_), b4, hF⟩
  simp only [List.mem_cons, List.not_mem_nil, or_false] at hx
  rcases hx with rfl | rfl
  · exact ((own_rd hown).fr hF (fun _ _ h => h)).mono (fun _ hb => Nat.lt_of_lt_of_le hb hF.size)
  · exact ins_row b1

/-- One instruction more, or some: the row that grows. -/
theorem news (W : World) (l : List Ins) (cs : Array Value) (he : cs = (l.flatMap Ins.cells).toArray) : ∀ j u, (l.flatMap Ins.cells)[j]? = some u → (W.alloc (.cells cs 55)).cell? ((⟨W.heap.size, 0, none⟩ : Addr).add j) = some u := by
  subst he
  intro j u hu
  exact World.news_of_block (heap_alloc_new W (.cells (l.flatMap Ins.cells).toArray 55)) j u (by simpa using hu)

set_option maxHeartbeats 16000000 in
set_option maxRecDepth 100000 in
theorem walk_plain (w : World) (hT : FieldsAt w) (v : Int) (hv1 : -2147483648 ≤ v) (hv2 : v ≤ 2147483647) (x k : Nat) (hx : (wrap64 (x : Int)).tmod 20 = k) (hk : k < 20) :
    Calls Tryd.prog 6 #[.int .u8 x, .int .i32 v, .bool false] w fun e w' => e = .returned (.bool true) ∧ Fr None' w w' := by
  obtain ⟨i5, hi5, hz50, hz51, hz52⟩ := info_parts info_ins
  have HT := Lib.hid hT
  clear hT
  go_enter Tryd.func6, Tryd.ntmps6
  go_wp2_with fail
  clear hx
  go_loopw [9, 10] (fun cv i wx => ∃ j : Nat, j ≤ k ∧ i = .int .i64 j ∧ wx.ownsRow w.heap.size 55 5 cv (1 + j * 2) ((pre j false).flatMap Ins.cells) ∧ Fr None' w wx) (fun _ i _ => k - (intOf i).toNat)
  case atStart => exact ⟨0, by omega, rfl, World.ownsRow_lit w (([⟨2, 1, 0, 0, 0⟩] : List Ins).flatMap Ins.cells).toArray 1 (Nat.le_refl _) (by decide) rfl, (Fr.refl _ _).alloc _⟩
  case round =>
    obtain ⟨j, hj, rfl, hown, hF⟩ := hrel
    have HO := Lib.hid hown
    have HF := Lib.hid hF
    have hbw := hF.size
    clear hown hF
    by_cases hjk : j < k
    · have hjki : (j : Int) < (k : Int) := by omega
      go_wp2_with (at_builtin; refine wpList_append_lies _ rfl (.tmp 26) (.tmp 30) 56 rfl w.heap.size 55 i5 (.agg #[.int .i64 0, .int .i64 0, .int .i64 0, .int .i64 0, .int .i64 0]) 5 40 Tryd.underlying56 hi5 hz50 hz51 hz52 rfl (by decide) _ (1 + j * 2) _ rfl (own_fr HO.out ((Fr.refl (fun _ => False) _).alloc _) (fun _ _ h => h)) ⟨wr.heap.size, 0, none⟩ 2 2 ((blk false).flatMap Ins.cells) rfl rfl (news wr (blk false) _ rfl) (ins_one _) (by decide) ?c3 ?c4 ?c5 (wr.heap.size + 1) ?c6 ?_)
      case c3 => unfold maxLen; omega
      case c4 => omega
      case c5 => simp; omega
      case c6 => simp
      intro g cap w1 hown1 hg1 _ hlt1
      have hF1 := ((HF.out.alloc _).grow hg1 (own_low HO.out))
      have HO1 := Lib.hid hown1
      have HF1 := Lib.hid hF1
      clear hown1 hg1 hF1
      go_wp2_with fail
      refine ⟨⟨j + 1, by omega, by go_num, ?_, HF1.out⟩, by simp [intOf]; omega⟩
      have := HO1.out
      rw [show pre (j + 1) false = pre j false ++ blk false from pre_succ j false, List.flatMap_append, show 1 + (j + 1) * 2 = 1 + j * 2 + 2 by omega]
      exact this
    · obtain rfl : j = k := by omega
      go_wp2_with (at_builtin; refine wpList_append_lies _ rfl (.tmp 37) (.tmp 39) 56 rfl w.heap.size 55 i5 (.agg #[.int .i64 0, .int .i64 0, .int .i64 0, .int .i64 0, .int .i64 0]) 5 40 Tryd.underlying56 hi5 hz50 hz51 hz52 rfl (by decide) _ (1 + j * 2) _ rfl (own_fr HO.out ((Fr.refl (fun _ => False) _).alloc _) (fun _ _ h => h)) ⟨wr.heap.size, 0, none⟩ 1 1 (([⟨17, 2, 0, 0, 0⟩] : List Ins).flatMap Ins.cells) rfl rfl (news wr [⟨17, 2, 0, 0, 0⟩] _ rfl) (ins_one _) (by decide) ?c3 ?c4 ?c5 (wr.heap.size + 1) ?c6 ?_)
      case c3 => unfold maxLen; omega
      case c4 => omega
      case c5 => simp; omega
      case c6 => simp
      intro g cap w1 hown1 hg1 _ hlt1
      have hF1 : Fr None' w w1 := ((HF.out.alloc _).grow hg1 (own_low HO.out))
      have hown2 : w1.ownsRow w.heap.size 55 5 (.slice (some ⟨g, 0, none⟩) (1 + j * 2 + 1) cap) (1 + j * 2 + 1) ((sumC j false).flatMap Ins.cells) := by
        rw [pre_sum, List.flatMap_append]
        exact hown1
      have hr2 := row2 w1 w.heap.size (some ⟨g, 0, none⟩) (1 + j * 2 + 1) cap (sumC j false) [⟨15, 0, 0, 0, 0⟩, ⟨3, 3, 0, 0, 0⟩, ⟨17, 3, 0, 0, 0⟩] 3 _ _ (.int .i64 v) _ hown2 (by rw [pre_sum, List.length_append, pre_len]; rfl) rfl rfl rfl rfl
      have hev := eval_any _ _ 2 _ hr2.1 ((HT.out.fr hF1 (fun h => h)).fr hr2.2.2 (fun h => h)) (by simp) _ [v] 1 (ints_row (xs := [v]) hr2.2.1) (by simp) 100 1 3000 (by decide)
      rw [show fns [(⟨⟨1, sumC j false⟩, some ⟨g, 0, none⟩, cap⟩ : LFn), ⟨⟨1, [⟨15, 0, 0, 0, 0⟩, ⟨3, 3, 0, 0, 0⟩, ⟨17, 3, 0, 0, 0⟩]⟩, some ⟨w1.heap.size, 0, none⟩, 3⟩] = sumP j false from rfl, val false j hk v] at hev
      have HEV := Lib.hid hev
      have HF0 := Lib.hid (hF1.trans hr2.2.2)
      have g0 : ¬ (64 : Int) < ((1 + j * 2 + 1 : Nat) : Int) := by omega
      clear hown1 hown2 hg1 hF1 hr2 hev HO HF
      go_wp2_with fail
      refine HEV.out.mono ?_
      rintro e w2 ⟨tv, lv, rfl, hres, hF2⟩
      obtain ⟨tA, tc, htv⟩ := own_slice hres.1
      obtain ⟨lg, lc, hlv, llt, -⟩ := hres.log_form (by simp)
      have TF := Lib.hid (fun h0 => hres.told_form h0)
      simp only [List.length_cons, List.length_map, List.length_range] at hlv
      rw [List.length_replicate] at htv
      have HF2 := Lib.hid (HF0.out.trans hF2)
      subst htv hlv
      clear hres hF2 HEV HF0
      obtain ⟨z, hz⟩ : ∃ z : Int, z = if j = 0 then 0 else wrap64 (v + v) := ⟨_, rfl⟩
      rw [← hz]
      have hz1 : Hid (z = if j = 0 then 0 else v + v) := Lib.hid (by rw [hz, show wrap64 (v + v) = v + v by unfold wrap64; omega])
      clear hz
      have n1 : ((j : Int) != (j : Int)) = false := by simp
      have n2 : (((j + 1 : Nat) : Int) != (j : Int) + 1) = false := by simp
      go_wp2_with fail
      go_loopw [14] (fun i wx => ∃ m : Nat, m ≤ j ∧ i = .int .i64 m ∧ wx = w2.alloc (.cells #[.int .i64 z, .int .i64 0, .slice tA j tc, .slice (some ⟨lg, 0, none⟩) (j + 1) lc] 30)) (fun i _ => j - (intOf i).toNat)
      case atStart => exact ⟨0, by omega, rfl, rfl⟩
      case round =>
        obtain ⟨m, hm, rfl, rfl⟩ := hrel
        by_cases hmj : m < j
        · have hmi : (m : Int) < (j : Int) := by omega
          obtain ⟨tg, tc', hq, tlt, tcell⟩ := TF.out (by simp; omega)
          rw [List.length_replicate] at hq
          cases hq
          have t0 := tcell m v (by rw [List.getElem?_replicate, if_pos hmj])
          rw [← World.cell?_alloc_lt w2 (.cells #[.int .i64 z, .int .i64 0, .slice (some ⟨tg, 0, none⟩) j tc, .slice (some ⟨lg, 0, none⟩) (j + 1) lc] 30) ⟨tg, m, none⟩ tlt] at t0
          have q1 : (v != v) = false := by simp
          have q2 : wrap64 v = v := by unfold wrap64; omega
          clear tcell
          go_wp2_with fail
          exact ⟨⟨m + 1, by omega, by go_num, trivial⟩, by simp [intOf]; omega⟩
        · obtain rfl : m = j := by omega
          have q3 : wrap64 v = v := by unfold wrap64; omega
          by_cases hm0 : m = 0
          · subst hm0
            obtain rfl : z = 0 := hz1.out
            go_wp2_with fail
            refine (awake_any _ (HT.out.fr (HF2.out.alloc _) (fun h => h))).mono ?_
            rintro e w3 ⟨rfl, hF3⟩
            have HF3 := Lib.hid ((HF2.out.alloc _).trans hF3)
            clear hF3
            go_wp2_with fail
            go_ret
            exact ⟨rfl, HF3.out⟩
          · obtain rfl : z = v + v := by rw [hz1.out, if_neg hm0]
            have q4 : ((m : Int) == 0) = false := by simp; omega
            have q5 : (v + v == 2 * v) = true := by simp; omega
            go_wp2_with fail
            refine (awake_any _ (HT.out.fr (HF2.out.alloc _) (fun h => h))).mono ?_
            rintro e w3 ⟨rfl, hF3⟩
            have HF3 := Lib.hid ((HF2.out.alloc _).trans hF3)
            clear hF3
            go_wp2_with fail
            go_ret
            exact ⟨rfl, HF3.out⟩
set_option maxHeartbeats 16000000 in
set_option maxRecDepth 100000 in
theorem walk_futures (w : World) (hT : FieldsAt w) (v : Int) (hv1 : -2147483648 ≤ v) (hv2 : v ≤ 2147483647) (x k : Nat) (hx : (wrap64 (x : Int)).tmod 20 = k) (hk : k < 20) :
    Calls Tryd.prog 6 #[.int .u8 x, .int .i32 v, .bool true] w fun e w' => e = .returned (.bool true) ∧ Fr None' w w' := by
  obtain ⟨i5, hi5, hz50, hz51, hz52⟩ := info_parts info_ins
  have HT := Lib.hid hT
  clear hT
  go_enter Tryd.func6, Tryd.ntmps6
  go_wp2_with fail
  clear hx
  go_loopw [9, 10] (fun cv i wx => ∃ j : Nat, j ≤ k ∧ i = .int .i64 j ∧ wx.ownsRow w.heap.size 55 5 cv (1 + j * 3) ((pre j true).flatMap Ins.cells) ∧ Fr None' w wx) (fun _ i _ => k - (intOf i).toNat)
  case atStart => exact ⟨0, by omega, rfl, World.ownsRow_lit w (([⟨2, 1, 0, 0, 0⟩] : List Ins).flatMap Ins.cells).toArray 1 (Nat.le_refl _) (by decide) rfl, (Fr.refl _ _).alloc _⟩
  case round =>
    obtain ⟨j, hj, rfl, hown, hF⟩ := hrel
    have HO := Lib.hid hown
    have HF := Lib.hid hF
    have hbw := hF.size
    clear hown hF
    by_cases hjk : j < k
    · have hjki : (j : Int) < (k : Int) := by omega
      go_wp2_with (at_builtin; refine wpList_append_lies _ rfl (.tmp 26) (.tmp 30) 56 rfl w.heap.size 55 i5 (.agg #[.int .i64 0, .int .i64 0, .int .i64 0, .int .i64 0, .int .i64 0]) 5 40 Tryd.underlying56 hi5 hz50 hz51 hz52 rfl (by decide) _ (1 + j * 3) _ rfl (own_fr HO.out ((Fr.refl (fun _ => False) _).alloc _) (fun _ _ h => h)) ⟨wr.heap.size, 0, none⟩ 2 2 (([⟨13, 2, 1, 1, 0⟩, ⟨12, 0, 0, 0, 0⟩] : List Ins).flatMap Ins.cells) rfl rfl (news wr [⟨13, 2, 1, 1, 0⟩, ⟨12, 0, 0, 0, 0⟩] _ rfl) (ins_one _) (by decide) ?c3 ?c4 ?c5 (wr.heap.size + 1) ?c6 ?_)
      case c3 => unfold maxLen; omega
      case c4 => omega
      case c5 => simp; omega
      case c6 => simp
      intro g cap w1 hown1 hg1 _ hlt1
      have hF1 := ((HF.out.alloc _).grow hg1 (own_low HO.out))
      have HO1 := Lib.hid hown1
      have HF1 := Lib.hid hF1
      have hbw1 := hF1.size
      clear hown1 hg1 hF1
      go_wp2_with (at_builtin; refine wpList_append_lies _ rfl (.tmp 33) (.tmp 35) 56 rfl w.heap.size 55 i5 (.agg #[.int .i64 0, .int .i64 0, .int .i64 0, .int .i64 0, .int .i64 0]) 5 40 Tryd.underlying56 hi5 hz50 hz51 hz52 rfl (by decide) _ (1 + j * 3 + 2) _ rfl (own_fr HO1.out ((Fr.refl (fun _ => False) _).alloc _) (fun _ _ h => h)) ⟨w1.heap.size, 0, none⟩ 1 1 (([⟨14, 2, 2, 0, 0⟩] : List Ins).flatMap Ins.cells) rfl rfl (news w1 [⟨14, 2, 2, 0, 0⟩] _ rfl) (ins_one _) (by decide) ?d3 ?d4 ?d5 (w1.heap.size + 1) ?d6 ?_)
      case d3 => unfold maxLen; omega
      case d4 => omega
      case d5 => simp; omega
      case d6 => simp
      intro g2 cap2 w2 hown2 hg2 _ hlt2
      have hF2 := ((HF1.out.alloc _).grow hg2 (own_low HO1.out))
      have HO2 := Lib.hid hown2
      have HF2 := Lib.hid hF2
      clear hown2 hg2 hF2
      go_wp2_with fail
      refine ⟨⟨j + 1, by omega, by go_num, ?_, HF2.out⟩, by simp [intOf]; omega⟩
      have := HO2.out
      rw [show pre (j + 1) true = (pre j true ++ [⟨13, 2, 1, 1, 0⟩, ⟨12, 0, 0, 0, 0⟩]) ++ [⟨14, 2, 2, 0, 0⟩] by rw [pre_succ, List.append_assoc]; rfl, List.flatMap_append, List.flatMap_append, show 1 + (j + 1) * 3 = 1 + j * 3 + 2 + 1 by omega]
      simpa [List.append_assoc] using this
    · obtain rfl : j = k := by omega
      go_wp2_with (at_builtin; refine wpList_append_lies _ rfl (.tmp 37) (.tmp 39) 56 rfl w.heap.size 55 i5 (.agg #[.int .i64 0, .int .i64 0, .int .i64 0, .int .i64 0, .int .i64 0]) 5 40 Tryd.underlying56 hi5 hz50 hz51 hz52 rfl (by decide) _ (1 + j * 3) _ rfl (own_fr HO.out ((Fr.refl (fun _ => False) _).alloc _) (fun _ _ h => h)) ⟨wr.heap.size, 0, none⟩ 1 1 (([⟨17, 2, 0, 0, 0⟩] : List Ins).flatMap Ins.cells) rfl rfl (news wr [⟨17, 2, 0, 0, 0⟩] _ rfl) (ins_one _) (by decide) ?c3 ?c4 ?c5 (wr.heap.size + 1) ?c6 ?_)
      case c3 => unfold maxLen; omega
      case c4 => omega
      case c5 => simp; omega
      case c6 => simp
      intro g cap w1 hown1 hg1 _ hlt1
      have hF1 : Fr None' w w1 := ((HF.out.alloc _).grow hg1 (own_low HO.out))
      have hown2 : w1.ownsRow w.heap.size 55 5 (.slice (some ⟨g, 0, none⟩) (1 + j * 3 + 1) cap) (1 + j * 3 + 1) ((sumC j true).flatMap Ins.cells) := by
        rw [pre_sum, List.flatMap_append]
        exact hown1
      have hr2 := row2 w1 w.heap.size (some ⟨g, 0, none⟩) (1 + j * 3 + 1) cap (sumC j true) [⟨15, 0, 0, 0, 0⟩, ⟨3, 3, 0, 0, 0⟩, ⟨17, 3, 0, 0, 0⟩] 3 _ _ (.int .i64 v) _ hown2 (by rw [pre_sum, List.length_append, pre_len]; rfl) rfl rfl rfl rfl
      have hev := eval_any _ _ 2 _ hr2.1 ((HT.out.fr hF1 (fun h => h)).fr hr2.2.2 (fun h => h)) (by simp) _ [v] 1 (ints_row (xs := [v]) hr2.2.1) (by simp) 100 1 3000 (by decide)
      rw [show fns [(⟨⟨1, sumC j true⟩, some ⟨g, 0, none⟩, cap⟩ : LFn), ⟨⟨1, [⟨15, 0, 0, 0, 0⟩, ⟨3, 3, 0, 0, 0⟩, ⟨17, 3, 0, 0, 0⟩]⟩, some ⟨w1.heap.size, 0, none⟩, 3⟩] = sumP j true from rfl, val true j hk v] at hev
      have HEV := Lib.hid hev
      have HF0 := Lib.hid (hF1.trans hr2.2.2)
      have g0 : ¬ (64 : Int) < ((1 + j * 3 + 1 : Nat) : Int) := by omega
      clear hown1 hown2 hg1 hF1 hr2 hev HO HF
      go_wp2_with fail
      refine HEV.out.mono ?_
      rintro e w2 ⟨tv, lv, rfl, hres, hF2⟩
      obtain ⟨tA, tc, htv⟩ := own_slice hres.1
      obtain ⟨lg, lc, hlv, llt, -⟩ := hres.log_form (by simp)
      have TF := Lib.hid (fun h0 => hres.told_form h0)
      simp only [List.length_cons, List.length_map, List.length_range] at hlv
      rw [List.length_replicate] at htv
      have HF2 := Lib.hid (HF0.out.trans hF2)
      subst htv hlv
      clear hres hF2 HEV HF0
      obtain ⟨z, hz⟩ : ∃ z : Int, z = if j = 0 then 0 else wrap64 (v + v) := ⟨_, rfl⟩
      rw [← hz]
      have hz1 : Hid (z = if j = 0 then 0 else v + v) := Lib.hid (by rw [hz, show wrap64 (v + v) = v + v by unfold wrap64; omega])
      clear hz
      have n1 : ((j : Int) != (j : Int)) = false := by simp
      have n2 : (((j + 1 : Nat) : Int) != (j : Int) + 1) = false := by simp
      go_wp2_with fail
      go_loopw [14] (fun i wx => ∃ m : Nat, m ≤ j ∧ i = .int .i64 m ∧ wx = w2.alloc (.cells #[.int .i64 z, .int .i64 0, .slice tA j tc, .slice (some ⟨lg, 0, none⟩) (j + 1) lc] 30)) (fun i _ => j - (intOf i).toNat)
      case atStart => exact ⟨0, by omega, rfl, rfl⟩
      case round =>
        obtain ⟨m, hm, rfl, rfl⟩ := hrel
        by_cases hmj : m < j
        · have hmi : (m : Int) < (j : Int) := by omega
          obtain ⟨tg, tc', hq, tlt, tcell⟩ := TF.out (by simp; omega)
          rw [List.length_replicate] at hq
          cases hq
          have t0 := tcell m v (by rw [List.getElem?_replicate, if_pos hmj])
          rw [← World.cell?_alloc_lt w2 (.cells #[.int .i64 z, .int .i64 0, .slice (some ⟨tg, 0, none⟩) j tc, .slice (some ⟨lg, 0, none⟩) (j + 1) lc] 30) ⟨tg, m, none⟩ tlt] at t0
          have q1 : (v != v) = false := by simp
          have q2 : wrap64 v = v := by unfold wrap64; omega
          clear tcell
          go_wp2_with fail
          exact ⟨⟨m + 1, by omega, by go_num, trivial⟩, by simp [intOf]; omega⟩
        · obtain rfl : m = j := by omega
          have q3 : wrap64 v = v := by unfold wrap64; omega
          by_cases hm0 : m = 0
          · subst hm0
            obtain rfl : z = 0 := hz1.out
            go_wp2_with fail
            refine (awake_any _ (HT.out.fr (HF2.out.alloc _) (fun h => h))).mono ?_
            rintro e w3 ⟨rfl, hF3⟩
            have HF3 := Lib.hid ((HF2.out.alloc _).trans hF3)
            clear hF3
            go_wp2_with fail
            go_ret
            exact ⟨rfl, HF3.out⟩
          · obtain rfl : z = v + v := by rw [hz1.out, if_neg hm0]
            have q4 : ((m : Int) == 0) = false := by simp; omega
            have q5 : (v + v == 2 * v) = true := by simp; omega
            go_wp2_with fail
            refine (awake_any _ (HT.out.fr (HF2.out.alloc _) (fun h => h))).mono ?_
            rintro e w3 ⟨rfl, hF3⟩
            have HF3 := Lib.hid ((HF2.out.alloc _).trans hF3)
            clear hF3
            go_wp2_with fail
            go_ret
            exact ⟨rfl, HF3.out⟩

theorem walked (x : Int) (hx : (Lit.int .u8 x).wf = true) (v : Int) (hv : (Lit.int .i32 v).wf = true) (b : Bool) (w : World) (hT : FieldsAt w) :
    Calls Tryd.prog 6 #[.int .u8 x, .int .i32 v, .bool b] w fun e w' => e = .returned (.bool true) ∧ Below w.heap.size w w' := by
  obtain ⟨y, d, rfl, h1, h2⟩ := rem_u8 x hx 20 (by decide)
  have hb := bounds_i32 hv
  cases b
  · exact (walk_plain w hT v (by omega) (by omega) y d h1 h2).mono fun _ _ ⟨he, hF⟩ => ⟨he, hF.below (Nat.le_refl _) (fun _ h => h.elim)⟩
  · exact (walk_futures w hT v (by omega) (by omega) y d h1 h2).mono fun _ _ ⟨he, hF⟩ => ⟨he, hF.below (Nat.le_refl _) (fun _ h => h.elim)⟩

set_option maxRecDepth 100000 in
theorem lifted (os : Os) (started : os.Started) (H : Type) (enc : TypeId × Value → H) :
    ReturnsInHanded {} Tryd.checked os 6 .any (fun w args => (Rows.evalSumsSpec.pre enc Tryd.prog Tryd.f6 [] false w args ∧ laidMetH Tryd.prog laidN w) ∧ sizedMet enc Tryd.prog Tryd.f6 (OpenSpec.ofChange Rows.evalSumsSpec) false w args)
      (Rows.evalSumsSpec.post enc Tryd.prog Tryd.f6 false true false false) := by
  refine returnsInHanded_of_change_and (C := Tryd.checked) (X := fun w _ => laidMetH Tryd.prog laidN w) (fun _ _ _ hh h => h.of_heap hh) own started (by kernel_rfl) Tryd.func6
    (ChangeSpec.witness_shaped (enc := enc) (C := Tryd.checked) (os := os) (X := fun w _ => laidMetH Tryd.prog laidN w) false (World.doorLaid Tryd.prog 400 os) #[.int .u8 0, .int .i32 0, .bool false] 8 rfl (World.shaped_of_RefB (by kernel_rfl) (by kernel_rfl)) (by kernel_rfl) (by kernel_rfl) (by kernel_rfl) (door_met os _)) ?_
  intro W base args ds gs before hval0 hW _ _ hL _
  have hval : ∀ (j : Nat) t v, Tryd.f6.params[j]? = some t → args[j]? = some v → Value.okWide Tryd.prog W .any base t v := hval0
  have hW' := hW
  obtain ⟨p, q, hA0, hV, rfl, hfz, hnd⟩ := hW
  have hA : DataW.TrodAll enc Tryd.prog W 0 (fun _ => true) true Tryd.f6.params.toList args.toList ds p := hA0
  rw [Tryd.params6] at hA hval
  obtain ⟨v0, vs0, d0, ds0, p0, q0, hargs, rfl, rfl, h0, r0⟩ := trodAll_cons hA
  obtain ⟨v1, vs1, d1, ds1, p1, q1, rfl, rfl, rfl, h1, r1⟩ := trodAll_cons r0
  obtain ⟨v2, vs2, d2, ds2, p2, q2, rfl, rfl, rfl, h2, r2⟩ := trodAll_cons r1
  obtain ⟨rfl, rfl, rfl⟩ := trodAll_nil r2
  obtain rfl : args = #[v0, v1, v2] := by cases args; simp_all
  obtain ⟨rfl, rfl⟩ := trodVars_none hV
  obtain ⟨a0, rfl, rfl, rfl, w0⟩ := open_int Tryd.underlying5 (hval 0 5 v0 rfl rfl) h0
  obtain ⟨a1, rfl, rfl, rfl, w1⟩ := open_int Tryd.underlying21 (hval 1 21 v1 rfl rfl) h1
  obtain ⟨a2, rfl, rfl, rfl⟩ := open_bool Tryd.underlying4 (hval 2 4 v2 rfl rfl) h2
  clear hA0 hval0
  refine (walked a0 w0 a1 w1 a2 W (of_laid hL)).mono fun e W' ⟨he, bel⟩ => ?_
  subst he
  exact ⟨_, rfl, _, _, _, [], _, [], hW', trodAll_mk1 (shut_bool Tryd.underlying4 _), (trodAll_cons_mk (shut_int Tryd.underlying5 w0) (trodAll_cons_mk (shut_int Tryd.underlying21 w1) (trodAll_cons_mk (shut_bool Tryd.underlying4 _) trodAll_mk0))), rfl, bel.frame _, fun h => by cases h⟩

theorem over : Rows.EvalSumsSaid :=
  OpenClaim.holds_of_wide 6 Tryd.f6 rfl rfl rfl rfl rfl rfl rfl ⟨rfl, rfl, rfl, rfl, rfl⟩ rfl rfl rfl rfl rfl (by kernel_rfl) Tryd.func6 (by kernel_rfl)
    (of_decide_eq_true (by kernel_rfl)) (by unfold Func.isWrapper; first | (rw [if_pos (by decide +kernel)]; kernel_rfl) | (rw [if_neg (by decide +kernel)]; exact ⟨rfl, rfl⟩))
    (fun os started H enc _ => lifted os started H enc)

/-- The statement: the row, and what it lists tied to the program's text. -/
theorem proved : Rows.EvalSumsCardSaid :=
  Claim7.holds_tied_plain_at .later [] [.data] true (true, "4aa17e3d60f3d84dd4c16a934e022370534363df738d391e78b403ada7e39e40") true
    over (fun _ h => by cases h) (by kernel_rfl) (fun _ h => by cases h) evalSums_row_tie rfl ⟨rfl, rfl⟩ (by kernel_rfl) rfl
    (fun f fn hf hfn => by
      obtain rfl : f = 6 := Option.some.inj ((show Tryd.prog.funcNamed "haymow/haymowlaw06.EvalSums" = some 6 by kernel_rfl).symm.trans hf) |>.symm
      obtain rfl : fn = Tryd.f6 := (Option.some.inj (Tryd.func6.symm.trans hfn)).symm
      exact ⟨by kernel_rfl, fun j t ht => by
        rw [Tryd.params6] at ht
        match j, ht with
        | 0, ht =>
          obtain rfl : t = 5 := by simpa using ht.symm
          exact (show Tryd.prog.wantsStandIn 5 = false by kernel_rfl)
        | 1, ht =>
          obtain rfl : t = 21 := by simpa using ht.symm
          exact (show Tryd.prog.wantsStandIn 21 = false by kernel_rfl)
        | 2, ht =>
          obtain rfl : t = 4 := by simpa using ht.symm
          exact (show Tryd.prog.wantsStandIn 4 = false by kernel_rfl)
        | j + 3, ht => simp at ht⟩)
    (by kernel_rfl)
#print axioms proved
end Go.Proofs.YtbhnnnpofindiaaDoor.evalSums
