/-
  haymowlaw12.FrameJumps returns true for every number, how many instructions, where it leads, and whether it is a plain one. No condition.
-/
import Derived.Test.YtadcenaafoemmaaDoorFrU
import Derived.Test.YtadcenaafoemmaaDoorRows
import Derived.Test.YtadcenaafoemmaaDoorTie
import Derived.Test.YtadcenaafoemmaaDoorCards
import Derived.Deep.AppendLies
import Derived.Deep.CutBlock
namespace Go.Proofs.YtadcenaafoemmaaDoor.frameJumps
open Go.ChangeShapes Go.WideShapes Go.ChangeAt Go.RowKit

def lenV : Value → Nat
  | .slice _ n _ => n
  | _ => 0
def retI : Ins := ⟨17, 0, 0, 0, 0⟩
def rowJ (x : Ins) (k : Nat) : List Ins := x :: List.replicate (k - 1) retI
theorem rowJ_len (x : Ins) {k : Nat} (h : 1 ≤ k) : (rowJ x k).length = k := by simp [rowJ]; omega
theorem rowJ_snoc (x : Ins) {k : Nat} (h : 1 ≤ k) : rowJ x (k + 1) = rowJ x k ++ [retI] := by
  unfold rowJ
  rw [show k + 1 - 1 = (k - 1) + 1 by omega, List.replicate_succ', List.cons_append]
def jI (plain : Bool) (t : Int) : Ins := if plain then ⟨9, 0, 0, 0, t⟩ else ⟨10, 3, 0, 0, t⟩

theorem ins_j (fs : List Fn) (pl : Nat) (plain : Bool) (t : Int) (h0 : 0 ≤ t) (h1 : t < pl) : insE fs pl (jI plain t) = 0 := by
  have hr : rngE 0 pl 6 t = 0 := rngE_in h0 h1
  cases plain with
  | true =>
    have h0 : firstE (unusedE (jI true t)) 0 4 = 0 := firstE_ok 4 0 (fun i _ h => by
      obtain rfl | rfl | rfl | rfl : i = 0 ∨ i = 1 ∨ i = 2 ∨ i = 3 := by omega
      all_goals rfl)
    have h2 : firstE (fieldsE fs.length pl (jI true t)) 0 4 = 0 := firstE_ok 4 0 (fun i _ h => by
      obtain rfl | rfl | rfl | rfl : i = 0 ∨ i = 1 ∨ i = 2 ∨ i = 3 := by omega
      · rfl
      · rfl
      · rfl
      · exact hr)
    unfold insE
    rw [if_pos (show 1 ≤ (jI true t).op ∧ (jI true t).op ≤ 17 from (show (1 : Int) ≤ 9 ∧ (9 : Int) ≤ 17 by decide)), if_pos h0, if_pos h2]
    rfl
  | false =>
    have h0 : firstE (unusedE (jI false t)) 0 4 = 0 := firstE_ok 4 0 (fun i _ h => by
      obtain rfl | rfl | rfl | rfl : i = 0 ∨ i = 1 ∨ i = 2 ∨ i = 3 := by omega
      all_goals rfl)
    have h2 : firstE (fieldsE fs.length pl (jI false t)) 0 4 = 0 := firstE_ok 4 0 (fun i _ h => by
      obtain rfl | rfl | rfl | rfl : i = 0 ∨ i = 1 ∨ i = 2 ∨ i = 3 := by omega
      · rfl
      · rfl
      · rfl
      · exact hr)
    unfold insE
    rw [if_pos (show 1 ≤ (jI false t).op ∧ (jI false t).op ≤ 17 from (show (1 : Int) ≤ 10 ∧ (10 : Int) ≤ 17 by decide)), if_pos h0, if_pos h2]
    rfl

theorem chk_j (plain : Bool) (t : Int) (k : Nat) (hk : 2 ≤ k) (hk2 : k ≤ 61) (h0 : 0 ≤ t) (h1 : t < k) : chk [⟨4, rowJ (jI plain t) k⟩] = (0, 0, 0) := by
  have hl := rowJ_len (jI plain t) (k := k) (by omega)
  refine chk_good (by simp) (fun f hf => ?_)
  rw [List.mem_singleton.1 hf]
  refine fnE_good (f := ⟨4, rowJ (jI plain t) k⟩) (by show (0 : Int) ≤ 4 ∧ (4 : Int) ≤ 4; decide) (by show 1 ≤ (rowJ (jI plain t) k).length ∧ (rowJ (jI plain t) k).length ≤ 64; omega) (fun x hx => ?_) ?_
  · show insE _ (rowJ (jI plain t) k).length x = 0
    rw [hl]
    rcases List.mem_cons.1 hx with rfl | hx
    · exact ins_j _ _ _ _ h0 h1
    · rw [(List.mem_replicate.1 hx).2]
      rfl
  · show lastOk (rowJ (jI plain t) k)
    rw [show k = (k - 1) + 1 by omega, rowJ_snoc _ (by omega)]
    unfold lastOk lastOp
    rw [List.getLast?_concat]; exact .inr (.inr rfl)

def jF (n : Int) (at_ st : Int) : FR := ⟨0, at_, st, 0, [], [0, 0, 0, n, 0, 0, 0, 0], [0, 0, 0, 0]⟩
def wantJ (plain : Bool) (n t : Int) : Int := if plain then t else zeroTo n t 1
theorem exec_j (plain : Bool) (n t : Int) (k : Nat) (hk : 2 ≤ k) (hk2 : k ≤ 61) (h0 : 0 ≤ t) (h1 : t < k) : execP [⟨4, rowJ (jI plain t) k⟩] 9 0 (jF n 0 0) = (gE, 0, jF n (wantJ plain n t) 1) := by
  have hr : rightF [⟨4, rowJ (jI plain t) k⟩] 9 0 = true := by
    unfold rightF rightB
    rw [chk_j plain t k hk hk2 h0 h1]
    rfl
  unfold execP
  rw [if_pos hr]
  have hi : insAt [⟨4, rowJ (jI plain t) k⟩] (jF n 0 0) = some (jI plain t) := rfl
  rw [hi]
  cases plain <;> rfl

set_option maxHeartbeats 16000000 in
set_option maxRecDepth 100000 in
theorem walk_true (n : Int) (many tt : Nat) (hm : many < 256) (hto : tt < 256) (w : World) (hT : FieldsAt w) :
    Calls Tryd.prog 7 #[.agg #[.int .i64 n, .int .u8 many, .int .u8 tt, .bool true]] w fun e w' => e = .returned (.bool true) ∧ Fr None' w w' := by
  obtain ⟨i5, hi5, hz50, hz51, hz52⟩ := info3 info_ins
  have HT := Lib.hid hT
  clear hT
  go_enter Tryd.func7, Tryd.ntmps7
  go_upto_region 1 with (fail)
  generalize hW : w.alloc (.cells _ 97) = W
  have hF : Fr None' w W := by rw [← hW]; exact (Fr.refl _ _).alloc _
  have hZ : Blk W w.heap.size 97 #[.int .i64 n, .int .u8 many, .int .u8 tt, .bool true] := by rw [← hW]; exact Blk.new _ _ _
  have a0 : W.cell? ⟨w.heap.size, 0, none⟩ = some (.int .i64 n) := by rw [hZ.cell]; rfl
  have a1 : W.cell? ⟨w.heap.size, 1, none⟩ = some (.int .u8 many) := by rw [hZ.cell]; rfl
  have a2 : W.cell? ⟨w.heap.size, 2, none⟩ = some (.int .u8 tt) := by rw [hZ.cell]; rfl
  have a3 : W.cell? ⟨w.heap.size, 3, none⟩ = some (.bool true) := by rw [hZ.cell]; rfl
  have HF := Lib.hid hF
  clear hW hF hZ
  go_quiet (fail)
  generalize hV : W.drewN _ = V
  have HFV : Hid (Fr None' w V) := Lib.hid (by rw [← hV]; exact HF.out.drewN _)
  clear hV HF a0 a1 a2 a3
  obtain ⟨k, hk, hk1, hk2⟩ : ∃ k : Nat, (many : Int) % 60 + 2 = k ∧ 2 ≤ k ∧ k ≤ 61 := ⟨many % 60 + 2, by omega, by omega, by omega⟩
  obtain ⟨t, ht, ht1⟩ : ∃ t : Nat, (tt : Int) % (k : Int) = t ∧ t < k := ⟨tt % k, by omega, Nat.mod_lt _ (by omega)⟩
  have hkz : ¬ (k : Int) = 0 := by omega
  go_upto_block 0 with (fail)
  have HTK := Lib.hid ht
  clear hk ht hkz
  generalize hV2 : (World.alloc _ (.cells _ 98)).alloc (.cells _ 98) = V2
  have hF2 : Fr None' w V2 := by rw [← hV2]; exact (HFV.out.alloc _).alloc _
  have hC2 : V2.ownsRow w.heap.size 98 5 (.slice (some ⟨V.heap.size + 1, 0, none⟩) 1 1) 1 ((rowJ (jI true t) 1).flatMap Ins.cells) := by
    have hb := Blk.new (V.alloc (.cells (jI true t).cells.toArray 98)) 98 (jI true t).cells.toArray
    rw [show (V.alloc (.cells (jI true t).cells.toArray 98)).heap.size = V.heap.size + 1 by simp] at hb
    refine ⟨rfl, .inr ⟨V.heap.size + 1, 1, (jI true t).cells.toArray, rfl, by have := HFV.out.size; omega, ?_, Nat.le_refl _, by unfold maxLen; omega, rfl, rfl⟩⟩
    rw [← hV2]
    exact hb
  have HC2 := Lib.hid hC2
  have HF2 := Lib.hid hF2
  clear hV2 hF2 hC2 HFV
  generalize V.heap.size + 1 = g0 at *
  go_wp2_with fail
  go_loopw [10] (fun v wx => ∃ (A : Option Addr) (c j : Nat), 1 ≤ j ∧ j ≤ k ∧ v = .slice A j c ∧ Hid (wx.ownsRow w.heap.size 98 5 (.slice A j c) j ((rowJ (jI true t) j).flatMap Ins.cells)) ∧ Hid (Fr None' w wx)) (fun v _ => k - lenV v)
  case atStart => exact ⟨_, _, 1, by omega, by omega, rfl, HC2, HF2⟩
  case round =>
    obtain ⟨A, c, j, hj1, hjk, rfl, HOW, HF⟩ := hrel
    have hbw := HF.out.size
    by_cases hkl : j < k
    · have hnb : (wr.alloc (.cells #[.int .i64 17, .int .i64 0, .int .i64 0, .int .i64 0, .int .i64 0] 98)).heap[wr.heap.size]? = some (.cells retI.cells.toArray 98) := heap_alloc_new _ _
      have HNB := Lib.hid hnb
      have hjki : (j : Int) < (k : Int) := by omega
      clear hnb
      go_wp2_with (at_builtin; refine wpList_append_lies _ rfl (.tmp 42) (.tmp 44) 99 rfl w.heap.size 98 i5 (.agg #[.int .i64 0, .int .i64 0, .int .i64 0, .int .i64 0, .int .i64 0]) 5 40 Tryd.underlying99 hi5 hz50 hz51 hz52 rfl (by decide) _ j _ rfl (own_fr HOW.out ((Fr.refl None' _).alloc _) (fun _ _ h => h)) ⟨wr.heap.size, 0, none⟩ 1 1 retI.cells rfl rfl ?c1 ?c2 (by decide) ?c3 ?c4 ?c5 (wr.heap.size + 1) ?c6 ?_)
      case c1 => intro i u hi; exact World.news_of_block HNB.out i u hi
      case c2 => intro u hu; simp [Ins.cells, retI] at hu; rcases hu with rfl | rfl <;> rfl
      case c3 => unfold maxLen; omega
      case c4 => omega
      case c5 => simp; omega
      case c6 => simp
      intro g cap w1 hown1 hg1 hor hlt1
      have HG1 := Lib.hid hg1
      have HW1 := Lib.hid hown1
      clear hor hg1 hown1
      go_wp2_with fail
      refine ⟨⟨_, _, j + 1, by omega, by omega, rfl, Lib.hid ?_, Lib.hid ((HF.out.alloc _).grow HG1.out (own_low HOW.out))⟩, by simp [lenV]; omega⟩
      rw [rowJ_snoc _ hj1, List.flatMap_append]
      simpa using HW1.out
    · obtain rfl : j = k := by omega
      have hjj : decide ((j : Int) < (j : Int)) = false := decide_eq_false (by omega)
      obtain ⟨W3, hW3⟩ : ∃ W3, W3 = wr.alloc (.cells #[.int .i64 0, .int .i64 0, .int .i64 0, .int .i64 n] 2) := ⟨_, rfl⟩
      have hF3 : Fr None' wr W3 := by rw [hW3]; exact (Fr.refl _ _).alloc _
      have hA3 : Blk W3 wr.heap.size 2 #[.int .i64 0, .int .i64 0, .int .i64 0, .int .i64 n] := by rw [hW3]; exact Blk.new _ _ _
      have hnew := new_at W3 0 none (some ⟨wr.heap.size, 0, none⟩) [] [0, 0, 0, n] 0 4 0 0 0 0 (fun _ => rfl) (fun h => absurd h (by decide)) (fun _ => ⟨wr.heap.size, 0, rfl, fun i x hx => by
        rw [Nat.zero_add, hA3.cell]
        match i, hx with
        | 0, hx => cases hx; rfl
        | 1, hx => cases hx; rfl
        | 2, hx => cases hx; rfl
        | 3, hx => cases hx; rfl
        | i + 4, hx => simp at hx⟩) (by decide)
      rw [hW3] at hnew
      have HNW := Lib.hid hnew
      have HOW3 := Lib.hid (own_fr HOW.out hF3 (fun _ _ h => h))
      have HF3 := Lib.hid (HF.out.trans hF3)
      have hsz3 : W3.heap.size = wr.heap.size + 1 := by rw [hW3]; simp
      clear hA3 hnew hF3
      rw [hW3] at HOW3 HF3 hsz3
      clear hW3 W3 HOW HF HC2 HF2
      go_wp2_with fail
      refine HNW.out.mono ?_
      clear HNW
      rintro e w4 ⟨F, hFl, rfl, hf, hF4⟩
      have HFR : Hid (FrameAt w4 F (jF n 0 0)) := Lib.hid hf
      have HOW4 := Lib.hid (own_fr HOW3.out hF4 (fun _ _ h => h))
      have HF4 := Lib.hid (HF3.out.trans hF4)
      have hFlt : F < w4.heap.size := by obtain ⟨_, _, hb, _⟩ := hf.blk; exact hb.lt
      have hlow : Hid (∀ g, (Value.slice A j c).ownBlock = some g → g < F) := Lib.hid (fun g hg => by have := (HOW3.out.lt g hg).2; omega)
      clear hf hF4 HOW3 HF3
      obtain ⟨W5, hW5⟩ : ∃ W5, W5 = w4.alloc (.cells #[.int .i64 4, .slice A j c] 101) := ⟨_, rfl⟩
      have hF5 : Fr None' w4 W5 := by rw [hW5]; exact (Fr.refl _ _).alloc _
      have hB5 : Blk W5 w4.heap.size 101 #[.int .i64 4, .slice A j c] := by rw [hW5]; exact Blk.new _ _ _
      have hlen := rowJ_len (jI true t) hj1
      have hOW5 := own_fr HOW4.out hF5 (fun _ _ h => h)
      have hrow : FnRow W5 (fun b => b < W5.heap.size ∧ b ≠ F) (some ⟨w4.heap.size, 0, none⟩) [⟨⟨4, rowJ (jI true t) j⟩, A, c⟩] := by
        refine ⟨Rd.of_blk (t := 101) (cs := [.int .i64 4, .slice A (rowJ (jI true t) j).length c]) (by rw [hlen]; exact hB5) rfl ⟨hB5.lt, by omega⟩, fun x hx => ?_⟩
        rw [List.mem_singleton.1 hx]
        show Rd W5 _ 5 A (rowJ (jI true t) j).length _
        rw [hlen]
        have hr := Rd.of_own hOW5
        refine ⟨hr.1, fun h0 => ?_⟩
        obtain ⟨b, off, e1, hq, hc⟩ := hr.2 h0
        refine ⟨b, off, e1, ⟨hq.2, ?_⟩, hc⟩
        have := hlow.out b (by rw [e1]; rfl)
        omega
      have hex := exec_any W5 (some ⟨w4.heap.size, 0, none⟩) 1 F _ 9 0 (jF n 0 0) hrow (HT.out.fr (HF4.out.trans hF5) (fun h => h)) (by simp) (fun y hy => by rw [List.mem_singleton.1 hy]; show (rowJ (jI true t) j).length < _; omega) (HFR.out.fr hF5 (fun h => h) (fun _ _ _ h => h)) (by show (0 : Nat) ≤ 1000; decide)
      rw [show fns [(⟨⟨4, rowJ (jI true t) j⟩, A, c⟩ : LFn)] = [⟨4, rowJ (jI true t) j⟩] from rfl, exec_j true n t j hk1 hk2 (by omega) (by omega)] at hex
      rw [hW5] at hex
      have HEX := Lib.hid hex
      have HF5 := Lib.hid (HF4.out.trans hF5)
      rw [hW5] at HF5
      have hs5 : w.heap.size ≤ F := by omega
      clear hrow hex hB5 hF5 hOW5 hW5 W5 HOW4 HF4 HFR
      go_wp2_with fail
      refine HEX.out.mono ?_
      clear HEX
      rintro e w6 ⟨ea, ep, rfl, hE, hf, hF6⟩
      obtain ⟨⟨Aa, ca, rfl⟩, Ap, cp, rfl⟩ := hE.slices
      obtain ⟨P, pc, hb, _, _, _⟩ := hf.blk
      have HB6 := Lib.hid hb
      have HF6 : Hid (Fr None' w w6) := Lib.hid (HF5.out.then hF6 (fun i hi => .inr (by have hi : i = F := hi; omega)))
      have hFl6 : F < w6.heap.size := hb.lt
      clear hE hf hF6 hb HF5
      unfold efC
      have htk := HTK.out
      go_upto_region 14 with (fail)
      generalize hW7 : World.alloc w6 _ = w7
      have hF7 : Fr None' w6 w7 := by rw [← hW7]; exact (Fr.refl _ _).alloc _
      have hE7 : Blk w7 w6.heap.size 36 (efC 1 0 0 0 0 0 (.slice Aa 0 ca) (.slice Ap 0 cp)) := by rw [← hW7]; exact Blk.new _ _ _
      have hb7 := HB6.out.fr hF7 (fun h => h)
      have e0 : w7.cell? ⟨w6.heap.size, 0, none⟩ = some (.int .i64 1) := by rw [hE7.cell]; rfl
      have f1 : w7.cell? ⟨F, 1, none⟩ = some (.int .i64 (wantJ true n t)) := by rw [hb7.cell]; rfl
      have f2 : w7.cell? ⟨F, 2, none⟩ = some (.int .i64 1) := by rw [hb7.cell]; rfl
      have HF7 := Lib.hid (HF6.out.trans hF7)
      have HAW := Lib.hid (fun W (hF : Fr None' w W) => awake_any W (HT.out.fr hF (fun h => h)))
      clear hW7 hF7 hE7 hb7 HB6 HF6
      generalize w6.heap.size = E at *
      rw [show wantJ true n t = (t : Int) from rfl] at f1
      go_wp2_with fail
      refine (HAW.out _ HF7.out).mono ?_
      rintro e w8 ⟨rfl, hF8⟩
      go_wp2_with fail
      go_ret
      exact ⟨rfl, HF7.out.trans hF8⟩

set_option maxHeartbeats 16000000 in
set_option maxRecDepth 100000 in
theorem walk_false (n : Int) (many tt : Nat) (hm : many < 256) (hto : tt < 256) (w : World) (hT : FieldsAt w) :
    Calls Tryd.prog 7 #[.agg #[.int .i64 n, .int .u8 many, .int .u8 tt, .bool false]] w fun e w' => e = .returned (.bool true) ∧ Fr None' w w' := by
  obtain ⟨i5, hi5, hz50, hz51, hz52⟩ := info3 info_ins
  have HT := Lib.hid hT
  clear hT
  go_enter Tryd.func7, Tryd.ntmps7
  go_upto_region 1 with (fail)
  generalize hW : w.alloc (.cells _ 97) = W
  have hF : Fr None' w W := by rw [← hW]; exact (Fr.refl _ _).alloc _
  have hZ : Blk W w.heap.size 97 #[.int .i64 n, .int .u8 many, .int .u8 tt, .bool false] := by rw [← hW]; exact Blk.new _ _ _
  have a0 : W.cell? ⟨w.heap.size, 0, none⟩ = some (.int .i64 n) := by rw [hZ.cell]; rfl
  have a1 : W.cell? ⟨w.heap.size, 1, none⟩ = some (.int .u8 many) := by rw [hZ.cell]; rfl
  have a2 : W.cell? ⟨w.heap.size, 2, none⟩ = some (.int .u8 tt) := by rw [hZ.cell]; rfl
  have a3 : W.cell? ⟨w.heap.size, 3, none⟩ = some (.bool false) := by rw [hZ.cell]; rfl
  have HF := Lib.hid hF
  clear hW hF hZ
  go_quiet (fail)
  generalize hV : W.drewN _ = V
  have HFV : Hid (Fr None' w V) := Lib.hid (by rw [← hV]; exact HF.out.drewN _)
  clear hV HF a0 a1 a2 a3
  obtain ⟨k, hk, hk1, hk2⟩ : ∃ k : Nat, (many : Int) % 60 + 2 = k ∧ 2 ≤ k ∧ k ≤ 61 := ⟨many % 60 + 2, by omega, by omega, by omega⟩
  obtain ⟨t, ht, ht1⟩ : ∃ t : Nat, (tt : Int) % (k : Int) = t ∧ t < k := ⟨tt % k, by omega, Nat.mod_lt _ (by omega)⟩
  have hkz : ¬ (k : Int) = 0 := by omega
  go_upto_block 0 with (fail)
  have HTK := Lib.hid ht
  clear hk ht hkz
  generalize hV2 : (World.alloc _ (.cells _ 98)).alloc (.cells _ 98) = V2
  have hF2 : Fr None' w V2 := by rw [← hV2]; exact (HFV.out.alloc _).alloc _
  have hC2 : V2.ownsRow w.heap.size 98 5 (.slice (some ⟨V.heap.size + 1, 0, none⟩) 1 1) 1 ((rowJ (jI false t) 1).flatMap Ins.cells) := by
    have hb := Blk.new (V.alloc (.cells (jI false t).cells.toArray 98)) 98 (jI false t).cells.toArray
    rw [show (V.alloc (.cells (jI false t).cells.toArray 98)).heap.size = V.heap.size + 1 by simp] at hb
    refine ⟨rfl, .inr ⟨V.heap.size + 1, 1, (jI false t).cells.toArray, rfl, by have := HFV.out.size; omega, ?_, Nat.le_refl _, by unfold maxLen; omega, rfl, rfl⟩⟩
    rw [← hV2]
    exact hb
  have HC2 := Lib.hid hC2
  have HF2 := Lib.hid hF2
  clear hV2 hF2 hC2 HFV
  generalize V.heap.size + 1 = g0 at *
  go_wp2_with fail
  go_loopw [10] (fun v wx => ∃ (A : Option Addr) (c j : Nat), 1 ≤ j ∧ j ≤ k ∧ v = .slice A j c ∧ Hid (wx.ownsRow w.heap.size 98 5 (.slice A j c) j ((rowJ (jI false t) j).flatMap Ins.cells)) ∧ Hid (Fr None' w wx)) (fun v _ => k - lenV v)
  case atStart => exact ⟨_, _, 1, by omega, by omega, rfl, HC2, HF2⟩
  case round =>
    obtain ⟨A, c, j, hj1, hjk, rfl, HOW, HF⟩ := hrel
    have hbw := HF.out.size
    by_cases hkl : j < k
    · have hnb : (wr.alloc (.cells #[.int .i64 17, .int .i64 0, .int .i64 0, .int .i64 0, .int .i64 0] 98)).heap[wr.heap.size]? = some (.cells retI.cells.toArray 98) := heap_alloc_new _ _
      have HNB := Lib.hid hnb
      have hjki : (j : Int) < (k : Int) := by omega
      clear hnb
      go_wp2_with (at_builtin; refine wpList_append_lies _ rfl (.tmp 42) (.tmp 44) 99 rfl w.heap.size 98 i5 (.agg #[.int .i64 0, .int .i64 0, .int .i64 0, .int .i64 0, .int .i64 0]) 5 40 Tryd.underlying99 hi5 hz50 hz51 hz52 rfl (by decide) _ j _ rfl (own_fr HOW.out ((Fr.refl None' _).alloc _) (fun _ _ h => h)) ⟨wr.heap.size, 0, none⟩ 1 1 retI.cells rfl rfl ?c1 ?c2 (by decide) ?c3 ?c4 ?c5 (wr.heap.size + 1) ?c6 ?_)
      case c1 => intro i u hi; exact World.news_of_block HNB.out i u hi
      case c2 => intro u hu; simp [Ins.cells, retI] at hu; rcases hu with rfl | rfl <;> rfl
      case c3 => unfold maxLen; omega
      case c4 => omega
      case c5 => simp; omega
      case c6 => simp
      intro g cap w1 hown1 hg1 hor hlt1
      have HG1 := Lib.hid hg1
      have HW1 := Lib.hid hown1
      clear hor hg1 hown1
      go_wp2_with fail
      refine ⟨⟨_, _, j + 1, by omega, by omega, rfl, Lib.hid ?_, Lib.hid ((HF.out.alloc _).grow HG1.out (own_low HOW.out))⟩, by simp [lenV]; omega⟩
      rw [rowJ_snoc _ hj1, List.flatMap_append]
      simpa using HW1.out
    · obtain rfl : j = k := by omega
      have hjj : decide ((j : Int) < (j : Int)) = false := decide_eq_false (by omega)
      obtain ⟨W3, hW3⟩ : ∃ W3, W3 = wr.alloc (.cells #[.int .i64 0, .int .i64 0, .int .i64 0, .int .i64 n] 2) := ⟨_, rfl⟩
      have hF3 : Fr None' wr W3 := by rw [hW3]; exact (Fr.refl _ _).alloc _
      have hA3 : Blk W3 wr.heap.size 2 #[.int .i64 0, .int .i64 0, .int .i64 0, .int .i64 n] := by rw [hW3]; exact Blk.new _ _ _
      have hnew := new_at W3 0 none (some ⟨wr.heap.size, 0, none⟩) [] [0, 0, 0, n] 0 4 0 0 0 0 (fun _ => rfl) (fun h => absurd h (by decide)) (fun _ => ⟨wr.heap.size, 0, rfl, fun i x hx => by
        rw [Nat.zero_add, hA3.cell]
        match i, hx with
        | 0, hx => cases hx; rfl
        | 1, hx => cases hx; rfl
        | 2, hx => cases hx; rfl
        | 3, hx => cases hx; rfl
        | i + 4, hx => simp at hx⟩) (by decide)
      rw [hW3] at hnew
      have HNW := Lib.hid hnew
      have HOW3 := Lib.hid (own_fr HOW.out hF3 (fun _ _ h => h))
      have HF3 := Lib.hid (HF.out.trans hF3)
      have hsz3 : W3.heap.size = wr.heap.size + 1 := by rw [hW3]; simp
      clear hA3 hnew hF3
      rw [hW3] at HOW3 HF3 hsz3
      clear hW3 W3 HOW HF HC2 HF2
      go_wp2_with fail
      refine HNW.out.mono ?_
      clear HNW
      rintro e w4 ⟨F, hFl, rfl, hf, hF4⟩
      have HFR : Hid (FrameAt w4 F (jF n 0 0)) := Lib.hid hf
      have HOW4 := Lib.hid (own_fr HOW3.out hF4 (fun _ _ h => h))
      have HF4 := Lib.hid (HF3.out.trans hF4)
      have hFlt : F < w4.heap.size := by obtain ⟨_, _, hb, _⟩ := hf.blk; exact hb.lt
      have hlow : Hid (∀ g, (Value.slice A j c).ownBlock = some g → g < F) := Lib.hid (fun g hg => by have := (HOW3.out.lt g hg).2; omega)
      clear hf hF4 HOW3 HF3
      obtain ⟨W5, hW5⟩ : ∃ W5, W5 = w4.alloc (.cells #[.int .i64 4, .slice A j c] 101) := ⟨_, rfl⟩
      have hF5 : Fr None' w4 W5 := by rw [hW5]; exact (Fr.refl _ _).alloc _
      have hB5 : Blk W5 w4.heap.size 101 #[.int .i64 4, .slice A j c] := by rw [hW5]; exact Blk.new _ _ _
      have hlen := rowJ_len (jI false t) hj1
      have hOW5 := own_fr HOW4.out hF5 (fun _ _ h => h)
      have hrow : FnRow W5 (fun b => b < W5.heap.size ∧ b ≠ F) (some ⟨w4.heap.size, 0, none⟩) [⟨⟨4, rowJ (jI false t) j⟩, A, c⟩] := by
        refine ⟨Rd.of_blk (t := 101) (cs := [.int .i64 4, .slice A (rowJ (jI false t) j).length c]) (by rw [hlen]; exact hB5) rfl ⟨hB5.lt, by omega⟩, fun x hx => ?_⟩
        rw [List.mem_singleton.1 hx]
        show Rd W5 _ 5 A (rowJ (jI false t) j).length _
        rw [hlen]
        have hr := Rd.of_own hOW5
        refine ⟨hr.1, fun h0 => ?_⟩
        obtain ⟨b, off, e1, hq, hc⟩ := hr.2 h0
        refine ⟨b, off, e1, ⟨hq.2, ?_⟩, hc⟩
        have := hlow.out b (by rw [e1]; rfl)
        omega
      have hex := exec_any W5 (some ⟨w4.heap.size, 0, none⟩) 1 F _ 9 0 (jF n 0 0) hrow (HT.out.fr (HF4.out.trans hF5) (fun h => h)) (by simp) (fun y hy => by rw [List.mem_singleton.1 hy]; show (rowJ (jI false t) j).length < _; omega) (HFR.out.fr hF5 (fun h => h) (fun _ _ _ h => h)) (by show (0 : Nat) ≤ 1000; decide)
      rw [show fns [(⟨⟨4, rowJ (jI false t) j⟩, A, c⟩ : LFn)] = [⟨4, rowJ (jI false t) j⟩] from rfl, exec_j false n t j hk1 hk2 (by omega) (by omega)] at hex
      rw [hW5] at hex
      have HEX := Lib.hid hex
      have HF5 := Lib.hid (HF4.out.trans hF5)
      rw [hW5] at HF5
      have hs5 : w.heap.size ≤ F := by omega
      clear hrow hex hB5 hF5 hOW5 hW5 W5 HOW4 HF4 HFR
      go_wp2_with fail
      refine HEX.out.mono ?_
      clear HEX
      rintro e w6 ⟨ea, ep, rfl, hE, hf, hF6⟩
      obtain ⟨⟨Aa, ca, rfl⟩, Ap, cp, rfl⟩ := hE.slices
      obtain ⟨P, pc, hb, _, _, _⟩ := hf.blk
      have HB6 := Lib.hid hb
      have HF6 : Hid (Fr None' w w6) := Lib.hid (HF5.out.then hF6 (fun i hi => .inr (by have hi : i = F := hi; omega)))
      have hFl6 : F < w6.heap.size := hb.lt
      clear hE hf hF6 hb HF5
      unfold efC
      have htk := HTK.out
      go_upto_region 14 with (fail)
      generalize hW7 : World.alloc w6 _ = w7
      have hF7 : Fr None' w6 w7 := by rw [← hW7]; exact (Fr.refl _ _).alloc _
      have hE7 : Blk w7 w6.heap.size 36 (efC 1 0 0 0 0 0 (.slice Aa 0 ca) (.slice Ap 0 cp)) := by rw [← hW7]; exact Blk.new _ _ _
      have hb7 := HB6.out.fr hF7 (fun h => h)
      have e0 : w7.cell? ⟨w6.heap.size, 0, none⟩ = some (.int .i64 1) := by rw [hE7.cell]; rfl
      have f1 : w7.cell? ⟨F, 1, none⟩ = some (.int .i64 (wantJ false n t)) := by rw [hb7.cell]; rfl
      have f2 : w7.cell? ⟨F, 2, none⟩ = some (.int .i64 1) := by rw [hb7.cell]; rfl
      have HF7 := Lib.hid (HF6.out.trans hF7)
      have HAW := Lib.hid (fun W (hF : Fr None' w W) => awake_any W (HT.out.fr hF (fun h => h)))
      clear hW7 hF7 hE7 hb7 HB6 HF6
      generalize w6.heap.size = E at *
      by_cases hn : n = 0
      · rw [show wantJ false n t = (t : Int) by rw [hn]; rfl] at f1
        subst hn
        go_wp2_with fail
        refine (HAW.out _ HF7.out).mono ?_
        rintro e w8 ⟨rfl, hF8⟩
        go_wp2_with fail
        go_ret
        exact ⟨rfl, HF7.out.trans hF8⟩
      · rw [show wantJ false n t = 1 from if_neg hn] at f1
        have hnb : (n == 0) = false := by simpa using hn
        go_wp2_with fail
        refine (HAW.out _ HF7.out).mono ?_
        rintro e w8 ⟨rfl, hF8⟩
        go_wp2_with fail
        go_ret
        exact ⟨rfl, HF7.out.trans hF8⟩

set_option maxRecDepth 100000 in
theorem u8_of {x : Int} (h : (Lit.int .u8 x).wf = true) : ∃ n : Nat, x = n ∧ n < 256 := by
  have hm : IntKind.u8.min = 0 := rfl
  have hM : IntKind.u8.max = 255 := rfl
  simp [Lit.wf, hm, hM] at h
  exact ⟨x.toNat, by omega, by omega⟩
set_option maxRecDepth 100000 in
theorem open_jump {H : Type} {enc : TypeId × Value → H} {W : World} {base b0 : Nat} {spare : Nat → Bool} {held : Bool} {r : Reach} {v : Value} {d : DataW H} {p : List MemPlace} (hv : Value.okWide Tryd.prog W r b0 97 v) (h : DataW.Trod enc Tryd.prog W base spare held 97 v d p) :
    ∃ z : (Int × Bool) × Nat × Nat, v = .agg #[.int .i64 z.1.1, .int .u8 z.2.1, .int .u8 z.2.2, .bool z.1.2] ∧ z.2.1 < 256 ∧ z.2.2 < 256 := by
  obtain ⟨c0, c1, c2, c3, y0, y1, y2, y3, m, rfl, _, _, h0, h1, h2, h3⟩ := Go.Joins.open_agg4 Tryd.underlying97 (by kernel_rfl) (by kernel_rfl) hv h
  obtain ⟨a0, e0, _, _⟩ := DataW.trod_int Tryd.underlying2 h0
  obtain ⟨a1, e1, _, w1⟩ := DataW.trod_int Tryd.underlying5 h1
  obtain ⟨a2, e2, _, w2⟩ := DataW.trod_int Tryd.underlying5 h2
  obtain ⟨a3, e3, _⟩ := DataW.trod_bool Tryd.underlying4 h3
  simp at e0 e1 e2 e3
  subst e0 e1 e2 e3
  obtain ⟨n1, rfl, k1⟩ := u8_of w1
  obtain ⟨n2, rfl, k2⟩ := u8_of w2
  exact ⟨((a0, a3), n1, n2), rfl, k1, k2⟩
set_option maxRecDepth 100000 in
theorem walked (z : (Int × Bool) × Nat × Nat) (hz : z.2.1 < 256 ∧ z.2.2 < 256) (w : World) (hT : FieldsAt w) :
    Calls Tryd.prog 7 #[.agg #[.int .i64 z.1.1, .int .u8 z.2.1, .int .u8 z.2.2, .bool z.1.2]] w fun e w' => e = .returned (.bool true) ∧ Below w.heap.size w w' := by
  obtain ⟨⟨n, pl⟩, a, b⟩ := z
  cases pl with
  | false => exact (walk_false n a b hz.1 hz.2 w hT).mono fun e w' ⟨he, hF⟩ => ⟨he, hF.below (Nat.le_refl _) (fun _ h => h.elim)⟩
  | true => exact (walk_true n a b hz.1 hz.2 w hT).mono fun e w' ⟨he, hF⟩ => ⟨he, hF.below (Nat.le_refl _) (fun _ h => h.elim)⟩

set_option maxRecDepth 100000 in
theorem lifted (os : Os) (started : os.Started) (H : Type) (enc : TypeId × Value → H) :
    ReturnsInHanded {} Tryd.checked os 7 .any (fun w args => (Rows.frameJumpsSpec.pre enc Tryd.prog Tryd.f7 [] false w args ∧ laidMetH Tryd.prog laidN w) ∧ sizedMet enc Tryd.prog Tryd.f7 (OpenSpec.ofChange Rows.frameJumpsSpec) false w args)
      (Rows.frameJumpsSpec.post enc Tryd.prog Tryd.f7 false true false false) := by
  refine returnsInHanded_of_change_and (C := Tryd.checked) (X := fun w _ => laidMetH Tryd.prog laidN w) (fun _ _ _ hh h => h.of_heap hh) own started (by kernel_rfl) Tryd.func7
    (ChangeSpec.witness_shaped (enc := enc) (C := Tryd.checked) (os := os) (X := fun w _ => laidMetH Tryd.prog laidN w) false (World.doorLaid Tryd.prog 400 os) #[.agg #[.int .i64 0, .int .u8 0, .int .u8 0, .bool false]] 8 rfl (World.shaped_of_RefB (by kernel_rfl) (by kernel_rfl)) (by kernel_rfl) (by kernel_rfl) (by kernel_rfl) (door_met os _)) ?_
  intro W base args ds gs before hval0 hW _ _ hL _
  have hval : ∀ (j : Nat) t v, Tryd.f7.params[j]? = some t → args[j]? = some v → Value.okWide Tryd.prog W .any base t v := hval0
  have hW' := hW
  obtain ⟨p, q, hA0, hV, rfl, hfz, hnd⟩ := hW
  have hA : DataW.TrodAll enc Tryd.prog W 0 (fun _ => true) true Tryd.f7.params.toList args.toList ds p := hA0
  rw [Tryd.params7] at hA hval
  obtain ⟨v0, vs0, d0, ds0, p0, q0, hargs, rfl, rfl, h0, r0⟩ := trodAll_cons hA
  obtain ⟨rfl, rfl, rfl⟩ := trodAll_nil r0
  obtain rfl : args = #[v0] := by cases args; simp_all
  obtain ⟨rfl, rfl⟩ := trodVars_none hV
  have k0 := h0
  have lt0 : ∀ x ∈ p0, x.block < W.heap.size := by obtain ⟨m, hm⟩ := k0; exact DataW.trod_lt m _ _ _ hm
  obtain ⟨z0, rfl, w0⟩ := open_jump (hval 0 97 v0 rfl rfl) h0
  clear hA0 hval0
  refine (walked z0 w0 W (of_laid hL)).mono fun e W' ⟨he, bel⟩ => ?_
  subst he
  exact ⟨_, rfl, _, _, _, [], _, [], hW', trodAll_mk1 (shut_bool Tryd.underlying4 _), (trodAll_cons_mk (Below.trod laidOut (by kernel_rfl) (of_decide_eq_true (by kernel_rfl)) k0 bel lt0) trodAll_mk0), rfl, bel.frame _, fun h => by cases h⟩

theorem over : Rows.FrameJumpsSaid :=
  OpenClaim.holds_of_wide 7 Tryd.f7 rfl rfl rfl rfl rfl rfl rfl ⟨rfl, rfl, rfl, rfl, rfl⟩ rfl rfl rfl rfl rfl (by kernel_rfl) Tryd.func7 (by kernel_rfl)
    (of_decide_eq_true (by kernel_rfl)) (by unfold Func.isWrapper; first | (rw [if_pos (by decide +kernel)]; kernel_rfl) | (rw [if_neg (by decide +kernel)]; exact ⟨rfl, rfl⟩))
    (fun os started H enc _ => lifted os started H enc)

/-- The statement: the row, and what it lists tied to the program's text. -/
theorem proved : Rows.FrameJumpsCardSaid :=
  Claim7.holds_tied_plain_at .later [] [.data] true (true, "b153ba6c92dccebf2ef61313fca4816a80f60c00a694c8625512765b05d36f05") true
    over (fun _ h => by cases h) (by kernel_rfl) (fun _ h => by cases h) frameJumps_row_tie rfl ⟨rfl, rfl⟩ (by kernel_rfl) rfl
    (fun f fn hf hfn => by
      obtain rfl : f = 7 := Option.some.inj ((show Tryd.prog.funcNamed "haymow/haymowlaw12.FrameJumps" = some 7 by kernel_rfl).symm.trans hf) |>.symm
      obtain rfl : fn = Tryd.f7 := (Option.some.inj (Tryd.func7.symm.trans hfn)).symm
      exact ⟨by kernel_rfl, fun j t ht => by
        rw [Tryd.params7] at ht
        match j, ht with
        | 0, ht =>
          obtain rfl : t = 97 := by simpa using ht.symm
          exact (show Tryd.prog.wantsStandIn 97 = false by kernel_rfl)
        | j + 1, ht => simp at ht⟩)
    (by kernel_rfl)
#print axioms proved
end Go.Proofs.YtadcenaafoemmaaDoor.frameJumps
