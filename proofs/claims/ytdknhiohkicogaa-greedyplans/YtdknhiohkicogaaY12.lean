/-
  The document's Plan comes to the plan. No condition.
-/
import Derived.Test.YtdknhiohkicogaaY11
namespace Go.Proofs.Ytdknhiohkicogaa
open Go.RowKit

set_option maxHeartbeats 16000000 in
set_option maxRecDepth 100000 in
theorem rplan_any (w : World) (Q : Nat → Prop) (A : Option Addr) (c len k : Nat) (G : List (List Nat)) (W : List Nat) (hP : PlanOf k G W) (hA : Ahead G) (hlen : len = G.length) (hG : GrAt w Q A (gi G)) (hF : Few (gi G)) (hWl : W.length = len) (hk1 : 1 ≤ k) (hk2 : k ≤ 64) :
    Calls Try.prog 14 #[.slice A len c, .int .i64 (k : Int)] w fun e w' => ∃ g, e = .returned (.slice (some ⟨g, 0, none⟩) len len) ∧ w.heap.size ≤ g ∧ Nb w' g W ∧ Fr F0 w w' := by
  have hl1 : len ≤ 1000 := by have := hF.n; rw [gi_length] at this; omega
  have hmk := make_ints len (by omega) w
  have hT : tim W ≤ len := by rw [← hWl]; exact hP.tim_le hA hk1
  have HP := Lib.hid hP
  have HA := Lib.hid hA
  have HLE := Lib.hid hlen
  have HG := Lib.hid hG
  have HFW := Lib.hid hF
  have HWL := Lib.hid hWl
  have HK1 := Lib.hid hk1
  have HB0 : Hid (Ib (w.alloc (.cells (ic (ni (List.replicate len 0))).toArray 3)) w.heap.size (ni (List.replicate len 0))) := Blk.new _ _ _
  have HF0 : Hid (Fr F0 w (w.alloc (.cells (ic (ni (List.replicate len 0))).toArray 3))) := (Fr.refl _ _).alloc _
  clear hP hA hlen hG hF hWl hk1
  go_enter Try.func14, Try.ntmps14
  go_wp2_with fail
  clear hmk
  generalize (w.alloc (.cells (ic (ni (List.replicate len 0))).toArray 3)) = w1 at HB0 HF0 ⊢
  go_loopw [6] (fun i wx => ∃ j : Nat, j ≤ len ∧ i = .int .i64 (j : Int) ∧ Hid (Ib wx w.heap.size (List.replicate j (-1) ++ List.replicate (len - j) 0)) ∧ Hid (Fr F0 w wx)) (fun i _ => len - (intOf i).toNat)
  case atStart => exact ⟨0, by omega, rfl, by simpa [ni] using HB0, HF0⟩
  case round =>
    obtain ⟨j, hj, rfl, HB, HF⟩ := hrel
    by_cases hjl : j < len
    · have g1 : (j : Int) < (len : Int) := by omega
      have c1 := Ib.at_ HB.out (i := j) (a := 0) (by rw [List.getElem?_append_right (by simp), List.length_replicate, Nat.sub_self, List.getElem?_replicate, if_pos (by omega)])
      have f1 := Blk.frozen HB.out j
      have HB2 : Hid (Ib (wr.setCell ⟨w.heap.size, j, none⟩ (.int .i64 (-1))) w.heap.size (List.replicate (j + 1) (-1) ++ List.replicate (len - (j + 1)) 0)) := Lib.hid (by
        have := Ib.set HB.out j (-1)
        rw [List.set_append_right _ _ (by simp), List.length_replicate, Nat.sub_self, show len - j = (len - (j + 1)) + 1 by omega, List.replicate_succ, List.set_cons_zero] at this
        rw [List.replicate_succ', List.append_assoc]
        exact this)
      have HF2 : Hid (Fr F0 w (wr.setCell ⟨w.heap.size, j, none⟩ (.int .i64 (-1)))) := Lib.hid (HF.out.setCell (.inr (Nat.le_refl _)) _)
      go_wp2_with fail
      exact ⟨⟨j + 1, by omega, by go_num, HB2, HF2⟩, by simp [intOf]; omega⟩
    · have HST : Hid (Ib wr w.heap.size (curL W 0 0)) := Lib.hid (by
        have := HB.out
        rw [show j = len by omega, Nat.sub_self] at this
        rw [curL_start, HWL.out]
        simpa using this)
      clear HB HB0
      go_wp2_with fail
      go_loopw [7, 8] (fun d t wx => ∃ (now dn : Nat), now ≤ tim W ∧ t = .int .i64 (now : Int) ∧ d = .int .i64 (dn : Int) ∧ Hid (dn = W.countP (fun m => decide (m < now))) ∧ dn ≤ len ∧ Hid (Ib wx w.heap.size (curL W now 0)) ∧ Hid (Fr F0 w wx)) (fun _ t _ => tim W - (intOf t).toNat)
      case atStart => exact ⟨0, 0, by omega, rfl, rfl, Lib.hid (by simp), by omega, HST, HF⟩
      case round =>
        obtain ⟨now, dn, hnow, rfl, rfl, HD, hdn, HI, HF1⟩ := hrel
        by_cases hdl : dn < len
        · have g1 : (dn : Int) < (len : Int) := by omega
          have hnt : now < tim W := by
            rcases Nat.lt_or_ge now (tim W) with h | h
            · exact h
            · exfalso
              have h1 : W.countP (fun m => decide (m < now)) = W.length := by
                rw [List.countP_eq_length]
                intro a ha
                obtain ⟨i, hi⟩ := List.getElem?_of_mem ha
                have := tim_lt hi
                exact decide_eq_true (by omega)
              have := HD.out
              have := HWL.out
              omega
          go_wp2_with fail
          go_loopw [7, 9, 10] (fun d bz i wx => ∃ (n bN dn2 : Nat), n ≤ len ∧ i = .int .i64 (n : Int) ∧ bz = .int .i64 (bN : Int) ∧ d = .int .i64 (dn2 : Int) ∧ Hid (bN = (W.take n).count now) ∧ bN ≤ k ∧ Hid (dn2 = dn + bN) ∧ dn2 ≤ 2000 ∧ Hid (Ib wx w.heap.size (curL W now n)) ∧ Hid (Fr F0 w wx)) (fun _ _ i _ => len - (intOf i).toNat)
          case atStart => exact ⟨0, 0, dn, by omega, rfl, rfl, rfl, Lib.hid (by simp), by omega, Lib.hid rfl, by omega, HI, HF1⟩
          case round =>
            obtain ⟨n, bN, dn2, hn, rfl, rfl, rfl, HBN, hbk, HD2, hd2, HI2, HF2⟩ := hrel
            have HOUT : Hid ((∀ i, i < W.length → W.getD i 0 = now → i < n) → curL W now n = curL W (now + 1) 0 ∧ dn2 = W.countP (fun m => decide (m < now + 1))) := Lib.hid (fun h => by
              refine ⟨curL_next h, ?_⟩
              have h1 : W.count now = (W.take n).count now := by
                have h2 : W.count now = (W.take n).count now + (W.drop n).count now := by rw [← List.count_append, List.take_append_drop]
                have h3 : (W.drop n).count now = 0 := count_zero fun j x hj => by
                  rw [List.getElem?_drop] at hj
                  rintro rfl
                  have h4 := h (n + j) (lt_of hj) (getD_of hj)
                  omega
                omega
              rw [below_succ, HD2.out, HD.out, HBN.out, h1])
            by_cases hnl : n < len
            · have g2 : (n : Int) < (len : Int) := by omega
              by_cases hbl : bN < k
              · have g3 : (bN : Int) < (k : Int) := by omega
                obtain ⟨m, hm⟩ := of_lt (show n < W.length by have := HWL.out; omega)
                obtain ⟨row, hrow⟩ := of_lt (show n < G.length by have := HLE.out; omega)
                have hrl : row.length ≤ 1000 := by have := HFW.out.r _ (List.mem_of_getElem? (gi_at hrow)); rwa [ni_length] at this
                have HRE := Lib.hid (ready_any wr Q A c len w.heap.size k now n len G W row m HP.out HA.out hrow hm (by rw [← HBN.out]; exact hbl) HLE.out (HG.out.f0 HF2.out) HWL.out hrl HI2.out)
                obtain ⟨rb, hrb⟩ : ∃ rb, rb = decide (m = now) := ⟨_, rfl⟩
                rw [← hrb] at HRE
                have HRB := Lib.hid hrb
                have HMM := Lib.hid hm
                clear hrb hm hrow hrl hbl HOUT
                cases rb with
                | false =>
                  have hne : m ≠ now := of_decide_eq_false HRB.out.symm
                  have HNE := Lib.hid hne
                  clear hne
                  go_wp2_with fail
                  refine HRE.out.mono ?_
                  rintro e w5 ⟨rfl, hF5⟩
                  have HF5 := Lib.hid (HF2.out.trans hF5)
                  have HI5 : Hid (Ib w5 w.heap.size (curL W now (n + 1))) := Lib.hid (by rw [← curL_same (by rw [getD_of HMM.out]; exact HNE.out)]; exact Blk.fr HI2.out hF5 (fun h => h))
                  have HBN2 : Hid (bN = (W.take (n + 1)).count now) := Lib.hid (by
                    rw [take_snoc HMM.out, List.count_append, HBN.out]
                    have : List.count now [m] = 0 := by simp [HNE.out]
                    omega)
                  clear hF5
                  go_wp2_with fail
                  exact ⟨⟨n + 1, bN, dn2, by omega, by go_num, rfl, rfl, HBN2, hbk, HD2, hd2, HI5, HF5⟩, by simp [intOf]; omega⟩
                | true =>
                  have HEQ : Hid (m = now) := Lib.hid (of_decide_eq_true HRB.out.symm)
                  have hcn := Ib.at_ HI2.out (curL_at (now := now) (n := n) (lt_of HMM.out))
                  go_wp2_with fail
                  refine HRE.out.mono ?_
                  rintro e w5 ⟨rfl, hF5⟩
                  have HF5 := Lib.hid (HF2.out.trans hF5)
                  have HI5 : Hid (Ib w5 w.heap.size (curL W now n)) := Lib.hid (Blk.fr HI2.out hF5 (fun h => h))
                  have hc5 := hF5.held hcn (fun h => h)
                  have f5 := Blk.frozen HI5.out n
                  have HI6 : Hid (Ib (w5.setCell ⟨w.heap.size, n, none⟩ (.int .i64 (now : Int))) w.heap.size (curL W now (n + 1))) := Lib.hid (by
                    have := Ib.set HI5.out n (now : Int)
                    rwa [curL_set (lt_of HMM.out) (by rw [getD_of HMM.out]; exact HEQ.out)] at this)
                  have HF6 : Hid (Fr F0 w (w5.setCell ⟨w.heap.size, n, none⟩ (.int .i64 (now : Int)))) := Lib.hid (HF5.out.setCell (.inr (Nat.le_refl _)) _)
                  have HBN2 : Hid (bN + 1 = (W.take (n + 1)).count now) := Lib.hid (by
                    rw [take_snoc HMM.out, List.count_append, HBN.out]
                    have : List.count now [m] = 1 := by simp [HEQ.out]
                    omega)
                  have HD3 : Hid (dn2 + 1 = dn + (bN + 1)) := Lib.hid (by have := HD2.out; omega)
                  have hbk2 : bN + 1 ≤ k := by omega
                  have hd3 : dn2 + 1 ≤ 2000 := by have := HD2.out; omega
                  clear hF5 hcn
                  go_wp2_with fail
                  exact ⟨⟨n + 1, bN + 1, dn2 + 1, by omega, by go_num, by go_num, by go_num, HBN2, hbk2, HD3, hd3, HI6, HF6⟩, by simp [intOf]; omega⟩
              · have g3 : ¬ (bN : Int) < (k : Int) := by omega
                have HFULL : Hid (∀ i, i < W.length → W.getD i 0 = now → i < n) := Lib.hid (fun i hi he => by
                  rcases Nat.lt_or_ge i n with h | h
                  · exact h
                  · exfalso
                    obtain ⟨x, hx⟩ := of_lt hi
                    rw [getD_of hx] at he
                    subst he
                    have h1 := count_more hx h
                    have h2 := HP.out.many x
                    have h3 := HBN.out
                    omega)
                have HE := Lib.hid (HOUT.out HFULL.out)
                have HI3 : Hid (Ib wr w.heap.size (curL W (now + 1) 0)) := Lib.hid (by rw [← HE.out.1]; exact HI2.out)
                have hd4 : dn2 ≤ len := by rw [HE.out.2, ← HWL.out]; exact List.countP_le_length
                go_wp2_with fail
                exact ⟨⟨now + 1, dn2, by omega, by go_num, rfl, Lib.hid HE.out.2, hd4, HI3, HF2⟩, by simp [intOf]; omega⟩
            · have HFULL : Hid (∀ i, i < W.length → W.getD i 0 = now → i < n) := Lib.hid (fun i hi _ => by have := HWL.out; omega)
              have HE := Lib.hid (HOUT.out HFULL.out)
              have HI3 : Hid (Ib wr w.heap.size (curL W (now + 1) 0)) := Lib.hid (by rw [← HE.out.1]; exact HI2.out)
              have hd4 : dn2 ≤ len := by rw [HE.out.2, ← HWL.out]; exact List.countP_le_length
              go_wp2_with fail
              exact ⟨⟨now + 1, dn2, by omega, by go_num, rfl, Lib.hid HE.out.2, hd4, HI3, HF2⟩, by simp [intOf]; omega⟩
        · have HE : Hid (Nb wr w.heap.size W) := Lib.hid (by
            have h1 := HI.out
            rw [curL_done (by rw [← HD.out, HWL.out]; omega)] at h1
            exact h1)
          go_wp2_with fail
          go_ret
          exact ⟨_, rfl, Nat.le_refl _, HE.out, HF1.out⟩
end Go.Proofs.Ytdknhiohkicogaa
