/-
  haymowlaw09.DequeSteals returns true for every three bytes. No condition.
-/
import Derived.Test.YtfcboacmailfiaaDq15
import Derived.Test.YtfcboacmailfiaaRows
import Derived.ProofKit
import Derived.OpenShut
import Derived.ShutString
import Derived.ChangeOld
namespace Go.Proofs.Ytfcboacmailfiaa.dequeSteals
open Go.ChangeShapes Go.WideShapes Go.ChangeAt Go.RowKit
open Go.ChangeMaps (open_string shut_string)

abbrev F0 : Nat → Prop := fun _ => False
def W0 (r : Nat) : List (Bool × Int) := (turnR (List.replicate 20 (false, (0 : Int))) 0 ((r + 2 : Nat) : Int) true).2
theorem W0_ok (r : Nat) (h1 : 1 ≤ r) (h6 : r ≤ 6) : (turnR (List.replicate 20 (false, (0 : Int))) 0 ((r + 2 : Nat) : Int) true).1 = 0 ∧ ∀ i, i < r + 2 → (W0 r)[i]? = some (true, 0) := by
  have : r = 1 ∨ r = 2 ∨ r = 3 ∨ r = 4 ∨ r = 5 ∨ r = 6 := by omega
  rcases this with rfl | rfl | rfl | rfl | rfl | rfl <;> exact ⟨by decide, by decide⟩
/-- So many were pushed. -/
def up (j : Nat) : List Int := (List.range j).map fun (i : Nat) => ((i : Int) + 1)
theorem up_succ (j : Nat) : up (j + 1) = up j ++ [(j : Int) + 1] := by simp [up, List.range_succ]
theorem up_len (j : Nat) : (up j).length = j := by simp [up]
/-- What is left behind j that were stolen. -/
def lst (k top j : Nat) : List Int := if k = 2 then up (top - j) else (List.range (top - j)).map fun (i : Nat) => ((j : Int) + (i : Int) + 1)
theorem lst_start (k top : Nat) : lst k top 0 = up top := by
  unfold lst
  split
  · rfl
  · simp [up]
theorem lst_step (k top j : Nat) (h : j < top) : lst k top j = if k = 2 then lst k top (j + 1) ++ [((top - j : Nat) : Int)] else ((j : Int) + 1) :: lst k top (j + 1) := by
  unfold lst
  by_cases hk : k = 2
  · rw [if_pos hk, if_pos hk, if_pos hk]
    obtain ⟨m, hm⟩ : ∃ m, top - j = m + 1 := ⟨top - j - 1, by omega⟩
    rw [hm, show top - (j + 1) = m by omega, up_succ]
    rfl
  · rw [if_neg hk, if_neg hk, if_neg hk]
    obtain ⟨m, hm⟩ : ∃ m, top - j = m + 1 := ⟨top - j - 1, by omega⟩
    rw [hm, show top - (j + 1) = m by omega, List.range_succ_eq_map, List.map_cons, List.map_map]
    congr 1
    apply List.map_congr_left
    intro i _
    show (j : Int) + ((i + 1 : Nat) : Int) + 1 = ((j + 1 : Nat) : Int) + (i : Int) + 1
    omega
theorem lst_end (k top : Nat) : lst k top top = [] := by
  unfold lst
  simp [up]

set_option maxHeartbeats 16000000 in
set_option maxRecDepth 100000 in
theorem walk_f (a b c : Nat) (ha : a < 256) (hb : b < 256) (hc : c < 256) (w : World) :
    Calls Try.prog 8 #[.int .u8 (a : Int), .int .u8 (b : Int), .int .u8 (c : Int)] w fun e w' => e = .returned (.bool true) ∧ Fr F0 w w' := by
  obtain ⟨k, hk⟩ : ∃ k, k = a % 3 + 1 := ⟨_, rfl⟩
  obtain ⟨n, hn⟩ : ∃ n, n = b % 6 + 1 := ⟨_, rfl⟩
  obtain ⟨top, htop⟩ : ∃ top, top = c % (n + 1) := ⟨_, rfl⟩
  have hk1 : 1 ≤ k := by omega
  have hk3 : k ≤ 3 := by omega
  have hn1 : 1 ≤ n := by omega
  have hn6 : n ≤ 6 := by omega
  have htn : top ≤ n := by have := Nat.mod_lt c (show 0 < n + 1 by omega); omega
  have e1 : (a : Int) % 3 + 1 = (k : Int) := by omega
  have e2 : (b : Int) % 6 + 1 = (n : Int) := by omega
  have HE3 : Hid ((c : Int) % ((n : Int) + 1) = (top : Int)) := by
    show (c : Int) % ((n : Int) + 1) = (top : Int)
    rw [htop, show (n : Int) + 1 = ((n + 1 : Nat) : Int) by omega]
    exact (Int.natCast_emod c (n + 1)).symm
  obtain ⟨ty, hal⟩ := alone k n hk1 hk3 (by omega) (by omega)
  have HAL := Lib.hid hal
  have HW0 := Lib.hid (W0_ok n hn1 hn6)
  clear hk hn htop hal
  go_enter Try.func8, Try.ntmps8
  go_wp2_with fail
  refine (new_yes 20 (by decide) w).mono ?_
  rintro e w1 ⟨rfl, hM1, hF1⟩
  have hMI : MI w1 (w.heap.size + 1) w.heap.size (List.replicate 20 (false, 0)) 0 := ⟨0, hM1, by omega, by omega⟩
  obtain ⟨p, hp⟩ : ∃ p, p = w.heap.size + 1 := ⟨_, rfl⟩
  obtain ⟨s, hs⟩ : ∃ s, s = w.heap.size := ⟨_, rfl⟩
  rw [← hp, ← hs] at hMI
  rw [← hp]
  have hwp : w.heap.size ≤ p := by omega
  have hws : w.heap.size ≤ s := by omega
  have HNEW := Lib.hid (New_yes w1 p s _ 0 hMI (by rw [List.length_replicate]; decide) (k : Int) 0 n (by omega) (by omega) (by omega) (by decide) HW0.out.1)
  have HF1 := Lib.hid hF1
  clear hp hs hM1 hF1 hMI e1 e2
  go_wp2_with fail
  refine HNEW.out.mono ?_
  rintro e w2 ⟨rfl, hM2, hF2⟩
  have HM2 : Hid (MI w2 p s (W0 n) 0) := hM2
  have HF2 := Lib.hid (Fr.then HF1.out hF2 (fun i hi => by rcases hi with rfl | rfl <;> exact .inr (by omega)))
  have hfD : Fr F0 w2 (w2.alloc (.cells #[.int .i64 (k : Int), .int .i64 0, .int .i64 (n : Int)] 36)) := (Fr.refl _ _).alloc _
  have HM3 := Lib.hid (HM2.out.fr hfD (fun h => h) (fun h => h))
  have HD3 := Lib.hid (Blk.new w2 36 #[.int .i64 (k : Int), .int .i64 0, .int .i64 (n : Int)])
  have HF3 := Lib.hid (HF2.out.trans hfD)
  clear hM2 hF2 hfD HNEW HF1 HM2 HF2
  go_wp2_with fail
  rw [HE3.out]
  obtain ⟨D, hD⟩ : ∃ D, D = w2.heap.size := ⟨_, rfl⟩
  rw [← hD] at HD3 ⊢
  clear hD
  go_loopw [14] (fun iv wx => ∃ (j : Nat) (ws : List (Bool × Int)) (m : Nat), j ≤ top ∧ iv = .int .i64 ((j : Int) + 1) ∧ Hid (AK k n j ws (up j) j) ∧ Hid (Blk wx D 36 #[.int .i64 (k : Int), .int .i64 0, .int .i64 (n : Int)]) ∧ Hid (MI wx p s ws m) ∧ Hid (Fr F0 w wx) ∧ m ≤ 9 * j) (fun iv _ => top + 1 - (intOf iv).toNat)
  case atStart => exact ⟨0, _, 0, by omega, rfl, Lib.hid (alone_new k n _ HW0.out.2), HD3, HM3, HF3, by omega⟩
  case round =>
    obtain ⟨j, ws, m, hjt, rfl, HA, HD, HM, HF, hmj⟩ := hrel
    have d0 : wr.cell? ⟨D, 0, none⟩ = some (.int .i64 (k : Int)) := by rw [HD.out.cell]; rfl
    have d1 : wr.cell? ⟨D, 1, none⟩ = some (.int .i64 0) := by rw [HD.out.cell]; rfl
    have d2 : wr.cell? ⟨D, 2, none⟩ = some (.int .i64 (n : Int)) := by rw [HD.out.cell]; rfl
    by_cases hj : j < top
    · have g1 : (j : Int) + 1 ≤ (top : Int) := by omega
      obtain ⟨nn, v', ws', hn9, hch, he, hA'⟩ := HAL.out.push j ws (up j) j ((j : Int) + 1) HA.out (by omega) (by rw [up_len]; omega) (by omega)
      rw [← up_succ] at hA'
      have HPS : Hid (Calls Try.prog 19 #[.agg #[.int .i64 (k : Int), .int .i64 0, .int .i64 (n : Int)], .int .i64 ((j : Int) + 1)] wr fun e w' => e = .returned (.pointer (some ⟨wr.heap.size + 2, 0, none⟩)) ∧ OpAt w' (wr.heap.size + 2) (op0 k (0 : Nat) n "haymow/deque.push" ty false ((j : Int) + 1) (wr.heap.size + 2)) ∧ Fr (fun _ => False) wr w') := Lib.hid (HAL.out.kpush wr 0 n ((j : Int) + 1))
      have HCH := Lib.hid hch
      have HEN := Lib.hid he
      have HA1 := Lib.hid hA'
      clear hch he hA'
      go_wp2_with fail
      refine HPS.out.mono ?_
      rintro e w4 ⟨rfl, hO4, hF4⟩
      obtain ⟨o, ho⟩ : ∃ o, o = wr.heap.size + 2 := ⟨_, rfl⟩
      rw [← ho] at hO4 ⊢
      have how : w.heap.size ≤ o := by have := HF.out.size; omega
      have hrun := run_any nn _ ws v' ws' HCH.out (by omega) w4 o p s m hO4 (HM.out.fr hF4 (fun h => h) (fun h => h)) (by omega)
      rw [HEN.out o] at hrun
      have HRUN := Lib.hid hrun
      have HD4 := Lib.hid (HD.out.fr hF4 (fun h => h))
      have HF4 := Lib.hid (HF.out.trans hF4)
      have HDX : Hid (¬ Thr o p s D) := by
        have q1 : D ≠ o := Blk.ne_ HD4.out hO4 (by decide)
        obtain ⟨st, hms, _, _⟩ := HM.out.fr hF4 (fun h => h) (fun h => h)
        have q2 : D ≠ p := Blk.ne_ HD4.out hms.hp (by decide)
        have q3 : D ≠ s := Blk.ne_ HD4.out hms.hs (by decide)
        exact fun h => h.elim q1 (fun h => h.elim q2 q3)
      clear hrun hO4 hF4 ho d0 d1 d2 HPS
      go_wp2_with fail
      refine HRUN.out.mono ?_
      rintro e w5 ⟨rfl, -, hM5, hF5⟩
      have HM5 := Lib.hid hM5
      have HD5 := Lib.hid (HD4.out.fr hF5 HDX.out)
      have HF5 := Lib.hid (Fr.then HF4.out hF5 (fun k' hk' => .inr (by rcases hk' with rfl | rfl | rfl <;> assumption)))
      clear hM5 hF5 HRUN HD4 HF4 HDX HD HF HM
      go_wp2_with fail
      exact ⟨⟨j + 1, ws', m + nn, by omega, by go_num, HA1, HD5, HM5, HF5, by omega⟩, by simp [intOf]; omega⟩
    · obtain rfl : j = top := by omega
      have g1 : ¬ (j : Int) + 1 ≤ (j : Int) := by omega
      have HA0 : Hid (AK k n (j + 0) ws (lst k j 0) j) := by rw [lst_start]; exact HA.out
      have HD0 := HD
      have HM0 := HM
      have HF0 := HF
      clear d0 d1 d2 HA HD HM HF
      go_wp2_with fail
      go_loopw [17] (fun iv wx => ∃ (i : Nat) (ws : List (Bool × Int)) (m : Nat), i ≤ j ∧ iv = .int .i64 ((i : Int) + 1) ∧ Hid (AK k n (j + i) ws (lst k j i) j) ∧ Hid (Blk wx D 36 #[.int .i64 (k : Int), .int .i64 0, .int .i64 (n : Int)]) ∧ Hid (MI wx p s ws m) ∧ Hid (Fr F0 w wx) ∧ m ≤ 9 * (j + i)) (fun iv _ => j + 1 - (intOf iv).toNat)
      case atStart => exact ⟨0, ws, m, by omega, rfl, HA0, HD0, HM0, HF0, by omega⟩
      case round =>
        clear HA0 HD0 HM0 HF0
        obtain ⟨i, ws, m, hij, rfl, HA, HD, HM, HF, hmj⟩ := hrel
        have d0 : wr.cell? ⟨D, 0, none⟩ = some (.int .i64 (k : Int)) := by rw [HD.out.cell]; rfl
        have d1 : wr.cell? ⟨D, 1, none⟩ = some (.int .i64 0) := by rw [HD.out.cell]; rfl
        have d2 : wr.cell? ⟨D, 2, none⟩ = some (.int .i64 (n : Int)) := by rw [HD.out.cell]; rfl
        by_cases hi : i < j
        · have g2 : (i : Int) + 1 ≤ (j : Int) := by omega
          have hA0 := HA.out
          rw [lst_step k j i hi] at hA0
          by_cases hk2 : k = 2
          · have hk2b : ((k : Int) == 2) = true := by simp; omega
            rw [if_pos hk2] at hA0
            obtain ⟨nn, v', ws', hn9, hch, he, hA'⟩ := HAL.out.steal (j + i) ws ((j - i : Nat) : Int) (lst k j (i + 1)) j (by rw [if_pos hk2]; exact hA0) (by omega)
            obtain ⟨yy, hyy⟩ : ∃ yy : Int, yy = ((j - i : Nat) : Int) := ⟨_, rfl⟩
            rw [← hyy] at he
            have hyw : (j : Int) + 1 - ((i : Int) + 1) = yy := by omega
            have hyy2 : (yy != yy) = false := by simp
            have HPS : Hid (Calls Try.prog 21 #[.agg #[.int .i64 (k : Int), .int .i64 0, .int .i64 (n : Int)]] wr fun e w' => e = .returned (.pointer (some ⟨wr.heap.size + 2, 0, none⟩)) ∧ OpAt w' (wr.heap.size + 2) (op0 k (0 : Nat) n "haymow/deque.steal" ty true 0 (wr.heap.size + 2)) ∧ Fr (fun _ => False) wr w') := Lib.hid (HAL.out.ksteal wr 0 n)
            clear hyy hA0 hk2
            have HCH := Lib.hid hch
            have HEN := Lib.hid he
            have HA1 := Lib.hid hA'
            clear hch he hA'
            go_wp2_with fail
            refine HPS.out.mono ?_
            rintro e w4 ⟨rfl, hO4, hF4⟩
            obtain ⟨o, ho⟩ : ∃ o, o = wr.heap.size + 2 := ⟨_, rfl⟩
            rw [← ho] at hO4 ⊢
            have how : w.heap.size ≤ o := by have := HF.out.size; omega
            have hrun := run_any nn _ ws v' ws' HCH.out (by omega) w4 o p s m hO4 (HM.out.fr hF4 (fun h => h) (fun h => h)) (by omega)
            rw [HEN.out o] at hrun
            have HRUN := Lib.hid hrun
            have HD4 := Lib.hid (HD.out.fr hF4 (fun h => h))
            have HF4 := Lib.hid (HF.out.trans hF4)
            have HDX : Hid (¬ Thr o p s D) := by
              have q1 : D ≠ o := Blk.ne_ HD4.out hO4 (by decide)
              obtain ⟨st, hms, _, _⟩ := HM.out.fr hF4 (fun h => h) (fun h => h)
              have q2 : D ≠ p := Blk.ne_ HD4.out hms.hp (by decide)
              have q3 : D ≠ s := Blk.ne_ HD4.out hms.hs (by decide)
              exact fun h => h.elim q1 (fun h => h.elim q2 q3)
            clear hrun hO4 hF4 ho d0 d1 d2 HPS
            go_wp2_with fail
            refine HRUN.out.mono ?_
            rintro e w5 ⟨rfl, -, hM5, hF5⟩
            have HM5 := Lib.hid hM5
            have HD5 := Lib.hid (HD4.out.fr hF5 HDX.out)
            have HF5 := Lib.hid (Fr.then HF4.out hF5 (fun k' hk' => .inr (by rcases hk' with rfl | rfl | rfl <;> assumption)))
            clear hM5 hF5 HRUN HD4 HF4 HDX HD HF HM
            go_wp2_with fail
            exact ⟨⟨i + 1, ws', m + nn, by omega, by go_num, HA1, HD5, HM5, HF5, by omega⟩, by simp [intOf]; omega⟩
          · have hk2b : ((k : Int) == 2) = false := by simp; omega
            rw [if_neg hk2] at hA0
            obtain ⟨nn, v', ws', hn9, hch, he, hA'⟩ := HAL.out.steal (j + i) ws ((i : Int) + 1) (lst k j (i + 1)) j (by rw [if_neg hk2]; exact hA0) (by omega)
            have hyy2 : (((i : Int) + 1) != ((i : Int) + 1)) = false := by simp
            have HPS : Hid (Calls Try.prog 21 #[.agg #[.int .i64 (k : Int), .int .i64 0, .int .i64 (n : Int)]] wr fun e w' => e = .returned (.pointer (some ⟨wr.heap.size + 2, 0, none⟩)) ∧ OpAt w' (wr.heap.size + 2) (op0 k (0 : Nat) n "haymow/deque.steal" ty true 0 (wr.heap.size + 2)) ∧ Fr (fun _ => False) wr w') := Lib.hid (HAL.out.ksteal wr 0 n)
            clear hk2 hA0
            have HCH := Lib.hid hch
            have HEN := Lib.hid he
            have HA1 := Lib.hid hA'
            clear hch he hA'
            go_wp2_with fail
            refine HPS.out.mono ?_
            rintro e w4 ⟨rfl, hO4, hF4⟩
            obtain ⟨o, ho⟩ : ∃ o, o = wr.heap.size + 2 := ⟨_, rfl⟩
            rw [← ho] at hO4 ⊢
            have how : w.heap.size ≤ o := by have := HF.out.size; omega
            have hrun := run_any nn _ ws v' ws' HCH.out (by omega) w4 o p s m hO4 (HM.out.fr hF4 (fun h => h) (fun h => h)) (by omega)
            rw [HEN.out o] at hrun
            have HRUN := Lib.hid hrun
            have HD4 := Lib.hid (HD.out.fr hF4 (fun h => h))
            have HF4 := Lib.hid (HF.out.trans hF4)
            have HDX : Hid (¬ Thr o p s D) := by
              have q1 : D ≠ o := Blk.ne_ HD4.out hO4 (by decide)
              obtain ⟨st, hms, _, _⟩ := HM.out.fr hF4 (fun h => h) (fun h => h)
              have q2 : D ≠ p := Blk.ne_ HD4.out hms.hp (by decide)
              have q3 : D ≠ s := Blk.ne_ HD4.out hms.hs (by decide)
              exact fun h => h.elim q1 (fun h => h.elim q2 q3)
            clear hrun hO4 hF4 ho d0 d1 d2 HPS
            go_wp2_with fail
            refine HRUN.out.mono ?_
            rintro e w5 ⟨rfl, -, hM5, hF5⟩
            have HM5 := Lib.hid hM5
            have HD5 := Lib.hid (HD4.out.fr hF5 HDX.out)
            have HF5 := Lib.hid (Fr.then HF4.out hF5 (fun k' hk' => .inr (by rcases hk' with rfl | rfl | rfl <;> assumption)))
            clear hM5 hF5 HRUN HD4 HF4 HDX HD HF HM
            go_wp2_with fail
            exact ⟨⟨i + 1, ws', m + nn, by omega, by go_num, HA1, HD5, HM5, HF5, by omega⟩, by simp [intOf]; omega⟩
        · obtain rfl : i = j := by omega
          have g2 : ¬ (i : Int) + 1 ≤ (i : Int) := by omega
          have hA0 := HA.out
          rw [lst_end] at hA0
          obtain ⟨nn, v', hn9, hch, he⟩ := HAL.out.stealE (i + i) ws i hA0 (by omega)
          obtain ⟨ws', hws'⟩ : ∃ ws', ws' = ws := ⟨_, rfl⟩
          have hch' : Chain nn (op0 k (0 : Nat) n "haymow/deque.steal" ty true 0) ws v' ws' := by rw [hws']; exact hch
          have hA' : AK k n (i + i) ws' [] i := by rw [hws']; exact hA0
          have HPS : Hid (Calls Try.prog 21 #[.agg #[.int .i64 (k : Int), .int .i64 0, .int .i64 (n : Int)]] wr fun e w' => e = .returned (.pointer (some ⟨wr.heap.size + 2, 0, none⟩)) ∧ OpAt w' (wr.heap.size + 2) (op0 k (0 : Nat) n "haymow/deque.steal" ty true 0 (wr.heap.size + 2)) ∧ Fr (fun _ => False) wr w') := Lib.hid (HAL.out.ksteal wr 0 n)
          clear hA0 hws'
          have HCH := Lib.hid hch'
          have HEN := Lib.hid he
          have HA1 := Lib.hid hA'
          clear hch he hA' hch'
          go_wp2_with fail
          refine HPS.out.mono ?_
          rintro e w4 ⟨rfl, hO4, hF4⟩
          obtain ⟨o, ho⟩ : ∃ o, o = wr.heap.size + 2 := ⟨_, rfl⟩
          rw [← ho] at hO4 ⊢
          have how : w.heap.size ≤ o := by have := HF.out.size; omega
          have hrun := run_any nn _ ws v' ws' HCH.out (by omega) w4 o p s m hO4 (HM.out.fr hF4 (fun h => h) (fun h => h)) (by omega)
          rw [HEN.out o] at hrun
          have HRUN := Lib.hid hrun
          have HD4 := Lib.hid (HD.out.fr hF4 (fun h => h))
          have HF4 := Lib.hid (HF.out.trans hF4)
          have HDX : Hid (¬ Thr o p s D) := by
            have q1 : D ≠ o := Blk.ne_ HD4.out hO4 (by decide)
            obtain ⟨st, hms, _, _⟩ := HM.out.fr hF4 (fun h => h) (fun h => h)
            have q2 : D ≠ p := Blk.ne_ HD4.out hms.hp (by decide)
            have q3 : D ≠ s := Blk.ne_ HD4.out hms.hs (by decide)
            exact fun h => h.elim q1 (fun h => h.elim q2 q3)
          clear hrun hO4 hF4 ho d0 d1 d2 HPS
          go_wp2_with fail
          refine HRUN.out.mono ?_
          rintro e w5 ⟨rfl, -, hM5, hF5⟩
          have HM5 := Lib.hid hM5
          have HD5 := Lib.hid (HD4.out.fr hF5 HDX.out)
          have HF5 := Lib.hid (Fr.then HF4.out hF5 (fun k' hk' => .inr (by rcases hk' with rfl | rfl | rfl <;> assumption)))
          clear hM5 hF5 HRUN HD4 HF4 HDX HD HF HM
          obtain ⟨n2, v2, ws2, hn92, hch2, he2, _⟩ := HAL.out.popE (i + i) ws' i HA1.out (by omega)
          have q0 : w5.cell? ⟨D, 0, none⟩ = some (.int .i64 (k : Int)) := by rw [HD5.out.cell]; rfl
          have q1 : w5.cell? ⟨D, 1, none⟩ = some (.int .i64 0) := by rw [HD5.out.cell]; rfl
          have q2 : w5.cell? ⟨D, 2, none⟩ = some (.int .i64 (n : Int)) := by rw [HD5.out.cell]; rfl
          have HPP : Hid (Calls Try.prog 20 #[.agg #[.int .i64 (k : Int), .int .i64 0, .int .i64 (n : Int)]] w5 fun e w' => e = .returned (.pointer (some ⟨w5.heap.size + 2, 0, none⟩)) ∧ OpAt w' (w5.heap.size + 2) (op0 k (0 : Nat) n "haymow/deque.pop" ty true 0 (w5.heap.size + 2)) ∧ Fr (fun _ => False) w5 w') := Lib.hid (HAL.out.kpop w5 0 n)
          have HCH2 := Lib.hid hch2
          have HEN2 := Lib.hid he2
          clear hch2 he2
          go_wp2_with fail
          refine HPP.out.mono ?_
          rintro e w6 ⟨rfl, hO6, hF6⟩
          obtain ⟨o2, ho2⟩ : ∃ o2, o2 = w5.heap.size + 2 := ⟨_, rfl⟩
          rw [← ho2] at hO6 ⊢
          have how2 : w.heap.size ≤ o2 := by have := HF5.out.size; omega
          have hrun2 := run_any n2 _ ws' v2 ws2 HCH2.out (by omega) w6 o2 p s (m + nn) hO6 (HM5.out.fr hF6 (fun h => h) (fun h => h)) (by omega)
          rw [HEN2.out o2] at hrun2
          have HRUN2 := Lib.hid hrun2
          have HF6 := Lib.hid (HF5.out.trans hF6)
          clear hrun2 hO6 hF6 ho2 q0 q1 q2 HPP
          go_wp2_with fail
          refine HRUN2.out.mono ?_
          rintro e w7 ⟨rfl, -, -, hF7⟩
          have HF7 := Lib.hid (Fr.then HF6.out hF7 (fun k' hk' => .inr (by rcases hk' with rfl | rfl | rfl <;> assumption)))
          clear hF7 HRUN2
          go_wp2_with fail
          refine (awake_any _).mono ?_
          rintro e w8 ⟨rfl, hF8⟩
          have HF8 := Lib.hid (HF7.out.trans hF8)
          clear hF8
          go_wp2_with fail
          go_ret
          exact ⟨rfl, HF8.out⟩
theorem walk (x : Int) (hx : (Lit.int .u8 x).wf = true) (y : Int) (hy : (Lit.int .u8 y).wf = true) (z : Int) (hz : (Lit.int .u8 z).wf = true) (w : World) :
    Calls Try.prog 8 #[.int .u8 x, .int .u8 y, .int .u8 z] w fun e w' => e = .returned (.bool true) ∧ Below w.heap.size w w' := by
  have b1 := bounds_u8 hx
  have b2 := bounds_u8 hy
  have b3 := bounds_u8 hz
  obtain ⟨a, rfl⟩ : ∃ a : Nat, x = a := ⟨x.toNat, by omega⟩
  obtain ⟨b, rfl⟩ : ∃ b : Nat, y = b := ⟨y.toNat, by omega⟩
  obtain ⟨c, rfl⟩ : ∃ c : Nat, z = c := ⟨z.toNat, by omega⟩
  exact (walk_f a b c (by omega) (by omega) (by omega) w).mono fun _ _ ⟨he, hF⟩ => ⟨he, hF.below (Nat.le_refl _) (fun _ h => h.elim)⟩

/-! ### The row's step -/
theorem own : ownKnob Try.prog.godebug = none := by kernel_rfl
theorem laidOut : laidOutB Try.prog = true := by kernel_rfl

set_option maxRecDepth 100000 in
theorem lifted (os : Os) (started : os.Started) (H : Type) (enc : TypeId × Value → H) :
    ReturnsInHanded {} Try.checked os 8 .any (Rows.dequeStealsSpec.pre6 enc Try.prog Try.f8 Rows.dequeStealsRow.domain false) (Rows.dequeStealsSpec.post enc Try.prog Try.f8 false true false false) := by
  refine returnsInHanded_of_change (C := Try.checked) own started (by kernel_rfl) Try.func8
    (ChangeSpec.witness6 (enc := enc) (C := Try.checked) false ⟨#[], #[.int .u8 0, .int .u8 0, .int .u8 0], []⟩ 8 (by kernel_rfl) (by kernel_rfl) (by kernel_rfl) (by kernel_rfl)) ?_
  intro W base args ds gs before hval0 hW hcnd _
  have hval : ∀ (j : Nat) t v, Try.f8.params[j]? = some t → args[j]? = some v → Value.okWide Try.prog W .any base t v := hval0
  have hW' := hW
  obtain ⟨p, q, hA0, hV, rfl, hfz, hnd⟩ := hW
  have hA : DataW.TrodAll enc Try.prog W 0 (fun _ => true) true Try.f8.params.toList args.toList ds p := hA0
  rw [Try.params8] at hA hval
  obtain ⟨v0, vs0, d0, ds0, p0, q0, hargs, rfl, rfl, h0, r0⟩ := trodAll_cons hA
  obtain ⟨v1, vs1, d1, ds1, p1, q1, rfl, rfl, rfl, h1, r1⟩ := trodAll_cons r0
  obtain ⟨v2, vs2, d2, ds2, p2, q2, rfl, rfl, rfl, h2, r2⟩ := trodAll_cons r1
  obtain ⟨rfl, rfl, rfl⟩ := trodAll_nil r2
  obtain rfl : args = #[v0, v1, v2] := by cases args; simp_all
  obtain ⟨rfl, rfl⟩ := trodVars_none hV
  obtain ⟨a0, rfl, rfl, rfl, w0⟩ := open_int Try.underlying5 (hval 0 5 v0 rfl rfl) h0
  obtain ⟨a1, rfl, rfl, rfl, w1⟩ := open_int Try.underlying5 (hval 1 5 v1 rfl rfl) h1
  obtain ⟨a2, rfl, rfl, rfl, w2⟩ := open_int Try.underlying5 (hval 2 5 v2 rfl rfl) h2
  clear hA0 hval0
  refine (walk a0 w0 a1 w1 a2 w2 W).mono fun e W' ⟨he, bel⟩ => ?_
  subst he
  exact ⟨_, rfl, _, _, _, [], _, [], hW', trodAll_mk1 (shut_bool Try.underlying4 _), (trodAll_cons_mk (shut_int Try.underlying5 w0) (trodAll_cons_mk (shut_int Try.underlying5 w1) (trodAll_cons_mk (shut_int Try.underlying5 w2) trodAll_mk0))), rfl, bel.frame _, fun h => by cases h⟩

theorem over : Rows.dequeStealsRow.holds Try.pinned (OpenSpec.ofChange Rows.dequeStealsSpec) :=
  OpenClaim.holds_of_wide 8 Try.f8 rfl rfl rfl rfl rfl rfl rfl ⟨rfl, rfl, rfl, rfl, rfl⟩ rfl rfl rfl rfl rfl (by kernel_rfl) Try.func8 (by kernel_rfl)
    (of_decide_eq_true (by kernel_rfl)) (by unfold Func.isWrapper; first | (rw [if_pos (by decide +kernel)]; kernel_rfl) | (rw [if_neg (by decide +kernel)]; exact ⟨rfl, rfl⟩))
    (fun os started H enc _ => lifted os started H enc)

/-- The statement. -/
theorem proved : Rows.DequeStealsSaid := over
#print axioms proved
end Go.Proofs.Ytfcboacmailfiaa.dequeSteals
