/-
  haymowlaw09.DequeRace returns true for every two bytes and every bool. No condition.
-/
import Derived.Test.YtfcboacmailfiaaDq18
import Derived.Test.YtfcboacmailfiaaRows
import Derived.ProofKit
import Derived.OpenShut
import Derived.ShutString
import Derived.ChangeOld
namespace Go.Proofs.Ytfcboacmailfiaa.dequeRace
open Go.ChangeShapes Go.WideShapes Go.ChangeAt Go.RowKit
open Go.ChangeMaps (open_string shut_string)

def W0 (r : Nat) : List (Bool × Int) := (turnR (List.replicate 20 (false, (0 : Int))) 0 ((r + 2 : Nat) : Int) true).2
theorem W0_ok (r : Nat) (h1 : 1 ≤ r) (h6 : r ≤ 6) : (turnR (List.replicate 20 (false, (0 : Int))) 0 ((r + 2 : Nat) : Int) true).1 = 0 ∧ ∀ i, i < r + 2 → (W0 r)[i]? = some (true, 0) := by
  have : r = 1 ∨ r = 2 ∨ r = 3 ∨ r = 4 ∨ r = 5 ∨ r = 6 := by omega
  rcases this with rfl | rfl | rfl | rfl | rfl | rfl <;> exact ⟨by decide, by decide⟩
def ups (j : Nat) : List Int := (List.range j).map fun (i : Nat) => (i : Int) + 1
theorem ups_succ (j : Nat) : ups (j + 1) = ups j ++ [(j : Int) + 1] := by simp [ups, List.range_succ]
theorem ups_len (j : Nat) : (ups j).length = j := by simp [ups]

set_option maxHeartbeats 16000000 in
set_option maxRecDepth 100000 in
theorem walk_f (a b : Nat) (second : Bool) (ha : a < 256) (hb : b < 256) (w : World) :
    Calls Try.prog 9 #[.int .u8 (a : Int), .int .u8 (b : Int), .bool second] w fun e w' => e = .returned (.bool true) ∧ Fr None' w w' := by
  obtain ⟨k, hk⟩ : ∃ k, k = a % 3 + 1 := ⟨_, rfl⟩
  obtain ⟨n, hn⟩ : ∃ n, n = b % 5 + 2 := ⟨_, rfl⟩
  have hk1 : 1 ≤ k := by omega
  have hk3 : k ≤ 3 := by omega
  have hn1 : 2 ≤ n := by omega
  have hn6 : n ≤ 6 := by omega
  have e1 : (a : Int) % 3 + 1 = (k : Int) := by omega
  have e2 : (b : Int) % 5 + 2 = (n : Int) := by omega
  obtain ⟨ty, hal, hbl, hrace⟩ := race_any k n hk1 hk3 (by omega) (by omega)
  have HAL := Lib.hid hal
  have HBL := Lib.hid hbl
  have HRC := Lib.hid hrace
  have HW0 := Lib.hid (W0_ok n (by omega) hn6)
  clear hk hn hal hbl hrace
  go_enter Try.func9, Try.ntmps9
  go_wp2_with fail
  refine (new_yes 20 (by decide) w).mono ?_
  rintro e w1 ⟨rfl, hM1, hF1⟩
  have hMI : MI w1 (w.heap.size + 1) w.heap.size (List.replicate 20 (false, 0)) 0 := ⟨0, hM1, by omega, by omega⟩
  obtain ⟨p, hp⟩ : ∃ p, p = w.heap.size + 1 := ⟨_, rfl⟩
  obtain ⟨s, hs⟩ : ∃ s, s = w.heap.size := ⟨_, rfl⟩
  rw [← hp, ← hs] at hMI
  rw [← hp]
  have hwp : w.heap.size ≤ p := by omega
  have hws : w.heap.size ≤ s := by omega
  have HNEW := Lib.hid (New_yes w1 p s _ 0 hMI (by rw [List.length_replicate]; decide) (k : Int) 0 n (by omega) (by omega) (by omega) (by decide) HW0.out.1)
  have HF1 := Lib.hid hF1
  clear hp hs hM1 hF1 hMI e1 e2
  go_wp2_with fail
  refine HNEW.out.mono ?_
  rintro e w2 ⟨rfl, hM2, hF2⟩
  have hM2' : MI w2 p s (W0 n) 0 := hM2
  have hfr := Fr.then HF1.out hF2 (fun i hi => by rcases hi with rfl | rfl <;> exact .inr (by omega))
  have hfD : Fr None' w2 (w2.alloc (.cells #[.int .i64 (k : Int), .int .i64 0, .int .i64 (n : Int)] 36)) := (Fr.refl _ _).alloc _
  have hDW : DW w (w2.alloc (.cells #[.int .i64 (k : Int), .int .i64 0, .int .i64 (n : Int)] 36)) w2.heap.size p s k n (W0 n) 0 :=
    ⟨Blk.new w2 36 #[.int .i64 (k : Int), .int .i64 0, .int .i64 (n : Int)], hM2'.fr hfD (fun h => h) (fun h => h), hfr.trans hfD, hwp, hws⟩
  have HDW := Lib.hid hDW
  have HA0 := Lib.hid (alone_new k n (W0 n) HW0.out.2)
  clear hM2 hM2' hF2 hfD HNEW HF1 hfr hDW
  go_wp2_with fail
  obtain ⟨D, hD⟩ : ∃ D, D = w2.heap.size := ⟨_, rfl⟩
  rw [← hD] at HDW ⊢
  clear hD
  go_loopw [13] (fun iv wx => ∃ (i m : Nat) (ws : List (Bool × Int)), i ≤ 2 ∧ m ≤ 9 * i ∧ iv = .int .i64 ((i : Int) + 1) ∧ Hid (AK k n i ws (ups i) i) ∧ Hid (DW w wx D p s k n ws m)) (fun iv _ => 3 - (intOf iv).toNat)
  case atStart => exact ⟨0, 0, _, by omega, by omega, rfl, HA0, HDW⟩
  case round =>
    clear HA0 HDW
    obtain ⟨i, m, ws, hi2, hm, rfl, HA, HD⟩ := hrel
    by_cases hi : i < 2
    · have g1 : (i : Int) + 1 ≤ 2 := by omega
      obtain ⟨ws', hA', hcall⟩ := run_push HAL.out HD.out (by omega) (ups i) HA.out (by omega) (by rw [ups_len]; omega) (by omega) ((i : Int) + 1)
      have HA' : Hid (AK k n (i + 1) ws' (ups (i + 1)) (i + 1)) := Lib.hid (by rw [ups_succ]; exact hA')
      have HCALL := Lib.hid hcall
      obtain ⟨d0, d1, d2⟩ := HD.out.cells
      clear hA' hcall HA
      go_wp2_with fail
      refine HCALL.out.mono ?_
      rintro e w4 ⟨o, rfl, hrun⟩
      have HRUN := Lib.hid hrun
      clear hrun HCALL HD d0 d1 d2
      go_wp2_with fail
      refine HRUN.out.mono ?_
      rintro e w5 ⟨rfl, hDW5⟩
      have HDw5 := Lib.hid hDW5
      clear hDW5 HRUN
      go_wp2_with fail
      exact ⟨⟨i + 1, m + 9, ws', by omega, by omega, by go_num, HA', HDw5⟩, by simp [intOf]; omega⟩
    · obtain rfl : i = 2 := by omega
      rw [show ((2 : Nat) : Int) + 1 = 3 from rfl]
      obtain ⟨y, r, hy, hAr⟩ : ∃ (y r : Int), ((y = 2 ∧ r = 1 ∧ k = 2) ∨ (y = 1 ∧ r = 2 ∧ ¬ k = 2)) ∧ AK k n 2 ws (if k = 2 then [r] ++ [y] else y :: [r]) 2 := by
        by_cases h : k = 2
        · exact ⟨2, 1, .inl ⟨rfl, rfl, h⟩, by rw [if_pos h]; exact HA.out⟩
        · exact ⟨1, 2, .inr ⟨rfl, rfl, h⟩, by rw [if_neg h]; exact HA.out⟩
      obtain ⟨N, st, vy, vn, ws', hR, hA'⟩ := HRC.out 2 ws y [r] 2 hAr (by decide)
      have HR := Lib.hid hR
      have HA' : Hid (AK k n 3 ws' [r] 2) := Lib.hid hA'
      have HY := Lib.hid hy
      have HST := Lib.hid (fun (W : World) => HAL.out.ksteal W 0 n)
      clear hR hA' hy hAr HA
      obtain ⟨d0, d1, d2⟩ := HD.out.cells
      go_wp2_with fail
      refine region_K 6 (fun w' : World => w'.cell? ⟨D, 0, none⟩ = some (.int .i64 (k : Int)) ∧ w'.cell? ⟨D, 1, none⟩ = some (.int .i64 0) ∧ w'.cell? ⟨D, 2, none⟩ = some (.int .i64 (n : Int))) (by kernel_rfl) ?_
      have HS : (fun w' : World => w'.cell? ⟨D, 0, none⟩ = some (.int .i64 (k : Int)) ∧ w'.cell? ⟨D, 1, none⟩ = some (.int .i64 0) ∧ w'.cell? ⟨D, 2, none⟩ = some (.int .i64 (n : Int))) (wr).drew := ⟨d0, d1, d2⟩
      refine AnyK.take (i := 0) rfl (by decide) (by kernel_rfl) (by kernel_rfl) (by kernel_rfl) (fun _ _ _ _ h => h) HS (fun K hK => ?_)
      go_simp
      refine hK.out _ ⟨_, by rfl, Or.inl ⟨by rfl, by intro w hSw; (try dsimp only at hSw); go_simp⟩, ?_⟩
      clear hK K
      refine AnyK.take (i := 2) rfl (by decide) (by kernel_rfl) (by kernel_rfl) (by kernel_rfl) (fun _ _ _ _ h => h) HS (fun K hK => ?_)
      go_simp
      refine hK.out _ ⟨_, by rfl, Or.inl ⟨by rfl, by intro w hSw; (try dsimp only at hSw); go_simp⟩, ?_⟩
      clear hK K
      refine AnyK.one (i := 1) rfl (by kernel_rfl) (fun K hK => ?_)
      go_simp
      refine (HST.out _).mono ?_
      rintro e w4 ⟨rfl, hO4, hF4⟩
      obtain ⟨o1, ho1⟩ : ∃ o, o = wr.drew.heap.size + 2 := ⟨_, rfl⟩
      rw [← ho1] at hO4 ⊢
      have hD4 := (HD.out.f0 (Fr.refl _ _).drew).f0 hF4
      have HS : (fun w' : World => w'.cell? ⟨D, 0, none⟩ = some (.int .i64 (k : Int)) ∧ w'.cell? ⟨D, 1, none⟩ = some (.int .i64 0) ∧ w'.cell? ⟨D, 2, none⟩ = some (.int .i64 (n : Int))) w4 := hD4.cells
      have hg1 : w.heap.size ≤ o1 := by have := HD.out.fr.size; have h2 : wr.drew.heap.size = wr.heap.size := rfl; omega
      have HO4 := Lib.hid hO4
      have HD4 := Lib.hid hD4
      clear hO4 hF4 hD4 ho1
      refine hK.out _ _ (fun _ => HS) ?_
      clear hK K
      refine AnyK.one (i := 3) rfl (by kernel_rfl) (fun K hK => ?_)
      go_simp
      refine (HST.out _).mono ?_
      rintro e w5 ⟨rfl, hO5, hF5⟩
      obtain ⟨o2, ho2⟩ : ∃ o, o = w4.heap.size + 2 := ⟨_, rfl⟩
      rw [← ho2] at hO5 ⊢
      have hD5 := HD4.out.f0 hF5
      have HS : (fun w' : World => w'.cell? ⟨D, 0, none⟩ = some (.int .i64 (k : Int)) ∧ w'.cell? ⟨D, 1, none⟩ = some (.int .i64 0) ∧ w'.cell? ⟨D, 2, none⟩ = some (.int .i64 (n : Int))) w5 := hD5.cells
      have hd : Duel w w5 D p s k n (memV N ws ws' 0) m o1 o2 (fstV N st vy 0 o1) (fstV N st vn 0 o2) := by
        obtain ⟨q1, q2⟩ := HR.out.N1
        have h0 := HR.out.h0
        have hlt := Blk.lt HO4.out
        have hsz := HD4.out.fr.size
        unfold memV fstV
        rw [if_pos (by omega), if_pos (by omega), if_pos (by omega), h0]
        exact ⟨hD5, Blk.fr HO4.out hF5 (fun h => h), hO5, by omega, hg1, by omega⟩
      have hd' : Duel w w5 D p s k n (memV N ws ws' 0) m o2 o1 (fstV N st vy 0 o2) (fstV N st vn 0 o1) := by
        obtain ⟨q1, q2⟩ := HR.out.N1
        have h0 := HR.out.h0
        have hlt := Blk.lt HO4.out
        have hsz := HD4.out.fr.size
        unfold memV fstV
        rw [if_pos (by omega), if_pos (by omega), if_pos (by omega), h0]
        exact ⟨hD5, hO5, Blk.fr HO4.out hF5 (fun h => h), by omega, by omega, hg1⟩
      have HDU := Lib.hid hd
      have HDU2 := Lib.hid hd'
      clear hO5 hF5 hD5 ho2 hd hd' HD4 HO4 HD
      refine hK.out _ _ (fun _ => HS) ?_
      clear hK K
      refine AnyK.take (i := 4) rfl (by decide) (by kernel_rfl) (by kernel_rfl) (by kernel_rfl) (fun _ _ _ _ h => h) HS (fun K hK => ?_)
      go_simp
      refine hK.out _ ⟨_, by rfl, Or.inl ⟨by rfl, by intro w hSw; (try dsimp only at hSw); go_simp⟩, ?_⟩
      clear hK K
      refine AnyK.take (i := 5) rfl (by decide) (by kernel_rfl) (by kernel_rfl) (by kernel_rfl) (fun _ _ _ _ h => h) HS (fun K hK => ?_)
      go_simp
      refine hK.out _ ⟨_, by rfl, Or.inl ⟨by rfl, by intro w hSw; (try dsimp only at hSw); go_simp⟩, ?_⟩
      clear hK K
      refine AnyK.done (by kernel_rfl) ?_ _
      clear HS d0 d1 d2
      cases second with
      | false =>
        go_wp2_with fail
        go_loopw [18] (fun jv wx => ∃ (j m' : Nat), j ≤ 9 ∧ m' ≤ 100 + 2 * j ∧ jv = .int .i64 (j : Int) ∧ Hid (Duel w wx D p s k n (memV N ws ws' j) m' o1 o2 (fstV N st vy j o1) (fstV N st vn j o2))) (fun jv _ => 9 - (intOf jv).toNat)
        case atStart => exact ⟨0, m, by omega, by omega, rfl, HDU⟩
        case round =>
          clear HDU HDU2
          obtain ⟨j, m', hj9, hm', rfl, HDU⟩ := hrel
          by_cases hj : j < 9
          · have g3 : (j : Int) < 9 := by omega
            have HM1 := Lib.hid (HDU.out.one HR.out (by omega))
            go_wp2_with fail
            refine HM1.out.mono ?_
            rintro e w6 ⟨⟨en, rfl⟩, hd6⟩
            have HM2 := Lib.hid (hd6.two HR.out (by omega))
            clear hd6 HM1 HDU
            go_wp2_with fail
            refine HM2.out.mono ?_
            rintro e w7 ⟨⟨en2, rfl⟩, hd7⟩
            have HD7 := Lib.hid hd7
            clear hd7 HM2
            go_wp2_with fail
            exact ⟨⟨j + 1, m' + 1 + 1, by omega, by omega, by go_num, HD7⟩, by simp [intOf]; omega⟩
          · obtain rfl : j = 9 := by omega
            rw [show ((9 : Nat) : Int) = 9 from rfl]
            have hdu := HDU.out
            obtain ⟨n1, n4⟩ := HR.out.N1
            unfold memV fstV at hdu
            rw [if_neg (by omega), if_neg (by omega), if_neg (by omega)] at hdu
            have HE1 := Lib.hid (fun (W : World) (h : Duel w W D p s k n ws' m' o1 o2 (vy o1) (vn o2)) => end_any W o1 _ h.a1)
            have HE2 := Lib.hid (fun (W : World) (h : Duel w W D p s k n ws' m' o1 o2 (vy o1) (vn o2)) => end_any W o2 _ h.a2)
            rw [HR.out.ey] at HE1
            rw [HR.out.en] at HE2
            have HD8 := Lib.hid hdu
            clear hdu n1 n4 HDU
            go_wp2_with fail
            refine (HE1.out _ HD8.out).mono ?_
            rintro e w8 ⟨rfl, q8, rfl⟩
            have HD9 := Lib.hid (HD8.out.f0 ((Fr.refl _ _).drewN q8))
            generalize wr.drewN q8 = w9 at *
            clear HD8 HE1
            go_wp2_with fail
            refine (HE2.out _ HD9.out).mono ?_
            rintro e w10 ⟨rfl, q10, rfl⟩
            have HD10 := Lib.hid ((HD9.out.f0 ((Fr.refl _ _).drewN q10)).dw)
            generalize w9.drewN q10 = w11 at *
            clear HD9 HE2
            obtain ⟨ws2, hA2, hcall⟩ := run_pop HAL.out HBL.out HD10.out (by omega) r [] (by have : AK k n 3 ws' [r] 2 := HA'.out; split <;> exact this) (by omega)
            have HCALL := Lib.hid hcall
            obtain ⟨d0, d1, d2⟩ := HD10.out.cells
            clear hA2 hcall
            go_wp2_with fail
            refine HCALL.out.mono ?_
            rintro e w12 ⟨o, rfl, hrun⟩
            have HRUN := Lib.hid hrun
            clear hrun HCALL HD10 d0 d1 d2
            go_wp2_with fail
            refine HRUN.out.mono ?_
            rintro e w13 ⟨rfl, hDW13⟩
            have HF13 := Lib.hid hDW13.fr
            clear hDW13 HRUN
            rcases HY.out with ⟨rfl, rfl, rfl⟩ | ⟨rfl, rfl, hk2⟩
            · have hkb : (((2 : Nat) : Int) == 2) = true := rfl
              clear HY
              go_wp2_with fail
              refine (awake_any _).mono ?_
              rintro e w14 ⟨rfl, hF14⟩
              have HF14 := Lib.hid (HF13.out.trans hF14)
              clear hF14
              go_wp2_with fail
              go_ret
              exact ⟨rfl, HF14.out⟩
            · have hkb : ((k : Int) == 2) = false := by simp; omega
              clear HY hk2
              go_wp2_with fail
              refine (awake_any _).mono ?_
              rintro e w14 ⟨rfl, hF14⟩
              have HF14 := Lib.hid (HF13.out.trans hF14)
              clear hF14
              go_wp2_with fail
              go_ret
              exact ⟨rfl, HF14.out⟩
      | true =>
        go_wp2_with fail
        go_loopw [18] (fun jv wx => ∃ (j m' : Nat), j ≤ 9 ∧ m' ≤ 100 + 2 * j ∧ jv = .int .i64 (j : Int) ∧ Hid (Duel w wx D p s k n (memV N ws ws' j) m' o2 o1 (fstV N st vy j o2) (fstV N st vn j o1))) (fun jv _ => 9 - (intOf jv).toNat)
        case atStart => exact ⟨0, m, by omega, by omega, rfl, HDU2⟩
        case round =>
          clear HDU HDU2
          obtain ⟨j, m', hj9, hm', rfl, HDU⟩ := hrel
          by_cases hj : j < 9
          · have g3 : (j : Int) < 9 := by omega
            have HM1 := Lib.hid (HDU.out.one HR.out (by omega))
            go_wp2_with fail
            refine HM1.out.mono ?_
            rintro e w6 ⟨⟨en, rfl⟩, hd6⟩
            have HM2 := Lib.hid (hd6.two HR.out (by omega))
            clear hd6 HM1 HDU
            go_wp2_with fail
            refine HM2.out.mono ?_
            rintro e w7 ⟨⟨en2, rfl⟩, hd7⟩
            have HD7 := Lib.hid hd7
            clear hd7 HM2
            go_wp2_with fail
            exact ⟨⟨j + 1, m' + 1 + 1, by omega, by omega, by go_num, HD7⟩, by simp [intOf]; omega⟩
          · obtain rfl : j = 9 := by omega
            rw [show ((9 : Nat) : Int) = 9 from rfl]
            have hdu := HDU.out
            obtain ⟨n1, n4⟩ := HR.out.N1
            unfold memV fstV at hdu
            rw [if_neg (by omega), if_neg (by omega), if_neg (by omega)] at hdu
            have HE1 := Lib.hid (fun (W : World) (h : Duel w W D p s k n ws' m' o2 o1 (vy o2) (vn o1)) => end_any W o2 _ h.a1)
            have HE2 := Lib.hid (fun (W : World) (h : Duel w W D p s k n ws' m' o2 o1 (vy o2) (vn o1)) => end_any W o1 _ h.a2)
            rw [HR.out.ey] at HE1
            rw [HR.out.en] at HE2
            have HD8 := Lib.hid hdu
            clear hdu n1 n4 HDU
            go_wp2_with fail
            refine (HE1.out _ HD8.out).mono ?_
            rintro e w8 ⟨rfl, q8, rfl⟩
            have HD9 := Lib.hid (HD8.out.f0 ((Fr.refl _ _).drewN q8))
            generalize wr.drewN q8 = w9 at *
            clear HD8 HE1
            go_wp2_with fail
            refine (HE2.out _ HD9.out).mono ?_
            rintro e w10 ⟨rfl, q10, rfl⟩
            have HD10 := Lib.hid ((HD9.out.f0 ((Fr.refl _ _).drewN q10)).dw)
            generalize w9.drewN q10 = w11 at *
            clear HD9 HE2
            obtain ⟨ws2, hA2, hcall⟩ := run_pop HAL.out HBL.out HD10.out (by omega) r [] (by have : AK k n 3 ws' [r] 2 := HA'.out; split <;> exact this) (by omega)
            have HCALL := Lib.hid hcall
            obtain ⟨d0, d1, d2⟩ := HD10.out.cells
            clear hA2 hcall
            go_wp2_with fail
            refine HCALL.out.mono ?_
            rintro e w12 ⟨o, rfl, hrun⟩
            have HRUN := Lib.hid hrun
            clear hrun HCALL HD10 d0 d1 d2
            go_wp2_with fail
            refine HRUN.out.mono ?_
            rintro e w13 ⟨rfl, hDW13⟩
            have HF13 := Lib.hid hDW13.fr
            clear hDW13 HRUN
            rcases HY.out with ⟨rfl, rfl, rfl⟩ | ⟨rfl, rfl, hk2⟩
            · have hkb : (((2 : Nat) : Int) == 2) = true := rfl
              clear HY
              go_wp2_with fail
              refine (awake_any _).mono ?_
              rintro e w14 ⟨rfl, hF14⟩
              have HF14 := Lib.hid (HF13.out.trans hF14)
              clear hF14
              go_wp2_with fail
              go_ret
              exact ⟨rfl, HF14.out⟩
            · have hkb : ((k : Int) == 2) = false := by simp; omega
              clear HY hk2
              go_wp2_with fail
              refine (awake_any _).mono ?_
              rintro e w14 ⟨rfl, hF14⟩
              have HF14 := Lib.hid (HF13.out.trans hF14)
              clear hF14
              go_wp2_with fail
              go_ret
              exact ⟨rfl, HF14.out⟩
theorem walk (x : Int) (hx : (Lit.int .u8 x).wf = true) (y : Int) (hy : (Lit.int .u8 y).wf = true) (z : Bool) (w : World) :
    Calls Try.prog 9 #[.int .u8 x, .int .u8 y, .bool z] w fun e w' => e = .returned (.bool true) ∧ Below w.heap.size w w' := by
  have b1 := bounds_u8 hx
  have b2 := bounds_u8 hy
  obtain ⟨a, rfl⟩ : ∃ a : Nat, x = a := ⟨x.toNat, by omega⟩
  obtain ⟨b, rfl⟩ : ∃ b : Nat, y = b := ⟨y.toNat, by omega⟩
  exact (walk_f a b z (by omega) (by omega) w).mono fun _ _ ⟨he, hF⟩ => ⟨he, hF.below (Nat.le_refl _) (fun _ h => h.elim)⟩

/-! ### The row's step -/
theorem own : ownKnob Try.prog.godebug = none := by kernel_rfl
theorem laidOut : laidOutB Try.prog = true := by kernel_rfl

set_option maxRecDepth 100000 in
theorem lifted (os : Os) (started : os.Started) (H : Type) (enc : TypeId × Value → H) :
    ReturnsInHanded {} Try.checked os 9 .any (Rows.dequeRaceSpec.pre6 enc Try.prog Try.f9 Rows.dequeRaceRow.domain false) (Rows.dequeRaceSpec.post enc Try.prog Try.f9 false true false false) := by
  refine returnsInHanded_of_change (C := Try.checked) own started (by kernel_rfl) Try.func9
    (ChangeSpec.witness6 (enc := enc) (C := Try.checked) false ⟨#[], #[.int .u8 0, .int .u8 0, .bool false], []⟩ 8 (by kernel_rfl) (by kernel_rfl) (by kernel_rfl) (by kernel_rfl)) ?_
  intro W base args ds gs before hval0 hW hcnd _
  have hval : ∀ (j : Nat) t v, Try.f9.params[j]? = some t → args[j]? = some v → Value.okWide Try.prog W .any base t v := hval0
  have hW' := hW
  obtain ⟨p, q, hA0, hV, rfl, hfz, hnd⟩ := hW
  have hA : DataW.TrodAll enc Try.prog W 0 (fun _ => true) true Try.f9.params.toList args.toList ds p := hA0
  rw [Try.params9] at hA hval
  obtain ⟨v0, vs0, d0, ds0, p0, q0, hargs, rfl, rfl, h0, r0⟩ := trodAll_cons hA
  obtain ⟨v1, vs1, d1, ds1, p1, q1, rfl, rfl, rfl, h1, r1⟩ := trodAll_cons r0
  obtain ⟨v2, vs2, d2, ds2, p2, q2, rfl, rfl, rfl, h2, r2⟩ := trodAll_cons r1
  obtain ⟨rfl, rfl, rfl⟩ := trodAll_nil r2
  obtain rfl : args = #[v0, v1, v2] := by cases args; simp_all
  obtain ⟨rfl, rfl⟩ := trodVars_none hV
  obtain ⟨a0, rfl, rfl, rfl, w0⟩ := open_int Try.underlying5 (hval 0 5 v0 rfl rfl) h0
  obtain ⟨a1, rfl, rfl, rfl, w1⟩ := open_int Try.underlying5 (hval 1 5 v1 rfl rfl) h1
  obtain ⟨a2, rfl, rfl, rfl⟩ := open_bool Try.underlying4 (hval 2 4 v2 rfl rfl) h2
  clear hA0 hval0
  refine (walk a0 w0 a1 w1 a2 W).mono fun e W' ⟨he, bel⟩ => ?_
  subst he
  exact ⟨_, rfl, _, _, _, [], _, [], hW', trodAll_mk1 (shut_bool Try.underlying4 _), (trodAll_cons_mk (shut_int Try.underlying5 w0) (trodAll_cons_mk (shut_int Try.underlying5 w1) (trodAll_cons_mk (shut_bool Try.underlying4 _) trodAll_mk0))), rfl, bel.frame _, fun h => by cases h⟩

theorem over : Rows.dequeRaceRow.holds Try.pinned (OpenSpec.ofChange Rows.dequeRaceSpec) :=
  OpenClaim.holds_of_wide 9 Try.f9 rfl rfl rfl rfl rfl rfl rfl ⟨rfl, rfl, rfl, rfl, rfl⟩ rfl rfl rfl rfl rfl (by kernel_rfl) Try.func9 (by kernel_rfl)
    (of_decide_eq_true (by kernel_rfl)) (by unfold Func.isWrapper; first | (rw [if_pos (by decide +kernel)]; kernel_rfl) | (rw [if_neg (by decide +kernel)]; exact ⟨rfl, rfl⟩))
    (fun os started H enc _ => lifted os started H enc)

/-- The statement. -/
theorem proved : Rows.DequeRaceSaid := over
#print axioms proved
end Go.Proofs.Ytfcboacmailfiaa.dequeRace
