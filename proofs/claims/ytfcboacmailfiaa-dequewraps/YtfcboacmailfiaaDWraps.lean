/-
  haymowlaw09.DequeWraps returns true for every three bytes. No condition.
-/
import Derived.Test.YtfcboacmailfiaaDq17
import Derived.Test.YtfcboacmailfiaaRows
import Derived.ProofKit
import Derived.OpenShut
import Derived.ShutString
import Derived.ChangeOld
namespace Go.Proofs.Ytfcboacmailfiaa.dequeWraps
open Go.ChangeShapes Go.WideShapes Go.ChangeAt Go.RowKit
open Go.ChangeMaps (open_string shut_string)

def W0 (r : Nat) : List (Bool × Int) := (turnR (List.replicate 20 (false, (0 : Int))) 0 ((r + 2 : Nat) : Int) true).2
theorem W0_ok (r : Nat) (h1 : 1 ≤ r) (h6 : r ≤ 6) : (turnR (List.replicate 20 (false, (0 : Int))) 0 ((r + 2 : Nat) : Int) true).1 = 0 ∧ ∀ i, i < r + 2 → (W0 r)[i]? = some (true, 0) := by
  have : r = 1 ∨ r = 2 ∨ r = 3 ∨ r = 4 ∨ r = 5 ∨ r = 6 := by omega
  rcases this with rfl | rfl | rfl | rfl | rfl | rfl <;> exact ⟨by decide, by decide⟩
def sq (X j : Nat) : List Int := (List.range j).map fun (i : Nat) => ((X + i : Nat) : Int) + 1
theorem sq_succ (X j : Nat) : sq X (j + 1) = sq X j ++ [((X + j : Nat) : Int) + 1] := by simp [sq, List.range_succ]
theorem sq_len (X j : Nat) : (sq X j).length = j := by simp [sq]
/-- What is left behind j that were popped. -/
def rem (k X n j : Nat) : List Int := if k = 3 then (List.range (n - j)).map (fun (i : Nat) => ((X + j + i : Nat) : Int) + 1) else sq X (n - j)
theorem rem_start (k X n : Nat) : rem k X n 0 = sq X n := by
  unfold rem
  split
  · simp [sq]
  · rfl
theorem rem_step (k X n j : Nat) (h : j < n) : rem k X n j = if k = 3 then ((X : Int) + 1 + (j : Int)) :: rem k X n (j + 1) else rem k X n (j + 1) ++ [((X + n : Nat) : Int) - (j : Int)] := by
  unfold rem
  by_cases hk : k = 3
  · rw [if_pos hk, if_pos hk, if_pos hk]
    obtain ⟨m, hm⟩ : ∃ m, n - j = m + 1 := ⟨n - j - 1, by omega⟩
    rw [hm, show n - (j + 1) = m by omega, List.range_succ_eq_map, List.map_cons, List.map_map]
    congr 1
    · omega
    · apply List.map_congr_left
      intro i _
      show ((X + j + (i + 1) : Nat) : Int) + 1 = ((X + (j + 1) + i : Nat) : Int) + 1
      omega
  · rw [if_neg hk, if_neg hk, if_neg hk]
    obtain ⟨m, hm⟩ : ∃ m, n - j = m + 1 := ⟨n - j - 1, by omega⟩
    rw [hm, show n - (j + 1) = m by omega, sq_succ]
    congr 2
    omega
theorem rem_nil (k X n j : Nat) : rem k X n j = [] ↔ n ≤ j := by
  unfold rem
  split
  · simp
    omega
  · unfold sq
    simp
    omega

set_option maxHeartbeats 16000000 in
set_option maxRecDepth 100000 in
theorem walk_f (a b c : Nat) (ha : a < 256) (hb : b < 256) (hc : c < 256) (w : World) :
    Calls Try.prog 7 #[.int .u8 (a : Int), .int .u8 (b : Int), .int .u8 (c : Int)] w fun e w' => e = .returned (.bool true) ∧ Fr None' w w' := by
  obtain ⟨k, hk⟩ : ∃ k, k = a % 3 + 1 := ⟨_, rfl⟩
  obtain ⟨n, hn⟩ : ∃ n, n = b % 6 + 1 := ⟨_, rfl⟩
  obtain ⟨T, hT⟩ : ∃ T, T = c % 100 := ⟨_, rfl⟩
  have hk1 : 1 ≤ k := by omega
  have hk3 : k ≤ 3 := by omega
  have hn1 : 1 ≤ n := by omega
  have hn6 : n ≤ 6 := by omega
  have hT9 : T ≤ 99 := by omega
  have e1 : (a : Int) % 3 + 1 = (k : Int) := by omega
  have e2 : (b : Int) % 6 + 1 = (n : Int) := by omega
  have e3 : (c : Int) % 100 = (T : Int) := by omega
  obtain ⟨ty, hal, hbl⟩ := aloneB k n hk1 hk3 (by omega) (by omega)
  have HAL := Lib.hid hal
  have HBL := Lib.hid hbl
  have HW0 := Lib.hid (W0_ok n hn1 hn6)
  clear hk hn hT hal hbl
  go_enter Try.func7, Try.ntmps7
  go_wp2_with fail
  refine (new_yes 20 (by decide) w).mono ?_
  rintro e w1 ⟨rfl, hM1, hF1⟩
  have hMI : MI w1 (w.heap.size + 1) w.heap.size (List.replicate 20 (false, 0)) 0 := ⟨0, hM1, by omega, by omega⟩
  obtain ⟨p, hp⟩ : ∃ p, p = w.heap.size + 1 := ⟨_, rfl⟩
  obtain ⟨s, hs⟩ : ∃ s, s = w.heap.size := ⟨_, rfl⟩
  rw [← hp, ← hs] at hMI
  rw [← hp]
  have hwp : w.heap.size ≤ p := by omega
  have hws : w.heap.size ≤ s := by omega
  have HNEW := Lib.hid (New_yes w1 p s _ 0 hMI (by rw [List.length_replicate]; decide) (k : Int) 0 n (by omega) (by omega) (by omega) (by decide) HW0.out.1)
  have HF1 := Lib.hid hF1
  clear hp hs hM1 hF1 hMI e1 e2
  go_wp2_with fail
  refine HNEW.out.mono ?_
  rintro e w2 ⟨rfl, hM2, hF2⟩
  have hM2' : MI w2 p s (W0 n) 0 := hM2
  have hfr := Fr.then HF1.out hF2 (fun i hi => by rcases hi with rfl | rfl <;> exact .inr (by omega))
  have hfD : Fr None' w2 (w2.alloc (.cells #[.int .i64 (k : Int), .int .i64 0, .int .i64 (n : Int)] 36)) := (Fr.refl _ _).alloc _
  have hDW : DW w (w2.alloc (.cells #[.int .i64 (k : Int), .int .i64 0, .int .i64 (n : Int)] 36)) w2.heap.size p s k n (W0 n) 0 :=
    ⟨Blk.new w2 36 #[.int .i64 (k : Int), .int .i64 0, .int .i64 (n : Int)], hM2'.fr hfD (fun h => h) (fun h => h), hfr.trans hfD, hwp, hws⟩
  have HDW := Lib.hid hDW
  have HA0 := Lib.hid (alone_new k n (W0 n) HW0.out.2)
  clear hM2 hM2' hF2 hfD HNEW HF1 hfr hDW
  go_wp2_with fail
  obtain ⟨D, hD⟩ : ∃ D, D = w2.heap.size := ⟨_, rfl⟩
  rw [← hD] at HDW ⊢
  clear hD
  go_loopw [13, 14] (fun xv iv wx => ∃ (i X m cc : Nat) (ws : List (Bool × Int)), i ≤ T ∧ X ≤ 6 * i ∧ m ≤ 135 * i ∧ cc ≤ 13 * i ∧ xv = .int .i64 (X : Int) ∧ iv = .int .i64 (i : Int) ∧ Hid (AK k n cc ws [] 0) ∧ Hid (DW w wx D p s k n ws m)) (fun _ iv _ => T - (intOf iv).toNat)
  case atStart => exact ⟨0, 0, 0, 0, _, by omega, by omega, by omega, by omega, rfl, rfl, HA0, HDW⟩
  case round =>
    clear HA0 HDW
    obtain ⟨i, X, m, cc, ws, hiT, hX, hm, hcc, rfl, rfl, HA, HD⟩ := hrel
    by_cases hi : i < T
    · have g1 : (i : Int) < (T : Int) := by omega
      have HA0 : Hid (AK k n (cc + 0) ws (sq X 0) 0) := HA
      clear HA
      go_wp2_with fail
      rw [e3]
      clear e3
      go_loopw [13, 16] (fun xv jv wx => ∃ (j y m' : Nat) (ws : List (Bool × Int)), j ≤ n ∧ m' = m + 9 * j ∧ xv = .int .i64 (y : Int) ∧ jv = .int .i64 (j : Int) ∧ y ≤ X + j ∧ Hid (y = X + j) ∧ Hid (AK k n (cc + j) ws (sq X j) j) ∧ Hid (DW w wx D p s k n ws m')) (fun _ jv _ => n - (intOf jv).toNat)
      case atStart => exact ⟨0, X, m, ws, by omega, rfl, rfl, rfl, by omega, Lib.hid rfl, HA0, HD⟩
      case round =>
        clear HA0 HD ws
        obtain ⟨j, y, m', ws, hjn, hm', rfl, rfl, hyX, HY, HA, HD⟩ := hrel
        have hm'' : m' ≤ m + 9 * j := by omega
        have HM' := Lib.hid hm'
        clear hm'
        by_cases hj : j < n
        · have g2 : (j : Int) < (n : Int) := by omega
          obtain ⟨ws', hA', hcall⟩ := run_push HAL.out HD.out (by omega) (sq X j) HA.out (by omega) (by rw [sq_len]; omega) (by omega) ((y : Int) + 1)
          have HA' : Hid (AK k n (cc + (j + 1)) ws' (sq X (j + 1)) (j + 1)) := Lib.hid (by rw [sq_succ, ← HY.out]; exact hA')
          have HY' : Hid (y + 1 = X + (j + 1)) := Lib.hid (by have : y = X + j := HY.out; omega)
          have HCALL := Lib.hid hcall
          obtain ⟨d0, d1, d2⟩ := HD.out.cells
          clear hA' hcall HA HY
          go_wp2_with fail
          refine HCALL.out.mono ?_
          rintro e w4 ⟨o, rfl, hrun⟩
          have HRUN := Lib.hid hrun
          clear hrun HCALL HD d0 d1 d2
          go_wp2_with fail
          refine HRUN.out.mono ?_
          rintro e w5 ⟨rfl, hDW5⟩
          have HDw5 := Lib.hid hDW5
          clear hDW5 HRUN
          go_wp2_with fail
          exact ⟨⟨j + 1, y + 1, m' + 9, ws', by omega, by have := HM'.out; omega, by go_num, by go_num, by omega, HY', HA', HDw5⟩, by simp [intOf]; omega⟩
        · obtain rfl : j = n := by omega
          have g2 : ¬ (j : Int) < (j : Int) := by omega
          have HCALL := Lib.hid (run_full HAL.out HBL.out HD.out (by omega) (sq X j) HA.out (by omega) (by split <;> first | rfl | exact sq_len X j) 99)
          obtain ⟨d0, d1, d2⟩ := HD.out.cells
          go_wp2_with fail
          refine HCALL.out.mono ?_
          rintro e w4 ⟨o, rfl, hrun⟩
          have HRUN := Lib.hid hrun
          clear hrun HCALL HD d0 d1 d2
          go_wp2_with fail
          refine HRUN.out.mono ?_
          rintro e w5 ⟨rfl, hDW5⟩
          have HDw5 := Lib.hid hDW5
          clear hDW5 HRUN
          have HA0 : Hid (AK k j (cc + j + 0) ws (rem k X j 0) (j - 0)) := Lib.hid (by rw [rem_start]; exact HA.out)
          clear HA
          go_wp2_with fail
          go_loopw [21, 22] (fun jv _ wx => ∃ (i' m2 : Nat) (ws : List (Bool × Int)), i' ≤ j ∧ m2 ≤ m' + 9 + 9 * i' ∧ jv = .int .i64 (i' : Int) ∧ Hid (AK k j (cc + j + i') ws (rem k X j i') (j - i')) ∧ Hid (DW w wx D p s k j ws m2)) (fun jv _ _ => j - (intOf jv).toNat)
          case atStart => exact ⟨0, m' + 9, ws, by omega, by omega, rfl, HA0, HDw5⟩
          case round =>
            clear HA0 HDw5 ws
            obtain ⟨i', m2, ws, hij, hm2, rfl, HA, HD⟩ := hrel
            by_cases hii : i' < j
            · have g3 : (i' : Int) < (j : Int) := by omega
              have hA0 := HA.out
              rw [rem_step k X j i' hii] at hA0
              by_cases hk33 : k = 3
              · have hkb : ((k : Int) == 3) = true := by simp; omega
                rw [if_pos hk33] at hA0
                obtain ⟨z, hz⟩ : ∃ z, z = (X : Int) + 1 + (i' : Int) := ⟨_, rfl⟩
                rw [← hz] at hA0
                obtain ⟨ws', hA', hcall⟩ := run_pop HAL.out HBL.out HD.out (by omega) z (rem k X j (i' + 1)) (by rw [if_pos hk33]; exact hA0) (by omega)
                have hz2 : (X : Int) + 1 + (i' : Int) = z := hz.symm
                have hzz : (z != z) = false := by simp
                have hu : (if rem k X j (i' + 1) = [] then 0 else j - i' - 1) = j - (i' + 1) := by
                  split
                  · rename_i h0
                    have := (rem_nil k X j (i' + 1)).1 h0
                    omega
                  · omega
                rw [hu] at hA'
                have HA' : Hid (AK k j (cc + j + (i' + 1)) ws' (rem k X j (i' + 1)) (j - (i' + 1))) := Lib.hid hA'
                have HCALL := Lib.hid hcall
                obtain ⟨d0, d1, d2⟩ := HD.out.cells
                clear hA' hcall HA hA0 hu hz hk33
                go_wp2_with fail
                refine HCALL.out.mono ?_
                rintro e w4 ⟨o, rfl, hrun⟩
                have HRUN := Lib.hid hrun
                clear hrun HCALL HD d0 d1 d2
                go_wp2_with fail
                refine HRUN.out.mono ?_
                rintro e w6 ⟨rfl, hDW5⟩
                have HDw6 := Lib.hid hDW5
                clear hDW5 HRUN
                go_wp2_with fail
                exact ⟨⟨i' + 1, m2 + 9, ws', by omega, by omega, by go_num, HA', HDw6⟩, by simp [intOf]; omega⟩
              · have hkb : ((k : Int) == 3) = false := by simp; omega
                rw [if_neg hk33] at hA0
                have hyy : ((X + j : Nat) : Int) = (y : Int) := by have : y = X + j := HY.out; omega
                rw [hyy] at hA0
                obtain ⟨z, hz⟩ : ∃ z, z = (y : Int) - (i' : Int) := ⟨_, rfl⟩
                rw [← hz] at hA0
                obtain ⟨ws', hA', hcall⟩ := run_pop HAL.out HBL.out HD.out (by omega) z (rem k X j (i' + 1)) (by rw [if_neg hk33]; exact hA0) (by omega)
                have hz2 : (y : Int) - (i' : Int) = z := hz.symm
                have hzz : (z != z) = false := by simp
                clear hyy
                have hu : (if rem k X j (i' + 1) = [] then 0 else j - i' - 1) = j - (i' + 1) := by
                  split
                  · rename_i h0
                    have := (rem_nil k X j (i' + 1)).1 h0
                    omega
                  · omega
                rw [hu] at hA'
                have HA' : Hid (AK k j (cc + j + (i' + 1)) ws' (rem k X j (i' + 1)) (j - (i' + 1))) := Lib.hid hA'
                have HCALL := Lib.hid hcall
                obtain ⟨d0, d1, d2⟩ := HD.out.cells
                clear hA' hcall HA hA0 hu hz hk33
                go_wp2_with fail
                refine HCALL.out.mono ?_
                rintro e w4 ⟨o, rfl, hrun⟩
                have HRUN := Lib.hid hrun
                clear hrun HCALL HD d0 d1 d2
                go_wp2_with fail
                refine HRUN.out.mono ?_
                rintro e w6 ⟨rfl, hDW5⟩
                have HDw6 := Lib.hid hDW5
                clear hDW5 HRUN
                go_wp2_with fail
                exact ⟨⟨i' + 1, m2 + 9, ws', by omega, by omega, by go_num, HA', HDw6⟩, by simp [intOf]; omega⟩
            · obtain rfl : i' = j := by omega
              have g3 : ¬ (i' : Int) < (i' : Int) := by omega
              have hA0 := HA.out
              rw [(rem_nil k X i' i').2 (Nat.le_refl _)] at hA0
              obtain ⟨ws1, hA1, hcall⟩ := run_popE HAL.out HD.out (by omega) hA0 (by omega)
              have HCALL := Lib.hid hcall
              have HA1 := Lib.hid hA1
              obtain ⟨d0, d1, d2⟩ := HD.out.cells
              clear hA0 hA1 hcall HA
              go_wp2_with fail
              refine HCALL.out.mono ?_
              rintro e w4 ⟨o, rfl, hrun⟩
              have HRUN := Lib.hid hrun
              clear hrun HCALL HD d0 d1 d2
              go_wp2_with fail
              refine HRUN.out.mono ?_
              rintro e w6 ⟨rfl, hDW5⟩
              have HDw6 := Lib.hid hDW5
              clear hDW5 HRUN
              have HCALL := Lib.hid (run_stealE HAL.out HDw6.out (by omega) HA1.out (by omega))
              obtain ⟨d0, d1, d2⟩ := HDw6.out.cells
              go_wp2_with fail
              refine HCALL.out.mono ?_
              rintro e w4 ⟨o, rfl, hrun⟩
              have HRUN := Lib.hid hrun
              clear hrun HCALL HDw6 d0 d1 d2
              go_wp2_with fail
              refine HRUN.out.mono ?_
              rintro e w7 ⟨rfl, hDW5⟩
              have HDw7 := Lib.hid hDW5
              clear hDW5 HRUN
              have hyX2 : y ≤ 6 * (i + 1) := by have : y = X + i' := HY.out; omega
              go_wp2_with fail
              exact ⟨⟨i + 1, y, m2 + 9 + 9, cc + i' + i' + 1, ws1, by omega, hyX2, by omega, by omega, rfl, by go_num, HA1, HDw7⟩, by simp [intOf]; omega⟩
    · obtain rfl : i = T := by omega
      have g1 : ¬ (i : Int) < (i : Int) := by omega
      go_wp2_with fail
      refine (awake_any _).mono ?_
      rintro e w8 ⟨rfl, hF8⟩
      have HF8 := Lib.hid (HD.out.fr.trans hF8)
      clear hF8
      go_wp2_with fail
      go_ret
      exact ⟨rfl, HF8.out⟩
theorem walk (x : Int) (hx : (Lit.int .u8 x).wf = true) (y : Int) (hy : (Lit.int .u8 y).wf = true) (z : Int) (hz : (Lit.int .u8 z).wf = true) (w : World) :
    Calls Try.prog 7 #[.int .u8 x, .int .u8 y, .int .u8 z] w fun e w' => e = .returned (.bool true) ∧ Below w.heap.size w w' := by
  have b1 := bounds_u8 hx
  have b2 := bounds_u8 hy
  have b3 := bounds_u8 hz
  obtain ⟨a, rfl⟩ : ∃ a : Nat, x = a := ⟨x.toNat, by omega⟩
  obtain ⟨b, rfl⟩ : ∃ b : Nat, y = b := ⟨y.toNat, by omega⟩
  obtain ⟨c, rfl⟩ : ∃ c : Nat, z = c := ⟨z.toNat, by omega⟩
  exact (walk_f a b c (by omega) (by omega) (by omega) w).mono fun _ _ ⟨he, hF⟩ => ⟨he, hF.below (Nat.le_refl _) (fun _ h => h.elim)⟩

/-! ### The row's step -/
theorem own : ownKnob Try.prog.godebug = none := by kernel_rfl
theorem laidOut : laidOutB Try.prog = true := by kernel_rfl

set_option maxRecDepth 100000 in
theorem lifted (os : Os) (started : os.Started) (H : Type) (enc : TypeId × Value → H) :
    ReturnsInHanded {} Try.checked os 7 .any (Rows.dequeWrapsSpec.pre6 enc Try.prog Try.f7 Rows.dequeWrapsRow.domain false) (Rows.dequeWrapsSpec.post enc Try.prog Try.f7 false true false false) := by
  refine returnsInHanded_of_change (C := Try.checked) own started (by kernel_rfl) Try.func7
    (ChangeSpec.witness6 (enc := enc) (C := Try.checked) false ⟨#[], #[.int .u8 0, .int .u8 0, .int .u8 0], []⟩ 8 (by kernel_rfl) (by kernel_rfl) (by kernel_rfl) (by kernel_rfl)) ?_
  intro W base args ds gs before hval0 hW hcnd _
  have hval : ∀ (j : Nat) t v, Try.f7.params[j]? = some t → args[j]? = some v → Value.okWide Try.prog W .any base t v := hval0
  have hW' := hW
  obtain ⟨p, q, hA0, hV, rfl, hfz, hnd⟩ := hW
  have hA : DataW.TrodAll enc Try.prog W 0 (fun _ => true) true Try.f7.params.toList args.toList ds p := hA0
  rw [Try.params7] at hA hval
  obtain ⟨v0, vs0, d0, ds0, p0, q0, hargs, rfl, rfl, h0, r0⟩ := trodAll_cons hA
  obtain ⟨v1, vs1, d1, ds1, p1, q1, rfl, rfl, rfl, h1, r1⟩ := trodAll_cons r0
  obtain ⟨v2, vs2, d2, ds2, p2, q2, rfl, rfl, rfl, h2, r2⟩ := trodAll_cons r1
  obtain ⟨rfl, rfl, rfl⟩ := trodAll_nil r2
  obtain rfl : args = #[v0, v1, v2] := by cases args; simp_all
  obtain ⟨rfl, rfl⟩ := trodVars_none hV
  obtain ⟨a0, rfl, rfl, rfl, w0⟩ := open_int Try.underlying5 (hval 0 5 v0 rfl rfl) h0
  obtain ⟨a1, rfl, rfl, rfl, w1⟩ := open_int Try.underlying5 (hval 1 5 v1 rfl rfl) h1
  obtain ⟨a2, rfl, rfl, rfl, w2⟩ := open_int Try.underlying5 (hval 2 5 v2 rfl rfl) h2
  clear hA0 hval0
  refine (walk a0 w0 a1 w1 a2 w2 W).mono fun e W' ⟨he, bel⟩ => ?_
  subst he
  exact ⟨_, rfl, _, _, _, [], _, [], hW', trodAll_mk1 (shut_bool Try.underlying4 _), (trodAll_cons_mk (shut_int Try.underlying5 w0) (trodAll_cons_mk (shut_int Try.underlying5 w1) (trodAll_cons_mk (shut_int Try.underlying5 w2) trodAll_mk0))), rfl, bel.frame _, fun h => by cases h⟩

theorem over : Rows.dequeWrapsRow.holds Try.pinned (OpenSpec.ofChange Rows.dequeWrapsSpec) :=
  OpenClaim.holds_of_wide 7 Try.f7 rfl rfl rfl rfl rfl rfl rfl ⟨rfl, rfl, rfl, rfl, rfl⟩ rfl rfl rfl rfl rfl (by kernel_rfl) Try.func7 (by kernel_rfl)
    (of_decide_eq_true (by kernel_rfl)) (by unfold Func.isWrapper; first | (rw [if_pos (by decide +kernel)]; kernel_rfl) | (rw [if_neg (by decide +kernel)]; exact ⟨rfl, rfl⟩))
    (fun os started H enc _ => lifted os started H enc)

/-- The statement. -/
theorem proved : Rows.DequeWrapsSaid := over
#print axioms proved
end Go.Proofs.Ytfcboacmailfiaa.dequeWraps
