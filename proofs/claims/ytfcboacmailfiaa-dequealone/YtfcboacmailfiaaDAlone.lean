/-
  haymowlaw09.DequeAlone returns true for every two bytes and every row of bytes, and its arguments read as they did. No condition.
-/
import Derived.Test.YtfcboacmailfiaaDq19
import Derived.Test.YtfcboacmailfiaaArgsD
import Derived.Test.YtfcboacmailfiaaRows
import Derived.ProofKit
import Derived.OpenShut
import Derived.ShutString
import Derived.ChangeOld
namespace Go.Proofs.Ytfcboacmailfiaa.dequeAlone
open Go.ChangeShapes Go.WideShapes Go.ChangeAt Go.RowKit
open Go.ChangeMaps (open_string shut_string)

def W0 (r : Nat) : List (Bool × Int) := (turnR (List.replicate 20 (false, (0 : Int))) 0 ((r + 2 : Nat) : Int) true).2
theorem W0_ok (r : Nat) (h1 : 1 ≤ r) (h6 : r ≤ 6) : (turnR (List.replicate 20 (false, (0 : Int))) 0 ((r + 2 : Nat) : Int) true).1 = 0 ∧ ∀ i, i < r + 2 → (W0 r)[i]? = some (true, 0) := by
  have : r = 1 ∨ r = 2 ∨ r = 3 ∨ r = 4 ∨ r = 5 ∨ r = 6 := by omega
  rcases this with rfl | rfl | rfl | rfl | rfl | rfl <;> exact ⟨by decide, by decide⟩

set_option maxHeartbeats 1000000 in
set_option maxRecDepth 100000 in
theorem long (a b : Nat) (a2 : Option Addr) (len2 cap2 : Nat) (h : 100 < len2) (w : World) :
    Calls Try.prog 6 #[.int .u8 (a : Int), .int .u8 (b : Int), .slice a2 len2 cap2] w fun e w' => e = .returned (.bool true) ∧ Fr None' w w' := by
  have h1 : (100 : Int) < (len2 : Int) := by omega
  go_enter Try.func6, Try.ntmps6
  go_wp2_with fail
  go_ret
  exact ⟨rfl, Fr.refl _ _⟩

set_option maxHeartbeats 40000000 in
set_option maxRecDepth 100000 in
theorem few (a b : Nat) (ha : a < 256) (hb : b < 256) (a2 : Option Addr) (len2 cap2 : Nat) (zs : List Int) (w : World) (w2 : IsRow .u8 w a2 len2 cap2 zs) (h : len2 ≤ 100) :
    Calls Try.prog 6 #[.int .u8 (a : Int), .int .u8 (b : Int), .slice a2 len2 cap2] w fun e w' => e = .returned (.bool true) ∧ Fr None' w w' := by
  have h100 : ¬ (100 : Int) < (len2 : Int) := by omega
  obtain ⟨k, hk⟩ : ∃ k, k = a % 3 + 1 := ⟨_, rfl⟩
  obtain ⟨n, hn⟩ : ∃ n, n = b % 6 + 1 := ⟨_, rfl⟩
  have hk1 : 1 ≤ k := by omega
  have hk3 : k ≤ 3 := by omega
  have hn1 : 1 ≤ n := by omega
  have hn6 : n ≤ 6 := by omega
  have e1 : (a : Int) % 3 + 1 = (k : Int) := by omega
  have e2 : (b : Int) % 6 + 1 = (n : Int) := by omega
  obtain ⟨ty, hal, hbl⟩ := aloneB k n hk1 hk3 (by omega) (by omega)
  have HAL := Lib.hid hal
  have HBL := Lib.hid hbl
  have HW0 := Lib.hid (W0_ok n hn1 hn6)
  have HROW := Lib.hid w2
  clear hk hn hal hbl w2
  go_enter Try.func6, Try.ntmps6
  go_wp2_with fail
  refine (new_yes 20 (by decide) w).mono ?_
  rintro e w1 ⟨rfl, hM1, hF1⟩
  have hMI : MI w1 (w.heap.size + 1) w.heap.size (List.replicate 20 (false, 0)) 0 := ⟨0, hM1, by omega, by omega⟩
  obtain ⟨p, hp⟩ : ∃ p, p = w.heap.size + 1 := ⟨_, rfl⟩
  obtain ⟨s, hs⟩ : ∃ s, s = w.heap.size := ⟨_, rfl⟩
  rw [← hp, ← hs] at hMI
  rw [← hp]
  have hwp : w.heap.size ≤ p := by omega
  have hws : w.heap.size ≤ s := by omega
  have HNEW := Lib.hid (New_yes w1 p s _ 0 hMI (by rw [List.length_replicate]; decide) (k : Int) 0 n (by omega) (by omega) (by omega) (by decide) HW0.out.1)
  have HF1 := Lib.hid hF1
  clear hp hs hM1 hF1 hMI e1 e2
  go_wp2_with fail
  refine HNEW.out.mono ?_
  rintro e w2 ⟨rfl, hM2, hF2⟩
  have hM2' : MI w2 p s (W0 n) 0 := hM2
  have hfr := Fr.then HF1.out hF2 (fun i hi => by rcases hi with rfl | rfl <;> exact .inr (by omega))
  have hfD : Fr None' w2 (w2.alloc (.cells #[.int .i64 (k : Int), .int .i64 0, .int .i64 (n : Int)] 36)) := (Fr.refl _ _).alloc _
  have hDW : DW w (w2.alloc (.cells #[.int .i64 (k : Int), .int .i64 0, .int .i64 (n : Int)] 36)) w2.heap.size p s k n (W0 n) 0 :=
    ⟨Blk.new w2 36 #[.int .i64 (k : Int), .int .i64 0, .int .i64 (n : Int)], hM2'.fr hfD (fun h => h) (fun h => h), hfr.trans hfD, hwp, hws⟩
  have HDW := Lib.hid hDW
  have HA0 := Lib.hid (alone_new k n (W0 n) HW0.out.2)
  clear hM2 hM2' hF2 hfD HNEW HF1 hfr hDW
  go_wp2_with fail
  obtain ⟨D, hD⟩ : ∃ D, D = w2.heap.size := ⟨_, rfl⟩
  rw [← hD] at HDW ⊢
  clear hD
  obtain ⟨B, hB⟩ : ∃ B, B = (w2.alloc (.cells #[.int .i64 (k : Int), .int .i64 0, .int .i64 (n : Int)] 36)).heap.size := ⟨_, rfl⟩
  have hBD : D < B := by rw [hB]; exact HDW.out.hD.lt
  have hBps : p < B ∧ s < B := by
    obtain ⟨st, hms, _, _⟩ := HDW.out.hM
    rw [hB]; exact ⟨hms.hp.lt, hms.hs.lt⟩
  have hwB : w.heap.size ≤ B := by rw [hB]; exact HDW.out.fr.size
  have HBZ : Hid (B ≤ (w2.alloc (.cells #[.int .i64 (k : Int), .int .i64 0, .int .i64 (n : Int)] 36)).heap.size) := Lib.hid (by rw [hB]; exact Nat.le_refl _)
  obtain ⟨hBp, hBs⟩ := hBps
  have HT0 := Lib.hid (Ths.nil (w2.alloc (.cells #[.int .i64 (k : Int), .int .i64 0, .int .i64 (n : Int)] 36)) B)
  clear hB
  go_loopw [13, 14, 15, 16] (fun tv uv xv iv wx => Hid (B ≤ wx.heap.size) ∧ ∃ (i c m u x : Nat) (uz : Int) (l : List Int) (ws : List (Bool × Int)), i ≤ len2 ∧ c ≤ i ∧ m ≤ 9 * i ∧ x ≤ i ∧ -(i : Int) ≤ uz ∧ uz ≤ (i : Int) ∧ uv = .int .i64 uz ∧ xv = .int .i64 (x : Int) ∧ iv = .int .i64 (i : Int) ∧ Hid (k = 1 → uz = (u : Int)) ∧ Hid (AK k n c ws l u) ∧ Hid (DW w wx D p s k n ws m) ∧ Hid (Ths wx B tv l)) (fun _ _ _ iv _ => len2 - (intOf iv).toNat)
  case atStart => exact ⟨HBZ, 0, 0, 0, 0, 0, 0, [], _, by omega, by omega, by omega, by omega, by omega, by omega, rfl, rfl, rfl, Lib.hid (fun _ => rfl), HA0, HDW, HT0⟩
  case round =>
    clear HA0 HDW HT0 HBZ
    obtain ⟨HBZ, i, c, m, u, x, uz, l, ws, hi2, hci, hmi, hxi, hz1, hz2, rfl, rfl, rfl, HU, HA, HD, HT⟩ := hrel
    obtain ⟨A, cap, rfl, -, -⟩ := HT.out
    obtain ⟨ll, hll⟩ : ∃ ll, ll = l.length := ⟨_, rfl⟩
    have hb := AK_bounds HA.out
    rw [← hll] at HT hb ⊢
    obtain ⟨hb1, hb2⟩ := hb
    have HB2 := Lib.hid hb2
    have HLL := Lib.hid hll
    clear hll hb2
    by_cases hi : i < len2
    · have g1 : (i : Int) < (len2 : Int) := by omega
      obtain ⟨bb, off, by_, rfl, hby, hc⟩ := HROW.out.u8 HD.out.fr hi
      obtain ⟨wt, hwt⟩ : ∃ wt, wt = by_ % 3 := ⟨_, rfl⟩
      have ew : (by_ : Int) % 3 = (wt : Int) := by omega
      have hwt3 : wt < 3 := by omega
      clear hwt
      have hcs : wt = 0 ∨ wt = 1 ∨ wt = 2 := by omega
      clear hwt3
      rcases hcs with rfl | rfl | rfl
      · (try rw [show ((0 : Nat) : Int) = 0 from rfl] at ew)
        obtain ⟨d0, d1, d2⟩ := HD.out.cells
        by_cases hfull : (if k = 1 then u = n else l.length = n)
        · have HCALL := Lib.hid (run_fullF HAL.out HBL.out HD.out (by omega) l HA.out (by omega) hfull ((x : Int) + 1))
          have hbool : (ll = n ∨ (k = 1 ∧ uz = (n : Int))) := by
            by_cases hk1' : k = 1
            · rw [if_pos hk1'] at hfull
              exact .inr ⟨hk1', by rw [HU.out hk1', hfull]⟩
            · rw [if_neg hk1'] at hfull
              exact .inl (by rw [HLL.out]; exact hfull)
          have HBO := Lib.hid hbool
          clear hfull hbool
          go_wp2_with fail
          refine HCALL.out.mono ?_
          rintro e w4 ⟨o, rfl, hrun⟩
          have HRUN := Lib.hid hrun
          clear hrun HCALL HD d0 d1 d2
          go_wp2_with fail
          refine HRUN.out.mono ?_
          rintro e w5 ⟨rfl, hDW5, hF5⟩
          have HD5 := Lib.hid hDW5
          have HT5 := Lib.hid (HT.out.run hBp hBs hF5)
          have HB5 : Hid (B ≤ w5.heap.size) := Lib.hid (Nat.le_trans HBZ.out hF5.size)
          clear hDW5 hF5 HRUN
          by_cases hlln : ll = n
          · have q1 : ((ll : Int) == (n : Int)) = true := by simp; omega
            have q2 : (ll == n) = true := by simp; omega
            clear HBO hlln
            go_wp2_with fail
            exact ⟨⟨HB5, i + 1, c, m + 9, u, x + 1, uz, l, ws, by omega, by omega, by omega, by omega, by omega, by omega, rfl, by go_num, by go_num, HU, HA, HD5, HT5⟩, by simp [intOf]; omega⟩
          · have q1 : ((ll : Int) == (n : Int)) = false := by simp; omega
            have q2 : (ll == n) = false := by simp; omega
            have hk1u : k = 1 ∧ uz = (n : Int) := HBO.out.resolve_left hlln
            have q3 : ((k : Int) == 1) = true := by have := hk1u.1; simp; omega
            have q4 : (uz == (n : Int)) = true := by have := hk1u.2; simp; omega
            clear HBO hlln hk1u
            go_wp2_with fail
            exact ⟨⟨HB5, i + 1, c, m + 9, u, x + 1, uz, l, ws, by omega, by omega, by omega, by omega, by omega, by omega, rfl, by go_num, by go_num, HU, HA, HD5, HT5⟩, by simp [intOf]; omega⟩
        · obtain ⟨u0, hu0, hA0, hun⟩ : ∃ u0, (k = 1 → u0 = u) ∧ AK k n c ws l u0 ∧ u0 < n := by
            by_cases hk1' : k = 1
            · rw [if_pos hk1'] at hfull
              have := (HB2.out hk1').2
              exact ⟨u, fun _ => rfl, HA.out, by omega⟩
            · exact ⟨0, fun h => absurd h hk1', AK_any HA.out hk1', by omega⟩
          have hlt : ll < n := by
            by_cases hk1' : k = 1
            · have := (HB2.out hk1').1
              rw [if_pos hk1'] at hfull
              have := (HB2.out hk1').2
              omega
            · rw [if_neg hk1'] at hfull
              have := HLL.out
              omega
          have hnb : ¬ (k = 1 ∧ uz = (n : Int)) := by
            rintro ⟨hk1', h2⟩
            rw [if_pos hk1'] at hfull
            have := HU.out hk1'
            omega
          obtain ⟨ws', hA', hcall⟩ := run_pushF HAL.out HD.out (by omega) l hA0 (by omega) (by have := HLL.out; omega) hun ((x : Int) + 1)
          have HCALL := Lib.hid hcall
          have HA' := Lib.hid hA'
          have HU' : Hid (k = 1 → uz + 1 = ((u0 + 1 : Nat) : Int)) := Lib.hid (fun h => by have h1 := HU.out h; have h2 := hu0 h; omega)
          have HNB := Lib.hid hnb
          clear hfull hu0 hA0 hA' hcall hnb HA HB2 hun
          go_wp2_with fail
          refine HCALL.out.mono ?_
          rintro e w4 ⟨o, rfl, hrun⟩
          have HRUN := Lib.hid hrun
          clear hrun HCALL HD d0 d1 d2
          go_wp2_with fail
          refine HRUN.out.mono ?_
          rintro e w5 ⟨rfl, hDW5, hF5⟩
          have HD5 := Lib.hid hDW5
          have HT5 := Lib.hid (HT.out.run hBp hBs hF5)
          have HB5 : Hid (B ≤ w5.heap.size) := Lib.hid (Nat.le_trans HBZ.out hF5.size)
          clear hDW5 hF5 HRUN
          have q1 : ((ll : Int) == (n : Int)) = false := by simp; omega
          have q2 : (ll == n) = false := by simp; omega
          by_cases hk1' : k = 1
          · have q3 : ((k : Int) == 1) = true := by simp; omega
            have q4 : (uz == (n : Int)) = false := by
              have := HNB.out
              simp
              intro h
              exact this ⟨hk1', h⟩
            clear HNB hk1'
            have HNW := Lib.hid (Blk.new w5 2 #[.int .i64 ((x : Int) + 1)])
            have hfA : Fr None' w5 (w5.alloc (.cells #[.int .i64 ((x : Int) + 1)] 2)) := (Fr.refl _ _).alloc _
            have HD6 := Lib.hid (HD5.out.f0 hfA)
            have HT6 := Lib.hid (HT5.out.fr hfA (fun _ _ _ _ h => h))
            have hsz5 : B ≤ w5.heap.size := HB5.out
            clear hfA HD5 HT5 HB5
            go_wp2_with (at_builtin; refine ths_append rfl (.tmp 105) (.tmp 107) rfl B _ l rfl HT6.out ⟨w5.heap.size, 0, none⟩ 1 ((x : Int) + 1) rfl ?c1 ?c2 ?c3 ?_)
            case c1 => rw [HNW.out.cell]; rfl
            case c2 => have := HLL.out; omega
            case c3 => simp; omega
            intro v' w7 hT7 hF7
            have HT7 := Lib.hid hT7
            have HD7 := Lib.hid (HD6.out.newer hBD hBp hBs hwB hF7)
            have HB7 : Hid (B ≤ w7.heap.size) := Lib.hid (by have := hF7.size; simp at this; omega)
            clear hT7 hF7 HT6 HD6 HNW hsz5
            go_wp2_with fail
            exact ⟨⟨HB7, i + 1, c + 1, m + 9, u0 + 1, x + 1, uz + 1, l ++ [(x : Int) + 1], ws', by omega, by omega, by omega, by omega, by omega, by omega, by go_num, by go_num, by go_num, HU', HA', HD7, HT7⟩, by simp [intOf]; omega⟩
          · have q3 : ((k : Int) == 1) = false := by simp; omega
            clear HNB hk1'
            have HNW := Lib.hid (Blk.new w5 2 #[.int .i64 ((x : Int) + 1)])
            have hfA : Fr None' w5 (w5.alloc (.cells #[.int .i64 ((x : Int) + 1)] 2)) := (Fr.refl _ _).alloc _
            have HD6 := Lib.hid (HD5.out.f0 hfA)
            have HT6 := Lib.hid (HT5.out.fr hfA (fun _ _ _ _ h => h))
            have hsz5 : B ≤ w5.heap.size := HB5.out
            clear hfA HD5 HT5 HB5
            go_wp2_with (at_builtin; refine ths_append rfl (.tmp 105) (.tmp 107) rfl B _ l rfl HT6.out ⟨w5.heap.size, 0, none⟩ 1 ((x : Int) + 1) rfl ?c1 ?c2 ?c3 ?_)
            case c1 => rw [HNW.out.cell]; rfl
            case c2 => have := HLL.out; omega
            case c3 => simp; omega
            intro v' w7 hT7 hF7
            have HT7 := Lib.hid hT7
            have HD7 := Lib.hid (HD6.out.newer hBD hBp hBs hwB hF7)
            have HB7 : Hid (B ≤ w7.heap.size) := Lib.hid (by have := hF7.size; simp at this; omega)
            clear hT7 hF7 HT6 HD6 HNW hsz5
            go_wp2_with fail
            exact ⟨⟨HB7, i + 1, c + 1, m + 9, u0 + 1, x + 1, uz + 1, l ++ [(x : Int) + 1], ws', by omega, by omega, by omega, by omega, by omega, by omega, by go_num, by go_num, by go_num, HU', HA', HD7, HT7⟩, by simp [intOf]; omega⟩
      · (try rw [show ((1 : Nat) : Int) = 1 from rfl] at ew)
        obtain ⟨d0, d1, d2⟩ := HD.out.cells
        by_cases hl0 : l = []
        · have hA0 := HA.out
          rw [hl0] at hA0
          obtain ⟨ws', hA', hcall⟩ := run_popEF HAL.out HD.out (by omega) hA0 (by omega)
          have HCALL := Lib.hid hcall
          have HA' := Lib.hid hA'
          obtain rfl : ll = 0 := by rw [HLL.out, hl0]; rfl
          have HT0 : Hid (Ths wr B (.slice A 0 cap) []) := by rw [← hl0]; exact HT
          clear hA0 hA' hcall HA hl0 HLL HB2 HT
          go_wp2_with fail
          refine HCALL.out.mono ?_
          rintro e w4 ⟨o, rfl, hrun⟩
          have HRUN := Lib.hid hrun
          clear hrun HCALL HD d0 d1 d2
          go_wp2_with fail
          refine HRUN.out.mono ?_
          rintro e w5 ⟨rfl, hDW5, hF5⟩
          have HD5 := Lib.hid hDW5
          have HT5 := Lib.hid (HT0.out.run hBp hBs hF5)
          have HB5 : Hid (B ≤ w5.heap.size) := Lib.hid (Nat.le_trans HBZ.out hF5.size)
          clear hDW5 hF5 HRUN
          (try rw [show ((0 : Nat) : Int) = 0 from rfl])
          go_wp2_with fail
          exact ⟨⟨HB5, i + 1, c + 1, m + 9, 0, x, 0, [], ws', by omega, by omega, by omega, by omega, by omega, by omega, rfl, rfl, by go_num, Lib.hid (fun _ => rfl), HA', HD5, HT5⟩, by simp [intOf]; omega⟩
        · have hll1 : 1 ≤ ll := by
            have := HLL.out
            have := List.length_pos_iff.2 hl0
            omega
          have q0 : ((ll : Int) == 0) = false := by simp; omega
          have q00 : (ll == 0) = false := by simp; omega
          have hkc : k = 1 ∨ k = 2 ∨ k = 3 := by omega
          rcases hkc with rfl | rfl | rfl
          · (try rw [show ((1 : Nat) : Int) = 1 from rfl])
            obtain ⟨r, y, hlr⟩ : ∃ r y, l = r ++ [y] := ⟨l.dropLast, l.getLast hl0, (List.dropLast_concat_getLast hl0).symm⟩
            subst hlr
            obtain ⟨ws', hA', hcall⟩ := run_popF HAL.out HBL.out HD.out (by omega) y r (by rw [if_neg (by decide)]; exact HA.out) (by omega)
            have HCALL := Lib.hid hcall
            have HA' := Lib.hid hA'
            have hrl : ll = r.length + 1 := by rw [HLL.out, List.length_append]; rfl
            have HRL := Lib.hid hrl
            have HB3 : Hid (1 = 1 → (u : Int) = uz) := Lib.hid (fun h => (HU.out h).symm)
            have hul : Hid (1 = 1 → r.length + 1 ≤ u) := Lib.hid (fun h => by have := (HB2.out h).1; omega)
            clear hA' hcall HA hl0 HB2 hrl
            go_wp2_with fail
            refine HCALL.out.mono ?_
            rintro e w4 ⟨o, rfl, hrun⟩
            have HRUN := Lib.hid hrun
            clear hrun HCALL HD d0 d1 d2
            go_wp2_with fail
            refine HRUN.out.mono ?_
            rintro e w5 ⟨rfl, hDW5, hF5⟩
            have HD5 := Lib.hid hDW5
            have HT5 := Lib.hid (HT.out.run hBp hBs hF5)
            have HB5 : Hid (B ≤ w5.heap.size) := Lib.hid (Nat.le_trans HBZ.out hF5.size)
            clear hDW5 hF5 HRUN
            obtain ⟨-, g, off2, hA2, hc1⟩ := HT5.out.cell (j := r.length) (z := y) (by simp)
            obtain ⟨l1, hl1⟩ : ∃ l1, ll = l1 + 1 := ⟨ll - 1, by omega⟩
            have hr1 : r.length = l1 := by have := HRL.out; omega
            subst hl1
            rw [hr1] at hc1
            obtain ⟨hsl, hT6⟩ := HT5.out.init
            rw [hr1] at hsl hT6
            have HT6 := Lib.hid hT6
            have HR1 := Lib.hid hr1
            have yy : (y != y) = false := by simp
            subst hA2
            clear hT6 HT5 HRL HLL q0 q00 hr1
            have q5 : (((l1 + 1 : Nat) : Int) == 0) = false := by simp; omega
            rw [show ((l1 + 1 : Nat) : Int) = (l1 : Int) + 1 by omega] at *
            by_cases hr0 : l1 = 0
            · subst hr0
              (try rw [show ((0 : Nat) : Int) = 0 from rfl] at *)
              have hrn : r = [] := List.eq_nil_of_length_eq_zero HR1.out
              have HA6 : Hid (AK 1 n (c + 1) ws' r 0) := by have := HA'.out; rw [if_pos hrn] at this; exact Lib.hid this
              have hc2 : w5.cell? ⟨g, off2, none⟩ = some (.int .i64 y) := hc1
              clear HA' hrn
              go_wp2_with fail
              exact ⟨⟨HB5, i + 1, c + 1, m + 9, 0, x, 0, r, ws', by omega, by omega, by omega, by omega, by omega, by omega, rfl, rfl, by go_num, Lib.hid (fun _ => rfl), HA6, HD5, HT6⟩, by simp [intOf]; omega⟩
            · have qr : ((l1 : Int) == 0) = false := by simp; omega
              have qr2 : (l1 == 0) = false := by simp; omega
              have hrn : r ≠ [] := fun h => hr0 (by have := HR1.out; rw [h] at this; simpa using this.symm)
              have HA6 : Hid (AK 1 n (c + 1) ws' r (u - 1)) := by have := HA'.out; rw [if_neg hrn] at this; exact Lib.hid this
              have HU6 : Hid (1 = 1 → uz - 1 = ((u - 1 : Nat) : Int)) := Lib.hid (fun _ => by have h1 := HB3.out (by simp); have h2 := hul.out (by simp); omega)
              clear HA' hrn hr0
              go_wp2_with fail
              exact ⟨⟨HB5, i + 1, c + 1, m + 9, u - 1, x, uz - 1, r, ws', by omega, by omega, by omega, by omega, by omega, by omega, by go_num, rfl, by go_num, HU6, HA6, HD5, HT6⟩, by simp [intOf]; omega⟩
          · (try rw [show ((2 : Nat) : Int) = 2 from rfl])
            obtain ⟨r, y, hlr⟩ : ∃ r y, l = r ++ [y] := ⟨l.dropLast, l.getLast hl0, (List.dropLast_concat_getLast hl0).symm⟩
            subst hlr
            obtain ⟨ws', hA', hcall⟩ := run_popF HAL.out HBL.out HD.out (by omega) y r (by rw [if_neg (by decide)]; exact HA.out) (by omega)
            have HCALL := Lib.hid hcall
            have HA' := Lib.hid hA'
            have hrl : ll = r.length + 1 := by rw [HLL.out, List.length_append]; rfl
            have HRL := Lib.hid hrl
            have HB3 : Hid (2 = 1 → (u : Int) = uz) := Lib.hid (fun h => (HU.out h).symm)
            have hul : Hid (2 = 1 → r.length + 1 ≤ u) := Lib.hid (fun h => by have := (HB2.out h).1; omega)
            clear hA' hcall HA hl0 HB2 hrl
            go_wp2_with fail
            refine HCALL.out.mono ?_
            rintro e w4 ⟨o, rfl, hrun⟩
            have HRUN := Lib.hid hrun
            clear hrun HCALL HD d0 d1 d2
            go_wp2_with fail
            refine HRUN.out.mono ?_
            rintro e w5 ⟨rfl, hDW5, hF5⟩
            have HD5 := Lib.hid hDW5
            have HT5 := Lib.hid (HT.out.run hBp hBs hF5)
            have HB5 : Hid (B ≤ w5.heap.size) := Lib.hid (Nat.le_trans HBZ.out hF5.size)
            clear hDW5 hF5 HRUN
            obtain ⟨-, g, off2, hA2, hc1⟩ := HT5.out.cell (j := r.length) (z := y) (by simp)
            obtain ⟨l1, hl1⟩ : ∃ l1, ll = l1 + 1 := ⟨ll - 1, by omega⟩
            have hr1 : r.length = l1 := by have := HRL.out; omega
            subst hl1
            rw [hr1] at hc1
            obtain ⟨hsl, hT6⟩ := HT5.out.init
            rw [hr1] at hsl hT6
            have HT6 := Lib.hid hT6
            have HR1 := Lib.hid hr1
            have yy : (y != y) = false := by simp
            subst hA2
            clear hT6 HT5 HRL HLL q0 q00 hr1
            have q5 : (((l1 + 1 : Nat) : Int) == 0) = false := by simp; omega
            rw [show ((l1 + 1 : Nat) : Int) = (l1 : Int) + 1 by omega] at *
            go_wp2_with fail
            exact ⟨⟨HB5, i + 1, c + 1, m + 9, _, x, uz - 1, r, ws', by omega, by omega, by omega, by omega, by omega, by omega, by go_num, rfl, by go_num, Lib.hid (fun h => absurd h (by decide)), HA', HD5, HT6⟩, by simp [intOf]; omega⟩
          · (try rw [show ((3 : Nat) : Int) = 3 from rfl])
            obtain ⟨y, r, hlr⟩ : ∃ y r, l = y :: r := by
              cases l with
              | nil => exact absurd rfl hl0
              | cons y r => exact ⟨y, r, rfl⟩
            subst hlr
            obtain ⟨ws', hA', hcall⟩ := run_popF HAL.out HBL.out HD.out (by omega) y r (by rw [if_pos rfl]; exact HA.out) (by omega)
            have HCALL := Lib.hid hcall
            have HA' := Lib.hid hA'
            have hrl : ll = r.length + 1 := by rw [HLL.out]; rfl
            have HRL := Lib.hid hrl
            clear hA' hcall HA hl0 HB2 hrl
            go_wp2_with fail
            refine HCALL.out.mono ?_
            rintro e w4 ⟨o, rfl, hrun⟩
            have HRUN := Lib.hid hrun
            clear hrun HCALL HD d0 d1 d2
            go_wp2_with fail
            refine HRUN.out.mono ?_
            rintro e w5 ⟨rfl, hDW5, hF5⟩
            have HD5 := Lib.hid hDW5
            have HT5 := Lib.hid (HT.out.run hBp hBs hF5)
            have HB5 : Hid (B ≤ w5.heap.size) := Lib.hid (Nat.le_trans HBZ.out hF5.size)
            clear hDW5 hF5 HRUN
            obtain ⟨z, hzl⟩ : ∃ z, (y :: r)[ll - 1]? = some z := ⟨_, List.getElem?_eq_getElem (by rw [List.length_cons, HRL.out]; omega)⟩
            obtain ⟨-, g, off2, hA2, hc1⟩ := HT5.out.cell hzl
            obtain ⟨-, g', off', hA3, hc0⟩ := HT5.out.cell (j := 0) (z := y) rfl
            subst hA2
            injection hA3 with hA3
            injection hA3 with hA3 hA4
            subst hA3 hA4
            obtain ⟨A', hsl, hT6⟩ := HT5.out.tail
            have HT6 := Lib.hid hT6
            have yy : (y != y) = false := by simp
            have cc1 : w5.cell? ⟨g, off2 + (ll - 1), none⟩ = some (.int .i64 z) := hc1
            have cc0 : w5.cell? ⟨g, off2, none⟩ = some (.int .i64 y) := by rw [← Nat.add_zero off2]; exact hc0
            obtain ⟨l1, hl1⟩ : ∃ l1, ll = l1 + 1 := ⟨ll - 1, by omega⟩
            subst hl1
            rw [Nat.add_sub_cancel] at cc1 hsl HT6
            have HR1 : Hid (r.length = l1) := Lib.hid (by have := HRL.out; omega)
            clear hc0 hc1 hT6 hzl HT5 HRL HLL q0 q00
            have q5 : (((l1 + 1 : Nat) : Int) == 0) = false := by simp; omega
            rw [show ((l1 + 1 : Nat) : Int) = (l1 : Int) + 1 by omega] at *
            go_wp2_with fail
            exact ⟨⟨HB5, i + 1, c + 1, m + 9, _, x, uz, r, ws', by omega, by omega, by omega, by omega, by omega, by omega, rfl, rfl, by go_num, Lib.hid (fun h => absurd h (by decide)), HA', HD5, HT6⟩, by simp [intOf]; omega⟩
      · (try rw [show ((2 : Nat) : Int) = 2 from rfl] at ew)
        obtain ⟨d0, d1, d2⟩ := HD.out.cells
        have HKP : Hid (Calls Try.prog 20 #[.agg #[.int .i64 (k : Int), .int .i64 0, .int .i64 (n : Int)]] wr fun e w' => e = .returned (.pointer (some ⟨wr.heap.size + 2, 0, none⟩)) ∧ OpAt w' (wr.heap.size + 2) (op0 k (0 : Nat) n "haymow/deque.pop" ty true 0 (wr.heap.size + 2)) ∧ Fr (fun _ => False) wr w') := Lib.hid (HAL.out.kpop wr 0 n)
        go_wp2_with fail
        refine HKP.out.mono ?_
        rintro e wq ⟨rfl, -, hFq⟩
        have HDq := Lib.hid (HD.out.f0 hFq)
        have HTq := Lib.hid (HT.out.fr hFq (fun _ _ _ _ h => h))
        have HBq : Hid (B ≤ wq.heap.size) := Lib.hid (Nat.le_trans HBZ.out hFq.size)
        clear hFq HD HT HBZ HKP d0 d1 d2
        have HD := HDq
        have HT := HTq
        have HBZ := HBq
        clear HDq HTq HBq
        obtain ⟨d0, d1, d2⟩ := HD.out.cells
        by_cases hl0 : l = []
        · have hA0 := HA.out
          rw [hl0] at hA0
          have HCALL := Lib.hid (run_stealEF HAL.out HD.out (by omega) hA0 (by omega))
          obtain rfl : ll = 0 := by rw [HLL.out, hl0]; rfl
          have HT0 : Hid (Ths wq B (.slice A 0 cap) []) := by rw [← hl0]; exact HT
          have HA' := Lib.hid hA0
          clear hA0 HA hl0 HLL HB2 HT
          go_wp2_with fail
          refine HCALL.out.mono ?_
          rintro e w4 ⟨o, rfl, hrun⟩
          have HRUN := Lib.hid hrun
          clear hrun HCALL HD d0 d1 d2
          go_wp2_with fail
          refine HRUN.out.mono ?_
          rintro e w5 ⟨rfl, hDW5, hF5⟩
          have HD5 := Lib.hid hDW5
          have HT5 := Lib.hid (HT0.out.run hBp hBs hF5)
          have HB5 : Hid (B ≤ w5.heap.size) := Lib.hid (Nat.le_trans HBZ.out hF5.size)
          clear hDW5 hF5 HRUN
          (try rw [show ((0 : Nat) : Int) = 0 from rfl])
          go_wp2_with fail
          exact ⟨⟨HB5, i + 1, c, m + 9, u, x, uz, [], ws, by omega, by omega, by omega, by omega, by omega, by omega, rfl, rfl, by go_num, HU, HA', HD5, HT5⟩, by simp [intOf]; omega⟩
        · have hll1 : 1 ≤ ll := by
            have := HLL.out
            have := List.length_pos_iff.2 hl0
            omega
          have q0 : ((ll : Int) == 0) = false := by simp; omega
          have q00 : (ll == 0) = false := by simp; omega
          have hkc : k = 1 ∨ k = 2 ∨ k = 3 := by omega
          rcases hkc with hkv | hkv | hkv
          · have HKV := Lib.hid hkv
            have kb1 : ((k : Int) == 1) = true := by simp; omega
            have kb3 : ((k : Int) == 3) = false := by simp; omega
            clear hkv
            obtain ⟨y, r, hlr⟩ : ∃ y r, l = y :: r := by
              cases l with
              | nil => exact absurd rfl hl0
              | cons y r => exact ⟨y, r, rfl⟩
            subst hlr
            obtain ⟨ws', hA', hcall⟩ := run_stealF HAL.out HD.out (by omega) y r (by rw [if_neg (by have : k = 1 := HKV.out; omega)]; exact HA.out) (by omega)
            have HCALL := Lib.hid hcall
            have HA' := Lib.hid hA'
            have hrl : ll = r.length + 1 := by rw [HLL.out]; rfl
            have HRL := Lib.hid hrl
            clear hA' hcall HA hl0 HB2 hrl
            go_wp2_with fail
            refine HCALL.out.mono ?_
            rintro e w4 ⟨o, rfl, hrun⟩
            have HRUN := Lib.hid hrun
            clear hrun HCALL HD d0 d1 d2
            go_wp2_with fail
            refine HRUN.out.mono ?_
            rintro e w5 ⟨rfl, hDW5, hF5⟩
            have HD5 := Lib.hid hDW5
            have HT5 := Lib.hid (HT.out.run hBp hBs hF5)
            have HB5 : Hid (B ≤ w5.heap.size) := Lib.hid (Nat.le_trans HBZ.out hF5.size)
            clear hDW5 hF5 HRUN
            obtain ⟨z, hzl⟩ : ∃ z, (y :: r)[ll - 1]? = some z := ⟨_, List.getElem?_eq_getElem (by rw [List.length_cons, HRL.out]; omega)⟩
            obtain ⟨-, g, off2, hA2, hc1⟩ := HT5.out.cell hzl
            obtain ⟨-, g', off', hA3, hc0⟩ := HT5.out.cell (j := 0) (z := y) rfl
            subst hA2
            injection hA3 with hA3
            injection hA3 with hA3 hA4
            subst hA3 hA4
            obtain ⟨A', hsl, hT6⟩ := HT5.out.tail
            have HT6 := Lib.hid hT6
            have yy : (y != y) = false := by simp
            have cc1 : w5.cell? ⟨g, off2 + (ll - 1), none⟩ = some (.int .i64 z) := hc1
            have cc0 : w5.cell? ⟨g, off2, none⟩ = some (.int .i64 y) := by rw [← Nat.add_zero off2]; exact hc0
            obtain ⟨l1, hl1⟩ : ∃ l1, ll = l1 + 1 := ⟨ll - 1, by omega⟩
            subst hl1
            rw [Nat.add_sub_cancel] at cc1 hsl HT6
            have HR1 : Hid (r.length = l1) := Lib.hid (by have := HRL.out; omega)
            clear hc0 hc1 hT6 hzl HT5 HRL HLL q0 q00
            have q5 : (((l1 + 1 : Nat) : Int) == 0) = false := by simp; omega
            rw [show ((l1 + 1 : Nat) : Int) = (l1 : Int) + 1 by omega] at *
            go_wp2_with fail
            exact ⟨⟨HB5, i + 1, c + 1, m + 9, u, x, uz, r, ws', by omega, by omega, by omega, by omega, by omega, by omega, rfl, rfl, by go_num, HU, HA', HD5, HT6⟩, by simp [intOf]; omega⟩
          · have HKV := Lib.hid hkv
            have kb1 : ((k : Int) == 1) = false := by simp; omega
            have kb3 : ((k : Int) == 3) = false := by simp; omega
            clear hkv
            obtain ⟨r, y, hlr⟩ : ∃ r y, l = r ++ [y] := ⟨l.dropLast, l.getLast hl0, (List.dropLast_concat_getLast hl0).symm⟩
            subst hlr
            obtain ⟨ws', hA', hcall⟩ := run_stealF HAL.out HD.out (by omega) y r (by rw [if_pos HKV.out]; exact HA.out) (by omega)
            have HCALL := Lib.hid hcall
            have HA' := Lib.hid hA'
            have hrl : ll = r.length + 1 := by rw [HLL.out, List.length_append]; rfl
            have HRL := Lib.hid hrl
            have HB3 : Hid (k = 1 → (u : Int) = uz) := Lib.hid (fun h => (HU.out h).symm)
            have hul : Hid (k = 1 → r.length + 1 ≤ u) := Lib.hid (fun h => by have := (HB2.out h).1; omega)
            clear hA' hcall HA hl0 HB2 hrl
            go_wp2_with fail
            refine HCALL.out.mono ?_
            rintro e w4 ⟨o, rfl, hrun⟩
            have HRUN := Lib.hid hrun
            clear hrun HCALL HD d0 d1 d2
            go_wp2_with fail
            refine HRUN.out.mono ?_
            rintro e w5 ⟨rfl, hDW5, hF5⟩
            have HD5 := Lib.hid hDW5
            have HT5 := Lib.hid (HT.out.run hBp hBs hF5)
            have HB5 : Hid (B ≤ w5.heap.size) := Lib.hid (Nat.le_trans HBZ.out hF5.size)
            clear hDW5 hF5 HRUN
            obtain ⟨-, g, off2, hA2, hc1⟩ := HT5.out.cell (j := r.length) (z := y) (by simp)
            obtain ⟨l1, hl1⟩ : ∃ l1, ll = l1 + 1 := ⟨ll - 1, by omega⟩
            have hr1 : r.length = l1 := by have := HRL.out; omega
            subst hl1
            rw [hr1] at hc1
            obtain ⟨hsl, hT6⟩ := HT5.out.init
            rw [hr1] at hsl hT6
            have HT6 := Lib.hid hT6
            have HR1 := Lib.hid hr1
            have yy : (y != y) = false := by simp
            subst hA2
            clear hT6 HT5 HRL HLL q0 q00 hr1
            have q5 : (((l1 + 1 : Nat) : Int) == 0) = false := by simp; omega
            rw [show ((l1 + 1 : Nat) : Int) = (l1 : Int) + 1 by omega] at *
            go_wp2_with fail
            exact ⟨⟨HB5, i + 1, c + 1, m + 9, _, x, uz - 1, r, ws', by omega, by omega, by omega, by omega, by omega, by omega, by go_num, rfl, by go_num, Lib.hid (fun h => absurd h (by have : k = 2 := HKV.out; omega)), HA', HD5, HT6⟩, by simp [intOf]; omega⟩
          · have HKV := Lib.hid hkv
            have kb1 : ((k : Int) == 1) = false := by simp; omega
            have kb3 : ((k : Int) == 3) = true := by simp; omega
            clear hkv
            obtain ⟨y, r, hlr⟩ : ∃ y r, l = y :: r := by
              cases l with
              | nil => exact absurd rfl hl0
              | cons y r => exact ⟨y, r, rfl⟩
            subst hlr
            obtain ⟨ws', hA', hcall⟩ := run_stealF HAL.out HD.out (by omega) y r (by rw [if_neg (by have : k = 3 := HKV.out; omega)]; exact HA.out) (by omega)
            have HCALL := Lib.hid hcall
            have HA' := Lib.hid hA'
            have hrl : ll = r.length + 1 := by rw [HLL.out]; rfl
            have HRL := Lib.hid hrl
            clear hA' hcall HA hl0 HB2 hrl
            go_wp2_with fail
            refine HCALL.out.mono ?_
            rintro e w4 ⟨o, rfl, hrun⟩
            have HRUN := Lib.hid hrun
            clear hrun HCALL HD d0 d1 d2
            go_wp2_with fail
            refine HRUN.out.mono ?_
            rintro e w5 ⟨rfl, hDW5, hF5⟩
            have HD5 := Lib.hid hDW5
            have HT5 := Lib.hid (HT.out.run hBp hBs hF5)
            have HB5 : Hid (B ≤ w5.heap.size) := Lib.hid (Nat.le_trans HBZ.out hF5.size)
            clear hDW5 hF5 HRUN
            obtain ⟨z, hzl⟩ : ∃ z, (y :: r)[ll - 1]? = some z := ⟨_, List.getElem?_eq_getElem (by rw [List.length_cons, HRL.out]; omega)⟩
            obtain ⟨-, g, off2, hA2, hc1⟩ := HT5.out.cell hzl
            obtain ⟨-, g', off', hA3, hc0⟩ := HT5.out.cell (j := 0) (z := y) rfl
            subst hA2
            injection hA3 with hA3
            injection hA3 with hA3 hA4
            subst hA3 hA4
            obtain ⟨A', hsl, hT6⟩ := HT5.out.tail
            have HT6 := Lib.hid hT6
            have yy : (y != y) = false := by simp
            have cc1 : w5.cell? ⟨g, off2 + (ll - 1), none⟩ = some (.int .i64 z) := hc1
            have cc0 : w5.cell? ⟨g, off2, none⟩ = some (.int .i64 y) := by rw [← Nat.add_zero off2]; exact hc0
            obtain ⟨l1, hl1⟩ : ∃ l1, ll = l1 + 1 := ⟨ll - 1, by omega⟩
            subst hl1
            rw [Nat.add_sub_cancel] at cc1 hsl HT6
            have HR1 : Hid (r.length = l1) := Lib.hid (by have := HRL.out; omega)
            clear hc0 hc1 hT6 hzl HT5 HRL HLL q0 q00
            have q5 : (((l1 + 1 : Nat) : Int) == 0) = false := by simp; omega
            rw [show ((l1 + 1 : Nat) : Int) = (l1 : Int) + 1 by omega] at *
            go_wp2_with fail
            exact ⟨⟨HB5, i + 1, c + 1, m + 9, u, x, uz, r, ws', by omega, by omega, by omega, by omega, by omega, by omega, rfl, rfl, by go_num, HU, HA', HD5, HT6⟩, by simp [intOf]; omega⟩
    · obtain rfl : i = len2 := by omega
      have g1 : ¬ (i : Int) < (i : Int) := by omega
      go_wp2_with fail
      refine (awake_any _).mono ?_
      rintro e w8 ⟨rfl, hF8⟩
      have HF8 := Lib.hid (HD.out.fr.trans hF8)
      clear hF8
      go_wp2_with fail
      go_ret
      exact ⟨rfl, HF8.out⟩
theorem walk (x : Int) (hx : (Lit.int .u8 x).wf = true) (y : Int) (hy : (Lit.int .u8 y).wf = true) (a2 : Option Addr) (len2 cap2 : Nat) (z2 : List Int) {W0 : World} (w2 : IsRow .u8 W0 a2 len2 cap2 z2) (w : World) (hw : w = W0) :
    Calls Try.prog 6 #[.int .u8 x, .int .u8 y, .slice a2 len2 cap2] w fun e w' => e = .returned (.bool true) ∧ Below w.heap.size w w' := by
  subst hw
  have b1 := bounds_u8 hx
  have b2 := bounds_u8 hy
  obtain ⟨a, rfl⟩ : ∃ a : Nat, x = a := ⟨x.toNat, by omega⟩
  obtain ⟨b, rfl⟩ : ∃ b : Nat, y = b := ⟨y.toNat, by omega⟩
  by_cases h : 100 < len2
  · exact (long a b a2 len2 cap2 h w).mono fun _ _ ⟨he, hf⟩ => ⟨he, hf.below (Nat.le_refl _) (fun _ h => h.elim)⟩
  · exact (few a b (by omega) (by omega) a2 len2 cap2 z2 w w2 (by omega)).mono fun _ _ ⟨he, hf⟩ => ⟨he, hf.below (Nat.le_refl _) (fun _ h => h.elim)⟩

/-! ### The row's step -/
theorem own : ownKnob Try.prog.godebug = none := by kernel_rfl
theorem laidOut : laidOutB Try.prog = true := by kernel_rfl

set_option maxRecDepth 100000 in
theorem lifted (os : Os) (started : os.Started) (H : Type) (enc : TypeId × Value → H) :
    ReturnsInHanded {} Try.checked os 6 .any (Rows.dequeAloneSpec.pre6 enc Try.prog Try.f6 Rows.dequeAloneRow.domain false) (Rows.dequeAloneSpec.post enc Try.prog Try.f6 false true false false) := by
  refine returnsInHanded_of_change (C := Try.checked) own started (by kernel_rfl) Try.func6
    (ChangeSpec.witness6 (enc := enc) (C := Try.checked) false ⟨#[], #[.int .u8 0, .int .u8 0, .slice none 0 0], []⟩ 8 (by kernel_rfl) (by kernel_rfl) (by kernel_rfl) (by kernel_rfl)) ?_
  intro W base args ds gs before hval0 hW hcnd _
  have hval : ∀ (j : Nat) t v, Try.f6.params[j]? = some t → args[j]? = some v → Value.okWide Try.prog W .any base t v := hval0
  have hW' := hW
  obtain ⟨p, q, hA0, hV, rfl, hfz, hnd⟩ := hW
  have hA : DataW.TrodAll enc Try.prog W 0 (fun _ => true) true Try.f6.params.toList args.toList ds p := hA0
  rw [Try.params6] at hA hval
  obtain ⟨v0, vs0, d0, ds0, p0, q0, hargs, rfl, rfl, h0, r0⟩ := trodAll_cons hA
  obtain ⟨v1, vs1, d1, ds1, p1, q1, rfl, rfl, rfl, h1, r1⟩ := trodAll_cons r0
  obtain ⟨v2, vs2, d2, ds2, p2, q2, rfl, rfl, rfl, h2, r2⟩ := trodAll_cons r1
  obtain ⟨rfl, rfl, rfl⟩ := trodAll_nil r2
  obtain rfl : args = #[v0, v1, v2] := by cases args; simp_all
  obtain ⟨rfl, rfl⟩ := trodVars_none hV
  obtain ⟨a0, rfl, rfl, rfl, w0⟩ := open_int Try.underlying5 (hval 0 5 v0 rfl rfl) h0
  obtain ⟨a1, rfl, rfl, rfl, w1⟩ := open_int Try.underlying5 (hval 1 5 v1 rfl rfl) h1
  obtain ⟨a2, len2, cap2, rfl⟩ := okWide_slice Try.underlying51 (hval 2 51 v2 rfl rfl)
  have k2 := h2
  have lt2 : ∀ x ∈ p2, x.block < W.heap.size := by obtain ⟨m, hm⟩ := k2; exact DataW.trod_lt m _ _ _ hm
  obtain ⟨z2, w2⟩ : ∃ zs, IsRow .u8 W a2 len2 cap2 zs := by
    obtain ⟨fuel, hf⟩ := h2
    rcases open_ints Try.underlying51 Try.underlying5 (by kernel_rfl) hf with ⟨hcs, _⟩ | ⟨x, l, c, zs, hcs, _, hl, hm, hz, _, hcell, hwz⟩
    · simp [Value.cells] at hcs
      obtain ⟨rfl, rfl, rfl⟩ := hcs
      exact ⟨[], .inl ⟨rfl, rfl, rfl, rfl⟩⟩
    · simp [Value.cells] at hcs
      obtain ⟨rfl, rfl, rfl⟩ := hcs
      exact ⟨zs, .inr ⟨_, rfl, hl, hm, by simpa using hz, hcell, hwz⟩⟩
  clear hA0 hval0
  refine (walk a0 w0 a1 w1 a2 len2 cap2 z2 w2 W rfl).mono fun e W' ⟨he, bel⟩ => ?_
  subst he
  exact ⟨_, rfl, _, _, _, [], _, [], hW', trodAll_mk1 (shut_bool Try.underlying4 _), (trodAll_cons_mk (shut_int Try.underlying5 w0) (trodAll_cons_mk (shut_int Try.underlying5 w1) (trodAll_cons_mk (Below.trod laidOut (by kernel_rfl) (of_decide_eq_true (by kernel_rfl)) k2 bel lt2) trodAll_mk0))), rfl, bel.frame _, fun h => by cases h⟩

theorem over : Rows.dequeAloneRow.holds Try.pinned (OpenSpec.ofChange Rows.dequeAloneSpec) :=
  OpenClaim.holds_of_wide 6 Try.f6 rfl rfl rfl rfl rfl rfl rfl ⟨rfl, rfl, rfl, rfl, rfl⟩ rfl rfl rfl rfl rfl (by kernel_rfl) Try.func6 (by kernel_rfl)
    (of_decide_eq_true (by kernel_rfl)) (by unfold Func.isWrapper; first | (rw [if_pos (by decide +kernel)]; kernel_rfl) | (rw [if_neg (by decide +kernel)]; exact ⟨rfl, rfl⟩))
    (fun os started H enc _ => lifted os started H enc)

/-- The statement. -/
theorem proved : Rows.DequeAloneSaid := over
#print axioms proved
end Go.Proofs.Ytfcboacmailfiaa.dequeAlone
