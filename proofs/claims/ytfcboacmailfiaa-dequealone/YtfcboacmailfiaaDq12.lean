/-
  The chapter's example (awake) holds.
-/
import Derived.Test.YtfcboacmailfiaaDq11
namespace Go.Proofs.Ytfcboacmailfiaa
open Go.RowKit

def PushK (k : Nat) (ty : TypeId) : Prop := ∀ (w : World) (base room : Nat) (x : Int), Calls Try.prog 19 #[.agg #[.int .i64 k, .int .i64 base, .int .i64 room], .int .i64 x] w fun e w' => e = .returned (.pointer (some ⟨w.heap.size + 2, 0, none⟩)) ∧ OpAt w' (w.heap.size + 2) (op0 k base room "haymow/deque.push" ty false x (w.heap.size + 2)) ∧ Fr (fun _ => False) w w'
def PopK (k : Nat) (ty : TypeId) : Prop := ∀ (w : World) (base room : Nat), Calls Try.prog 20 #[.agg #[.int .i64 k, .int .i64 base, .int .i64 room]] w fun e w' => e = .returned (.pointer (some ⟨w.heap.size + 2, 0, none⟩)) ∧ OpAt w' (w.heap.size + 2) (op0 k base room "haymow/deque.pop" ty true 0 (w.heap.size + 2)) ∧ Fr (fun _ => False) w w'

/-- The example's words: six that are live, four that are not. -/
def six (a b c d e f : Int) : List (Bool × Int) := [(true, a), (true, b), (true, c), (true, d), (true, e), (true, f), (false, 0), (false, 0), (false, 0), (false, 0)]
/-- What the example's operations come to. -/
structure Exa (k : Nat) (ty : TypeId) (g : Nat → List (Bool × Int)) (z : Int) : Prop where
  push : PushK k ty
  pop : PopK k ty
  zero : g 0 = six 0 0 0 0 0 0
  chs : ∀ c : Nat, c < 2 → ∃ n v', n ≤ 9 ∧ Chain n (op0 k 0 4 "haymow/deque.push" ty false (5 + (c : Int))) (g c) v' (g (c + 1))
  chp : ∃ n v' ws', n ≤ 9 ∧ Chain n (op0 k 0 4 "haymow/deque.pop" ty true 0) (g 2) v' ws' ∧ ∀ o, endR (v' o) = (z, 0)

theorem exa1 : Exa 1 94 (fun c => match c with | 0 => six 0 0 0 0 0 0 | 1 => six 1 0 5 0 0 0 | _ => six 2 0 5 6 0 0) 6 := by
  refine ⟨fun w base room x => ex_Push w base room x, fun w base room => ex_Pop w base room, rfl, fun c hc => ?_, ?_⟩
  · have : c = 0 ∨ c = 1 := by omega
    rcases this with rfl | rfl
    · obtain ⟨v', h, _⟩ := ex_push_chain 0 4 (by decide) (six 0 0 0 0 0 0) 5 0 (by decide) (by decide) 0 rfl rfl
      exact ⟨3, v', by decide, h⟩
    · obtain ⟨v', h, _⟩ := ex_push_chain 0 4 (by decide) (six 1 0 5 0 0 0) 6 1 (by decide) (by decide) 0 rfl rfl
      exact ⟨3, v', by decide, h⟩
  · obtain ⟨v', h, hr⟩ := ex_pop_chain 0 4 (by decide) (six 2 0 5 6 0 0) 1 (by decide) 6 rfl rfl 0 0 (by decide) rfl rfl (by decide)
    exact ⟨4, v', _, by decide, h, hr⟩
theorem exa2 : Exa 2 95 (fun c => match c with | 0 => six 0 0 0 0 0 0 | 1 => six 0 65537 5 0 0 0 | _ => six 0 131074 5 6 0 0) 6 := by
  refine ⟨fun w base room x => la_Push w base room x, fun w base room => la_Pop w base room, rfl, fun c hc => ?_, ?_⟩
  · have : c = 0 ∨ c = 1 := by omega
    rcases this with rfl | rfl
    · obtain ⟨v', h, _⟩ := la_push_chain 0 4 (by decide) (six 0 0 0 0 0 0) 5 0 0 (by decide) rfl rfl (by decide) 0 rfl 65537 rfl
      exact ⟨3, v', by decide, h⟩
    · obtain ⟨v', h, _⟩ := la_push_chain 0 4 (by decide) (six 0 65537 5 0 0 0) 6 65537 1 (by decide) rfl rfl (by decide) 0 rfl 131074 rfl
      exact ⟨3, v', by decide, h⟩
  · obtain ⟨v', h, hr⟩ := la_pop_chain 0 4 (by decide) (six 0 131074 5 6 0 0) 131074 2 (by decide) rfl rfl 1 rfl 6 rfl
    exact ⟨3, v', _, by decide, h, hr⟩
theorem exa3 : Exa 3 96 (fun c => match c with | 0 => six 0 0 0 0 0 0 | 1 => six 1 0 5 0 0 0 | _ => six 2 0 5 6 0 0) 5 := by
  refine ⟨fun w base room x => fi_Push w base room x, fun w base room => fi_Pop w base room, rfl, fun c hc => ?_, ?_⟩
  · have : c = 0 ∨ c = 1 := by omega
    rcases this with rfl | rfl
    · obtain ⟨v', h, _⟩ := fi_push_chain 0 4 (by decide) (six 0 0 0 0 0 0) 5 (by decide) (by decide) 0 (by decide) rfl 0 (by decide) rfl (by decide) 0 rfl 0 rfl
      exact ⟨4, v', by decide, h⟩
    · obtain ⟨v', h, _⟩ := fi_push_chain 0 4 (by decide) (six 1 0 5 0 0 0) 6 (by decide) (by decide) 0 (by decide) rfl 1 (by decide) rfl (by decide) 1 rfl 0 rfl
      exact ⟨4, v', by decide, h⟩
  · obtain ⟨v', h, hr⟩ := fi_pop_chain 0 4 (by decide) (six 2 0 5 6 0 0) (by decide) (by decide) 0 (by decide) rfl 2 (by decide) rfl (by decide) 0 rfl 5 rfl
    exact ⟨4, v', _, by decide, h, hr⟩
theorem exa (k : Nat) (h1 : 1 ≤ k) (h3 : k ≤ 3) : ∃ ty g, Exa k ty g (if k = 3 then 5 else 6) := by
  have : k = 1 ∨ k = 2 ∨ k = 3 := by omega
  rcases this with rfl | rfl | rfl
  · exact ⟨_, _, exa1⟩
  · exact ⟨_, _, exa2⟩
  · exact ⟨_, _, exa3⟩

theorem chain_pos {n : Nat} {v : Nat → OpV} {ws : List (Bool × Int)} {v' : Nat → OpV} {ws' : List (Bool × Int)} (h : Chain n v ws v' ws') : 0 < n := by
  cases h <;> omega

set_option maxHeartbeats 16000000 in
set_option maxRecDepth 100000 in
theorem awake_any (w : World) : Calls Try.prog 13 #[] w fun e w' => e = .returned (.bool true) ∧ Fr (fun _ => False) w w' := by
  go_enter Try.func13, Try.ntmps13
  go_wp2_with fail
  go_loopw [1] (fun kv wx => ∃ k : Nat, 1 ≤ k ∧ k ≤ 4 ∧ kv = .int .i64 k ∧ Hid (Fr (fun _ => False) w wx)) (fun kv _ => 4 - (intOf kv).toNat)
  case atStart => exact ⟨1, by omega, by omega, rfl, Lib.hid (Fr.refl _ _)⟩
  case round =>
    obtain ⟨k, hk1, hk4, rfl, HF⟩ := hrel
    obtain ⟨wk, hwk⟩ : ∃ wk, wk = wr := ⟨_, rfl⟩
    subst hwk
    by_cases hk3 : k ≤ 3
    · obtain ⟨ty, g, hex⟩ := exa k hk1 hk3
      have HEX := Lib.hid hex
      have hki : (k : Int) ≤ 3 := by omega
      clear hex
      go_wp2_with fail
      refine (new_any 10 (by decide) _).mono ?_
      rintro e w1 ⟨rfl, rfl⟩
      have hM0 : MI ((wk.alloc (.cells (wcells (List.replicate 10 (false, 0))).toArray 91)).alloc (.cells #[.slice (some ⟨wk.heap.size, 0, none⟩) 10 10, .int .i64 0] 72)) (wk.heap.size + 1) wk.heap.size (List.replicate 10 (false, 0)) 0 := by
        have b1 := (Blk.new wk 91 (wcells (List.replicate 10 (false, 0))).toArray).alloc (.cells #[.slice (some ⟨wk.heap.size, 0, none⟩) 10 10, .int .i64 0] 72)
        have b2 := Blk.new (wk.alloc (.cells (wcells (List.replicate 10 (false, 0))).toArray 91)) 72 #[.slice (some ⟨wk.heap.size, 0, none⟩) 10 10, .int .i64 0]
        rw [show (wk.alloc (.cells (wcells (List.replicate 10 (false, 0))).toArray 91)).heap.size = wk.heap.size + 1 by simp] at b2
        exact ⟨0, ⟨b2, b1⟩, by omega, by omega⟩
      have hFa : Fr (fun _ => False) wk ((wk.alloc (.cells (wcells (List.replicate 10 (false, 0))).toArray 91)).alloc (.cells #[.slice (some ⟨wk.heap.size, 0, none⟩) 10 10, .int .i64 0] 72)) := ((Fr.refl _ _).alloc _).alloc _
      have hnew := New_yes _ _ _ _ 0 hM0 (by decide) (k : Int) 0 4 (by omega) (by decide) (by decide) (by decide) rfl
      have HNEW := Lib.hid hnew
      have HFA := Lib.hid (HF.out.trans hFa)
      have hww := HF.out.size
      clear hM0 hFa hnew
      generalize (wk.alloc (.cells (wcells (List.replicate 10 (false, 0))).toArray 91)).alloc (.cells #[.slice (some ⟨wk.heap.size, 0, none⟩) 10 10, .int .i64 0] 72) = w1 at *
      go_wp2_with fail
      refine HNEW.out.mono ?_
      rintro e w2 ⟨rfl, hM2, hF2⟩
      obtain ⟨p, hp⟩ : ∃ p, p = wk.heap.size + 1 := ⟨_, rfl⟩
      obtain ⟨s, hs⟩ : ∃ s, s = wk.heap.size := ⟨_, rfl⟩
      rw [← hs] at hM2 hF2 ⊢
      rw [← hs] at hp
      rw [← hp] at hM2 hF2 ⊢
      have hsw : w.heap.size ≤ s := by omega
      have hpw : w.heap.size ≤ p := by omega
      clear hs hp
      have HM2 := Lib.hid hM2
      have HF2 := Lib.hid (Fr.then HFA.out hF2 (fun i hi => by rcases hi with rfl | rfl <;> exact .inr (by omega)))
      clear hM2 hF2 HNEW HFA
      have hD := Blk.new w2 36 #[.int .i64 (k : Int), .int .i64 0, .int .i64 4]
      have hFD : Fr (fun _ => False) w2 (w2.alloc (.cells #[.int .i64 (k : Int), .int .i64 0, .int .i64 4] 36)) := (Fr.refl _ _).alloc _
      have HD := Lib.hid hD
      have HFD := Lib.hid hFD
      clear hD hFD
      go_wp2_with fail
      go_loopw [6] (fun xv wx => ∃ c : Nat, c ≤ 2 ∧ xv = .int .i64 (5 + (c : Int)) ∧ Hid (Blk wx w2.heap.size 36 #[.int .i64 (k : Int), .int .i64 0, .int .i64 4]) ∧ Hid (MI wx p s (g c) (9 * c)) ∧ Hid (Fr (fun _ => False) w wx)) (fun xv _ => 7 - (intOf xv).toNat)
      case atStart => exact ⟨0, by omega, rfl, HD, Lib.hid (by rw [HEX.out.zero]; exact HM2.out.fr HFD.out (fun h => h) (fun h => h)), Lib.hid (HF2.out.trans HFD.out)⟩
      case round =>
        obtain ⟨c, hc2, rfl, HD1, HM1, HF1⟩ := hrel
        obtain ⟨wx, hwx⟩ : ∃ wx, wx = wr := ⟨_, rfl⟩
        subst hwx
        have e0 : wx.cell? ⟨w2.heap.size, 0, none⟩ = some (.int .i64 (k : Int)) := by rw [HD1.out.cell]; rfl
        have e1 : wx.cell? ⟨w2.heap.size, 1, none⟩ = some (.int .i64 0) := by rw [HD1.out.cell]; rfl
        have e2 : wx.cell? ⟨w2.heap.size, 2, none⟩ = some (.int .i64 4) := by rw [HD1.out.cell]; rfl
        by_cases hc : c < 2
        · have hxi : 5 + (c : Int) ≤ 6 := by omega
          obtain ⟨n, v', hn9, hch⟩ := HEX.out.chs c hc
          have HCH := Lib.hid hch
          have HPS : Hid (Calls Try.prog 19 #[.agg #[.int .i64 (k : Int), .int .i64 0, .int .i64 4], .int .i64 (5 + (c : Int))] wx fun e w' => e = .returned (.pointer (some ⟨wx.heap.size + 2, 0, none⟩)) ∧ OpAt w' (wx.heap.size + 2) (op0 k (0 : Nat) (4 : Nat) "haymow/deque.push" ty false (5 + (c : Int)) (wx.heap.size + 2)) ∧ Fr (fun _ => False) wx w') := Lib.hid (HEX.out.push wx 0 4 (5 + (c : Int)))
          clear hch
          go_wp2_with fail
          refine HPS.out.mono ?_
          rintro e w3 ⟨rfl, hO3, hF3⟩
          have hwx2 := HF1.out.size
          obtain ⟨o, ho⟩ : ∃ o, o = wx.heap.size + 2 := ⟨_, rfl⟩
          rw [← ho] at hO3 ⊢
          have how : w.heap.size ≤ o := by omega
          have HO3 := Lib.hid hO3
          have HM3 := Lib.hid (HM1.out.fr hF3 (fun h => h) (fun h => h))
          have HD3 := Lib.hid (HD1.out.fr hF3 (fun h => h))
          have HF3 := Lib.hid (HF1.out.trans hF3)
          have HHO := Lib.hid ho
          clear hO3 hF3 HPS e0 e1 e2 ho
          go_wp2_with fail
          go_loopw [8] (fun iv wy => ∃ (a m : Nat) (v1 : Nat → OpV) (ws1 : List (Bool × Int)), a + m = n ∧ iv = .int .i64 a ∧ Hid (Chain m v1 ws1 v' (g (c + 1))) ∧ Hid (OpAt wy o (v1 o)) ∧ Hid (MI wy p s ws1 (9 * c + a)) ∧ Hid (Blk wy w2.heap.size 36 #[.int .i64 (k : Int), .int .i64 0, .int .i64 4]) ∧ Hid (Fr (fun _ => False) w wy)) (fun iv _ => 9 - (intOf iv).toNat)
          case atStart => exact ⟨0, n, _, _, by omega, rfl, HCH, HO3, HM3, HD3, HF3⟩
          case round =>
            obtain ⟨a, m, v1, ws1, ham, rfl, HC1, HO4, HM4, HD4, HF4⟩ := hrel
            have hpos := chain_pos HC1.out
            have hai : (a : Int) < 9 := by omega
            have had : decide ((a : Int) < 9) = true := decide_eq_true hai
            have ha9 : a < 9 := by omega
            have had2 : decide (a < 9) = true := decide_eq_true ha9
            obtain ⟨en, v2, ws2, hmv, hnx⟩ : ∃ (en : Bool) (v2 : Nat → OpV) (ws2 : List (Bool × Int)), MoveOK v1 ws1 v2 ws2 en ∧ ((en = true ∧ m = 1 ∧ ws2 = g (c + 1)) ∨ (en = false ∧ ∃ m', m = m' + 1 ∧ Chain m' v2 ws2 v' (g (c + 1)))) := by
              cases HC1.out with
              | last h => exact ⟨true, _, _, h, .inl ⟨rfl, rfl, rfl⟩⟩
              | more h hc' => exact ⟨false, _, _, h, .inr ⟨rfl, _, rfl, hc'⟩⟩
            have HMV := Lib.hid (hmv wr o p s (9 * c + a) HO4.out HM4.out (by omega))
            clear hmv
            have hDne : ∀ k', Thr o p s k' → w.heap.size ≤ k' := fun k' h => by rcases h with rfl | rfl | rfl <;> assumption
            have hd1 : ¬ Thr o p s w2.heap.size := by
              have q1 : w2.heap.size ≠ o := Blk.ne_ HD4.out HO4.out (by decide)
              obtain ⟨st, hms, _, _⟩ := HM4.out
              have q2 : w2.heap.size ≠ p := Blk.ne_ HD4.out hms.hp (by decide)
              have q3 : w2.heap.size ≠ s := Blk.ne_ HD4.out hms.hs (by decide)
              exact fun h => h.elim q1 (fun h => h.elim q2 q3)
            have HDN := Lib.hid hDne
            have HDX := Lib.hid hd1
            clear hDne hd1
            rcases hnx with ⟨rfl, rfl, rfl⟩ | ⟨rfl, m', rfl, hc'⟩
            · go_wp2_with fail
              refine HMV.out.mono ?_
              rintro e w5 ⟨rfl, hO5, hM5, hF5⟩
              have HM5 := Lib.hid hM5
              have HD5 := Lib.hid (HD4.out.fr hF5 HDX.out)
              have HF5 := Lib.hid (Fr.then HF4.out hF5 (fun i hi => .inr (HDN.out i hi)))
              clear hO5 hM5 hF5
              go_wp2_with fail
              refine ⟨⟨c + 1, by omega, by go_num, HD5, Lib.hid ?_, HF5⟩, by simp [intOf]; omega⟩
              obtain ⟨st, hms, q1, q2⟩ := HM5.out
              exact ⟨st, hms, q1, by omega⟩
            · have HC2 := Lib.hid hc'
              clear hc'
              go_wp2_with fail
              refine HMV.out.mono ?_
              rintro e w5 ⟨rfl, hO5, hM5, hF5⟩
              have HO5 := Lib.hid hO5
              have HM5 := Lib.hid hM5
              have HD5 := Lib.hid (HD4.out.fr hF5 HDX.out)
              have HF5 := Lib.hid (Fr.then HF4.out hF5 (fun i hi => .inr (HDN.out i hi)))
              clear hO5 hM5 hF5
              go_wp2_with fail
              exact ⟨⟨a + 1, _, _, _, by omega, by go_num, HC2, HO5, HM5, HD5, HF5⟩, by simp [intOf]; omega⟩
        · obtain rfl : c = 2 := by omega
          obtain ⟨n, v', ws', hn9, hch, hend⟩ := HEX.out.chp
          have HCH := Lib.hid hch
          have HEND := Lib.hid hend
          have HPP : Hid (Calls Try.prog 20 #[.agg #[.int .i64 (k : Int), .int .i64 0, .int .i64 4]] wx fun e w' => e = .returned (.pointer (some ⟨wx.heap.size + 2, 0, none⟩)) ∧ OpAt w' (wx.heap.size + 2) (op0 k (0 : Nat) (4 : Nat) "haymow/deque.pop" ty true 0 (wx.heap.size + 2)) ∧ Fr (fun _ => False) wx w') := Lib.hid (HEX.out.pop wx 0 4)
          clear hch hend
          go_wp2_with fail
          refine HPP.out.mono ?_
          rintro e w3 ⟨rfl, hO3, hF3⟩
          have hwx2 := HF1.out.size
          obtain ⟨o, ho⟩ : ∃ o, o = wx.heap.size + 2 := ⟨_, rfl⟩
          rw [← ho] at hO3 ⊢
          have how : w.heap.size ≤ o := by omega
          have HO3 := Lib.hid hO3
          have HM3 := Lib.hid (HM1.out.fr hF3 (fun h => h) (fun h => h))
          have HF3 := Lib.hid (HF1.out.trans hF3)
          clear hO3 hF3 HPP e0 e1 e2 ho
          go_wp2_with fail
          go_loopw [10] (fun iv wy => ∃ (a m : Nat) (v1 : Nat → OpV) (ws1 : List (Bool × Int)), a + m = n ∧ iv = .int .i64 a ∧ Hid (Chain m v1 ws1 v' ws') ∧ Hid (OpAt wy o (v1 o)) ∧ Hid (MI wy p s ws1 (9 * 2 + a)) ∧ Hid (Fr (fun _ => False) w wy)) (fun iv _ => 9 - (intOf iv).toNat)
          case atStart => exact ⟨0, n, _, _, by omega, rfl, HCH, HO3, HM3, HF3⟩
          case round =>
            obtain ⟨a, m, v1, ws1, ham, rfl, HC1, HO4, HM4, HF4⟩ := hrel
            have hpos := chain_pos HC1.out
            have hai : (a : Int) < 9 := by omega
            have had : decide ((a : Int) < 9) = true := decide_eq_true hai
            have ha9 : a < 9 := by omega
            have had2 : decide (a < 9) = true := decide_eq_true ha9
            obtain ⟨en, v2, ws2, hmv, hnx⟩ : ∃ (en : Bool) (v2 : Nat → OpV) (ws2 : List (Bool × Int)), MoveOK v1 ws1 v2 ws2 en ∧ ((en = true ∧ m = 1 ∧ v2 = v' ∧ ws2 = ws') ∨ (en = false ∧ ∃ m', m = m' + 1 ∧ Chain m' v2 ws2 v' ws')) := by
              cases HC1.out with
              | last h => exact ⟨true, _, _, h, .inl ⟨rfl, rfl, rfl, rfl⟩⟩
              | more h hc' => exact ⟨false, _, _, h, .inr ⟨rfl, _, rfl, hc'⟩⟩
            have HMV := Lib.hid (hmv wr o p s (9 * 2 + a) HO4.out HM4.out (by omega))
            clear hmv
            have HDN : Hid (∀ k', Thr o p s k' → w.heap.size ≤ k') := Lib.hid (fun k' h => by rcases h with rfl | rfl | rfl <;> assumption)
            rcases hnx with ⟨rfl, rfl, rfl, rfl⟩ | ⟨rfl, m', rfl, hc'⟩
            · go_wp2_with fail
              refine HMV.out.mono ?_
              rintro e w5 ⟨rfl, hO5, hM5, hF5⟩
              have hen := end_any w5 o _ hO5
              rw [HEND.out o] at hen
              have HEN := Lib.hid hen
              have HF5 := Lib.hid (Fr.then HF4.out hF5 (fun i hi => .inr (HDN.out i hi)))
              clear hO5 hM5 hF5 hen
              go_wp2_with fail
              refine HEN.out.mono ?_
              rintro e w6 ⟨rfl, q, rfl⟩
              by_cases hk : k = 3
              · subst hk
                go_wp2_with fail
                exact ⟨⟨3 + 1, by omega, by omega, by go_num, Lib.hid (HF5.out.drewN q)⟩, by simp [intOf]⟩
              · have hb1 : ((k : Int) == 3) = false := by simp; omega
                have hb2 : ((k : Int) != 3) = true := by simp; omega
                rw [if_neg hk]
                go_wp2_with fail
                exact ⟨⟨k + 1, by omega, by omega, by go_num, Lib.hid (HF5.out.drewN q)⟩, by simp [intOf]; omega⟩
            · have HC2 := Lib.hid hc'
              clear hc'
              go_wp2_with fail
              refine HMV.out.mono ?_
              rintro e w5 ⟨rfl, hO5, hM5, hF5⟩
              have HO5 := Lib.hid hO5
              have HM5 := Lib.hid hM5
              have HF5 := Lib.hid (Fr.then HF4.out hF5 (fun i hi => .inr (HDN.out i hi)))
              clear hO5 hM5 hF5
              go_wp2_with fail
              exact ⟨⟨a + 1, _, _, _, by omega, by go_num, HC2, HO5, HM5, HF5⟩, by simp [intOf]; omega⟩
    · have hki : ¬ (k : Int) ≤ 3 := by omega
      have hkd : decide ((k : Int) ≤ 3) = false := decide_eq_false hki
      go_wp2_with fail
      go_ret
      exact ⟨rfl, HF.out⟩
end Go.Proofs.Ytfcboacmailfiaa
