/-
  Package epoch: has, Now, Limbo, what asks whether a worker lags, and whether a thing is ready; slices.IndexFunc, slices.ContainsFunc over workers.
-/
import Derived.Test.YtjphmiemakmcbaaEp1
namespace Go.Proofs.Ytjphmiemakmcbaa
open Go.RowKit

theorem has_yes (w : World) (x i n : Nat) (A : Option Addr) (c : Nat) (h1 : w.cell? ⟨x, 1, none⟩ = some (.slice A n c)) (hi : i < n) :
    Calls Try.prog 19 #[.pointer (some ⟨x, 0, none⟩), .int .i64 (i : Int)] w fun e w' => e = .returned (.bool true) ∧ w' = w := by
  have g1 : decide ((0 : Int) ≤ (i : Int)) = true := decide_eq_true (by omega)
  have g2 : decide ((i : Int) < (n : Int)) = true := decide_eq_true (by omega)
  have g3 : (i : Int) < (n : Int) := by omega
  go_enter Try.func19, Try.ntmps19
  go_wp2_with fail
  go_ret
  exact ⟨rfl, rfl⟩
theorem has_no (w : World) (x n : Nat) (i : Int) (A : Option Addr) (c : Nat) (h1 : w.cell? ⟨x, 1, none⟩ = some (.slice A n c)) (hi : i < 0 ∨ n ≤ i) :
    Calls Try.prog 19 #[.pointer (some ⟨x, 0, none⟩), .int .i64 i] w fun e w' => e = .returned (.bool false) ∧ w' = w := by
  by_cases h0 : i < 0
  · have g1 : decide (0 ≤ i) = false := decide_eq_false (by omega)
    clear hi
    go_enter Try.func19, Try.ntmps19
    go_wp2_with fail
    go_ret
    exact ⟨rfl, rfl⟩
  · have g1 : decide (0 ≤ i) = true := decide_eq_true (by omega)
    have g2 : decide (i < (n : Int)) = false := decide_eq_false (by omega)
    have g3 : ¬ i < (n : Int) := by omega
    clear hi
    go_enter Try.func19, Try.ntmps19
    go_wp2_with fail
    go_ret
    exact ⟨rfl, rfl⟩
theorem has_nil (w : World) (i : Int) :
    Calls Try.prog 19 #[.pointer none, .int .i64 i] w fun e w' => e = .returned (.bool false) ∧ w' = w := by
  go_enter Try.func19, Try.ntmps19
  go_wp2_with fail
  go_ret
  exact ⟨rfl, rfl⟩
theorem now_any (w : World) (x : Nat) (z : Int) (h : w.cell? ⟨x, 0, none⟩ = some (.int .i64 z)) :
    Calls Try.prog 15 #[.pointer (some ⟨x, 0, none⟩)] w fun e w' => e = .returned (.int .i64 z) ∧ w' = w := by
  go_enter Try.func15, Try.ntmps15
  go_wp2_with fail
  go_ret
  exact ⟨rfl, rfl⟩
theorem now_nil (w : World) :
    Calls Try.prog 15 #[.pointer none] w fun e w' => e = .returned (.int .i64 0) ∧ w' = w := by
  go_enter Try.func15, Try.ntmps15
  go_wp2_with fail
  go_ret
  exact ⟨rfl, rfl⟩
theorem limbo_yes (w : World) (x i n : Nat) (g cap : Nat) (h1 : w.cell? ⟨x, 1, none⟩ = some (.slice (some ⟨g, 0, none⟩) n cap)) (hi : i < n) (A : Option Addr) (m c : Nat) (h2 : w.cell? ⟨g, i * 2 + 1, none⟩ = some (.slice A m c)) :
    Calls Try.prog 16 #[.pointer (some ⟨x, 0, none⟩), .int .i64 (i : Int)] w fun e w' => e = .returned (.int .i64 (m : Int)) ∧ w' = w := by
  have g3 : (i : Int) < (n : Int) := by omega
  have HH := Lib.hid (has_yes w x i n _ _ h1 hi)
  go_enter Try.func16, Try.ntmps16
  go_wp2_with fail
  refine HH.out.mono ?_
  rintro e w1 ⟨rfl, rfl⟩
  go_wp2_with fail
  go_ret
  exact ⟨rfl, rfl⟩
theorem limbo_no (w : World) (x n : Nat) (i : Int) (A : Option Addr) (c : Nat) (h1 : w.cell? ⟨x, 1, none⟩ = some (.slice A n c)) (hi : i < 0 ∨ n ≤ i) :
    Calls Try.prog 16 #[.pointer (some ⟨x, 0, none⟩), .int .i64 i] w fun e w' => e = .returned (.int .i64 0) ∧ w' = w := by
  have HH := Lib.hid (has_no w x n i _ _ h1 hi)
  clear hi
  go_enter Try.func16, Try.ntmps16
  go_wp2_with fail
  refine HH.out.mono ?_
  rintro e w1 ⟨rfl, rfl⟩
  go_wp2_with fail
  go_ret
  exact ⟨rfl, rfl⟩
theorem limbo_nil (w : World) (i : Int) :
    Calls Try.prog 16 #[.pointer none, .int .i64 i] w fun e w' => e = .returned (.int .i64 0) ∧ w' = w := by
  have HH := Lib.hid (has_nil w i)
  go_enter Try.func16, Try.ntmps16
  go_wp2_with fail
  refine HH.out.mono ?_
  rintro e w1 ⟨rfl, rfl⟩
  go_wp2_with fail
  go_ret
  exact ⟨rfl, rfl⟩

set_option maxHeartbeats 2000000 in
theorem lags_any (w : World) (ann : Int) (lv : Value) (c x now : Nat) (hc : w.cell? ⟨c, 0, none⟩ = some (.pointer (some ⟨x, 0, none⟩))) (hx : w.cell? ⟨x, 0, none⟩ = some (.int .i64 (now : Int))) :
    Calls Try.prog 20 #[.agg #[.int .i64 ann, lv], .pointer (some ⟨c, 0, none⟩)] w fun e w' => e = .returned (.bool (ann != (now : Int))) ∧ Fr F0 w w' := by
  have hcl : c < w.heap.size := cell_lt hc
  have hxl : x < w.heap.size := cell_lt hx
  go_enter Try.func20, Try.ntmps20
  go_wp2_with fail
  go_quiet (fail)
  go_wp2_with fail
  go_ret
  exact ⟨rfl, ((Fr.refl _ _).alloc _).drewN _⟩
set_option maxHeartbeats 2000000 in
theorem ready_any (w : World) (th : Int) (k c x now : Nat) (hn : now ≤ 1000000) (hk : k ≤ now) (hc : w.cell? ⟨c, 0, none⟩ = some (.pointer (some ⟨x, 0, none⟩))) (hx : w.cell? ⟨x, 0, none⟩ = some (.int .i64 (now : Int))) :
    Calls Try.prog 22 #[.agg #[.int .i64 th, .int .i64 (k : Int)], .pointer (some ⟨c, 0, none⟩)] w fun e w' => e = .returned (.bool (decide (k + 2 ≤ now))) ∧ Fr F0 w w' := by
  have hcl : c < w.heap.size := cell_lt hc
  have hxl : x < w.heap.size := cell_lt hx
  have hw : wrap64 ((now : Int) - (k : Int)) = (now : Int) - (k : Int) := by unfold wrap64; omega
  have hd : decide (2 ≤ (now : Int) - (k : Int)) = decide (k + 2 ≤ now) := by
    by_cases h : k + 2 ≤ now
    · rw [decide_eq_true h, decide_eq_true (by omega)]
    · rw [decide_eq_false h, decide_eq_false (by omega)]
  go_enter Try.func22, Try.ntmps22
  go_wp2_with fail
  go_quiet (fail)
  go_wp2_with fail
  go_ret
  exact ⟨rfl, ((Fr.refl _ _).alloc _).drewN _⟩

theorem wkC_length (l : List (Wk × Value)) : (wkC l).length = l.length := by simp [wkC]
theorem wkC_at {rows : List (Wk × Value)} {i : Nat} {r : Wk × Value} (h : rows[i]? = some r) : (wkC rows)[i]? = some (.int .i64 r.1.ann, r.2) := by
  simp [wkC, h]
theorem thC_at {l : List (Int × Nat)} {i : Nat} {r : Int × Nat} (h : l[i]? = some r) : (thC l)[i]? = some (.int .i64 r.1, .int .i64 (r.2 : Int)) := by
  simp [thC, h]

set_option maxHeartbeats 4000000 in
theorem idx_any (w : World) (base : Nat) (v : Value) (rows : List (Wk × Value)) (hr : w.ownsRow base 58 2 v rows.length (pc (wkC rows))) (hn : rows.length ≤ 64) (c x now : Nat) (hc : w.cell? ⟨c, 0, none⟩ = some (.pointer (some ⟨x, 0, none⟩))) (hx : w.cell? ⟨x, 0, none⟩ = some (.int .i64 (now : Int))) :
    Calls Try.prog 24 #[v, .func (.func 20) #[] #[.pointer (some ⟨c, 0, none⟩)]] w fun e w' => ∃ r : Int, e = .returned (.int .i64 r) ∧ decide (0 ≤ r) = rows.any (fun q => q.1.ann != (now : Int)) ∧ Fr F0 w w' := by
  obtain ⟨A, cp, rfl⟩ := own_slice hr
  obtain ⟨n, hnn⟩ : ∃ n, n = rows.length := ⟨_, rfl⟩
  rw [← hnn] at hr hn ⊢
  have HR := Lib.hid hr
  have HC := Lib.hid hc
  have HX := Lib.hid hx
  have HNN := Lib.hid hnn
  clear hr hc hx hnn
  go_enter Try.func24, Try.ntmps24
  go_wp2_with fail
  go_loopw [8] (fun i wx => ∃ k : Nat, k ≤ n ∧ i = .int .i64 (k : Int) ∧ Hid (∀ j q, j < k → rows[j]? = some q → q.1.ann = (now : Int)) ∧ Hid (Fr F0 w wx)) (fun i _ => n - (intOf i).toNat)
  case atStart => exact ⟨0, by omega, rfl, Lib.hid (fun j q hj _ => by omega), Lib.hid (Fr.refl _ _)⟩
  case round =>
    obtain ⟨k, hkn, rfl, HA, HF⟩ := hrel
    by_cases hk : k < n
    · have g1 : (k : Int) < (n : Int) := by omega
      obtain ⟨q, hq⟩ : ∃ q, rows[k]? = some q := ⟨_, List.getElem?_eq_getElem (by have := HNN.out; omega)⟩
      have hq0 : Hid (rows[k]? = some q) := hq
      obtain ⟨g, cap, hv, hb, hkn', hnc, hcm, hc1, hc2, hfz⟩ := own_pair (own_fr HR.out HF.out (fun _ _ h => h)) (wkC_at hq)
      injection hv with hv1 _ hv3
      subst hv1; subst hv3
      have HL := Lib.hid (lags_any wr q.1.ann q.2 c x now (HF.out.held HC.out (fun h => h)) (HF.out.held HX.out (fun h => h)))
      clear hq hfz hnc hcm
      by_cases hl : q.1.ann = (now : Int)
      · have hl2 : (q.1.ann != (now : Int)) = false := by simp [hl]
        rw [hl2] at HL
        have HL2 := Lib.hid hl
        clear hl hl2
        go_wp2_with fail
        refine HL.out.mono ?_
        rintro e w1 ⟨rfl, hF1⟩
        have HF1 := Lib.hid (HF.out.trans hF1)
        clear hF1
        go_wp2_with fail
        refine ⟨⟨k + 1, by omega, by go_num, Lib.hid ?_, HF1⟩, by simp [intOf]; omega⟩
        intro j q' hj hq'
        by_cases hjk : j = k
        · subst hjk
          have := hq0.out
          rw [hq'] at this
          injection this with this
          rw [this]; exact HL2.out
        · exact HA.out j q' (by omega) hq'
      · have hl2 : (q.1.ann != (now : Int)) = true := by simp [hl]
        rw [hl2] at HL
        have HL2 := Lib.hid hl2
        clear hl hl2
        go_wp2_with fail
        refine HL.out.mono ?_
        rintro e w1 ⟨rfl, hF1⟩
        have HF1 := Lib.hid (HF.out.trans hF1)
        clear hF1
        go_wp2_with fail
        go_ret
        refine ⟨(k : Int), rfl, ?_, HF1.out⟩
        rw [decide_eq_true (by omega), Eq.comm, List.any_eq_true]
        exact ⟨q, List.mem_of_getElem? hq0.out, HL2.out⟩
    · obtain rfl : k = n := by omega
      go_wp2_with fail
      go_ret
      refine ⟨-1, rfl, ?_, HF.out⟩
      rw [decide_eq_false (by decide), Eq.comm, List.any_eq_false]
      intro q hq
      obtain ⟨j, hj⟩ := List.getElem?_of_mem hq
      have hjl : j < rows.length := (List.getElem?_eq_some_iff.1 hj).1
      have := HA.out j q (by have := HNN.out; omega) hj
      simp [this]
theorem cont_any (w : World) (base : Nat) (v : Value) (rows : List (Wk × Value)) (hr : w.ownsRow base 58 2 v rows.length (pc (wkC rows))) (hn : rows.length ≤ 64) (c x now : Nat) (hc : w.cell? ⟨c, 0, none⟩ = some (.pointer (some ⟨x, 0, none⟩))) (hx : w.cell? ⟨x, 0, none⟩ = some (.int .i64 (now : Int))) :
    Calls Try.prog 21 #[v, .func (.func 20) #[] #[.pointer (some ⟨c, 0, none⟩)]] w fun e w' => e = .returned (.bool (rows.any (fun q => q.1.ann != (now : Int)))) ∧ Fr F0 w w' := by
  have HI := Lib.hid (idx_any w base v rows hr hn c x now hc hx)
  obtain ⟨b, hb⟩ : ∃ b, b = rows.any (fun q => q.1.ann != (now : Int)) := ⟨_, rfl⟩
  rw [← hb] at HI ⊢
  clear hr hc hx hb hn
  go_enter Try.func21, Try.ntmps21
  go_wp2_with fail
  refine HI.out.mono ?_
  rintro e w1 ⟨r, rfl, hd, hF1⟩
  have HF1 := Lib.hid hF1
  have HD := Lib.hid hd
  clear hF1 hd
  go_wp2_with fail
  go_ret
  exact ⟨by rw [← HD.out]; rfl, HF1.out⟩
end Go.Proofs.Ytjphmiemakmcbaa
