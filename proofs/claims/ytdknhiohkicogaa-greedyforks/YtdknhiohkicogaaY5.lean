/-
  greedy.Plan where there is none, greedy.Time, light, awake. No condition.
-/
import Derived.Test.YtdknhiohkicogaaY4
namespace Go.Proofs.Ytdknhiohkicogaa
open Go.RowKit

set_option maxHeartbeats 4000000 in
set_option maxRecDepth 100000 in
theorem plan_no (w : World) (Q : Nat → Prop) (A : Option Addr) (c : Nat) (g : List (List Int)) (k : Int) (n : Nat) (hn : n = g.length) (hG : GrAt w Q A g) (hF : Few g) (hm : mayB k g = false) :
    Calls Try.prog 11 #[.agg #[.slice A n c], .int .i64 k] w fun e w' => e = .returned (.tuple #[.slice none 0 0, .int .i64 1]) ∧ Fr F0 w w' := by
  have HM := Lib.hid (may_any (w.alloc (.cells #[.slice A n c] 29)) Q A c g k (hG.f0 ((Fr.refl _ _).alloc _)) hF)
  rw [← hn, hm] at HM
  have HFA : Hid (Fr F0 w (w.alloc (.cells #[.slice A n c] 29))) := (Fr.refl F0 w).alloc _
  clear hG hF hn hm
  go_enter Try.func11, Try.ntmps11
  go_wp2_with fail
  go_step3
  go_wp2_with fail
  refine HM.out.mono ?_
  rintro e w1 ⟨rfl, hF1⟩
  have HF1 := Lib.hid (HFA.out.trans hF1)
  clear hF1
  go_wp2_with fail
  rw [Exit.noGoto_ret]
  go_ret2
  exact ⟨rfl, HF1.out⟩

def lastI (l : List Int) : Int := l.foldl max (-1)
theorem lastI_snoc (l : List Int) (z : Int) : lastI (l ++ [z]) = max (lastI l) z := by simp [lastI]
theorem lastI_low : ∀ (l : List Int) (a : Int), a ≤ l.foldl max a
  | [], a => by simp
  | z :: l, a => by have := lastI_low l (max a z); simp only [List.foldl_cons]; omega
theorem lastI_high (B : Int) : ∀ (l : List Int) (a : Int), a ≤ B → (∀ z ∈ l, z ≤ B) → l.foldl max a ≤ B
  | [], a, h, _ => by simpa using h
  | z :: l, a, h, hz => by
    have h1 := hz z (by simp)
    simp only [List.foldl_cons]
    exact lastI_high B l _ (by omega) (fun x hx => hz x (by simp [hx]))
theorem lastI_ni (W : List Nat) : lastI (ni W) + 1 = (tim W : Int) := by
  have key : ∀ (W : List Nat) (a : Int), -1 ≤ a → (ni W).foldl max a + 1 = max (a + 1) (tim W : Int) := by
    intro W
    induction W with
    | nil => intro a ha; simp [ni, tim, mx]; omega
    | cons x r ih =>
      intro a ha
      have h1 := ih (max a (x : Int)) (by omega)
      have h2 : tim (x :: r) = max (x + 1) (tim r) := rfl
      rw [h2]
      show List.foldl max (max a (x : Int)) (ni r) + 1 = _
      rw [h1]
      omega
  have := key W (-1) (by omega)
  unfold lastI
  rw [this]
  omega
theorem tim_small {W : List Nat} {n : Nat} (h : ∀ a ∈ W, a ≤ n) : tim W ≤ n + 1 := mx_of_le fun a ha => by have := h a ha; omega

set_option maxHeartbeats 4000000 in
theorem time_any (w : World) (Q : Nat → Prop) (A : Option Addr) (c n : Nat) (l : List Int) (hn : n = l.length) (hl : Rd w Q 1 A n (ic l)) (hn1 : n ≤ 1000) (hb : ∀ z ∈ l, z ≤ 4611686018427387904) :
    Calls Try.prog 17 #[.slice A n c] w fun e w' => e = .returned (.int .i64 (lastI l + 1)) ∧ w' = w := by
  have HL := Lib.hid hl
  have HN := Lib.hid hn
  have HB := Lib.hid hb
  clear hl hn hb
  go_enter Try.func17, Try.ntmps17
  go_wp2_with fail
  go_loopw [3, 8] (fun m i wx => ∃ (j : Nat) (z : Int), j ≤ n ∧ i = .int .i64 (j : Int) ∧ m = .int .i64 z ∧ Hid (z = lastI (l.take j)) ∧ -1 ≤ z ∧ z ≤ 4611686018427387904 ∧ wx = w) (fun _ i _ => n - (intOf i).toNat)
  case atStart => exact ⟨0, -1, by omega, rfl, rfl, Lib.hid rfl, by omega, by omega, rfl⟩
  case round =>
    obtain ⟨j, z, hj, rfl, rfl, HZ, hz1, hz2, rfl⟩ := hrel
    by_cases hjn : j < n
    · have g1 : (j : Int) < (n : Int) := by omega
      obtain ⟨u, hu⟩ := of_lt (show j < l.length by have := HN.out; omega)
      have hl2 := HL.out
      rw [HN.out] at hl2
      obtain ⟨b, off, hAe, _, hcell⟩ := Rd.int_at hl2 hu
      subst hAe
      have hub := HB.out u (List.mem_of_getElem? hu)
      have HZ2 : Hid (max z u = lastI (l.take (j + 1))) := Lib.hid (by rw [take_snoc hu, lastI_snoc, HZ.out])
      clear hl2 hu
      go_wp2_with fail
      refine ⟨⟨j + 1, max z u, by omega, by go_num, ?_, HZ2, by omega, by omega, trivial⟩, by simp [intOf]; omega⟩
      congr 1
      split <;> omega
    · have HJ := Lib.hid (show j = n by omega)
      go_wp2_with fail
      go_ret
      refine ⟨?_, rfl⟩
      have : l.take j = l := by rw [HJ.out, HN.out, List.take_length]
      rw [this] at HZ
      rw [← HZ.out]
      rfl

def lightB (g : List (List Int)) : Bool := decide (g.length ≤ 200) && g.all fun r => decide (r.length ≤ 50)
theorem lightB_few {g : List (List Int)} (h : lightB g = true) : Few g ∧ g.length ≤ 200 := by
  simp only [lightB, Bool.and_eq_true, decide_eq_true_eq, List.all_eq_true] at h
  exact ⟨⟨by omega, fun r hr => by have := h.2 r hr; omega⟩, h.1⟩

set_option maxHeartbeats 4000000 in
theorem light_any (w : World) (Q : Nat → Prop) (A : Option Addr) (c : Nat) (g : List (List Int)) (n : Nat) (hn : n = g.length) (hG : GrAt w Q A g) :
    Calls Try.prog 10 #[.slice A n c] w fun e w' => e = .returned (.bool (lightB g)) ∧ w' = w := by
  have HG := Lib.hid hG
  have HN := Lib.hid hn
  obtain ⟨lb, hlb⟩ : ∃ lb, lb = lightB g := ⟨_, rfl⟩
  rw [← hlb]
  have HLB := Lib.hid hlb
  clear hG hn hlb
  by_cases h200 : 200 < n
  · have d1 : decide (200 < n) = true := decide_eq_true h200
    have d2 : (200 : Int) < (n : Int) := by omega
    have HV : Hid (lb = false) := Lib.hid (by rw [HLB.out, lightB, decide_eq_false (by have := HN.out; omega)]; rfl)
    clear HLB
    go_enter Try.func10, Try.ntmps10
    go_wp2_with fail
    go_ret
    exact ⟨by rw [HV.out]; rfl, rfl⟩
  · have d1 : decide (200 < n) = false := decide_eq_false h200
    have d2 : ¬ (200 : Int) < (n : Int) := by omega
    have d3 : n ≤ 200 := by omega
    go_enter Try.func10, Try.ntmps10
    go_wp2_with fail
    go_loopw [3] (fun i wx => ∃ j : Nat, j ≤ n ∧ i = .int .i64 (j : Int) ∧ Hid ((g.take j).all (fun r => decide (r.length ≤ 50)) = true) ∧ wx = w) (fun i _ => n - (intOf i).toNat)
    case atStart => exact ⟨0, by omega, rfl, Lib.hid rfl, rfl⟩
    case round =>
      obtain ⟨j, hj, rfl, HA, rfl⟩ := hrel
      by_cases hjn : j < n
      · have g1 : (j : Int) < (n : Int) := by omega
        obtain ⟨row, hrow⟩ := of_lt (show j < g.length by have := HN.out; omega)
        obtain ⟨b, off, A', c', hAe, _, hcell, _⟩ := HG.out j row hrow
        subst hAe
        have HROW := Lib.hid hrow
        obtain ⟨m, hm⟩ : ∃ m, m = row.length := ⟨_, rfl⟩
        rw [← hm] at hcell
        have HM := Lib.hid hm
        clear hrow hm
        by_cases h50 : 50 < m
        · have e1 : decide (50 < m) = true := decide_eq_true h50
          have e2 : (50 : Int) < (m : Int) := by omega
          have HV : Hid (lb = false) := Lib.hid (by
            rw [HLB.out, lightB, Bool.and_eq_false_iff]
            right
            rw [List.all_eq_false]
            exact ⟨row, List.mem_of_getElem? HROW.out, by simp only [decide_eq_true_eq]; have := HM.out; omega⟩)
          go_wp2_with fail
          go_ret
          exact ⟨by rw [HV.out]; rfl, rfl⟩
        · have e1 : decide (50 < m) = false := decide_eq_false h50
          have e2 : ¬ (50 : Int) < (m : Int) := by omega
          have HA2 : Hid ((g.take (j + 1)).all (fun r => decide (r.length ≤ 50)) = true) := Lib.hid (by
            rw [take_snoc HROW.out, List.all_append, HA.out]
            simp only [List.all_cons, List.all_nil, Bool.and_true, Bool.true_and, decide_eq_true_eq]
            have := HM.out; omega)
          go_wp2_with fail
          refine ⟨⟨j + 1, by omega, by go_num, HA2, trivial⟩, by simp [intOf]; omega⟩
      · have HJ := Lib.hid (show j = n by omega)
        have HV : Hid (lb = true) := Lib.hid (by
          have h1 := HA.out
          rw [HJ.out, HN.out, List.take_length] at h1
          rw [HLB.out, lightB, h1, decide_eq_true (by have := HN.out; omega)]; rfl)
        go_wp2_with fail
        go_ret
        exact ⟨by rw [HV.out]; rfl, rfl⟩

theorem two_gr (w : World) : GrAt (w.alloc (.cells #[.slice none 0 0, .slice none 0 0] 24)) (fun b => b = w.heap.size) (some ⟨w.heap.size, 0, none⟩) (gi [[], []]) := by
  intro i row hi
  have hb := Blk.new w 24 #[.slice none 0 0, .slice none 0 0]
  have h2 : row = [] ∧ i < 2 := by
    match i, hi with
    | 0, hi => simp [gi, ni] at hi; exact ⟨hi, by omega⟩
    | 1, hi => simp [gi, ni] at hi; exact ⟨hi, by omega⟩
    | i + 2, hi => simp [gi, ni] at hi
  obtain ⟨rfl, hi2⟩ := h2
  refine ⟨_, _, none, 0, rfl, rfl, ?_, Rd.nil⟩
  rw [hb.cell]
  match i, hi2 with
  | 0, _ => rfl
  | 1, _ => rfl
theorem two_few : Few (gi [[], []]) := ⟨by decide, by decide⟩
theorem two_ahead : Ahead [[], []] := by
  intro n row h
  match n, h with
  | 0, h => simp at h; subst h; simp
  | 1, h => simp at h; subst h; simp
  | n + 2, h => simp at h
theorem two_plan {W : List Nat} (h : PlanOf 2 [[], []] W) (hl : W.length = 2) : W = [0, 0] := by
  refine h.one (W' := [0, 0]) ?_ hl
  have := free_plan (k := 2) (G := [[], []]) (by omega) (fun i row h => by
    match i, h with
    | 0, h => simp at h; exact h
    | 1, h => simp at h; exact h
    | i + 2, h => simp at h)
  exact this

set_option maxHeartbeats 4000000 in
set_option maxRecDepth 100000 in
theorem awake_any (w : World) : Calls Try.prog 13 #[] w fun e w' => e = .returned (.bool true) ∧ Fr F0 w w' := by
  have HPL := Lib.hid (plan_any (w.alloc (.cells #[.slice none 0 0, .slice none 0 0] 24)) _ _ 2 [[], []] 2 2 rfl (two_gr w) two_few two_ahead rfl (by omega) (by omega))
  have HFA : Hid (Fr F0 w (w.alloc (.cells #[.slice none 0 0, .slice none 0 0] 24))) := (Fr.refl F0 w).alloc _
  go_enter Try.func13, Try.ntmps13
  go_wp2_with fail
  refine HPL.out.mono ?_
  rintro e w1 ⟨g, W, rfl, hg, hN, hl, hP, hF1⟩
  have hW := two_plan hP hl
  subst hW
  have HF1 := Lib.hid (HFA.out.trans hF1)
  have c0 := Nb.at_ hN (i := 0) (a := 0) rfl
  have c1 := Nb.at_ hN (i := 1) (a := 0) rfl
  have HT := Lib.hid (time_any w1 (fun b => b = g) (some ⟨g, 0, none⟩) 2 2 (ni [0, 0]) rfl (Nb.rd hN rfl) (by omega) (by simp [ni]))
  rw [lastI_ni] at HT
  rw [show ((tim [0, 0] : Nat) : Int) = 1 from rfl] at HT
  clear hN hP hF1 hl hg
  go_wp2_with fail
  refine HT.out.mono ?_
  rintro e w2 ⟨rfl, rfl⟩
  go_wp2_with fail
  go_ret
  exact ⟨rfl, HF1.out⟩
end Go.Proofs.Ytdknhiohkicogaa
