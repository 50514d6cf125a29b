/-
  The document's ready and Plan. No condition.
-/
import Derived.Test.YtdknhiohkicogaaY10
namespace Go.Proofs.Ytdknhiohkicogaa
open Go.RowKit

/-- A block of numbers, also below 0. -/
abbrev Ib (w : World) (g : Nat) (l : List Int) : Prop := Blk w g 3 (ic l).toArray
section
variable {w : World} {g : Nat} {l : List Int}
theorem Ib.at_ (h : Ib w g l) {i : Nat} {a : Int} (hi : l[i]? = some a) : w.cell? ⟨g, i, none⟩ = some (.int .i64 a) := by
  rw [Blk.cell h]; simp [ic, hi]
theorem Ib.set (h : Ib w g l) (i : Nat) (a : Int) : Ib (w.setCell ⟨g, i, none⟩ (.int .i64 a)) g (l.set i a) := by
  have h1 := Blk.set_ h i (.int .i64 a)
  rw [List.setIfInBounds_toArray] at h1
  have h2 : (ic l).set i (.int .i64 a) = ic (l.set i a) := by simp [ic, List.map_set]
  rw [h2] at h1
  exact h1
end

/-- What the document's plan has told at moment now, up to step n. -/
def cur (W : List Nat) (now n i : Nat) : Int := if W.getD i 0 < now ∨ (W.getD i 0 = now ∧ i < n) then (W.getD i 0 : Int) else -1
def curL (W : List Nat) (now n : Nat) : List Int := (List.range W.length).map (cur W now n)
theorem curL_at {W : List Nat} {now n i : Nat} (h : i < W.length) : (curL W now n)[i]? = some (cur W now n i) := by simp [curL, List.getElem?_map, range_at h]
theorem curL_length (W : List Nat) (now n : Nat) : (curL W now n).length = W.length := by simp [curL]
theorem curL_set {W : List Nat} {now n : Nat} (hn : n < W.length) (he : W.getD n 0 = now) : (curL W now n).set n (now : Int) = curL W now (n + 1) := by
  apply List.ext_getElem?
  intro i
  by_cases hi : i < W.length
  · by_cases hin : n = i
    · subst hin
      rw [List.getElem?_set_self (by rw [curL_length]; exact hn), curL_at hi]
      simp only [cur]
      rw [if_pos (by right; exact ⟨he, by omega⟩), he]
    · rw [List.getElem?_set_ne hin, curL_at hi, curL_at hi]
      simp only [cur]
      congr 1
      by_cases hc : W.getD i 0 < now ∨ (W.getD i 0 = now ∧ i < n)
      · rw [if_pos hc, if_pos (by omega)]
      · rw [if_neg hc, if_neg (by omega)]
  · rw [List.getElem?_eq_none (by rw [List.length_set, curL_length]; omega), List.getElem?_eq_none (by rw [curL_length]; omega)]
theorem curL_same {W : List Nat} {now n : Nat} (he : W.getD n 0 ≠ now) : curL W now n = curL W now (n + 1) := by
  apply List.map_congr_left
  intro i _
  simp only [cur]
  by_cases hin : n = i
  · subst hin
    by_cases hc : W.getD n 0 < now
    · rw [if_pos (by omega), if_pos (by omega)]
    · rw [if_neg (by omega), if_neg (by omega)]
  · by_cases hc : W.getD i 0 < now ∨ (W.getD i 0 = now ∧ i < n)
    · rw [if_pos hc, if_pos (by omega)]
    · rw [if_neg hc, if_neg (by omega)]
theorem curL_next {W : List Nat} {now n : Nat} (h : ∀ i, i < W.length → W.getD i 0 = now → i < n) : curL W now n = curL W (now + 1) 0 := by
  apply List.map_congr_left
  intro i hi
  have hil := List.mem_range.1 hi
  simp only [cur]
  by_cases hc : W.getD i 0 < now ∨ (W.getD i 0 = now ∧ i < n)
  · rw [if_pos hc, if_pos (by omega)]
  · rw [if_neg hc, if_neg ?_]
    rintro (h1 | ⟨h1, h2⟩)
    · by_cases h3 : W.getD i 0 = now
      · exact hc (.inr ⟨h3, h i hil h3⟩)
      · omega
    · omega
theorem curL_start (W : List Nat) : curL W 0 0 = List.replicate W.length (-1) := by
  apply List.ext_getElem?
  intro i
  by_cases hi : i < W.length
  · rw [curL_at hi, List.getElem?_replicate, if_pos hi]
    simp [cur]
  · rw [List.getElem?_eq_none (by rw [curL_length]; omega), List.getElem?_eq_none (by simp; omega)]
theorem curL_done {W : List Nat} {now : Nat} (h : W.countP (fun m => decide (m < now)) = W.length) : curL W now 0 = ni W := by
  rw [List.countP_eq_length] at h
  apply List.ext_getElem?
  intro i
  by_cases hi : i < W.length
  · obtain ⟨x, hx⟩ := of_lt hi
    rw [curL_at hi, ni_at hx]
    have := of_decide_eq_true (h x (List.mem_of_getElem? hx))
    simp only [cur, getD_of hx]
    rw [if_pos (.inl this)]
  · rw [List.getElem?_eq_none (by rw [curL_length]; omega), List.getElem?_eq_none (by rw [ni_length]; omega)]
theorem count_more {W : List Nat} {n i m : Nat} (hi : W[i]? = some m) (hn : n ≤ i) : (W.take n).count m + 1 ≤ W.count m := by
  have h1 : W.count m = (W.take n).count m + (W.drop n).count m := by rw [← List.count_append, List.take_append_drop]
  have h2 : 0 < (W.drop n).count m := by
    refine List.count_pos_iff.2 (List.mem_of_getElem? (i := i - n) ?_)
    rw [List.getElem?_drop, show n + (i - n) = i by omega]; exact hi
  omega

/-- Ready, in plain words. -/
theorem ready_iff {k now n : Nat} {G : List (List Nat)} {W row : List Nat} {m : Nat} (hP : PlanOf k G W) (hA : Ahead G) (hr : G[n]? = some row) (hm : W[n]? = some m) (hroom : (W.take n).count now < k) : (now ≤ m ∧ ∀ a ∈ row, W.getD a 0 < now) ↔ m = now := by
  have st := hP.at_ n row m hr hm
  have hf := fre_take (W := W) (hA n row hr)
  constructor
  · rintro ⟨h1, h2⟩
    rcases Nat.lt_or_ge now m with hl | hl
    · exfalso
      have h3 : fre (W.take n) row ≤ now := by rw [hf]; exact mx_of_le fun a ha => by have := h2 a ha; omega
      have := st.full now h3 hl
      omega
    · omega
  · rintro rfl
    refine ⟨Nat.le_refl _, fun a ha => ?_⟩
    have h1 : W.getD a 0 + 1 ≤ fre W row := mx_le (f := fun a => W.getD a 0 + 1) ha
    rw [← hf] at h1
    have := st.fre_
    omega

set_option maxHeartbeats 8000000 in
set_option maxRecDepth 100000 in
theorem ready_any (w : World) (Q : Nat → Prop) (A : Option Addr) (c len g k now n nn : Nat) (G : List (List Nat)) (W row : List Nat) (m : Nat) (hP : PlanOf k G W) (hA : Ahead G) (hr : G[n]? = some row) (hm : W[n]? = some m) (hroom : (W.take n).count now < k)
    (hlen : len = G.length) (hG : GrAt w Q A (gi G)) (hWl : W.length = len) (hrl : row.length ≤ 1000) (hB : Ib w g (curL W now n)) :
    Calls Try.prog 24 #[.slice A len c, .slice (some ⟨g, 0, none⟩) len nn, .int .i64 (n : Int), .int .i64 (now : Int)] w fun e w' => e = .returned (.bool (decide (m = now))) ∧ Fr F0 w w' := by
  have hnl : n < len := by have := lt_of hm; omega
  have g1 : (n : Int) < (len : Int) := by omega
  have hbn := Ib.at_ hB (curL_at (now := now) (n := n) (lt_of hm))
  have hcn : cur W now n n = if m < now then (m : Int) else -1 := by
    simp only [cur, getD_of hm]
    by_cases h : m < now
    · rw [if_pos (.inl h), if_pos h]
    · rw [if_neg (by omega), if_neg h]
  rw [hcn] at hbn
  obtain ⟨b, off, A', c', hAe, _, hcell, hrd⟩ := hG n _ (gi_at hr)
  subst hAe
  obtain ⟨L, hL⟩ : ∃ L, L = (ni row).length := ⟨_, rfl⟩
  have hLr : L = row.length := by rw [hL, ni_length]
  have hL1 : L ≤ 1000 := by omega
  rw [← hL] at hcell hrd
  have HRD := Lib.hid hrd
  have HLR := Lib.hid hLr
  have HLE := Lib.hid hL
  have HB := Lib.hid hB
  have HIFF := Lib.hid (ready_iff hP hA hr hm hroom)
  have HAR := Lib.hid (fun a ha => hA n row hr a ha)
  have HWL := Lib.hid hWl
  obtain ⟨rb, hrb⟩ : ∃ rb, rb = decide (m = now) := ⟨_, rfl⟩
  rw [← hrb]
  have HRB := Lib.hid hrb
  clear hrb hrd hLr hL hB hP hA hr hm hroom hlen hG hWl hrl hcn
  by_cases hmn : m < now
  · rw [if_pos hmn] at hbn
    have g2 : (0 : Int) ≤ (m : Int) := by omega
    have HV : Hid (rb = false) := Lib.hid (by rw [HRB.out, decide_eq_false (by omega)])
    clear hmn
    go_enter Try.func24, Try.ntmps24
    go_wp2_with fail
    go_ret
    exact ⟨by rw [HV.out]; rfl, Fr.refl _ _⟩
  · rw [if_neg hmn] at hbn
    have HNM := Lib.hid (show now ≤ m by omega)
    clear hmn
    go_enter Try.func24, Try.ntmps24
    go_wp2_with fail
    go_loopw [9] (fun i wx => ∃ j : Nat, j ≤ L ∧ i = .int .i64 (j : Int) ∧ Hid (∀ a ∈ row.take j, W.getD a 0 < now) ∧ Hid (Fr F0 w wx)) (fun i _ => L - (intOf i).toNat)
    case atStart => exact ⟨0, by omega, rfl, Lib.hid (by simp), Lib.hid (Fr.refl _ _)⟩
    case round =>
      obtain ⟨j, hj, rfl, HJ, HF⟩ := hrel
      have hcell2 := HF.out.held hcell (fun h => h)
      by_cases hjl : j < L
      · have g2 : (j : Int) < (L : Int) := by omega
        obtain ⟨a, ha⟩ := of_lt (show j < row.length by have := HLR.out; omega)
        have hrd := HRD.out.fr HF.out (fun _ _ h => h)
        rw [HLE.out] at hrd
        obtain ⟨b2, off2, hAe2, _, hca⟩ := Rd.int_at hrd (ni_at ha)
        subst hAe2
        have han := HAR.out a (List.mem_of_getElem? ha)
        have hal : a < W.length := by have := HWL.out; omega
        have g3 : (a : Int) < (len : Int) := by have := HWL.out; omega
        have hcw := HF.out.held (Ib.at_ HB.out (curL_at (now := now) (n := n) hal)) (fun h => h)
        obtain ⟨u, hu⟩ := of_lt hal
        have hcu : cur W now n a = if u ≤ now then (u : Int) else -1 := by
          simp only [cur, getD_of hu]
          by_cases h : u ≤ now
          · rw [if_pos (by omega), if_pos h]
          · rw [if_neg (by omega), if_neg h]
        rw [hcu] at hcw
        have HU := Lib.hid (getD_of hu)
        have HA := Lib.hid ha
        clear hrd ha hu hcu
        by_cases hun : u < now
        · rw [if_pos (by omega)] at hcw
          have q1 : ¬ (u : Int) < 0 := by omega
          have q2 : ¬ (now : Int) ≤ (u : Int) := by omega
          have HJ2 : Hid (∀ a ∈ row.take (j + 1), W.getD a 0 < now) := Lib.hid (fun y hy => by
            rw [take_snoc HA.out] at hy
            rcases List.mem_append.1 hy with hy | hy
            · exact HJ.out y hy
            · rw [List.mem_singleton] at hy; subst hy; rw [HU.out]; exact hun)
          go_wp2_with fail
          exact ⟨⟨j + 1, by omega, by go_num, HJ2, HF⟩, by simp [intOf]; omega⟩
        · have HV : Hid (rb = false) := Lib.hid (by
            rw [HRB.out, decide_eq_false]
            intro h
            have := (HIFF.out.2 h).2 a (List.mem_of_getElem? HA.out)
            rw [HU.out] at this
            omega)
          by_cases hue : u ≤ now
          · rw [if_pos hue] at hcw
            have q1 : ¬ (u : Int) < 0 := by omega
            have q2 : (now : Int) ≤ (u : Int) := by omega
            clear hun hue
            go_wp2_with fail
            go_ret
            exact ⟨by rw [HV.out]; rfl, HF.out⟩
          · rw [if_neg hue] at hcw
            clear hun hue
            go_wp2_with fail
            go_ret
            exact ⟨by rw [HV.out]; rfl, HF.out⟩
      · have HV : Hid (rb = true) := Lib.hid (by
          rw [HRB.out, decide_eq_true]
          refine HIFF.out.1 ⟨HNM.out, fun a ha => HJ.out a ?_⟩
          rw [show j = row.length by have := HLR.out; omega, List.take_length]
          exact ha)
        go_wp2_with fail
        go_ret
        exact ⟨by rw [HV.out]; rfl, HF.out⟩
end Go.Proofs.Ytdknhiohkicogaa
