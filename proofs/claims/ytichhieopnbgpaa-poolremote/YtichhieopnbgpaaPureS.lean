/-
  One worker's blocks are taken in order and given back by two, in plain words. No condition.
-/
import Derived.Test.YtichhieopnbgpaaP24
namespace Go.Proofs.Ytichhieopnbgpaa
open Go.RowKit

abbrev rS (n : Nat) : Shp := ⟨2, 2, 1, 1, n, 0, 0⟩
theorem rS_many (n : Nat) : (rS n).many = 2 * n := by simp [Shp.many, Shp.q0, Shp.q1, Shp.q2]
theorem rS_words (n : Nat) : (rS n).words = 2 * n * 2 := by simp [Shp.words, Shp.r0, Shp.r1, Shp.r2, Shp.q0, Shp.q1, Shp.q2]
theorem rS_ok {n : Nat} (h : n ≤ 29) : (rS n).Ok := ⟨by show 1 ≤ 2; omega, by show 2 ≤ 64; omega, by show 1 ≤ 2 ∧ 2 ≤ 64; omega, by show 1 ≤ 1 ∧ 1 ≤ 64; omega, by show 1 ≤ 1 ∧ 1 ≤ 64; omega, by show n ≤ 1000; omega, by show 0 ≤ 1000; omega, by show 0 ≤ 1000; omega⟩
theorem rS_whr {n m : Nat} (h1 : 1 ≤ m) (h2 : m ≤ n) : ∃ a z, whr (rS n) m = some (a, z, 0, 0) :=
  whr_in (S := rS n) (o := 0) (c := 0) (by decide) (by show 0 < 2; omega) (by simp [frs]; omega) (by simp [frs, mny]; omega)
theorem rowL_snoc (b m : Nat) : rowL b (m + 1) = rowL (b + 1) m ++ [b] := by
  unfold rowL
  rw [List.range_succ, List.map_append]
  congr 1
  · apply List.map_congr_left
    intro j hj
    have := List.mem_range.1 hj
    omega
  · simp

structure Rem1 (n j : Nat) (σ : St) : Prop where
  inv : Inv (rS n) 0 σ
  r0 : σ.ls[0]? = some (rowL (1 + j) (n - j))
  r3 : σ.ls[3]? = some []
  r7 : σ.ls[7]? = some []
  tk : ∀ m, 1 ≤ m → m ≤ n → σ.tk[m]? = some (decide (m ≤ j))
  hi : ∀ m, n < m → m ≤ 2 * n → σ.tk[m]? = some false
theorem Rem1.start (n : Nat) {ws : List (Bool × Int)} (hi : Inv (rS n) 0 (initSt (rS n) ws)) : Rem1 n 0 (initSt (rS n) ws) := by
  have hf : ∀ m, m ≤ 2 * n → (initSt (rS n) ws).tk[m]? = some false := by
    intro m hm
    show (List.replicate ((rS n).many + 1) false)[m]? = _
    rw [List.getElem?_replicate, if_pos (by rw [rS_many]; omega)]
  have hrow : ∀ q, q < 8 → (initSt (rS n) ws).ls[q]? = some (rowAt (rS n) q) := by
    intro q hq
    show (initL (rS n))[q]? = _
    unfold initL
    rw [List.getElem?_map, List.getElem?_range (by show q < 4 * 2; omega)]
    rfl
  refine ⟨hi, ?_, ?_, ?_, fun m h1 h2 => ?_, fun m _ h2 => hf m h2⟩
  · rw [hrow 0 (by omega)]
    simp [rowAt]
  · rw [hrow 3 (by omega)]; rfl
  · rw [hrow 7 (by omega)]; rfl
  · rw [hf m (by omega), decide_eq_false (by omega)]
theorem Rem1.take {n j : Nat} {σ : St} (h : Rem1 n j σ) (hj : j < n) : ∃ σ', takeP (rS n) 0 σ 0 0 = (j + 1, 0, σ') ∧ Rem1 n (j + 1) σ' := by
  have hr0 := h.r0
  rw [show n - j = (n - (j + 1)) + 1 by omega, rowL_snoc] at hr0
  have ht := takeP_some (S := rS n) (base := 0) (σ := σ) (i := 0) (c := 0) (n := 1 + j) (by show 0 < 2; omega) (by decide) hr0
  rw [show (1 + j) = j + 1 by omega] at ht hr0
  refine ⟨_, ht, h.inv.take (i := 0) (c := 0) (by decide) hr0, ?_, ?_, ?_, fun m h1 h2 => ?_, fun m h1 h2 => ?_⟩
  · show (σ.ls.set 0 _)[0]? = _
    rw [List.getElem?_set_self (lt_of hr0), show 1 + (j + 1) = j + 1 + 1 by omega]
  · show (σ.ls.set 0 _)[3]? = _
    rw [List.getElem?_set_ne (by decide)]; exact h.r3
  · show (σ.ls.set 0 _)[7]? = _
    rw [List.getElem?_set_ne (by decide)]; exact h.r7
  · show (σ.tk.set (j + 1) true)[m]? = _
    by_cases e : j + 1 = m
    · subst e
      rw [List.getElem?_set_self (lt_of (h.tk _ h1 h2)), decide_eq_true (by omega)]
    · rw [List.getElem?_set_ne e, h.tk m h1 h2]
      congr 1
      exact decide_eq_decide.2 (by omega)
  · show (σ.tk.set (j + 1) true)[m]? = _
    rw [List.getElem?_set_ne (by omega)]; exact h.hi m h1 h2

structure Rem2 (n i c : Nat) (σ : St) : Prop where
  inv : Inv (rS n) 0 σ
  ci : c ≤ i
  r0 : ∃ l, σ.ls[0]? = some l ∧ l.length = i - c
  r3 : ∃ l, σ.ls[3]? = some l ∧ l.length = c
  r7 : σ.ls[7]? = some []
  tk : ∀ m, 1 ≤ m → m ≤ n → σ.tk[m]? = some (decide (i < m))
  hi : ∀ m, n < m → m ≤ 2 * n → σ.tk[m]? = some false
theorem Rem1.end_ {n : Nat} {σ : St} (h : Rem1 n n σ) : Rem2 n 0 0 σ := by
  refine ⟨h.inv, Nat.le_refl _, ⟨_, h.r0, by rw [rowL_length]; omega⟩, ⟨_, h.r3, rfl⟩, h.r7, fun m h1 h2 => ?_, h.hi⟩
  rw [h.tk m h1 h2]
  congr 1
  exact decide_eq_decide.2 (by omega)
theorem Rem2.give {n i c u : Nat} {σ : St} (h : Rem2 n i c σ) (hi : i < n) (hu : u < 2) : ∃ σ', giveP (rS n) 0 σ u ((i + 1 : Nat) : Int) = (0, σ') ∧ giveP (rS n) 0 σ' u ((i + 1 : Nat) : Int) = (11, σ') ∧ Rem2 n (i + 1) (c + u) σ' := by
  obtain ⟨a, z, hw⟩ := rS_whr (n := n) (m := i + 1) (by omega) (by omega)
  have ht : σ.tk[i + 1]? = some true := by rw [h.tk _ (by omega) (by omega), decide_eq_true (by omega)]
  obtain ⟨l0, h0, e0⟩ := h.r0
  obtain ⟨l3, h3, e3⟩ := h.r3
  have hci := h.ci
  have hmany := rS_many n
  have htk : ∀ m, 1 ≤ m → m ≤ n → (σ.tk.set (i + 1) false)[m]? = some (decide (i + 1 < m)) := by
    intro m h1 h2
    by_cases e : i + 1 = m
    · subst e
      rw [List.getElem?_set_self (lt_of ht), decide_eq_false (by omega)]
    · rw [List.getElem?_set_ne e, h.tk m h1 h2]
      congr 1
      exact decide_eq_decide.2 (by omega)
  have hhi : ∀ m, n < m → m ≤ 2 * n → (σ.tk.set (i + 1) false)[m]? = some false := by
    intro m h1 h2
    rw [List.getElem?_set_ne (by omega)]; exact h.hi m h1 h2
  rcases (show u = 0 ∨ u = 1 by omega) with rfl | rfl
  · have hg := giveP_yes (S := rS n) (base := 0) (σ := σ) (i := 0) (n := i + 1) (ix := 0) (by show 0 < 2; omega) hw ht rfl h0
    refine ⟨_, hg, giveP_state (by show 0 < 2; omega) (by omega) (by rw [hmany]; omega) (List.getElem?_set_self (lt_of ht)), h.inv.give (ix := 0) hw ht (.inl rfl) h0, by omega, ⟨_, List.getElem?_set_self (lt_of h0), by simp [e0]; omega⟩, ⟨l3, ?_, e3⟩, ?_, htk, hhi⟩
    · show (σ.ls.set 0 _)[3]? = _
      rw [List.getElem?_set_ne (by decide)]; exact h3
    · show (σ.ls.set 0 _)[7]? = _
      rw [List.getElem?_set_ne (by decide)]; exact h.r7
  · have hg := giveP_yes (S := rS n) (base := 0) (σ := σ) (i := 1) (n := i + 1) (ix := 3) (by show 1 < 2; omega) hw ht rfl h3
    refine ⟨_, hg, giveP_state (by show 1 < 2; omega) (by omega) (by rw [hmany]; omega) (List.getElem?_set_self (lt_of ht)), h.inv.give (ix := 3) hw ht (.inr rfl) h3, by omega, ⟨l0, ?_, by omega⟩, ⟨_, List.getElem?_set_self (lt_of h3), by simp [e3]⟩, ?_, htk, hhi⟩
    · show (σ.ls.set 3 _)[0]? = _
      rw [List.getElem?_set_ne (by decide)]; exact h0
    · show (σ.ls.set 3 _)[7]? = _
      rw [List.getElem?_set_ne (by decide)]; exact h.r7

/-- All were given back. -/
theorem Rem2.home {n c : Nat} {σ : St} (h : Rem2 n n c σ) : (!missL (rS n) σ.ls) = decide (c = 0) := by
  obtain ⟨l3, h3, e3⟩ := h.r3
  have htk : ∀ m, 1 ≤ m → m ≤ (rS n).many → σ.tk[m]? = some false := by
    intro m h1 h2
    rw [rS_many] at h2
    by_cases hm : m ≤ n
    · rw [h.tk m h1 hm, decide_eq_false (by omega)]
    · exact h.hi m (by omega) h2
  by_cases hc : c = 0
  · rw [decide_eq_true hc, (home_iff h.inv).2 ⟨htk, fun i hi => by
      have hi : i < 2 := hi
      rcases (show i = 0 ∨ i = 1 by omega) with rfl | rfl
      · have : l3 = [] := List.length_eq_zero_iff.1 (by omega)
        rw [← this]; exact h3
      · exact h.r7⟩]
    rfl
  · rw [decide_eq_false hc]
    cases hm : missL (rS n) σ.ls with
    | true => rfl
    | false =>
      have := ((home_iff h.inv).1 hm).2 0 (by show 0 < 2; omega)
      rw [show 0 * 4 + 3 = 3 from rfl, h3] at this
      cases this
      exact absurd e3.symm hc
theorem Rem2.drain1 {n c : Nat} {σ : St} (h : Rem2 n n c σ) : ∃ σ', drainP (rS n) σ 1 = (0, σ') ∧ Inv (rS n) 0 σ' ∧ (∃ l, σ'.ls[3]? = some l ∧ l.length = c) ∧ σ'.ls[7]? = some [] ∧ σ'.tk = σ.tk := by
  have hd := drainP_yes (S := rS n) (σ := σ) (i := 1) (by show 1 < 2; omega) h.r7
  have hb := fun j => drainP_back (j := j) h.inv (i := 1) (by show 1 < 2; omega)
  have hd' : drainP (rS n) σ ((1 : Nat) : Int) = (0, drainSt (rS n) σ 1) := hd
  rw [hd'] at hb
  obtain ⟨l3, h3, e3⟩ := h.r3
  exact ⟨_, hd, h.inv.drain (by show 1 < 2; omega), ⟨l3, by have := hb 0; simpa [h3] using this, e3⟩, by have := hb 1; simpa using this, rfl⟩
theorem Rem2.drain0 {n c : Nat} {σ σ1 : St} (h : Rem2 n n c σ) (hi : Inv (rS n) 0 σ1) (h3 : ∃ l, σ1.ls[3]? = some l ∧ l.length = c) (h7 : σ1.ls[7]? = some []) (ht : σ1.tk = σ.tk) :
    ∃ σ', drainP (rS n) σ1 0 = (c, σ') ∧ drainP (rS n) σ' 0 = (0, drainSt (rS n) σ' 0) ∧ (drainSt (rS n) σ' 0).ls[0]?.map List.length = some n ∧ (drainSt (rS n) σ' 0).ls[4]?.map List.length = some n ∧ missL (rS n) (drainSt (rS n) σ' 0).ls = false := by
  obtain ⟨l3, h3, e3⟩ := h3
  have hd := drainP_yes (S := rS n) (σ := σ1) (i := 0) (by show 0 < 2; omega) h3
  have hb := fun j => drainP_back (j := j) hi (i := 0) (by show 0 < 2; omega)
  rw [e3] at hd
  have hd' : drainP (rS n) σ1 ((0 : Nat) : Int) = (c, drainSt (rS n) σ1 0) := hd
  rw [hd'] at hb
  have hi1 := hi.drain (i := 0) (by show 0 < 2; omega)
  have hb3 : (drainSt (rS n) σ1 0).ls[3]? = some [] := by have := hb 0; simpa using this
  have hb7 : (drainSt (rS n) σ1 0).ls[7]? = some [] := by have := hb 1; simpa [h7] using this
  have hd2 := drainP_yes (S := rS n) (σ := drainSt (rS n) σ1 0) (i := 0) (by show 0 < 2; omega) hb3
  have hb' := fun j => drainP_back (j := j) hi1 (i := 0) (by show 0 < 2; omega)
  rw [hd2] at hb'
  have hi2 := hi1.drain (i := 0) (by show 0 < 2; omega)
  have hc3 : (drainSt (rS n) (drainSt (rS n) σ1 0) 0).ls[3]? = some [] := by have := hb' 0; simpa using this
  have hc7 : (drainSt (rS n) (drainSt (rS n) σ1 0) 0).ls[7]? = some [] := by have := hb' 1; simpa [hb7] using this
  have htk : ∀ m, 1 ≤ m → m ≤ (rS n).many → (drainSt (rS n) (drainSt (rS n) σ1 0) 0).tk[m]? = some false := by
    intro m h1 h2
    rw [rS_many] at h2
    show σ1.tk[m]? = _
    rw [ht]
    by_cases hm : m ≤ n
    · rw [h.tk m h1 hm, decide_eq_false (by omega)]
    · exact h.hi m (by omega) h2
  have hhl := hi2.hl
  have hk : (rS n).k = 2 := rfl
  obtain ⟨l0, h0⟩ := of_lt (show 0 < (drainSt (rS n) (drainSt (rS n) σ1 0) 0).ls.length by omega)
  obtain ⟨l4, h4⟩ := of_lt (show 4 < (drainSt (rS n) (drainSt (rS n) σ1 0) 0).ls.length by omega)
  have e0 := hi2.whole htk (i := 0) (c := 0) (by show 0 < 2; omega) (by decide) hc3 h0
  have e4 := hi2.whole htk (i := 1) (c := 0) (by show 1 < 2; omega) (by decide) hc7 h4
  refine ⟨_, hd, hd2, by rw [h0]; simpa [mny] using e0, by rw [h4]; simpa [mny] using e4, (home_iff hi2).2 ⟨htk, fun i hi => ?_⟩⟩
  have hi : i < 2 := hi
  rcases (show i = 0 ∨ i = 1 by omega) with rfl | rfl
  · exact hc3
  · exact hc7
end Go.Proofs.Ytichhieopnbgpaa
