/-
  greedy.Fits. No condition.
-/
import Derived.Test.YtdknhiohkicogaaY5
namespace Go.Proofs.Ytdknhiohkicogaa
open Go.RowKit

/-! ### Plain words -/
def lateB (V : List Int) (row : List Nat) (z : Int) : Bool := row.any fun a => decide (z ≤ V.getD a 0)
def okB (k : Nat) (V : List Int) (i : Nat) (row : List Nat) (z : Int) : Bool := decide (0 ≤ z) && decide ((V.take (i + 1)).count z ≤ k) && !lateB V row z
def fitsFrom (k : Nat) (V : List Int) : Nat → List (List Nat) → Bool
  | _, [] => true
  | i, row :: G => okB k V i row (V.getD i 0) && fitsFrom k V (i + 1) G
def fitB (k : Nat) (G : List (List Nat)) (V : List Int) : Bool := decide (V.length = G.length) && fitsFrom k V 0 G
def refOk (k : Nat) (V : List Int) (row : List Nat) (z : Int) : Bool := decide (0 ≤ z) && (!lateB V row z && decide (V.count z ≤ k))
def refFrom (k : Nat) (V : List Int) : Nat → List (List Nat) → Bool
  | _, [] => true
  | i, row :: G => refOk k V row (V.getD i 0) && refFrom k V (i + 1) G
def refB (k : Nat) (G : List (List Nat)) (V : List Int) : Bool := decide (V.length = G.length) && refFrom k V 0 G

theorem getDI {V : List Int} {n : Nat} {m : Int} (h : V[n]? = some m) : V.getD n 0 = m := by simp [List.getD, h]
theorem fitsFrom_iff {k : Nat} {V : List Int} : ∀ (G : List (List Nat)) (i : Nat), fitsFrom k V i G = true ↔ ∀ (j : Nat) (row : List Nat), G[j]? = some row → okB k V (i + j) row (V.getD (i + j) 0) = true
  | [], i => by simp [fitsFrom]
  | r :: G, i => by
    simp only [fitsFrom, Bool.and_eq_true]
    rw [fitsFrom_iff G (i + 1)]
    constructor
    · rintro ⟨h1, h2⟩ j row hj
      cases j with
      | zero => simp at hj; subst hj; exact h1
      | succ j => have := h2 j row (by simpa using hj); rwa [show i + 1 + j = i + (j + 1) by omega] at this
    · intro h
      exact ⟨h 0 r (by simp), fun j row hj => by have := h (j + 1) row (by simpa using hj); rwa [show i + (j + 1) = i + 1 + j by omega] at this⟩
theorem refFrom_iff {k : Nat} {V : List Int} : ∀ (G : List (List Nat)) (i : Nat), refFrom k V i G = true ↔ ∀ (j : Nat) (row : List Nat), G[j]? = some row → refOk k V row (V.getD (i + j) 0) = true
  | [], i => by simp [refFrom]
  | r :: G, i => by
    simp only [refFrom, Bool.and_eq_true]
    rw [refFrom_iff G (i + 1)]
    constructor
    · rintro ⟨h1, h2⟩ j row hj
      cases j with
      | zero => simp at hj; subst hj; exact h1
      | succ j => have := h2 j row (by simpa using hj); rwa [show i + 1 + j = i + (j + 1) by omega] at this
    · intro h
      exact ⟨h 0 r (by simp), fun j row hj => by have := h (j + 1) row (by simpa using hj); rwa [show i + (j + 1) = i + 1 + j by omega] at this⟩
theorem count_take_int (V : List Int) (n : Nat) (z : Int) : (V.take n).count z ≤ V.count z := List.Sublist.count_le z (List.take_sublist n V)
/-- Where a value stands last all of it is counted. -/
theorem last_at {V : List Int} {z : Int} : ∀ n : Nat, 0 < (V.take n).count z → ∃ i : Nat, i < n ∧ V[i]? = some z ∧ (V.take (i + 1)).count z = (V.take n).count z
  | 0, h => by simp at h
  | n + 1, h => by
    by_cases hn : n < V.length
    · obtain ⟨x, hx⟩ := of_lt hn
      by_cases hxz : x = z
      · subst hxz
        exact ⟨n, by omega, hx, rfl⟩
      · have h1 : (V.take (n + 1)).count z = (V.take n).count z := by
          rw [take_snoc hx, List.count_append]
          simp [hxz]
        rw [h1] at h
        obtain ⟨i, a, b, c⟩ := last_at n h
        exact ⟨i, by omega, b, by rw [c, h1]⟩
    · have h1 : V.take (n + 1) = V.take n := by rw [List.take_of_length_le (by omega), List.take_of_length_le (by omega)]
      rw [h1] at h ⊢
      obtain ⟨i, a, b, c⟩ := last_at n h
      exact ⟨i, by omega, b, c⟩
theorem fit_ref (k : Nat) (G : List (List Nat)) (V : List Int) : fitB k G V = refB k G V := by
  rw [Bool.eq_iff_iff]
  simp only [fitB, refB, Bool.and_eq_true, decide_eq_true_eq]
  rw [fitsFrom_iff, refFrom_iff]
  simp only [Nat.zero_add, okB, refOk, Bool.and_eq_true, decide_eq_true_eq]
  constructor
  · rintro ⟨hl, h⟩
    refine ⟨hl, fun j row hj => ?_⟩
    obtain ⟨⟨h1, h2⟩, h3⟩ := h j row hj
    refine ⟨h1, h3, ?_⟩
    obtain ⟨z, hz⟩ := of_lt (show j < V.length by have := lt_of hj; omega)
    rw [getDI hz] at h2 ⊢
    have h4 : (V.take V.length).count z = V.count z := by rw [List.take_length]
    have h5 : 0 < V.count z := List.count_pos_iff.2 (List.mem_of_getElem? hz)
    obtain ⟨i, hi, hiz, he⟩ := last_at V.length (by rw [h4]; exact h5)
    obtain ⟨row', hr'⟩ := of_lt (show i < G.length by omega)
    have h6 := (h i row' hr').1.2
    rw [getDI hiz] at h6
    omega
  · rintro ⟨hl, h⟩
    refine ⟨hl, fun j row hj => ?_⟩
    obtain ⟨h1, h2, h3⟩ := h j row hj
    exact ⟨⟨h1, Nat.le_trans (count_take_int _ _ _) h3⟩, h2⟩

theorem count_ni (W : List Nat) (m : Nat) : (ni W).count (m : Int) = W.count m := by
  induction W with
  | nil => rfl
  | cons x r ih =>
    show List.count (m : Int) ((x : Int) :: ni r) = _
    rw [List.count_cons, List.count_cons, ih]
    congr 1
    by_cases h : x = m
    · subst h; simp
    · have h2 : ¬ (x : Int) = (m : Int) := by omega
      simp [h, h2]
theorem ni_getD (W : List Nat) (a : Nat) : (ni W).getD a 0 = (W.getD a 0 : Int) := by
  simp only [List.getD_eq_getElem?_getD, ni, List.getElem?_map]
  cases W[a]? <;> rfl
theorem fit_of {k : Nat} {G : List (List Nat)} {W : List Nat} (h : Fit k G W) : fitB k G (ni W) = true := by
  rw [fit_ref]
  simp only [refB, Bool.and_eq_true, decide_eq_true_eq]
  refine ⟨by rw [ni_length]; exact h.len, ?_⟩
  rw [refFrom_iff]
  intro j row hj
  rw [Nat.zero_add]
  obtain ⟨m, hm⟩ := of_lt (show j < W.length by have := lt_of hj; have := h.len; omega)
  rw [getDI (ni_at hm)]
  simp only [refOk, Bool.and_eq_true, decide_eq_true_eq, lateB, Bool.not_eq_true', List.any_eq_false]
  refine ⟨by omega, fun a ha => ?_, by rw [count_ni]; exact h.many m⟩
  have := h.behind j row m hj hm a ha
  rw [ni_getD]
  omega
theorem of_fit {k : Nat} {G : List (List Nat)} {V : List Int} (h : fitB k G V = true) : ∃ W, V = ni W ∧ Fit k G W := by
  rw [fit_ref] at h
  simp only [refB, Bool.and_eq_true, decide_eq_true_eq] at h
  obtain ⟨hl, h⟩ := h
  rw [refFrom_iff] at h
  have hnn : ∀ z ∈ V, 0 ≤ z := by
    intro z hz
    obtain ⟨j, hj⟩ := List.getElem?_of_mem hz
    obtain ⟨row, hr⟩ := of_lt (show j < G.length by have := lt_of hj; omega)
    have := h j row hr
    rw [Nat.zero_add, getDI hj] at this
    simp only [refOk, Bool.and_eq_true, decide_eq_true_eq] at this
    exact this.1
  have hV : V = ni (V.map Int.toNat) := by
    rw [ni, List.map_map]
    conv => lhs; rw [← List.map_id V]
    apply List.map_congr_left
    intro z hz
    have := hnn z hz
    simp only [Function.comp, id]
    omega
  refine ⟨V.map Int.toNat, hV, ⟨by simpa using hl, fun n row m hr hm a ha => ?_, fun m => ?_⟩⟩
  · have h1 := h n row hr
    rw [Nat.zero_add, hV, getDI (ni_at hm)] at h1
    simp only [refOk, Bool.and_eq_true, decide_eq_true_eq, lateB, Bool.not_eq_true', List.any_eq_false] at h1
    have h2 := h1.2.1 a ha
    rw [ni_getD] at h2
    omega
  · rcases Nat.eq_zero_or_pos ((V.map Int.toNat).count m) with h0 | h0
    · omega
    · obtain ⟨j, hj⟩ := List.getElem?_of_mem (List.count_pos_iff.1 h0)
      obtain ⟨row, hr⟩ := of_lt (show j < G.length by have := lt_of hj; simp at this; omega)
      have h1 := h j row hr
      rw [Nat.zero_add, hV, getDI (ni_at hj)] at h1
      simp only [refOk, Bool.and_eq_true, decide_eq_true_eq] at h1
      have := h1.2.2
      rwa [count_ni] at this

/-! ### The closures -/
set_option maxHeartbeats 4000000 in
theorem later_any (w : World) (Q : Nat → Prop) (B : Option Addr) (n cb y x : Nat) (V : List Int) (a s : Nat) (z u : Int) (hV : Rd w Q 1 B n (ic V)) (hn : n = V.length) (ha : V[a]? = some u) (hs : V[s]? = some z)
    (hy : w.cell? ⟨y, 0, none⟩ = some (.slice B n cb)) (hx : w.cell? ⟨x, 0, none⟩ = some (.int .i64 (s : Int))) :
    Calls Try.prog 27 #[.int .i64 (a : Int), .pointer (some ⟨y, 0, none⟩), .pointer (some ⟨x, 0, none⟩)] w fun e w' => e = .returned (.bool (decide (z ≤ u))) ∧ Fr F0 w w' := by
  have hal : a < n := by have := lt_of ha; omega
  have hsl : s < n := by have := lt_of hs; omega
  have g1 : (a : Int) < (n : Int) := by omega
  have g2 : (s : Int) < (n : Int) := by omega
  subst hn
  obtain ⟨b, off, hBe, _, c1⟩ := Rd.int_at hV ha
  obtain ⟨b', off', hBe', _, c2⟩ := Rd.int_at hV hs
  subst hBe
  injection hBe' with hBe'
  injection hBe' with e1 e2
  subst e1; subst e2
  have hyl := cell_lt hy
  have hxl := cell_lt hx
  have hbl := cell_lt c1
  clear hV ha hs
  go_enter Try.func27, Try.ntmps27
  go_wp2_with fail
  go_quiet (fail)
  go_wp2_with fail
  go_ret
  exact ⟨rfl, (Fr.refl _ _).drewN _⟩
end Go.Proofs.Ytdknhiohkicogaa
