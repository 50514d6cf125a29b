/-
  Which blocks are whose; when all are at home; a new pool keeps what always holds. No condition.
-/
import Derived.Test.YtichhieopnbgpaaPureQ
namespace Go.Proofs.Ytichhieopnbgpaa

/-- The first block of a class of an owner's; how many there are. -/
def frs (S : Shp) (o c : Nat) : Nat := if c = 0 then 1 + o * S.m0 else if c = 1 then 1 + S.q0 + o * S.m1 else 1 + S.q0 + S.q1 + o * S.m2
def mny (S : Shp) (c : Nat) : Nat := if c = 0 then S.m0 else if c = 1 then S.m1 else S.m2

theorem div_in2 {i m : Nat} (hm : 0 < m) : i / m * m ≤ i ∧ i < i / m * m + m := by
  have h1 := Nat.div_add_mod i m
  have h2 := Nat.mod_lt i hm
  rw [Nat.mul_comm] at h1
  omega
theorem whr_range {S : Shp} {n a z o c : Nat} (h : whr S n = some (a, z, o, c)) : frs S o c ≤ n ∧ n < frs S o c + mny S c := by
  unfold whr at h
  by_cases h0 : n = 0
  · rw [if_pos h0] at h; cases h
  rw [if_neg h0] at h
  by_cases h1 : n - 1 < S.q0
  · rw [if_pos h1] at h
    simp only [Option.some.injEq, Prod.mk.injEq] at h
    obtain ⟨rfl, rfl, rfl, rfl⟩ := h
    have := div_in2 (i := n - 1) (div_bound (k := S.k) (m := S.m0) h1).1
    simp only [frs, mny, if_pos]
    omega
  rw [if_neg h1] at h
  by_cases h2 : n - 1 - S.q0 < S.q1
  · rw [if_pos h2] at h
    simp only [Option.some.injEq, Prod.mk.injEq] at h
    obtain ⟨rfl, rfl, rfl, rfl⟩ := h
    have := div_in2 (i := n - 1 - S.q0) (div_bound (k := S.k) (m := S.m1) h2).1
    simp only [frs, mny, if_pos, Nat.one_ne_zero, if_neg, not_false_eq_true]
    omega
  rw [if_neg h2] at h
  by_cases h3 : n - 1 - S.q0 - S.q1 < S.q2
  · rw [if_pos h3] at h
    simp only [Option.some.injEq, Prod.mk.injEq] at h
    obtain ⟨rfl, rfl, rfl, rfl⟩ := h
    have := div_in2 (i := n - 1 - S.q0 - S.q1) (div_bound (k := S.k) (m := S.m2) h3).1
    have e1 : ¬ (2 = 0) := by decide
    have e2 : ¬ (2 = 1) := by decide
    simp only [frs, mny, if_neg e1, if_neg e2]
    omega
  · rw [if_neg h3] at h; cases h
theorem whr_in {S : Shp} {n o c : Nat} (hc : c < 3) (ho : o < S.k) (h1 : frs S o c ≤ n) (h2 : n < frs S o c + mny S c) : ∃ a z, whr S n = some (a, z, o, c) := by
  have e1 : ¬ (2 = 0) := by decide
  have e2 : ¬ (2 = 1) := by decide
  have b0 : o * S.m0 + S.m0 ≤ S.q0 := mul_bound ho
  have b1 : o * S.m1 + S.m1 ≤ S.q1 := mul_bound ho
  have b2 : o * S.m2 + S.m2 ≤ S.q2 := mul_bound ho
  unfold whr
  match c, hc with
  | 0, _ =>
    simp only [frs, mny, if_pos] at h1 h2
    rw [if_neg (by omega), if_pos (by omega)]
    have : (n - 1) / S.m0 = o := Nat.div_eq_of_lt_le (by omega) (by rw [Nat.add_mul]; omega)
    rw [this]
    exact ⟨_, _, rfl⟩
  | 1, _ =>
    simp only [frs, mny, if_pos, Nat.one_ne_zero, if_neg, not_false_eq_true] at h1 h2
    rw [if_neg (by omega), if_neg (by omega), if_pos (by omega)]
    have : (n - 1 - S.q0) / S.m1 = o := Nat.div_eq_of_lt_le (by omega) (by rw [Nat.add_mul]; omega)
    rw [this]
    exact ⟨_, _, rfl⟩
  | 2, _ =>
    simp only [frs, mny, if_neg e1, if_neg e2] at h1 h2
    rw [if_neg (by omega), if_neg (by omega), if_neg (by omega), if_pos (by omega)]
    have : (n - 1 - S.q0 - S.q1) / S.m2 = o := Nat.div_eq_of_lt_le (by omega) (by rw [Nat.add_mul]; omega)
    rw [this]
    exact ⟨_, _, rfl⟩

/-! ### Rows without a number twice -/
theorem nodup_le (m : Nat) : ∀ (l : List Nat) (f : Nat), l.Nodup → (∀ n ∈ l, f ≤ n ∧ n < f + m) → l.length ≤ m := by
  induction m with
  | zero =>
    intro l f _ h
    cases l with
    | nil => simp
    | cons n r => have := h n (by simp); omega
  | succ m ih =>
    intro l f hnd h
    by_cases hm : f + m ∈ l
    · have h1 := ih (l.erase (f + m)) f (hnd.erase _) (fun n hn => by
        have h2 := h n (List.mem_of_mem_erase hn)
        have h3 : n ≠ f + m := by
          rintro rfl
          exact (hnd.mem_erase_iff.1 hn).1 rfl
        omega)
      rw [List.length_erase_of_mem hm] at h1
      omega
    · have h1 := ih l f hnd (fun n hn => by
        have h2 := h n hn
        have h3 : n ≠ f + m := by rintro rfl; exact hm hn
        omega)
      omega
theorem nodup_all (m : Nat) : ∀ (l : List Nat) (f : Nat), l.Nodup → (∀ n, f ≤ n → n < f + m → n ∈ l) → m ≤ l.length := by
  induction m with
  | zero => intro l f _ _; omega
  | succ m ih =>
    intro l f hnd h
    have hm := h (f + m) (by omega) (by omega)
    have h1 := ih (l.erase (f + m)) f (hnd.erase _) (fun n h1 h2 => hnd.mem_erase_iff.2 ⟨by omega, h n h1 (by omega)⟩)
    rw [List.length_erase_of_mem hm] at h1
    have := List.length_pos_of_mem hm
    omega
theorem nodup_full {m f : Nat} {l : List Nat} (hnd : l.Nodup) (h : ∀ n ∈ l, f ≤ n ∧ n < f + m) (hl : l.length = m) {n : Nat} (h1 : f ≤ n) (h2 : n < f + m) : n ∈ l := by
  by_cases hn : n ∈ l
  · exact hn
  · have := nodup_le m (n :: l) f (List.nodup_cons.2 ⟨hn, hnd⟩) (fun x hx => by
      rcases List.mem_cons.1 hx with rfl | hx
      · exact ⟨h1, h2⟩
      · exact h x hx)
    simp at this
    omega

section
variable {S : Shp} {base : Nat} {σ : St}
theorem Inv.len (h : Inv S base σ) {q : Nat} {l : List Nat} (hl : σ.ls[q]? = some l) : l.length ≤ S.many :=
  nodup_le S.many l 1 (h.nd _ _ hl) (fun n hn => by
    obtain ⟨a, z, o, c, hw, _, _⟩ := h.row _ _ hl n hn
    have := whr_at hw
    exact ⟨this.n1, by have := this.nm; omega⟩)
theorem Inv.rng (h : Inv S base σ) {i c : Nat} (hc : c < 3) {l : List Nat} (hl : σ.ls[i * 4 + c]? = some l) : ∀ n ∈ l, frs S i c ≤ n ∧ n < frs S i c + mny S c := by
  intro n hn
  obtain ⟨a, z, hw, _, _⟩ := h.own hc hl hn
  exact whr_range hw
theorem Inv.most (h : Inv S base σ) {i c : Nat} (hc : c < 3) {l : List Nat} (hl : σ.ls[i * 4 + c]? = some l) : l.length ≤ mny S c := nodup_le _ l _ (h.nd _ _ hl) (h.rng hc hl)
/-- Where none is taken, and none was given back by others, each row is whole. -/
theorem Inv.whole (h : Inv S base σ) (htk : ∀ n, 1 ≤ n → n ≤ S.many → σ.tk[n]? = some false) {i c : Nat} (hi : i < S.k) (hc : c < 3) (hbk : σ.ls[i * 4 + 3]? = some []) {l : List Nat} (hl : σ.ls[i * 4 + c]? = some l) : l.length = mny S c := by
  refine Nat.le_antisymm (h.most hc hl) (nodup_all (mny S c) l (frs S i c) (h.nd _ _ hl) (fun (n : Nat) h1 h2 => ?_))
  obtain ⟨a, z, hw⟩ := whr_in hc hi h1 h2
  have ha := whr_at hw
  rcases h.fr n a z i c l [] hw hl hbk (htk n ha.n1 ha.nm) with hn | hn
  · exact hn
  · cases hn
theorem missAt_iff (h : Inv S base σ) {i : Nat} (hi : i < S.k) : missAt S σ.ls i = false ↔ ∀ c l, c < 3 → σ.ls[i * 4 + c]? = some l → l.length = mny S c := by
  have hhl := h.hl
  obtain ⟨l0, h0⟩ := of_lt (show i * 4 < σ.ls.length by omega)
  obtain ⟨l1, h1⟩ := of_lt (show i * 4 + 1 < σ.ls.length by omega)
  obtain ⟨l2, h2⟩ := of_lt (show i * 4 + 2 < σ.ls.length by omega)
  unfold missAt
  rw [getDL h0, getDL h1, getDL h2]
  simp only [Bool.or_eq_false_iff, decide_eq_false_iff_not, ne_eq, Decidable.not_not]
  constructor
  · rintro ⟨⟨e0, e1⟩, e2⟩ c l hc hl
    match c, hc with
    | 0, _ => rw [show i * 4 + 0 = i * 4 from rfl, h0] at hl; cases hl; exact e0
    | 1, _ => rw [h1] at hl; cases hl; exact e1
    | 2, _ => rw [h2] at hl; cases hl; exact e2
  · intro hh
    exact ⟨⟨hh 0 l0 (by omega) h0, hh 1 l1 (by omega) h1⟩, hh 2 l2 (by omega) h2⟩
theorem missL_iff (h : Inv S base σ) : missL S σ.ls = false ↔ ∀ i c l, i < S.k → c < 3 → σ.ls[i * 4 + c]? = some l → l.length = mny S c := by
  unfold missL
  rw [List.any_eq_false]
  constructor
  · intro hh i c l hi hc hl
    have := hh i (List.mem_range.2 hi)
    exact (missAt_iff h hi).1 (by simpa using this) c l hc hl
  · intro hh i hi
    have := (missAt_iff h (List.mem_range.1 hi)).2 (fun c l hc hl => hh i c l (List.mem_range.1 hi) hc hl)
    rw [this]; simp
/-- All are at home: none is taken, and none was given back by others. -/
theorem home_iff (h : Inv S base σ) : missL S σ.ls = false ↔ (∀ n, 1 ≤ n → n ≤ S.many → σ.tk[n]? = some false) ∧ (∀ i, i < S.k → σ.ls[i * 4 + 3]? = some []) := by
  have hhl := h.hl
  have hht := h.htl
  rw [missL_iff h]
  constructor
  · intro hh
    constructor
    · intro n h1 h2
      obtain ⟨a, z, o, c, hw⟩ := whr_some (S := S) h1 h2
      have ha := whr_at hw
      have ho := ha.own
      have hc := ha.cls
      obtain ⟨l, hl⟩ := of_lt (show o * 4 + c < σ.ls.length by omega)
      have hr := whr_range hw
      have hn := nodup_full (h.nd _ _ hl) (h.rng hc hl) (hh o c l ho hc hl) hr.1 hr.2
      obtain ⟨_, _, _, ht, _⟩ := h.own hc hl hn
      exact ht
    · intro i hi
      obtain ⟨l, hl⟩ := of_lt (show i * 4 + 3 < σ.ls.length by omega)
      cases l with
      | nil => exact hl
      | cons n r =>
        obtain ⟨a, z, c, hw, _, _⟩ := h.backs hl (n := n) (by simp)
        have hc := (whr_at hw).cls
        obtain ⟨l, hl'⟩ := of_lt (show i * 4 + c < σ.ls.length by omega)
        have hr := whr_range hw
        have hn := nodup_full (h.nd _ _ hl') (h.rng hc hl') (hh i c l hi hc hl') hr.1 hr.2
        exact absurd (List.mem_cons_self) (h.one n a z i c l _ hw hl' hl hn)
  · rintro ⟨ht, hb⟩ i c l hi hc hl
    exact h.whole ht hi hc (hb i hi) hl
end

/-! ### A new one -/
theorem rowL_nodup (b m : Nat) : (rowL b m).Nodup := by
  unfold rowL List.Nodup
  rw [List.pairwise_map]
  refine List.Pairwise.imp_of_mem ?_ List.nodup_range
  intro a c ha hc hne
  have := List.mem_range.1 ha
  have := List.mem_range.1 hc
  omega
theorem rowL_mem {b m n : Nat} : n ∈ rowL b m ↔ b ≤ n ∧ n < b + m := by
  unfold rowL
  rw [List.mem_map]
  constructor
  · rintro ⟨j, hj, rfl⟩
    have := List.mem_range.1 hj
    omega
  · intro h
    exact ⟨m - 1 - (n - b), List.mem_range.2 (by omega), by omega⟩
theorem rowAt_of (S : Shp) {q c : Nat} (hc : c < 3) (hq : q % 4 = c) : rowAt S q = rowL (frs S (q / 4) c) (mny S c) := by
  subst hq
  have e1 : ¬ (2 = 0) := by decide
  have e2 : ¬ (2 = 1) := by decide
  unfold rowAt frs mny
  by_cases h0 : q % 4 = 0
  · rw [if_pos h0, if_pos h0, if_pos h0]
  · rw [if_neg h0, if_neg h0, if_neg h0]
    by_cases h1 : q % 4 = 1
    · rw [if_pos h1, if_pos h1, if_pos h1]
    · rw [if_neg h1, if_neg h1, if_neg h1, if_pos (by omega)]
theorem rowAt_back (S : Shp) {q : Nat} (hq : q % 4 = 3) : rowAt S q = [] := by
  unfold rowAt
  rw [if_neg (by omega), if_neg (by omega), if_neg (by omega)]
theorem initL_at {S : Shp} {q : Nat} {l : List Nat} (h : (initL S)[q]? = some l) : q < 4 * S.k ∧ l = rowAt S q := by
  unfold initL at h
  rw [List.getElem?_map] at h
  by_cases hq : q < 4 * S.k
  · rw [List.getElem?_range hq] at h
    simp at h
    exact ⟨hq, h.symm⟩
  · rw [List.getElem?_eq_none (by simp; omega)] at h
    cases h
def initSt (S : Shp) (ws : List (Bool × Int)) : St := ⟨initL S, List.replicate (S.many + 1) false, ws⟩
theorem Inv.init {S : Shp} {base : Nat} {ws : List (Bool × Int)} (hws : ∀ j, j < S.words → ∃ m, ws[base + j]? = some (false, m)) (hl : base + S.words ≤ ws.length) : Inv S base (initSt S ws) := by
  have htk : ∀ {n : Nat} {f : Bool}, (List.replicate (S.many + 1) false)[n]? = some f → f = false := by
    intro n f h
    exact (List.eq_of_mem_replicate (List.mem_of_getElem? h))
  refine ⟨by simp [initSt, initL], by simp [initSt], ?_, ?_, ?_, ?_, ?_, hl⟩
  · intro q l h
    obtain ⟨hq, rfl⟩ := initL_at h
    by_cases hc : q % 4 < 3
    · rw [rowAt_of S hc rfl]; exact rowL_nodup _ _
    · rw [rowAt_back S (by omega)]; simp
  · intro q l h n hn
    obtain ⟨hq, rfl⟩ := initL_at h
    by_cases hc : q % 4 < 3
    · rw [rowAt_of S hc rfl, rowL_mem] at hn
      obtain ⟨a, z, hw⟩ := whr_in hc (o := q / 4) (by omega) hn.1 hn.2
      have ha := whr_at hw
      refine ⟨a, z, _, _, hw, .inl (by omega), ?_⟩
      show (List.replicate (S.many + 1) false)[n]? = _
      rw [List.getElem?_replicate, if_pos (by have := ha.nm; omega)]
    · rw [rowAt_back S (by omega)] at hn; cases hn
  · intro n a z o c l l' hw hq hq' hn hn'
    obtain ⟨_, rfl⟩ := initL_at hq'
    rw [rowAt_back S (by omega)] at hn'; cases hn'
  · intro n a z o c l l' hw hq hq' ht
    have hr := whr_range hw
    have hc := (whr_at hw).cls
    obtain ⟨_, rfl⟩ := initL_at hq
    refine .inl ?_
    rw [rowAt_of S hc (by omega), rowL_mem, show (o * 4 + c) / 4 = o by omega]
    exact hr
  · intro n a z o c f hw hf k hk
    have := (whr_at hw).fits
    rw [htk hf]
    obtain ⟨m, hm⟩ := hws (a + k) (by omega)
    exact ⟨m, by show ws[base + a + k]? = _; rw [Nat.add_assoc]; exact hm⟩
end Go.Proofs.Ytichhieopnbgpaa
