/-
  A pool in plain words: its shape, where a block stands, what its rows hold. No condition.
-/
namespace Go.Proofs.Ytichhieopnbgpaa

theorem of_lt {α : Type} {W : List α} {n : Nat} (h : n < W.length) : ∃ m, W[n]? = some m := ⟨_, List.getElem?_eq_getElem h⟩
theorem lt_of {α : Type} {W : List α} {n : Nat} {m : α} (h : W[n]? = some m) : n < W.length := (List.getElem?_eq_some_iff.1 h).1

/-- How many there are: workers, sizes, how many of each class each has. -/
structure Shp where
  k : Nat
  s0 : Nat
  s1 : Nat
  s2 : Nat
  m0 : Nat
  m1 : Nat
  m2 : Nat
namespace Shp
def q0 (S : Shp) : Nat := S.k * S.m0
def q1 (S : Shp) : Nat := S.k * S.m1
def q2 (S : Shp) : Nat := S.k * S.m2
def r0 (S : Shp) : Nat := S.q0 * S.s0
def r1 (S : Shp) : Nat := S.q1 * S.s1
def r2 (S : Shp) : Nat := S.q2 * S.s2
/-- All words, all blocks. -/
def words (S : Shp) : Nat := S.r0 + S.r1 + S.r2
def many (S : Shp) : Nat := S.q0 + S.q1 + S.q2
end Shp
/-- It may be. -/
structure Shp.Ok (S : Shp) : Prop where
  k1 : 1 ≤ S.k
  k2 : S.k ≤ 64
  a0 : 1 ≤ S.s0 ∧ S.s0 ≤ 64
  a1 : 1 ≤ S.s1 ∧ S.s1 ≤ 64
  a2 : 1 ≤ S.s2 ∧ S.s2 ≤ 64
  b0 : S.m0 ≤ 1000
  b1 : S.m1 ≤ 1000
  b2 : S.m2 ≤ 1000
theorem Shp.Ok.q {S : Shp} (h : S.Ok) : S.q0 ≤ 64000 ∧ S.q1 ≤ 64000 ∧ S.q2 ≤ 64000 :=
  ⟨Nat.mul_le_mul h.k2 h.b0, Nat.mul_le_mul h.k2 h.b1, Nat.mul_le_mul h.k2 h.b2⟩
theorem Shp.Ok.r {S : Shp} (h : S.Ok) : S.r0 ≤ 4096000 ∧ S.r1 ≤ 4096000 ∧ S.r2 ≤ 4096000 :=
  ⟨Nat.mul_le_mul h.q.1 h.a0.2, Nat.mul_le_mul h.q.2.1 h.a1.2, Nat.mul_le_mul h.q.2.2 h.a2.2⟩

/-- Where a block stands (behind the first one's place), its size, its owner, its class. -/
def whr (S : Shp) (n : Nat) : Option (Nat × Nat × Nat × Nat) :=
  if n = 0 then none
  else if n - 1 < S.q0 then some ((n - 1) * S.s0, S.s0, (n - 1) / S.m0, 0)
  else if n - 1 - S.q0 < S.q1 then some (S.r0 + (n - 1 - S.q0) * S.s1, S.s1, (n - 1 - S.q0) / S.m1, 1)
  else if n - 1 - S.q0 - S.q1 < S.q2 then some (S.r0 + S.r1 + (n - 1 - S.q0 - S.q1) * S.s2, S.s2, (n - 1 - S.q0 - S.q1) / S.m2, 2)
  else none

theorem div_bound {i k m : Nat} (h : i < k * m) : 0 < m ∧ i / m < k := by
  have hm : 0 < m := by
    rcases Nat.eq_zero_or_pos m with rfl | hm
    · simp at h
    · exact hm
  exact ⟨hm, Nat.div_lt_of_lt_mul (by rw [Nat.mul_comm]; exact h)⟩
theorem mul_bound {i q s : Nat} (h : i < q) : i * s + s ≤ q * s := by
  have := Nat.mul_le_mul_right s (show i + 1 ≤ q from h)
  rw [Nat.add_mul] at this
  omega

/-- What holds of a place that is told. -/
structure At (S : Shp) (n : Nat) (a z o c : Nat) : Prop where
  n1 : 1 ≤ n
  nm : n ≤ S.many
  own : o < S.k
  cls : c < 3
  size : z ≤ S.s0 + S.s1 + S.s2
  fits : a + z ≤ S.words
theorem whr_at {S : Shp} {n a z o c : Nat} (h : whr S n = some (a, z, o, c)) : At S n a z o c := by
  unfold whr at h
  by_cases h0 : n = 0
  · rw [if_pos h0] at h; cases h
  rw [if_neg h0] at h
  by_cases h1 : n - 1 < S.q0
  · rw [if_pos h1] at h
    simp only [Option.some.injEq, Prod.mk.injEq] at h
    obtain ⟨rfl, rfl, rfl, rfl⟩ := h
    have := div_bound (k := S.k) (m := S.m0) h1
    have h2 := mul_bound (s := S.s0) h1
    exact ⟨by omega, by unfold Shp.many; omega, this.2, by omega, by omega, by unfold Shp.words Shp.r0; omega⟩
  rw [if_neg h1] at h
  by_cases h2 : n - 1 - S.q0 < S.q1
  · rw [if_pos h2] at h
    simp only [Option.some.injEq, Prod.mk.injEq] at h
    obtain ⟨rfl, rfl, rfl, rfl⟩ := h
    have := div_bound (k := S.k) (m := S.m1) h2
    have h3 := mul_bound (s := S.s1) h2
    exact ⟨by omega, by unfold Shp.many; omega, this.2, by omega, by omega, by unfold Shp.words Shp.r1; omega⟩
  rw [if_neg h2] at h
  by_cases h3 : n - 1 - S.q0 - S.q1 < S.q2
  · rw [if_pos h3] at h
    simp only [Option.some.injEq, Prod.mk.injEq] at h
    obtain ⟨rfl, rfl, rfl, rfl⟩ := h
    have := div_bound (k := S.k) (m := S.m2) h3
    have h4 := mul_bound (s := S.s2) h3
    exact ⟨by omega, by unfold Shp.many; omega, this.2, by omega, by omega, by unfold Shp.words Shp.r2; omega⟩
  · rw [if_neg h3] at h; cases h
theorem whr_some {S : Shp} {n : Nat} (h1 : 1 ≤ n) (h2 : n ≤ S.many) : ∃ a z o c, whr S n = some (a, z, o, c) := by
  unfold whr
  unfold Shp.many at h2
  rw [if_neg (by omega)]
  by_cases c1 : n - 1 < S.q0
  · rw [if_pos c1]; exact ⟨_, _, _, _, rfl⟩
  rw [if_neg c1]
  by_cases c2 : n - 1 - S.q0 < S.q1
  · rw [if_pos c2]; exact ⟨_, _, _, _, rfl⟩
  rw [if_neg c2, if_pos (by omega)]
  exact ⟨_, _, _, _, rfl⟩
theorem whr_none {S : Shp} {n : Nat} (h : n = 0 ∨ S.many < n) : whr S n = none := by
  unfold whr
  rcases h with rfl | h
  · rfl
  · unfold Shp.many at h
    rw [if_neg (by omega), if_neg (by omega), if_neg (by omega), if_neg (by omega)]

/-- Whose word is it? -/
def blk (S : Shp) (p : Nat) : Nat :=
  if p < S.r0 then 1 + p / S.s0
  else if p - S.r0 < S.r1 then 1 + S.q0 + (p - S.r0) / S.s1
  else 1 + S.q0 + S.q1 + (p - S.r0 - S.r1) / S.s2
theorem div_in {i s j : Nat} (hj : j < s) : (i * s + j) / s = i := by
  rw [Nat.add_comm, Nat.add_mul_div_right _ _ (by omega), Nat.div_eq_of_lt hj]; omega
theorem blk_of {S : Shp} {n a z o c j : Nat} (h : whr S n = some (a, z, o, c)) (hj : j < z) : blk S (a + j) = n := by
  unfold whr at h
  by_cases h0 : n = 0
  · rw [if_pos h0] at h; cases h
  rw [if_neg h0] at h
  by_cases h1 : n - 1 < S.q0
  · rw [if_pos h1] at h
    simp only [Option.some.injEq, Prod.mk.injEq] at h
    obtain ⟨rfl, rfl, rfl, rfl⟩ := h
    have h2 := mul_bound (s := S.s0) h1
    unfold blk
    rw [if_pos (by unfold Shp.r0; omega), div_in hj]; omega
  rw [if_neg h1] at h
  by_cases h2 : n - 1 - S.q0 < S.q1
  · rw [if_pos h2] at h
    simp only [Option.some.injEq, Prod.mk.injEq] at h
    obtain ⟨rfl, rfl, rfl, rfl⟩ := h
    have h3 := mul_bound (s := S.s1) h2
    unfold blk
    rw [if_neg (by omega), if_pos (by unfold Shp.r1; omega), show S.r0 + (n - 1 - S.q0) * S.s1 + j - S.r0 = (n - 1 - S.q0) * S.s1 + j by omega, div_in hj]; omega
  rw [if_neg h2] at h
  by_cases h3 : n - 1 - S.q0 - S.q1 < S.q2
  · rw [if_pos h3] at h
    simp only [Option.some.injEq, Prod.mk.injEq] at h
    obtain ⟨rfl, rfl, rfl, rfl⟩ := h
    unfold blk
    rw [if_neg (by omega), if_neg (by omega), show S.r0 + S.r1 + (n - 1 - S.q0 - S.q1) * S.s2 + j - S.r0 - S.r1 = (n - 1 - S.q0 - S.q1) * S.s2 + j by omega, div_in hj]; omega
  · rw [if_neg h3] at h; cases h
end Go.Proofs.Ytichhieopnbgpaa
