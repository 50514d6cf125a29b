/-
  What the steps come to, case by case. No condition.
-/
import Derived.Test.YtichhieopnbgpaaP23
namespace Go.Proofs.Ytichhieopnbgpaa
open Go.RowKit

section
variable {S : Shp} {base : Nat} {σ : St}
theorem takeP_cases (h : Inv S base σ) (i c : Int) : (∃ e : Nat, e ≠ 0 ∧ takeP S base σ i c = (0, e, σ)) ∨
    ∃ (n : Nat) (σ' : St) (a z o d : Nat), takeP S base σ i c = (n, 0, σ') ∧ 1 ≤ n ∧ n ≤ S.many ∧ σ.tk[n]? = some false ∧ σ'.tk = σ.tk.set n true ∧ whr S n = some (a, z, o, d) ∧ (o : Int) = i ∧ (d : Int) = c ∧ σ'.ws = setR σ.ws (base + a) z (true, 0) := by
  by_cases hb : badRow S i c
  · exact .inl ⟨1, by decide, takeP_bad hb⟩
  · obtain ⟨j, rfl⟩ : ∃ j : Nat, i = j := ⟨i.toNat, by unfold badRow at hb; omega⟩
    obtain ⟨d, rfl⟩ : ∃ d : Nat, c = d := ⟨c.toNat, by unfold badRow at hb; omega⟩
    have hj : j < S.k := by unfold badRow at hb; omega
    have hd : d < 3 := by unfold badRow at hb; omega
    have hhl := h.hl
    obtain ⟨l, hl⟩ := of_lt (show j * 4 + d < σ.ls.length by omega)
    rcases last_cases l with rfl | ⟨l0, n, rfl⟩
    · exact .inl ⟨9, by decide, takeP_empty hj hd hl⟩
    · obtain ⟨a, z, hw, ht, _⟩ := h.own hd hl (n := n) (by simp)
      have ha := whr_at hw
      exact .inr ⟨n, _, a, z, j, d, takeP_some hj hd hl, ha.n1, ha.nm, ht, rfl, hw, rfl, rfl, setW_of hw⟩
theorem giveP_taken (h : Inv S base σ) {i n : Nat} (hi : i < S.k) (h1 : 1 ≤ n) (h2 : n ≤ S.many) (ht : σ.tk[n]? = some true) : ∃ σ', giveP S base σ i n = (0, σ') ∧ σ'.tk = σ.tk.set n false ∧ σ'.ls.length = σ.ls.length := by
  obtain ⟨a, z, o, c, hw⟩ := whr_some h1 h2
  have ha := whr_at hw
  have h3 := ha.cls
  have h4 := ha.own
  have hhl := h.hl
  obtain ⟨ix, hix⟩ : ∃ ix, ix = if i = o then o * 4 + c else o * 4 + 3 := ⟨_, rfl⟩
  obtain ⟨l, hl⟩ := of_lt (show ix < σ.ls.length by rw [hix]; split <;> omega)
  exact ⟨_, giveP_yes hi hw ht hix hl, rfl, by simp [giveSt]⟩
theorem drainP_tk (i : Int) : (drainP S σ i).2.tk = σ.tk ∧ (drainP S σ i).2.ws = σ.ws := by
  unfold drainP
  split
  · exact ⟨rfl, rfl⟩
  · exact ⟨rfl, rfl⟩
/-- Drained: its back row is empty, the others' are as they were. -/
theorem drainP_back (h : Inv S base σ) {i : Nat} (hi : i < S.k) {j : Nat} : (drainP S σ i).2.ls[j * 4 + 3]? = if j = i then some [] else σ.ls[j * 4 + 3]? := by
  have hhl := h.hl
  obtain ⟨bk, hbk⟩ := of_lt (show i * 4 + 3 < σ.ls.length by omega)
  rw [drainP_yes hi hbk]
  show (drainL S i σ.ls)[j * 4 + 3]? = _
  rw [drainL_get (by omega) hbk]
  by_cases e : j = i
  · rw [if_pos (by omega), if_pos e]
  · rw [if_neg (by omega), if_neg e]
    cases hx : σ.ls[j * 4 + 3]? with
    | none => rfl
    | some l =>
      simp only [Option.map_some]
      rw [if_neg (by omega)]
/-- A row that is not empty gives its last block. -/
theorem takeP_row (h : Inv S base σ) {i c : Nat} (hi : i < S.k) (hc : c < 3) {l : List Nat} (hl : σ.ls[i * 4 + c]? = some l) (hpos : 0 < l.length) : ∃ (n : Nat) (σ' : St) (a z : Nat), takeP S base σ i c = (n, 0, σ') ∧ whr S n = some (a, z, i, c) ∧ (∃ l', σ'.ls[i * 4 + c]? = some l' ∧ l'.length + 1 = l.length) ∧ ∀ q, q ≠ i * 4 + c → σ'.ls[q]? = σ.ls[q]? := by
  rcases last_cases l with rfl | ⟨l0, n, rfl⟩
  · simp at hpos
  · obtain ⟨a, z, hw, ht, _⟩ := h.own hc hl (n := n) (by simp)
    exact ⟨n, _, a, z, takeP_some hi hc hl, hw, ⟨l0, by show (σ.ls.set _ l0)[_]? = _; exact List.getElem?_set_self (lt_of hl), by simp⟩, fun q hq => List.getElem?_set_ne (Ne.symm hq)⟩
theorem takeP_none {i c : Nat} (hi : i < S.k) (hc : c < 3) {l : List Nat} (hl : σ.ls[i * 4 + c]? = some l) (h0 : l.length = 0) : takeP S base σ i c = (0, 9, σ) := by
  have : l = [] := List.length_eq_zero_iff.1 h0
  subst this
  exact takeP_empty hi hc hl
end
theorem bc_set (l : List Bool) (n : Nat) (a : Bool) : (bc l).toArray.setIfInBounds n (.bool a) = (bc (l.set n a)).toArray := by
  rw [List.setIfInBounds_toArray]
  simp [bc, List.map_set]
theorem bc_cell {w : World} {g : Nat} {l : List Bool} (h : Blk w g 4 (bc l).toArray) {n : Nat} {f : Bool} (hf : l[n]? = some f) : w.cell? ⟨g, n, none⟩ = some (.bool f) := by
  rw [h.cell, List.getElem?_toArray, bc_at hf]
/-- What holds of a law's small shapes. -/
structure Small (S : Shp) : Prop where
  w : S.words ≤ 200
  n : S.many ≤ 50
  eq : (S.k : Int) * ((S.m0 : Int) + (S.m1 : Int) + (S.m2 : Int)) = (S.many : Int)
  k : S.k ≤ 4
  m0 : S.m0 ≤ 4
  m1 : S.m1 ≤ 4
  m2 : S.m2 ≤ 4
  s0 : S.s0 ≤ 4
  s1 : S.s1 ≤ 4
  s2 : S.s2 ≤ 4
theorem small_facts {S : Shp} (hk : S.k ≤ 4) (hs0 : S.s0 ≤ 4) (hs1 : S.s1 ≤ 4) (hs2 : S.s2 ≤ 4) (hm0 : S.m0 ≤ 4) (hm1 : S.m1 ≤ 4) (hm2 : S.m2 ≤ 4) : Small S := by
  have q0 : S.q0 ≤ 4 * 4 := Nat.mul_le_mul hk hm0
  have q1 : S.q1 ≤ 4 * 4 := Nat.mul_le_mul hk hm1
  have q2 : S.q2 ≤ 4 * 4 := Nat.mul_le_mul hk hm2
  have r0 : S.r0 ≤ 16 * 4 := Nat.mul_le_mul q0 hs0
  have r1 : S.r1 ≤ 16 * 4 := Nat.mul_le_mul q1 hs1
  have r2 : S.r2 ≤ 16 * 4 := Nat.mul_le_mul q2 hs2
  refine ⟨by unfold Shp.words; omega, by unfold Shp.many; omega, ?_, hk, hm0, hm1, hm2, hs0, hs1, hs2⟩
  unfold Shp.many Shp.q0 Shp.q1 Shp.q2
  rw [Int.mul_add, Int.mul_add]
  simp [Int.natCast_add, Int.natCast_mul]
end Go.Proofs.Ytichhieopnbgpaa
