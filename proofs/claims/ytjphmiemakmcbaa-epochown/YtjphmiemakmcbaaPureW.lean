/-
  Plain data: what holds behind any acts: each worker that has announced an epoch behind a thing's has done so behind the thing's retiring.
-/
import Derived.Test.YtjphmiemakmcbaaEp10
namespace Go.Proofs.Ytjphmiemakmcbaa
open Go.RowKit

theorem annN_cases (now : Nat) (ws : List Wk) (v : Nat) (q : Wk) : annN now ws v q = now ∨ (annN now ws v q = now + 1 ∧ ∀ (u : Nat) (r : Wk), (ws.set v ⟨(now : Int), q.limbo⟩)[u]? = some r → r.ann = (now : Int)) := by
  unfold annN
  by_cases h : (ws.set v ⟨(now : Int), q.limbo⟩).any (fun k => k.ann != (now : Int)) = true
  · exact .inl (if_pos h)
  · refine .inr ⟨if_neg h, fun u r hr => ?_⟩
    rw [List.any_eq_true] at h
    by_cases ha : r.ann = (now : Int)
    · exact ha
    · exact absurd ⟨r, List.mem_of_getElem? hr, by simpa using ha⟩ h

structure JW (n k now : Nat) (ws : List Wk) (last wh : List Int) : Prop where
  len : ws.length = n
  l6 : last.length = 6
  nk : now ≤ k
  ann : ∀ (v : Nat) (q : Wk), ws[v]? = some q → (now : Int) - 1 ≤ q.ann ∧ q.ann ≤ now
  whk : wh.length ≤ k
  wle : ∀ z ∈ wh, z ≤ (k : Int)
  lim : ∀ (v : Nat) (q : Wk), ws[v]? = some q → q.limbo.length ≤ k
  th : ∀ (v : Nat) (q : Wk) (t : Int × Nat), ws[v]? = some q → t ∈ q.limbo → ∃ (i : Nat) (z : Int), t.1 = (i : Int) ∧ wh[i]? = some z ∧ t.2 ≤ now ∧ ∀ (u : Nat) (r : Wk) (y : Int), ws[u]? = some r → last[u]? = some y → (t.2 : Int) + 1 ≤ r.ann → z < y

theorem JW.start (n : Nat) : JW n 0 0 (fresh n) [0, 0, 0, 0, 0, 0] [] := by
  have key : ∀ (v : Nat) (q : Wk), (fresh n)[v]? = some q → q = ⟨-1, []⟩ := fun v q h => List.eq_of_mem_replicate (List.mem_of_getElem? h)
  refine ⟨by simp [fresh], rfl, Nat.le_refl _, fun v q h => ?_, Nat.le_refl _, fun z h => absurd h (by simp), fun v q h => ?_, fun v q t h ht => ?_⟩
  · rw [key v q h]; decide
  · rw [key v q h]; simp
  · rw [key v q h] at ht; cases ht

theorem JW.retire {n k now : Nat} {ws : List Wk} {last wh : List Int} {v : Nat} {q : Wk} (h : JW n k now ws last wh) (hq : ws[v]? = some q) :
    JW n (k + 1) now (ws.set v ⟨q.ann, q.limbo ++ [(((wh.length : Nat) : Int), now)]⟩) last (wh ++ [((k + 1 : Nat) : Int)]) := by
  have hwh : ∀ (i : Nat) (z : Int), wh[i]? = some z → (wh ++ [((k + 1 : Nat) : Int)])[i]? = some z := by
    intro i z hz
    rw [List.getElem?_append_left (List.getElem?_eq_some_iff.1 hz).1]
    exact hz
  refine ⟨by rw [List.length_set]; exact h.len, h.l6, Nat.le_succ_of_le h.nk, fun u r hr => ?_, by simp; exact h.whk, fun z hz => ?_, fun u r hr => ?_, fun u r t hr ht => ?_⟩
  · rcases set_at hr with ⟨rfl, rfl, _⟩ | ⟨_, hr⟩
    · exact h.ann _ q hq
    · exact h.ann u r hr
  · rw [List.mem_append, List.mem_singleton] at hz
    rcases hz with hz | rfl
    · have := h.wle z hz; omega
    · exact Int.le_refl _
  · rcases set_at hr with ⟨rfl, rfl, _⟩ | ⟨_, hr⟩
    · have := h.lim _ q hq
      simp; exact this
    · exact Nat.le_succ_of_le (h.lim u r hr)
  · have old : ∀ (u : Nat) (r : Wk), ws[u]? = some r → t ∈ r.limbo → ∃ (i : Nat) (z : Int), t.1 = (i : Int) ∧ (wh ++ [((k + 1 : Nat) : Int)])[i]? = some z ∧ t.2 ≤ now ∧ ∀ (u : Nat) (r : Wk) (y : Int), (ws.set v ⟨q.ann, q.limbo ++ [(((wh.length : Nat) : Int), now)]⟩)[u]? = some r → last[u]? = some y → (t.2 : Int) + 1 ≤ r.ann → z < y := by
      intro u r hr ht
      obtain ⟨i, z, e1, e2, e3, e4⟩ := h.th u r t hr ht
      refine ⟨i, z, e1, hwh i z e2, e3, fun u' r' y hr' hy ha => ?_⟩
      rcases set_at hr' with ⟨rfl, rfl, _⟩ | ⟨_, hr'⟩
      · exact e4 _ q y hq hy ha
      · exact e4 u' r' y hr' hy ha
    rcases set_at hr with ⟨rfl, rfl, _⟩ | ⟨_, hr⟩
    · have ht' : t ∈ q.limbo ++ [(((wh.length : Nat) : Int), now)] := ht
      rw [List.mem_append, List.mem_singleton] at ht'
      rcases ht' with ht' | rfl
      · exact old u q hq ht'
      · refine ⟨wh.length, ((k + 1 : Nat) : Int), rfl, by simp, Nat.le_refl _, fun u' r' y hr' hy ha => ?_⟩
        exfalso
        have ha' : (now : Int) + 1 ≤ r'.ann := ha
        rcases set_at hr' with ⟨rfl, rfl, _⟩ | ⟨_, hr'⟩
        · have := (h.ann _ q hq).2
          have ha2 : (now : Int) + 1 ≤ q.ann := ha'
          omega
        · have := (h.ann u' r' hr').2
          omega
    · exact old u r hr ht

theorem JW.announce {n k now : Nat} {ws : List Wk} {last wh : List Int} {v : Nat} {q : Wk} (h : JW n k now ws last wh) (hq : ws[v]? = some q) :
    JW n (k + 1) (annN now ws v q) (annW (annN now ws v q) now ws v q) (last.set v ((k + 1 : Nat) : Int)) wh ∧
    ∀ g ∈ annG (annN now ws v q) q, ∃ (i : Nat) (z : Int), g = (i : Int) ∧ wh[i]? = some z ∧ ∀ (u : Nat) (y : Int), u < n → (last.set v ((k + 1 : Nat) : Int))[u]? = some y → z < y := by
  have hvn : v < n := by rw [← h.len]; exact (List.getElem?_eq_some_iff.1 hq).1
  have hc := annN_cases now ws v q
  obtain ⟨n1, hn1⟩ : ∃ n1, n1 = annN now ws v q := ⟨_, rfl⟩
  rw [← hn1] at hc ⊢
  have hle : now ≤ n1 ∧ n1 ≤ now + 1 := by rcases hc with h | h <;> omega
  have hdm : ∀ t, t ∈ q.limbo.dropWhile (rdy n1) → t ∈ q.limbo := fun t ht => (List.dropWhile_suffix _).subset ht
  have hann : ∀ (u : Nat) (r : Wk), (annW n1 now ws v q)[u]? = some r → (n1 : Int) - 1 ≤ r.ann ∧ r.ann ≤ n1 := by
    intro u r hr
    unfold annW at hr
    rcases set_at hr with ⟨rfl, rfl, _⟩ | ⟨hu, hr⟩
    · show (n1 : Int) - 1 ≤ (now : Int) ∧ (now : Int) ≤ n1
      omega
    · have h1 := h.ann u r hr
      rcases hc with hc | ⟨hc, hall⟩
      · rw [hc]; exact h1
      · have h2 := hall u r (by rw [List.getElem?_set_ne (Ne.symm hu)]; exact hr)
        omega
  have hth : ∀ (u : Nat) (r : Wk) (t : Int × Nat), ws[u]? = some r → t ∈ r.limbo → ∃ (i : Nat) (z : Int), t.1 = (i : Int) ∧ wh[i]? = some z ∧ t.2 ≤ n1 ∧ ∀ (u : Nat) (r : Wk) (y : Int), (annW n1 now ws v q)[u]? = some r → (last.set v ((k + 1 : Nat) : Int))[u]? = some y → (t.2 : Int) + 1 ≤ r.ann → z < y := by
    intro u r t hr ht
    obtain ⟨i, z, e1, e2, e3, e4⟩ := h.th u r t hr ht
    refine ⟨i, z, e1, e2, by omega, fun u' r' y hr' hy ha => ?_⟩
    rcases set_at hy with ⟨rfl, rfl, _⟩ | ⟨hu, hy⟩
    · have := h.wle z (List.mem_of_getElem? e2)
      omega
    · unfold annW at hr'
      rw [List.getElem?_set_ne (Ne.symm hu)] at hr'
      exact e4 u' r' y hr' hy ha
  refine ⟨⟨by unfold annW; rw [List.length_set]; exact h.len, by rw [List.length_set]; exact h.l6, by have := h.nk; omega, hann, Nat.le_succ_of_le h.whk, fun z hz => by have := h.wle z hz; omega, fun u r hr => ?_, fun u r t hr ht => ?_⟩, fun g hg => ?_⟩
  · unfold annW at hr
    rcases set_at hr with ⟨rfl, rfl, _⟩ | ⟨_, hr⟩
    · have h1 := h.lim _ q hq
      have h2 := (List.dropWhile_suffix (rdy n1) (l := q.limbo)).length_le
      show (q.limbo.dropWhile (rdy n1)).length ≤ k + 1
      omega
    · exact Nat.le_succ_of_le (h.lim u r hr)
  · unfold annW at hr
    rcases set_at hr with ⟨rfl, rfl, _⟩ | ⟨_, hr⟩
    · exact hth _ q t hq (hdm t ht)
    · exact hth u r t hr ht
  · unfold annG at hg
    rw [List.mem_map] at hg
    obtain ⟨t, ht, rfl⟩ := hg
    have hrd : rdy n1 t = true := List.all_eq_true.1 List.all_takeWhile t ht
    have htm : t ∈ q.limbo := (List.takeWhile_prefix _).subset ht
    obtain ⟨i, z, e1, e2, _, e4⟩ := hth v q t hq htm
    refine ⟨i, z, e1, e2, fun u y hu hy => ?_⟩
    obtain ⟨r, hr⟩ := get_lt (l := annW n1 now ws v q) (i := u) (by unfold annW; rw [List.length_set, h.len]; exact hu)
    have h1 := (hann u r hr).1
    have h2 := of_decide_eq_true hrd
    exact e4 u r y hr hy (by omega)
end Go.Proofs.Ytjphmiemakmcbaa
