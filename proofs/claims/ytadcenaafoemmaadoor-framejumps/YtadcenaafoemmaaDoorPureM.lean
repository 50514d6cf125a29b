/-
  What follows where nothing is wrong with a program: plain data.
-/
import Derived.Test.YtadcenaafoemmaaDoorVall
namespace Go.Proofs.YtadcenaafoemmaaDoor
open Go.RowKit

theorem firstE_nought {g : Nat → Int} : ∀ (m j : Nat), firstE g j m = 0 → ∀ i, j ≤ i → i < j + m → g i = 0
  | 0, _, _, i, h1, h2 => by omega
  | m + 1, j, h, i, h1, h2 => by
    unfold firstE at h
    by_cases hj : g j = 0
    · rw [if_pos hj] at h
      by_cases e : i = j
      · rw [e]; exact hj
      · exact firstE_nought m (j + 1) h i (by omega) (by omega)
    · rw [if_neg hj] at h
      exact absurd h hj

theorem insE_nought {fs : List Fn} {pl : Nat} {x : Ins} (h : insE fs pl x = 0) :
    (1 ≤ x.op ∧ x.op ≤ 17) ∧ (∀ j, j < 4 → unusedE x j = 0) ∧ (∀ j, j < 4 → fieldsE fs.length pl x j = 0) ∧ callE fs x = 0 := by
  unfold insE at h
  by_cases h1 : 1 ≤ x.op ∧ x.op ≤ 17
  · rw [if_pos h1] at h
    by_cases h2 : firstE (unusedE x) 0 4 = 0
    · rw [if_pos h2] at h
      by_cases h3 : firstE (fieldsE fs.length pl x) 0 4 = 0
      · rw [if_pos h3] at h
        exact ⟨h1, fun j hj => firstE_nought 4 0 h2 j (by omega) (by omega), fun j hj => firstE_nought 4 0 h3 j (by omega) (by omega), h⟩
      · rw [if_neg h3] at h
        exact absurd h h3
    · rw [if_neg h2] at h
      exact absurd h (by decide)
  · rw [if_neg h1] at h
    exact absurd h (by decide)

theorem fnE_nought {fs : List Fn} {f : Fn} (h : (fnE fs f).2 = 0) : (0 ≤ f.arity ∧ f.arity ≤ 4) ∧ (1 ≤ f.code.length ∧ f.code.length ≤ 64) ∧ (∀ x ∈ f.code, insE fs f.code.length x = 0) ∧ lastOk f.code := by
  by_cases h1 : 0 ≤ f.arity ∧ f.arity ≤ 4
  · by_cases h2 : 1 ≤ f.code.length ∧ f.code.length ≤ 64
    · unfold fnE at h
      rw [if_pos h1, if_pos h2] at h
      by_cases h3 : (codeE fs f.code.length 0 f.code).2 = 0
      · rw [if_pos h3] at h
        by_cases h4 : lastOk f.code
        · exact ⟨h1, h2, codeE_zero fs _ f.code 0 h3, h4⟩
        · rw [if_neg h4] at h
          exact absurd h (by decide : (11 : Int) ≠ 0)
      · rw [if_neg h3] at h
        exact absurd h h3
    · rw [fnE_len h1 h2] at h
      exact absurd h (by decide : (3 : Int) ≠ 0)
  · rw [fnE_arity h1] at h
    exact absurd h (by decide : (6 : Int) ≠ 0)

theorem fnE_good {fs : List Fn} {f : Fn} (h1 : 0 ≤ f.arity ∧ f.arity ≤ 4) (h2 : 1 ≤ f.code.length ∧ f.code.length ≤ 64) (h3 : ∀ x ∈ f.code, insE fs f.code.length x = 0) (h4 : lastOk f.code) : (fnE fs f).2 = 0 := by
  rw [fnE_last h1 h2 h3, if_pos h4]

theorem chk_nought {fs : List Fn} (h : (chk fs).2.2 = 0) : (1 ≤ fs.length ∧ fs.length ≤ 16) ∧ ∀ f ∈ fs, (fnE fs f).2 = 0 := by
  by_cases h1 : 1 ≤ fs.length ∧ fs.length ≤ 16
  · rw [chk_fns h1] at h
    exact ⟨h1, fnsE_zero fs fs 0 h⟩
  · rw [chk_long h1] at h
    exact absurd h (by decide : (3 : Int) ≠ 0)
theorem chk_good {fs : List Fn} (h1 : 1 ≤ fs.length ∧ fs.length ≤ 16) (h : ∀ f ∈ fs, (fnE fs f).2 = 0) : chk fs = (0, 0, 0) := by
  rw [chk_fns h1]
  exact fnsE_ok fs fs 0 h

/-- With a function more behind it. -/
theorem rngE_more {n m : Nat} {c : Int} (h : rngE 0 n 5 c = 0) (hm : n ≤ m) : rngE 0 m 5 c = 0 := by
  have := rngE_zero (by decide) h
  exact rngE_in this.1 (by omega)
theorem fieldE_more {nf pl kind : Nat} {n : Int} (h : fieldE nf pl kind n = 0) (m : Nat) (hm : nf ≤ m) : fieldE m pl kind n = 0 := by
  by_cases h3 : kind = 3
  · subst h3
    exact rngE_more h hm
  · unfold fieldE at h ⊢
    rw [if_neg h3] at h ⊢
    exact h
theorem arity_more {fs : List Fn} {g : Fn} {c : Int} (h0 : 0 ≤ c) (h : c < fs.length) : arityAt (fs ++ [g]) c = arityAt fs c := by
  unfold arityAt
  rw [List.getElem?_append_left (by omega)]
theorem insE_more {fs : List Fn} {pl : Nat} {x : Ins} (g : Fn) (h : insE fs pl x = 0) : insE (fs ++ [g]) pl x = 0 := by
  obtain ⟨h1, h2, h3, h4⟩ := insE_nought h
  rw [insE_call h1 h2 (fun j hj => by
    have := h3 j hj
    unfold fieldsE at this ⊢
    exact fieldE_more this _ (by simp))]
  unfold callE at h4 ⊢
  by_cases hc : x.op = 11 ∨ x.op = 13
  · have hf := h3 2 (by omega)
    obtain ⟨op, ho⟩ := Int.eq_ofNat_of_zero_le (show 0 ≤ x.op by omega)
    rw [field_at ho, (kd_call op (by omega)).1 (by omega)] at hf
    have hr : 0 ≤ x.c ∧ x.c < fs.length := rngE_zero (e := 5) (by decide) hf
    rw [arity_more hr.1 hr.2]
    exact h4
  · rw [if_neg (fun h => hc h.1)]
theorem fnE_more {fs : List Fn} {f : Fn} (g : Fn) (h : (fnE fs f).2 = 0) : (fnE (fs ++ [g]) f).2 = 0 := by
  obtain ⟨h1, h2, h3, h4⟩ := fnE_nought h
  exact fnE_good h1 h2 (fun x hx => insE_more g (h3 x hx)) h4

def ret7 : Ins := ⟨17, 7, 0, 0, 0⟩
def moreA (len : Nat) (n : Int) : Nat × Nat × Int := if 16 ≤ len then (0, 0, 3) else if 4 < n then (len, 0, 6) else (0, 0, 0)
theorem moreA_long {len : Nat} {n : Int} (h : 16 ≤ len) : moreA len n = (0, 0, 3) := if_pos h
theorem moreA_arity {len : Nat} {n : Int} (h : ¬ 16 ≤ len) (h4 : 4 < n) : moreA len n = (len, 0, 6) := by unfold moreA; rw [if_neg h, if_pos h4]
theorem moreA_ok {len : Nat} {n : Int} (h : ¬ 16 ≤ len) (h4 : ¬ 4 < n) : moreA len n = (0, 0, 0) := by unfold moreA; rw [if_neg h, if_neg h4]
theorem chk_more {fs : List Fn} {n : Int} (h : (chk fs).2.2 = 0) (hn : 0 ≤ n) : chk (fs ++ [⟨n, [ret7]⟩]) = moreA fs.length n := by
  obtain ⟨h1, h2⟩ := chk_nought h
  by_cases h16 : 16 ≤ fs.length
  · rw [moreA_long h16, chk_long (by simp; omega)]
  · by_cases h4 : 4 < n
    · rw [moreA_arity h16 h4, chk_fns (by simp; omega)]
      have hb : fnE (fs ++ [⟨n, [ret7]⟩]) ⟨n, [ret7]⟩ = (0, 6) := fnE_arity (by show ¬ (0 ≤ n ∧ n ≤ 4); omega)
      have := fnsE_bad (fs ++ [⟨n, [ret7]⟩]) (fs ++ [⟨n, [ret7]⟩]) 0 fs.length ⟨n, [ret7]⟩ (by simp) (fun y hy => by
        rw [List.take_left' rfl] at hy
        exact fnE_more _ (h2 y hy)) (by rw [hb]; exact (by decide : (6 : Int) ≠ 0))
      rw [this, hb, Nat.zero_add]
    · rw [moreA_ok h16 h4]
      refine chk_good (by simp; omega) (fun f hf => ?_)
      rcases List.mem_append.1 hf with hf | hf
      · exact fnE_more _ (h2 f hf)
      · rw [List.mem_singleton.1 hf]
        exact fnE_good (f := ⟨n, [ret7]⟩) (by show 0 ≤ n ∧ n ≤ 4; omega) (show 1 ≤ 1 ∧ 1 ≤ 64 by decide) (fun x hx => by
          rw [List.mem_singleton.1 hx]
          rfl) (.inr (.inr rfl))
end Go.Proofs.YtadcenaafoemmaaDoor
