/-
  A taken block stays as it is, whatever is taken and given back besides. No condition.
-/
import Derived.Test.YtichhieopnbgpaaP25
namespace Go.Proofs.Ytichhieopnbgpaa
open Go.RowKit

/-- Block own is taken, and its words hold mark. -/
structure Apt (own a z : Nat) (mark : Int) (σ : St) : Prop where
  tk : σ.tk[own]? = some true
  ws : ∀ k, k < z → σ.ws[a + k]? = some (true, mark)
section
variable {S : Shp} {σ : St}
theorem Apt.turned {own a z o c n a' z' o' c' : Nat} {mark : Int} {f : Bool} {x : Bool × Int} {ls : List (List Nat)} (hi : Inv S 0 σ) (h : Apt own a z mark σ) (hw : whr S own = some (a, z, o, c)) (hw' : whr S n = some (a', z', o', c')) (hne : own ≠ n) : Apt own a z mark ⟨ls, σ.tk.set n f, setR σ.ws (0 + a') z' x⟩ := by
  refine ⟨by show (σ.tk.set n f)[own]? = _; rw [List.getElem?_set_ne (Ne.symm hne)]; exact h.tk, fun k hk => ?_⟩
  have f1 := (whr_at hw').fits
  have := hi.wl
  show (setR σ.ws (0 + a') z' x)[a + k]? = _
  rw [setR_get _ _ _ _ _ (by omega), if_neg]
  · exact h.ws k hk
  · intro ⟨h1, h2⟩
    exact whr_apart hw hw' hne (j := k) (j' := a + k - a') hk (by omega) (by omega)
theorem Apt.put {own a z o c n a' z' o' c' u : Nat} {mark m : Int} (h : Apt own a z mark σ) (hw : whr S own = some (a, z, o, c)) (hw' : whr S n = some (a', z', o', c')) (hne : own ≠ n) (hu : u < z') : Apt own a z mark ⟨σ.ls, σ.tk, σ.ws.set (a' + u) (true, m)⟩ :=
  ⟨h.tk, fun k hk => by
    show (σ.ws.set (a' + u) (true, m))[a + k]? = _
    rw [List.getElem?_set_ne (fun e => whr_apart hw hw' hne hk hu e.symm)]
    exact h.ws k hk⟩
theorem Apt.give {own a z o c : Nat} {mark : Int} (hi : Inv S 0 σ) (h : Apt own a z mark σ) (hw : whr S own = some (a, z, o, c)) (i n : Int) (hne : n ≠ (own : Int)) : Apt own a z mark (giveP S 0 σ i n).2 := by
  unfold giveP
  split
  · exact h
  · split
    · exact h
    · split
      · split
        · next a' z' o' c' hw' =>
          have hh : setW S 0 σ.ws n.toNat false = setR σ.ws (0 + a') z' (false, 0) := setW_of hw'
          show Apt own a z mark (giveSt S 0 σ _ _ _)
          unfold giveSt
          rw [hh]
          exact h.turned hi hw hw' (by omega)
        · exact h
      · exact h
theorem Apt.drain {own a z : Nat} {mark : Int} (h : Apt own a z mark σ) (i : Int) : Apt own a z mark (drainP S σ i).2 := by
  have := drainP_tk (S := S) (σ := σ) i
  exact ⟨by rw [this.1]; exact h.tk, fun k hk => by rw [this.2]; exact h.ws k hk⟩
theorem first_take (hi : Inv S 0 σ) (hk : 1 ≤ S.k) (hl : σ.ls[0]? = some (rowAt S 0)) : (S.m0 = 0 ∧ takeP S 0 σ 0 0 = (0, 9, σ)) ∨ (S.m0 ≠ 0 ∧ ∃ (n : Nat) (σ' : St) (a z : Nat), takeP S 0 σ 0 0 = (n, 0, σ') ∧ whr S n = some (a, z, 0, 0) ∧ σ'.tk[n]? = some true) := by
  have hlen : (rowAt S 0).length = S.m0 := by unfold rowAt; rw [if_pos rfl, rowL_length]
  have hl' : σ.ls[0 * 4 + 0]? = some (rowAt S 0) := hl
  by_cases h0 : S.m0 = 0
  · exact .inl ⟨h0, takeP_none (i := 0) (c := 0) (by omega) (by decide) hl' (by omega)⟩
  · refine .inr ⟨h0, ?_⟩
    obtain ⟨n, σ', a, z, hr, hw, _⟩ := takeP_row hi (i := 0) (c := 0) (by omega) (by decide) hl' (by omega)
    rcases takeP_cases hi 0 0 with ⟨e, he, hr'⟩ | ⟨n', σ'', a', z', o, d, hr', h1, h2, ht, ht', hw', ho, hd, hs⟩
    · have hr2 : takeP S 0 σ 0 0 = (n, 0, σ') := hr
      rw [hr2] at hr'
      simp only [Prod.mk.injEq] at hr'
      exact absurd hr'.2.1.symm he
    · refine ⟨n', σ'', a', z', hr', ?_, ?_⟩
      · have : o = 0 := by omega
        have : d = 0 := by omega
        subst o d
        exact hw'
      · rw [ht', List.getElem?_set_self (lt_of ht)]
end
end Go.Proofs.Ytichhieopnbgpaa
