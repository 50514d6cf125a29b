/-
  Bytes that are cut short, or have more behind them: on plain data.
-/
import Derived.Test.YtlpmnapjipfakaaPureB
namespace Go.Proofs.Ytlpmnapjipfakaa
open Go.RowKit

theorem pIns_ext {bs r : List Int} {x : Ins} (hx : pIns bs = some (x, r)) (u : List Int) : pIns (bs ++ u) = some (x, r ++ u) := by
  match bs, hx with
  | o :: a :: b :: c :: k0 :: k1 :: k2 :: k3 :: r', hx =>
    simp only [pIns, Option.some.injEq, Prod.mk.injEq] at hx
    obtain ⟨rfl, rfl⟩ := hx
    rfl
theorem pMany_ext {α : Type} {f : List Int → Option (α × List Int)} (hf : ∀ bs x r u, f bs = some (x, r) → f (bs ++ u) = some (x, r ++ u)) (u : List Int) : ∀ (n : Nat) (bs r : List Int) (l : List α), pMany f n bs = some (l, r) → pMany f n (bs ++ u) = some (l, r ++ u) := by
  intro n
  induction n with
  | zero =>
    intro bs r l hx
    simp only [pMany, Option.some.injEq, Prod.mk.injEq] at hx
    obtain ⟨rfl, rfl⟩ := hx
    rfl
  | succ n ih =>
    intro bs r l hx
    simp only [pMany] at hx
    split at hx
    · cases hx
    · rename_i x r' h1
      split at hx
      · cases hx
      · rename_i l' r'' h2
        simp only [Option.some.injEq, Prod.mk.injEq] at hx
        obtain ⟨rfl, rfl⟩ := hx
        simp only [pMany, hf _ _ _ u h1, ih _ _ _ h2]
theorem pCode_ext {bs r : List Int} {l : List Ins} (hx : pCode bs = some (l, r)) (u : List Int) : pCode (bs ++ u) = some (l, r ++ u) := by
  match bs, hx with
  | n :: t, hx => exact pMany_ext (fun _ _ _ u h => pIns_ext h u) u n.toNat t r l hx
theorem pFn_ext {bs r : List Int} {f : Fn} (hx : pFn bs = some (f, r)) (u : List Int) : pFn (bs ++ u) = some (f, r ++ u) := by
  match bs, hx with
  | a :: t, hx =>
    simp only [pFn] at hx
    split at hx
    · cases hx
    · rename_i l r' h1
      simp only [Option.some.injEq, Prod.mk.injEq] at hx
      obtain ⟨rfl, rfl⟩ := hx
      simp only [List.cons_append, pFn, pCode_ext h1 u]
theorem pProg_ext {bs r : List Int} {l : List Fn} (hx : pProg bs = some (l, r)) (u : List Int) : pProg (bs ++ u) = some (l, r ++ u) := by
  match bs, hx with
  | n :: t, hx => exact pMany_ext (fun _ _ _ u h => pFn_ext h u) u n.toNat t r l hx
theorem pProg_cut {t : List Int} {l : List Fn} (hx : pProg t = some (l, [])) (m : Nat) (hm : m < t.length) : pProg (t.take m) = none := by
  cases h : pProg (t.take m) with
  | none => rfl
  | some p =>
    obtain ⟨l', r'⟩ := p
    have := pProg_ext h (t.drop m)
    rw [List.take_append_drop, hx] at this
    simp only [Option.some.injEq, Prod.mk.injEq] at this
    have h2 : (t.drop m).length = 0 := by
      have h3 := congrArg List.length this.2
      simp at h3
      simp
      omega
    simp at h2
    omega
end Go.Proofs.Ytlpmnapjipfakaa
