/-
  Rows that a call has made, and what stays of them.
-/
import Derived.Test.YtadcenaafoemmaaDoorRowsF
import Derived.Test.YtadcenaafoemmaaDoorProg
import Derived.KernelRfl
namespace Go.Proofs.YtadcenaafoemmaaDoor
open Go.RowKit

section
variable {w w' : World} {base base' size size' n n' : Nat} {e e' : TypeId} {v v' : Value} {xs xs' : List Value}
theorem own_ne {t : TypeId} {cs : Array Value} {g : Nat} (h : w.ownsRow base e size v n xs) (hg : Blk w g t cs) (hne : e ≠ t) : v.ownBlock ≠ some g := by
  rcases h.2 with ⟨rfl, _⟩ | ⟨g', cap, cur, rfl, _, hh, _⟩
  · simp [Value.ownBlock]
  · intro he
    have : g' = g := by simpa [Value.ownBlock] using he
    subst this
    exact Blk.ne_ (t := e) hh hg hne rfl
theorem own_fr {B : Nat → Prop}  (h : w.ownsRow base e size v n xs) (hf : Fr B w w') (hB : ∀ g, v.ownBlock = some g → ¬ B g) : w'.ownsRow base e size v n xs := by
  refine ⟨h.1, ?_⟩
  rcases h.2 with h2 | ⟨g, cap, cur, hv, hg, hh, r⟩
  · exact .inl h2
  · have hlt : g < w.heap.size := Blk.lt (t := e) hh
    exact .inr ⟨g, cap, cur, hv, hg, (hf.block g hlt (hB g (by rw [hv]; rfl))).trans hh, r⟩
theorem own_apart (h : w.ownsRow base e size v n xs) (h' : w.ownsRow base' e' size' v' n' xs') (hne : e ≠ e') : ∀ g, v.ownBlock = some g → v'.ownBlock ≠ some g := by
  intro g hg hg'
  rcases h.2 with ⟨rfl, _⟩ | ⟨g1, cap, cur, rfl, _, h1, _⟩
  · cases hg
  · rcases h'.2 with ⟨rfl, _⟩ | ⟨g2, cap2, cur2, rfl, _, h2, _⟩
    · cases hg'
    · simp only [Value.ownBlock, Option.some.injEq] at hg hg'
      subst hg; subst hg'
      rw [h1] at h2
      injection h2 with h2
      injection h2 with _ ht
      exact hne ht
theorem own_low (h : w.ownsRow base e size v n xs) : ∀ g, v.ownBlock = some g → base ≤ g := by
  intro g hg
  rcases h.2 with ⟨rfl, _⟩ | ⟨g1, cap, cur, rfl, hb, h1, _⟩
  · cases hg
  · simp only [Value.ownBlock, Option.some.injEq] at hg
    omega
theorem own_slice (h : w.ownsRow base e size v n xs) : ∃ A c, v = .slice A n c := by
  rcases h.2 with ⟨rfl, rfl⟩ | ⟨g1, cap, cur, rfl, hb, h1, _⟩
  · exact ⟨none, 0, rfl⟩
  · exact ⟨_, cap, rfl⟩
theorem own_down (h : w.ownsRow base e size v n xs) (hb : base' ≤ base) : w.ownsRow base' e size v n xs := by
  refine ⟨h.1, ?_⟩
  rcases h.2 with h0 | ⟨g, cap, cur, rfl, hb', hg, rest⟩
  · exact .inl h0
  · exact .inr ⟨g, cap, cur, rfl, by omega, hg, rest⟩
theorem Fr.grow {B : Nat → Prop} {a : World} {row : Option Nat} (h : Fr B a w) (hg : w.grownBy w' row) (hr : ∀ g, row = some g → a.heap.size ≤ g) : Fr B a w' :=
  h.then (Fr.grown hg) (fun i hi => .inr (hr i hi.symm))
end

theorem info_ins : (Tryd.prog.info? 98).map (fun i => (i.zero, i.size, i.bytes)) = some (some (.agg #[.int .i64 0, .int .i64 0, .int .i64 0, .int .i64 0, .int .i64 0]), 5, 40) := by kernel_rfl
theorem info_fn : (Tryd.prog.info? 101).map (fun i => (i.zero, i.size, i.bytes)) = some (some (.agg #[.int .i64 0, .slice none 0 0]), 2, 32) := by kernel_rfl

/-- A row of instructions, element by element. -/
theorem InsRow.of_at {w : World} {Q : Nat → Prop} {l : List Ins} {b off : Nat} (hQ : Q b) (h : ∀ k x, l[k]? = some x → ∀ j u, x.cells[j]? = some u → w.cell? ⟨b, off + (k * 5 + j), none⟩ = some u) : InsRow w Q (some ⟨b, off, none⟩) l := by
  refine ⟨flat_length Ins.cells 5 Ins.cells_length l, fun _ => ⟨b, off, rfl, hQ, fun j u hu => ?_⟩⟩
  have hjl : j < l.length * 5 := by
    have := (List.getElem?_eq_some_iff.1 hu).1
    rwa [flat_length Ins.cells 5 Ins.cells_length] at this
  have hk : j / 5 < l.length := by omega
  have hx := flat_at Ins.cells 5 Ins.cells_length l (j / 5) (j % 5) _ (List.getElem?_eq_getElem hk) (by omega)
  rw [show j / 5 * 5 + j % 5 = j by omega, hu] at hx
  have := h (j / 5) _ (List.getElem?_eq_getElem hk) (j % 5) u hx.symm
  rwa [show j / 5 * 5 + j % 5 = j by omega] at this
end Go.Proofs.YtadcenaafoemmaaDoor
