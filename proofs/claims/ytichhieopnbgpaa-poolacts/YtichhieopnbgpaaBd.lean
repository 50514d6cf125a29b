/-
  A slice that reads as a list of cells. No condition.
-/
import Derived.Test.YtichhieopnbgpaaP1
import Derived.Deep.AppendLies
import Derived.OwnWalk
import Derived.Laws.OwnMore
namespace Go.Proofs.Ytichhieopnbgpaa
open Go.RowKit

theorem Fr.grown {w w' : World} {row : Option Nat} (h : w.grownBy w' row) : Fr (fun k => some k = row) w w' := ⟨h.os, h.tape, h.output, h.size, fun k hk hn => h.block k hk hn⟩

/-- The slice value '.slice A n c' holds the cells xs (size cells an element), in blocks that Q lets in. -/
def Rd (w : World) (Q : Nat → Prop) (size : Nat) (A : Option Addr) (n : Nat) (xs : List Value) : Prop :=
  xs.length = n * size ∧ (0 < n → ∃ b off, A = some ⟨b, off, none⟩ ∧ Q b ∧ ∀ j u, xs[j]? = some u → w.cell? ⟨b, off + j, none⟩ = some u)

section
variable {w w' : World} {Q Q' : Nat → Prop} {size n : Nat} {A : Option Addr} {xs : List Value}
theorem Rd.nil : Rd w Q size A 0 [] := ⟨by simp, fun h => absurd h (by omega)⟩
theorem Rd.at_ (h : Rd w Q size A n xs) (hn : 0 < n) : ∃ b off, A = some ⟨b, off, none⟩ ∧ Q b ∧ ∀ j u, xs[j]? = some u → w.cell? ⟨b, off + j, none⟩ = some u := h.2 hn
theorem Rd.mono (h : Rd w Q size A n xs) (hQ : ∀ b, Q b → Q' b) : Rd w Q' size A n xs :=
  ⟨h.1, fun hn => by obtain ⟨b, off, e, q, hc⟩ := h.2 hn; exact ⟨b, off, e, hQ b q, hc⟩⟩
theorem Rd.keep (h : Rd w Q size A n xs) (hk : ∀ b o, Q b → b < w.heap.size → w'.cell? ⟨b, o, none⟩ = w.cell? ⟨b, o, none⟩) : Rd w' Q size A n xs :=
  ⟨h.1, fun hn => by
    obtain ⟨b, off, e, q, hc⟩ := h.2 hn
    exact ⟨b, off, e, q, fun j u hu => (hk _ _ q (cell_lt (hc j u hu))).trans (hc j u hu)⟩⟩
theorem Rd.fr {B : Nat → Prop} (h : Rd w Q size A n xs) (hf : Fr B w w') (hB : ∀ b, Q b → ¬ B b) : Rd w' Q size A n xs :=
  h.keep fun b o q hb => hf.cell (p := ⟨b, o, none⟩) hb (hB b q)
theorem Rd.drew (h : Rd w Q size A n xs) : Rd w.drew Q size A n xs := h
theorem Rd.drewN (h : Rd w Q size A n xs) (k : Nat) : Rd (w.drewN k) Q size A n xs := h
theorem Rd.alloc (h : Rd w Q size A n xs) (o : Obj) : Rd (w.alloc o) Q size A n xs := h.keep fun b _ _ hb => World.cell?_alloc_lt w o ⟨b, _, none⟩ hb
/-- Behind 's[1:]'. -/
theorem Rd.tail {x : Value} {r : List Value} {c : Nat} (h : Rd w Q 1 A (n + 1) (x :: r)) (hc : n + 1 ≤ c) : Rd w Q 1 (if c = 1 then A else A.map (·.add 1)) n r := by
  refine ⟨by have := h.1; simp at this ⊢; omega, fun hn => ?_⟩
  obtain ⟨b, off, rfl, q, hcell⟩ := h.2 (by omega)
  rw [if_neg (by omega)]
  refine ⟨b, off + 1, by simp [Addr.add], q, fun j u hu => ?_⟩
  have := hcell (j + 1) u (by simpa using hu)
  rw [show off + 1 + j = off + (j + 1) by omega]
  exact this
theorem Rd.of_own {base : Nat} {e : TypeId} {c : Nat} (h : w.ownsRow base e size (.slice A n c) n xs) : Rd w (fun b => base ≤ b ∧ b < w.heap.size) size A n xs := by
  refine ⟨h.1, fun hn => ?_⟩
  obtain ⟨g, cap, hv, hb, hlt⟩ := h.form hn
  have hA : A = some ⟨g, 0, none⟩ := by injection hv
  subst hA
  refine ⟨g, 0, rfl, ⟨hb, hlt⟩, fun j u hu => ?_⟩
  have := h.cells (g := g) rfl j u hu
  rw [Nat.zero_add]
  have hadd : (⟨g, 0, none⟩ : Addr).add j = ⟨g, j, none⟩ := by unfold Addr.add; split <;> simp_all
  rw [← hadd]
  exact this
theorem Rd.of_blk {g : Nat} {t : TypeId} {cs : List Value} (h : Blk w g t cs.toArray) (hl : cs.length = n * size) (hQ : Q g) : Rd w Q size (some ⟨g, 0, none⟩) n cs :=
  ⟨hl, fun _ => ⟨g, 0, rfl, hQ, fun j u hu => by rw [Nat.zero_add, h.cell, List.getElem?_toArray]; exact hu⟩⟩
end
end Go.Proofs.Ytichhieopnbgpaa
