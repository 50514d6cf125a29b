/-
  A slice of integers that came in: what the walk is told of it, and that it stands while only new blocks turn.
-/
import Derived.Test.YtlhhnpbpmjbbaaaW
import Derived.ProofKit
namespace Go.Proofs.Ytlhhnpbpmjbbaaa
open Go.RowKit

/-- It is nil; or it leads to a row of 'cap' cells, the numbers zs. -/
def IsRow (k : IntKind) (w : World) (a : Option Addr) (len cap : Nat) (zs : List Int) : Prop :=
  (a = none ∧ len = 0 ∧ cap = 0 ∧ zs = []) ∨
  ∃ x, a = some x ∧ len ≤ cap ∧ cap ≤ maxLen ∧ zs.length = cap ∧ (∀ i, i < zs.length → w.cell? (x.add i) = some (.int k (zs.getD i 0))) ∧ ∀ n ∈ zs, (Lit.int k n).wf = true

theorem cell_lt {w : World} {p : Addr} {v : Value} (h : w.cell? p = some v) : p.block < w.heap.size := by
  rcases Nat.lt_or_ge p.block w.heap.size with h1 | h1
  · exact h1
  · simp [World.cell?, Array.getElem?_eq_none h1] at h
theorem Fr.cell {B : Nat → Prop} {w w' : World} (h : Fr B w w') {p : Addr} (hp : p.block < w.heap.size) (hn : ¬ B p.block) : w'.cell? p = w.cell? p := World.cell?_of_block (w := w) (h.block p.block hp hn)
theorem Fr.held {B : Nat → Prop} {w w' : World} (h : Fr B w w') {p : Addr} {v : Value} (hc : w.cell? p = some v) (hn : ¬ B p.block) : w'.cell? p = some v := (h.cell (cell_lt hc) hn).trans hc

theorem IsRow.at_ {k : IntKind} {w : World} {a : Option Addr} {len cap : Nat} {zs : List Int} (h : IsRow k w a len cap zs) {i : Nat} (hi : i < len) :
    ∃ b off, a = some ⟨b, off, none⟩ ∧ w.cell? ⟨b, off + i, none⟩ = some (.int k (zs.getD i 0)) := by
  rcases h with ⟨_, h0, _, _⟩ | ⟨x, rfl, hl, hm, hz, hc, _⟩
  · omega
  · have hci := hc i (by omega)
    obtain ⟨b, off, spot⟩ := x
    have hc0 := hc 0 (by omega)
    have hs := World.cell?_spot hc0
    have hspot : spot = none := by simpa [Addr.add] using hs
    subst hspot
    refine ⟨b, off, rfl, ?_⟩
    by_cases e : i = 0
    · subst e; simpa [Addr.add] using hci
    · simpa [Addr.add, e] using hci
theorem IsRow.len_le {k : IntKind} {w : World} {a : Option Addr} {len cap : Nat} {zs : List Int} (h : IsRow k w a len cap zs) : len ≤ zs.length := by
  rcases h with ⟨_, h0, _, rfl⟩ | ⟨x, _, hl, _, hz, _⟩
  · simp [h0]
  · omega
theorem IsRow.cap_le {k : IntKind} {w : World} {a : Option Addr} {len cap : Nat} {zs : List Int} (h : IsRow k w a len cap zs) : len ≤ maxLen := by
  rcases h with ⟨_, h0, _, rfl⟩ | ⟨x, _, hl, hm, hz, _⟩
  · omega
  · omega
end Go.Proofs.Ytlhhnpbpmjbbaaa
