/-
  A slice of integers that came in: what the walk is told of it, and that it stands while only new blocks turn.
-/
import Derived.Test.YtfcboacmailfiaaDq1
import Derived.ProofKit
namespace Go.Proofs.Ytfcboacmailfiaa
open Go.RowKit

/-- It is nil; or it leads to a row of 'cap' cells, the numbers zs. -/
def IsRow (k : IntKind) (w : World) (a : Option Addr) (len cap : Nat) (zs : List Int) : Prop :=
  (a = none ∧ len = 0 ∧ cap = 0 ∧ zs = []) ∨
  ∃ x, a = some x ∧ len ≤ cap ∧ cap ≤ maxLen ∧ zs.length = cap ∧ (∀ i, i < zs.length → w.cell? (x.add i) = some (.int k (zs.getD i 0))) ∧ ∀ n ∈ zs, (Lit.int k n).wf = true

theorem IsRow.at_ {k : IntKind} {w : World} {a : Option Addr} {len cap : Nat} {zs : List Int} (h : IsRow k w a len cap zs) {i : Nat} (hi : i < len) :
    ∃ b off, a = some ⟨b, off, none⟩ ∧ w.cell? ⟨b, off + i, none⟩ = some (.int k (zs.getD i 0)) := by
  rcases h with ⟨_, h0, _, _⟩ | ⟨x, rfl, hl, hm, hz, hc, _⟩
  · omega
  · have hci := hc i (by omega)
    obtain ⟨b, off, spot⟩ := x
    have hc0 := hc 0 (by omega)
    have hs := World.cell?_spot hc0
    have hspot : spot = none := by simpa [Addr.add] using hs
    subst hspot
    refine ⟨b, off, rfl, ?_⟩
    by_cases e : i = 0
    · subst e; simpa [Addr.add] using hci
    · simpa [Addr.add, e] using hci
theorem IsRow.len_le {k : IntKind} {w : World} {a : Option Addr} {len cap : Nat} {zs : List Int} (h : IsRow k w a len cap zs) : len ≤ zs.length := by
  rcases h with ⟨_, h0, _, rfl⟩ | ⟨x, _, hl, _, hz, _⟩
  · simp [h0]
  · omega
theorem IsRow.cap_le {k : IntKind} {w : World} {a : Option Addr} {len cap : Nat} {zs : List Int} (h : IsRow k w a len cap zs) : len ≤ maxLen := by
  rcases h with ⟨_, h0, _, rfl⟩ | ⟨x, _, hl, hm, hz, _⟩
  · omega
  · omega
theorem IsRow.u8 {w w' : World} {a : Option Addr} {len cap : Nat} {zs : List Int} (h : IsRow .u8 w a len cap zs) (hf : Fr (fun _ => False) w w') {i : Nat} (hi : i < len) :
    ∃ b off n : Nat, a = some ⟨b, off, none⟩ ∧ n < 256 ∧ w'.cell? ⟨b, off + i, none⟩ = some (.int .u8 (n : Int)) := by
  obtain ⟨b, off, ha, hc⟩ := h.at_ hi
  have hw : (Lit.int .u8 (zs.getD i 0)).wf = true := by
    rcases h with ⟨_, h0, _, _⟩ | ⟨x, _, hl, hm, hz, _, hn⟩
    · omega
    · apply hn
      rw [List.getD_eq_getElem?_getD, List.getElem?_eq_getElem (by omega)]
      exact List.getElem_mem _
  obtain ⟨h1, h2⟩ : 0 ≤ zs.getD i 0 ∧ zs.getD i 0 < 256 := by
    have hm : IntKind.u8.min = 0 := rfl
    have hM : IntKind.u8.max = 255 := rfl
    generalize zs.getD i 0 = z at hw
    simp [Lit.wf, hm, hM] at hw
    omega
  obtain ⟨n, hn⟩ : ∃ n : Nat, zs.getD i 0 = n := ⟨(zs.getD i 0).toNat, by omega⟩
  rw [hn] at hc h2
  exact ⟨b, off, n, ha, by omega, hf.held hc (fun h => h)⟩
end Go.Proofs.Ytfcboacmailfiaa
