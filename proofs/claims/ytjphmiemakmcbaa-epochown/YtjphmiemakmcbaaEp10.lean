/-
  Package epoch: Now and Limbo of epochs in memory; words for the laws.
-/
import Derived.Test.YtjphmiemakmcbaaEp9
import Derived.OpenShut
namespace Go.Proofs.Ytjphmiemakmcbaa
open Go.RowKit

theorem EpAt.len {w : World} {base x now : Nat} {ws : List Wk} (hE : EpAt w base x now ws) : ∃ A c, w.cell? ⟨x, 1, none⟩ = some (.slice A ws.length c) := by
  obtain ⟨v, rows, hmap, hR⟩ := hE
  obtain ⟨A, c, rfl⟩ := own_slice hR.hr
  refine ⟨A, c, ?_⟩
  rw [hR.hx.cell, ← hmap, List.length_map]
  rfl
theorem now_at (w : World) (base x now : Nat) (ws : List Wk) (hE : EpAt w base x now ws) :
    Calls Try.prog 15 #[.pointer (some ⟨x, 0, none⟩)] w fun e w' => e = .returned (.int .i64 (now : Int)) ∧ w' = w := by
  obtain ⟨v, rows, hmap, hR⟩ := hE
  exact now_any w x now (by rw [hR.hx.cell]; rfl)
theorem limbo_at (w : World) (base x now : Nat) (ws : List Wk) (hE : EpAt w base x now ws) (i : Nat) (q : Wk) (hq : ws[i]? = some q) :
    Calls Try.prog 16 #[.pointer (some ⟨x, 0, none⟩), .int .i64 (i : Int)] w fun e w' => e = .returned (.int .i64 (q.limbo.length : Int)) ∧ w' = w := by
  obtain ⟨v, rows, hmap, hR⟩ := hE
  obtain ⟨lv, hr⟩ := rows_at hmap hq
  obtain ⟨g, cap, rfl, hgb, hin, hnc, hcm, hc1, hc2, hfz⟩ := own_pair hR.hr (wkC_at hr)
  obtain ⟨A, c, hlv⟩ := own_slice (hR.hl _ (List.mem_of_getElem? hr))
  have hlv' : lv = .slice A q.limbo.length c := hlv
  subst hlv'
  exact limbo_yes w x i rows.length g cap (by rw [hR.hx.cell]; rfl) hin A _ c hc2
theorem limbo_out (w : World) (base x now : Nat) (ws : List Wk) (hE : EpAt w base x now ws) (i : Int) (hi : i < 0 ∨ (ws.length : Int) ≤ i) :
    Calls Try.prog 16 #[.pointer (some ⟨x, 0, none⟩), .int .i64 i] w fun e w' => e = .returned (.int .i64 0) ∧ w' = w := by
  obtain ⟨A, c, hc⟩ := hE.len
  exact limbo_no w x ws.length i A c hc hi
theorem retire_out (w : World) (base x now : Nat) (ws : List Wk) (hE : EpAt w base x now ws) (i th : Int) (hi : i < 0 ∨ (ws.length : Int) ≤ i) :
    Calls Try.prog 11 #[.pointer (some ⟨x, 0, none⟩), .int .i64 i, .int .i64 th] w fun e w' => e = .returned (.int .i64 1) ∧ w' = w := by
  obtain ⟨A, c, hc⟩ := hE.len
  exact retire_no w x ws.length i th A c hc hi
theorem announce_out (w : World) (base x now : Nat) (ws : List Wk) (hE : EpAt w base x now ws) (i : Int) (hi : i < 0 ∨ (ws.length : Int) ≤ i) :
    Calls Try.prog 12 #[.pointer (some ⟨x, 0, none⟩), .int .i64 i] w fun e w' => e = .returned (.tuple #[.slice none 0 0, .int .i64 1]) ∧ Fr F0 w w' := by
  obtain ⟨A, c, hc⟩ := hE.len
  exact announce_no w x ws.length i A c hc hi
theorem FrE.f0 {w w' : World} {base : Nat} (h : FrE base w w') (hb : w.heap.size ≤ base) : Fr F0 w w' :=
  ⟨h.os, h.tape, h.output, h.size, fun k hk _ => h.block k hk (fun h => by omega)⟩
theorem Fr.thenE {a b c : World} {base : Nat} (h : Fr F0 a b) (k : FrE base b c) (hb : a.heap.size ≤ base) : Fr F0 a c := Fr.then h k (fun _ hi => .inr (Nat.le_trans hb hi.1))
/-- A row of another type holds no block of package epoch. -/
theorem own_mine {w : World} {base size n : Nat} {e : TypeId} {v : Value} {xs : List Value} (h : w.ownsRow base e size v n xs) (ht : e ≠ 55 ∧ e ≠ 58 ∧ e ≠ 60) : ∀ q, Mine w q → v.ownBlock ≠ some q := by
  rintro q ⟨cs, t, fr, hcs, h1⟩ hq
  obtain ⟨cs2, hcs2⟩ := own_head h q hq
  rw [hcs] at hcs2
  injection hcs2 with hcs2
  injection hcs2 with _ h2
  subst h2
  rcases h1 with h1 | h1 | h1
  · exact ht.1 h1
  · exact ht.2.1 h1
  · exact ht.2.2 h1
theorem blk_mine {w : World} {g : Nat} {t : TypeId} {cs : Array Value} (h : Blk w g t cs) (ht : t ≠ 55 ∧ t ≠ 58 ∧ t ≠ 60) : ¬ Mine w g := by
  rintro ⟨cs', t', fr, hcs, h1⟩
  unfold Blk at h
  rw [hcs] at h
  injection h with h
  injection h with _ h2
  subst h2
  rcases h1 with h1 | h1 | h1
  · exact ht.1 h1
  · exact ht.2.1 h1
  · exact ht.2.2 h1
theorem get_lt {α : Type} {l : List α} {i : Nat} (h : i < l.length) : ∃ q, l[i]? = some q := ⟨_, List.getElem?_eq_getElem h⟩
theorem set_at {α : Type} {l : List α} {i j : Nat} {a q : α} (h : (l.set i a)[j]? = some q) : (j = i ∧ q = a ∧ i < l.length) ∨ (j ≠ i ∧ l[j]? = some q) := by
  rw [List.getElem?_set] at h
  by_cases hij : i = j
  · rw [if_pos hij] at h
    split at h
    · injection h with h
      exact .inl ⟨hij.symm, h.symm, by assumption⟩
    · cases h
  · rw [if_neg hij] at h
    exact .inr ⟨fun h => hij h.symm, h⟩
theorem bounds8 {x : Int} (h : (Lit.int .u8 x).wf = true) : ∃ a : Nat, x = a ∧ a < 256 := by
  have := bounds_u8 h
  exact ⟨x.toNat, by omega, by omega⟩
end Go.Proofs.Ytjphmiemakmcbaa
