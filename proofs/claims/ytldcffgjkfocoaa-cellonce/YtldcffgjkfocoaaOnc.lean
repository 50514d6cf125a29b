/-
  Layer 13: who waits in the end, counted along the links.
-/
import Derived.Test.YtldcffgjkfocoaaCl11
namespace Go.Proofs.Ytldcffgjkfocoaa
open Go.RowKit

theorem inv_start (value why : Int) : Inv value why (ops0 value why) m0 [] := by
  refine ⟨rfl, ⟨⟨rfl, rfl, rfl, rfl, rfl, rfl⟩, fun _ => by show (0 : Nat) ≤ 3; decide, fun h => absurd h (by show ¬ 1 ≤ 0; decide), fun h => absurd h (by show ¬ 2 ≤ 0; decide), fun h => absurd h (by show ¬ false = true; decide), fun _ => by decide⟩, fun k hk _ => ?_, rfl, List.nodup_nil, fun k => ?_⟩
  · have : ops0 value why k = wait0 2 k (10 + k) := by unfold ops0; rw [if_neg (by omega)]
    rw [this]
    exact ⟨⟨rfl, rfl, rfl, rfl⟩, fun _ => .inl rfl, fun _ h => absurd h (by show ¬ 0 = 2; decide), fun _ h => absurd h (by show ¬ 0 = 1; decide), fun h => absurd h (by show ¬ false = true; decide), fun _ => rfl, rfl⟩
  · constructor
    · intro h; cases h
    · rintro ⟨h1, _, h3, _⟩
      unfold ops0 at h3
      rw [if_neg (by omega)] at h3
      exact absurd h3 (by show ¬ false = true; decide)
theorem stp_lk (v : PO) (m : List Int) : (stp v m).1.lk = v.lk ∧ (stp v m).1.base = v.base := by
  unfold stp
  (repeat' split) <;> exact ⟨rfl, rfl⟩
/-- What holds of all, however they have moved. -/
structure Run (value why : Int) (S : (Nat → PO) × List Int) : Prop where
  inv : ∃ c, Inv value why S.1 S.2 c
  lk : ∀ k, k < 6 → (S.1 k).lk ≠ 2 ∧ (S.1 k).base = 2
theorem Run.start (value why : Int) : Run value why (ops0 value why, m0) :=
  ⟨⟨[], inv_start value why⟩, fun k hk => by
    show (ops0 value why k).lk ≠ 2 ∧ (ops0 value why k).base = 2
    unfold ops0
    by_cases h : k = 0
    · rw [if_pos h]; exact ⟨by show (0 : Nat) ≠ 2; decide, rfl⟩
    · rw [if_neg h]; exact ⟨by show 10 + k ≠ 2; omega, rfl⟩⟩
theorem Run.step {value why : Int} {S : (Nat → PO) × List Int} (h : Run value why S) (k : Nat) (hk : k < 6) : Run value why (wst S k) := by
  obtain ⟨c, hc⟩ := h.inv
  refine ⟨hc.step k hk, fun i hi => ?_⟩
  show ((upd S.1 k (stp (S.1 k) S.2).1) i).lk ≠ 2 ∧ ((upd S.1 k (stp (S.1 k) S.2).1) i).base = 2
  by_cases hik : i = k
  · subst hik; rw [upd_eq, (stp_lk _ _).1, (stp_lk _ _).2]; exact h.lk i hi
  · rw [upd_ne _ _ hik]; exact h.lk i hi
theorem Run.less {value why : Int} {S : (Nat → PO) × List Int} (h : Run value why S) (k : Nat) (hk : k < 6) (he : (S.1 k).ended = false) : fu ((wst S k).1 k) (wst S k).2 < fu (S.1 k) S.2 := by
  show fu (upd S.1 k (stp (S.1 k) S.2).1 k) (stp (S.1 k) S.2).2 < _
  rw [upd_eq]
  have := h.lk k hk
  exact fu_step _ _ he (by rw [this.2]; exact this.1)
theorem wst_other (S : (Nat → PO) × List Int) {k i : Nat} (h : i ≠ k) : (wst S k).1 i = S.1 i := upd_ne _ _ h

theorem few_of : ∀ (n : Nat) (c : List Nat), c.Nodup → (∀ k ∈ c, k < n) → c.length ≤ n
  | 0, c, _, h => by
    cases c with
    | nil => exact Nat.le_refl _
    | cons x r => exact absurd (h x List.mem_cons_self) (by omega)
  | n + 1, c, hn, h => by
    by_cases hm : n ∈ c
    · have h1 := few_of n (c.erase n) (hn.erase n) (fun k hk => by
        have h2 := (List.Nodup.mem_erase_iff hn).1 hk
        have h3 := h k h2.2
        have h4 := h2.1
        omega)
      have h2 := List.length_erase_of_mem hm
      omega
    · have := few_of n c hn (fun k hk => by
        have h3 := h k hk
        have h4 : k ≠ n := fun e => hm (e ▸ hk)
        omega)
      omega
/-- How often each was met. -/
def tl (l : List Nat) : List Int := (List.range 6).map fun k => if k ∈ l then 1 else 0
theorem tl_get (l : List Nat) (k : Nat) (hk : k < 6) : (tl l)[k]? = some (if k ∈ l then 1 else 0) := by
  unfold tl
  rw [List.getElem?_map, List.getElem?_range hk]
  rfl
theorem tl_nil : tl [] = [0, 0, 0, 0, 0, 0] := rfl
theorem tl_set (l : List Nat) (k : Nat) (hk : k < 6) : (tl l).set k 1 = tl (l ++ [k]) := by
  apply List.ext_getElem?
  intro j
  rw [List.getElem?_set]
  have hlen : (tl l).length = 6 := by simp [tl]
  by_cases hj : j < 6
  · rw [tl_get _ _ hj]
    by_cases e : k = j
    · subst e
      rw [if_pos rfl, if_pos (by omega), tl_get _ _ hj, if_pos (by simp)]
    · rw [if_neg e, tl_get _ _ hj]
      have : (j ∈ l ++ [k]) ↔ j ∈ l := by simp; omega
      by_cases hm : j ∈ l
      · rw [if_pos hm, if_pos (this.2 hm)]
      · rw [if_neg hm, if_neg (fun h => hm (this.1 h))]
  · have h6 : (tl (l ++ [k]))[j]? = none := List.getElem?_eq_none (by simp [tl]; omega)
    have h7 : (tl l)[j]? = none := List.getElem?_eq_none (by omega)
    rw [h6, if_neg (by omega), h7]
theorem WorldIs.far {w0 w w' : World} {q : Pl} {ops : Nat → PO} {m : List Int} {b g : Nat} {cs : Array Value} (h : WorldIs w0 w q ops m b) (hg : Blk w g 43 cs) (hn : w0.heap.size ≤ g) (hf : Fr (fun i => i = g) w w') : WorldIs w0 w' q ops m b := by
  have hb : ∀ {i : Nat} {t : TypeId} {d : Array Value}, Blk w i t d → t ≠ 43 → Blk w' i t d := fun hB h1 => hB.fr hf (Blk.ne_ hB hg h1)
  refine ⟨hb h.hV (by decide), ?_, hb h.hL (by decide), fun k hk => ?_, fun k hk => hb (h.hR k hk) (by decide), h.sep, h.new, h.newo, h.fr.then hf (fun i hi => .inr (by rw [hi]; exact hn)), h.len, h.sta, h.wf⟩
  · obtain ⟨st, hms, a, c⟩ := h.hM
    exact ⟨st, ⟨hb hms.hp (by decide), hb hms.hs (by decide)⟩, a, c⟩
  · have ho := h.hO k hk
    exact ⟨hb ho.ho (by decide), fun e => hb (ho.hf e) (by decide), fun e => hb (ho.hw e) (by decide)⟩
/-- How each ended, in the end. -/
theorem Inv.end0 {value why : Int} {ops : Nat → PO} {m : List Int} {c : List Nat} (h : Inv value why ops m c) (hwf : WF (ops 0)) (he : (ops 0).ended = true) : (ops 0).waits = false ∧ (ops 0).ev = 0 ∧ (ops 0).ey = 0 ∧ Lnk m (ops 0).first c := by
  obtain ⟨s1, _, _, _, _, s6⟩ := h.f.sta
  have ht := (hwf.tol he).2 (.inl s1)
  have hl := h.link
  rw [if_pos he] at hl
  exact ⟨s6, ht.1, ht.2, hl⟩
theorem Inv.yes {value why : Int} {ops : Nat → PO} {m : List Int} {c : List Nat} (h : Inv value why ops m c) {x : Nat} (h1 : 1 ≤ x) (h6 : x < 6) (hwf : WF (ops x)) (hc : x ∈ c) : (ops x).waits = true ∧ (ops x).ev = 0 ∧ (ops x).ey = 0 ∧ (ops x).first = 0 := by
  obtain ⟨_, _, he, hw⟩ := (h.mem x).1 hc
  have ht := (hwf.tol he).2 (.inr hw)
  exact ⟨hw, ht.1, ht.2, (h.w x h1 h6).fst⟩
theorem Inv.not {value why : Int} {ops : Nat → PO} {m : List Int} {c : List Nat} (h : Inv value why ops m c) {x : Nat} (h1 : 1 ≤ x) (h6 : x < 6) (he : (ops x).ended = true) (hc : ¬ x ∈ c) : (ops x).waits = false ∧ (ops x).ev = value ∧ (ops x).ey = why ∧ (ops x).first = 0 := by
  have hw : (ops x).waits = false := by
    rw [← Bool.not_eq_true]
    intro hw
    exact hc ((h.mem x).2 ⟨h1, h6, he, hw⟩)
  have ht := (h.w x h1 h6).told he hw
  exact ⟨hw, ht.1, ht.2, (h.w x h1 h6).fst⟩
theorem Inv.short {value why : Int} {ops : Nat → PO} {m : List Int} {c : List Nat} (h : Inv value why ops m c) : c.length ≤ 6 :=
  few_of 6 c h.nd (fun k hk => ((h.mem k).1 hk).2.1)
end Go.Proofs.Ytldcffgjkfocoaa
