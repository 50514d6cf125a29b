/-
  Layer 13: who waits one behind the other, as plain data.
-/
import Derived.Test.YtldcffgjkfocoaaCl11
import Derived.Test.YtldcffgjkfocoaaCl7J
import Derived.Laws.AppendOwn
namespace Go.Proofs.Ytldcffgjkfocoaa
open Go.RowKit

/-- Those in the list wait, the last one of them first; nobody else has moved. -/
structure Ch (value : Int) (S : (Nat → PO) × List Int) (l : List Nat) : Prop where
  len : S.2.length = 20
  m2 : S.2.getD 2 0 ≠ -1
  fre : ∀ k, 1 ≤ k → k < 6 → ¬ k ∈ l → S.1 k = wait0 2 k (10 + k)
  end_ : ∀ k, k ∈ l → (S.1 k).ended = true ∧ 1 ≤ k ∧ k < 6
  f0 : S.1 0 = fill0 2 value 0
  lnk : Lnk S.2 (S.2.getD 2 0) l.reverse
theorem Ch.start (value : Int) : Ch value (ops0 value 0, m0) [] :=
  ⟨rfl, by show (m0.getD 2 0 : Int) ≠ -1; decide, fun k hk _ _ => by show ops0 value 0 k = _; unfold ops0; rw [if_neg (by omega)], fun k h => (by cases h), rfl, rfl⟩
theorem wrun3 (S : (Nat → PO) × List Int) (k : Nat) (hk : 1 ≤ k) (hk6 : k < 6) (h2 : S.2.getD 2 0 ≠ -1) (hf : S.1 k = wait0 2 k (10 + k)) :
    ∃ v : PO, wrun k 3 S = (upd S.1 k v, (S.2.set (10 + k) (S.2.getD 2 0)).set 2 (k : Int)) ∧ v.ended = true := by
  have s1 : stp (S.1 k) S.2 = (⟨false, 2, (k : Int), 10 + k, 1, S.2.getD 2 0, 0, 0, false, false, 0, 0, 0⟩, S.2) := by
    rw [hf]; unfold stp; simp only [h2]; simp
  have w1 : wrun k 1 S = (upd S.1 k ⟨false, 2, (k : Int), 10 + k, 1, S.2.getD 2 0, 0, 0, false, false, 0, 0, 0⟩, S.2) := by
    show wst S k = _
    unfold wst; rw [s1]
  have s2 : stp ⟨false, 2, (k : Int), 10 + k, 1, S.2.getD 2 0, 0, 0, false, false, 0, 0, 0⟩ S.2 = (⟨false, 2, (k : Int), 10 + k, 2, S.2.getD 2 0, 0, 0, false, false, 0, 0, 0⟩, S.2.set (10 + k) (S.2.getD 2 0)) := by
    simp [stp]
  have w2 : wrun k 2 S = (upd S.1 k ⟨false, 2, (k : Int), 10 + k, 2, S.2.getD 2 0, 0, 0, false, false, 0, 0, 0⟩, S.2.set (10 + k) (S.2.getD 2 0)) := by
    show wst (wrun k 1 S) k = _
    rw [w1]; unfold wst; dsimp only; rw [upd_eq, s2, upd_upd]
  have hm : (S.2.set (10 + k) (S.2.getD 2 0)).getD 2 0 = S.2.getD 2 0 := getD_ne _ _ _ _ (by omega)
  have s3 : stp ⟨false, 2, (k : Int), 10 + k, 2, S.2.getD 2 0, 0, 0, false, false, 0, 0, 0⟩ (S.2.set (10 + k) (S.2.getD 2 0)) = (⟨false, 2, (k : Int), 10 + k, 3, S.2.getD 2 0, 0, 0, true, true, 0, 0, 0⟩, (S.2.set (10 + k) (S.2.getD 2 0)).set 2 (k : Int)) := by
    unfold stp; simp only [hm]; simp
  refine ⟨⟨false, 2, (k : Int), 10 + k, 3, S.2.getD 2 0, 0, 0, true, true, 0, 0, 0⟩, ?_, rfl⟩
  show wst (wrun k 2 S) k = _
  rw [w2]; unfold wst; dsimp only; rw [upd_eq, s3, upd_upd]
theorem Ch.step {value : Int} {S : (Nat → PO) × List Int} {l : List Nat} (h : Ch value S l) (k : Nat) (hk : 1 ≤ k) (hk6 : k < 6) (hn : ¬ k ∈ l) : Ch value (wrun k 3 S) (l ++ [k]) := by
  obtain ⟨v, hw, hv⟩ := wrun3 S k hk hk6 h.m2 (h.fre k hk hk6 hn)
  have hl2 : (S.2.set (10 + k) (S.2.getD 2 0)).length = 20 := by rw [List.length_set]; exact h.len
  rw [hw]
  refine ⟨by simpa using h.len, ?_, fun i hi hi6 hin => ?_, fun i hi => ?_, ?_, ?_⟩
  · show ((S.2.set (10 + k) (S.2.getD 2 0)).set 2 (k : Int)).getD 2 0 ≠ -1
    rw [getD_eq _ _ _ (by omega)]; omega
  · have : i ≠ k := fun e => hin (by rw [e]; simp)
    show upd S.1 k v i = _
    rw [upd_ne _ _ this]
    exact h.fre i hi hi6 (fun hm => hin (List.mem_append_left _ hm))
  · show (upd S.1 k v i).ended = true ∧ _
    by_cases e : i = k
    · subst e; rw [upd_eq]; exact ⟨hv, hk, hk6⟩
    · rw [upd_ne _ _ e]
      exact h.end_ i (by simpa [e] using hi)
  · show upd S.1 k v 0 = _
    rw [upd_ne _ _ (by omega)]; exact h.f0
  · show Lnk ((S.2.set (10 + k) (S.2.getD 2 0)).set 2 (k : Int)) (((S.2.set (10 + k) (S.2.getD 2 0)).set 2 (k : Int)).getD 2 0) (l ++ [k]).reverse
    rw [getD_eq _ _ _ (by omega), List.reverse_append]
    refine ⟨rfl, ?_⟩
    rw [getD_ne _ _ _ _ (by omega), getD_eq _ _ _ (by rw [h.len]; omega)]
    refine Lnk.set _ (Lnk.set _ h.lnk (fun j hj => ?_)) (fun j _ => by omega)
    have : j ≠ k := fun e => hn (by rw [← e]; simpa using hj)
    omega
/-- Behind the fill. -/
theorem Ch.fill {value : Int} {S : (Nat → PO) × List Int} {l : List Nat} (h : Ch value S l) : ∃ f : Int, ((wrun 0 4 S).1 0).ended = true ∧ ((wrun 0 4 S).1 0).first = f ∧ ((wrun 0 4 S).1 0).waits = false ∧ ((wrun 0 4 S).1 0).ev = 0 ∧ ((wrun 0 4 S).1 0).ey = 0 ∧ Lnk (wrun 0 4 S).2 f l.reverse := by
  have s1 : stp (S.1 0) S.2 = (⟨true, 2, 0, 0, 1, 0, value, 0, false, false, 0, 0, 0⟩, S.2.set 3 value) := by rw [h.f0]; simp [stp]
  have w1 : wrun 0 1 S = (upd S.1 0 ⟨true, 2, 0, 0, 1, 0, value, 0, false, false, 0, 0, 0⟩, S.2.set 3 value) := by
    show wst S 0 = _
    unfold wst; rw [s1]
  have s2 : stp ⟨true, 2, 0, 0, 1, 0, value, 0, false, false, 0, 0, 0⟩ (S.2.set 3 value) = (⟨true, 2, 0, 0, 2, 0, value, 0, false, false, 0, 0, 0⟩, (S.2.set 3 value).set 4 0) := by simp [stp]
  have w2 : wrun 0 2 S = (upd S.1 0 ⟨true, 2, 0, 0, 2, 0, value, 0, false, false, 0, 0, 0⟩, (S.2.set 3 value).set 4 0) := by
    show wst (wrun 0 1 S) 0 = _
    rw [w1]; unfold wst; dsimp only; rw [upd_eq, s2, upd_upd]
  have hm : ((S.2.set 3 value).set 4 0).getD 2 0 = S.2.getD 2 0 := by rw [getD_ne _ _ _ _ (by omega), getD_ne _ _ _ _ (by omega)]
  obtain ⟨m', hm'⟩ : ∃ m', m' = (S.2.set 3 value).set 4 0 := ⟨_, rfl⟩
  rw [← hm'] at w2 hm
  have s3 : stp ⟨true, 2, 0, 0, 2, 0, value, 0, false, false, 0, 0, 0⟩ m' = (⟨true, 2, 0, 0, 3, S.2.getD 2 0, value, 0, false, false, 0, 0, 0⟩, m') := by unfold stp; simp only [hm]; simp
  have w3 : wrun 0 3 S = (upd S.1 0 ⟨true, 2, 0, 0, 3, S.2.getD 2 0, value, 0, false, false, 0, 0, 0⟩, m') := by
    show wst (wrun 0 2 S) 0 = _
    rw [w2]; unfold wst; dsimp only; rw [upd_eq, s3, upd_upd]
  have s4 : stp ⟨true, 2, 0, 0, 3, S.2.getD 2 0, value, 0, false, false, 0, 0, 0⟩ m' = (⟨true, 2, 0, 0, 4, S.2.getD 2 0, value, 0, true, false, S.2.getD 2 0, 0, 0⟩, m'.set 2 (-1)) := by unfold stp; simp only [hm]; simp
  have w4 : wrun 0 4 S = (upd S.1 0 ⟨true, 2, 0, 0, 4, S.2.getD 2 0, value, 0, true, false, S.2.getD 2 0, 0, 0⟩, m'.set 2 (-1)) := by
    show wst (wrun 0 3 S) 0 = _
    rw [w3]; unfold wst; dsimp only; rw [upd_eq, s4, upd_upd]
  rw [w4]
  dsimp only
  rw [upd_eq, hm']
  exact ⟨_, rfl, rfl, rfl, rfl, rfl, Lnk.set _ (Lnk.set _ (Lnk.set _ h.lnk (fun j _ => by omega)) (fun j _ => by omega)) (fun j _ => by omega)⟩

/-- The world's blocks are older than B. -/
structure Low (q : Pl) (B : Nat) : Prop where
  a : q.V < B ∧ q.P < B ∧ q.S < B ∧ q.L < B
  b : ∀ k, k < 6 → q.O k < B ∧ q.A k < B ∧ q.R k < B
theorem WorldIs.low {w0 w : World} {q : Pl} {ops : Nat → PO} {m : List Int} {b : Nat} (h : WorldIs w0 w q ops m b) : Low q w.heap.size := by
  obtain ⟨st, hms, _, _⟩ := h.hM
  exact ⟨⟨h.hV.lt, hms.hp.lt, hms.hs.lt, h.hL.lt⟩, fun k hk => ⟨(h.hO k hk).lt.1, (h.hO k hk).lt.2, (h.hR k hk).lt⟩⟩
theorem Low.not {q : Pl} {B i : Nat} (h : Low q B) (hi : B ≤ i) : ¬ Qb q i := by
  obtain ⟨h1, h2, h3, h4⟩ := h.a
  rintro (e | e | e | e | ⟨k, hk, e⟩)
  · omega
  · omega
  · omega
  · omega
  · have := h.b k hk
    rcases e with e | e | e <;> omega
theorem WorldIs.newer {w0 w w' : World} {q : Pl} {ops : Nat → PO} {m : List Int} {b B : Nat} (h : WorldIs w0 w q ops m b) (hl : Low q B) (hB : w0.heap.size ≤ B) (hf : Fr (fun i => B ≤ i) w w') : WorldIs w0 w' q ops m b := by
  obtain ⟨h1, h2, h3, h4⟩ := hl.a
  refine ⟨h.hV.fr hf (by omega), h.hM.fr hf (by omega) (by omega), h.hL.fr hf (by omega), fun k hk => ?_, fun k hk => ?_, h.sep, h.new, h.newo, h.fr.then hf (fun i hi => .inr (Nat.le_trans hB hi)), h.len, h.sta, h.wf⟩
  · have := hl.b k hk
    exact (h.hO k hk).fr hf (by omega) (by omega)
  · have := hl.b k hk
    exact (h.hR k hk).fr hf (by omega)
theorem wmove_jk (w1 w0 w : World) (q : Pl) (S : (Nat → PO) × List Int) (b : Nat) (hW : WorldJs w1 w0 w q S.1 S.2 b) (hb : b < 800000) (k : Nat) (hk : k < 6) :
    Calls Try.prog 9 #[.pointer (some ⟨q.V, 0, none⟩), .int .u8 (k : Int)] w fun e w' => e = .returned (.bool true) ∧ WorldJs w1 w0 w' q (wst S k).1 (wst S k).2 (b + 9) :=
  wmove_j w1 w0 w q S.1 S.2 b hW hb k (by omega) k (by omega)
end Go.Proofs.Ytldcffgjkfocoaa
