/-
  Layer 13: a world of the laws while it is made.
-/
import Derived.Test.YtldcffgjkfocoaaCl7
namespace Go.Proofs.Ytldcffgjkfocoaa
open Go.RowKit

def updN (f : Nat → Nat) (k x : Nat) : Nat → Nat := fun i => if i = k then x else f i
theorem updN_eq (f : Nat → Nat) (k x : Nat) : updN f k x k = x := if_pos rfl
theorem updN_ne (f : Nat → Nat) {k i : Nat} (x : Nat) (h : i ≠ k) : updN f k x i = f i := if_neg h
/-- So many of six are there. -/
def ptrsN (O : Nat → Nat) (n : Nat) : List Value := (List.range 6).map fun k => if k < n then .pointer (some ⟨O k, 0, none⟩) else .pointer none
theorem ptrsN_all (O : Nat → Nat) : ptrsN O 6 = ptrs O := rfl
theorem ptrsN_zero (O : Nat → Nat) : ptrsN O 0 = [.pointer none, .pointer none, .pointer none, .pointer none, .pointer none, .pointer none] := rfl
theorem ptrsN_upd (O : Nat → Nat) (n k x : Nat) (h : n ≤ k) : ptrsN (updN O k x) n = ptrsN O n := by
  unfold ptrsN
  apply List.map_congr_left
  intro i _
  by_cases hi : i < n
  · rw [if_pos hi, if_pos hi, updN_ne O x (by omega)]
  · rw [if_neg hi, if_neg hi]
theorem ptrsN_set (O : Nat → Nat) (n : Nat) (hn : n < 6) : (ptrsN O n).set n (.pointer (some ⟨O n, 0, none⟩)) = ptrsN O (n + 1) := by
  have : n = 0 ∨ n = 1 ∨ n = 2 ∨ n = 3 ∨ n = 4 ∨ n = 5 := by omega
  rcases this with rfl | rfl | rfl | rfl | rfl | rfl <;> rfl
theorem ptrsN_none (O : Nat → Nat) (n : Nat) (hn : n < 6) : (ptrsN O n)[n]? = some (.pointer none) := by
  have : n = 0 ∨ n = 1 ∨ n = 2 ∨ n = 3 ∨ n = 4 ∨ n = 5 := by omega
  rcases this with rfl | rfl | rfl | rfl | rfl | rfl <;> rfl
theorem ptrsN_length (O : Nat → Nat) (n : Nat) : (ptrsN O n).length = 6 := by simp [ptrsN]
theorem vcl_set1 (p : Nat) (H Va Y : Int) (L : Nat) (os rs : List Value) (k : Nat) (hk : k < os.length) (x : Value) : (vcl p H Va Y L os rs).setIfInBounds (6 + k) x = vcl p H Va Y L (os.set k x) rs := by
  unfold vcl
  rw [List.setIfInBounds_toArray, show 6 + k = k + 1 + 1 + 1 + 1 + 1 + 1 by omega]
  simp only [List.set_cons_succ, List.set_append, if_pos hk]
theorem vcl_set2 (p : Nat) (H Va Y : Int) (L : Nat) (os rs : List Value) (k : Nat) (ho : os.length = 6) (x : Value) : (vcl p H Va Y L os rs).setIfInBounds (12 + k) x = vcl p H Va Y L os (rs.set k x) := by
  unfold vcl
  rw [List.setIfInBounds_toArray, show 12 + k = (6 + k) + 1 + 1 + 1 + 1 + 1 + 1 by omega]
  simp only [List.set_cons_succ, List.set_append, ho, if_neg (show ¬ 6 + k < 6 by omega), show 6 + k - 6 = k by omega]
theorem vcl_get1 (p : Nat) (H Va Y : Int) (L : Nat) (os rs : List Value) (k : Nat) (ho : os.length = 6) (hk : k < 6) : (vcl p H Va Y L os rs)[6 + k]? = os[k]? := by
  unfold vcl
  rw [List.getElem?_toArray, show 6 + k = k + 1 + 1 + 1 + 1 + 1 + 1 by omega]
  simp only [List.getElem?_cons_succ]
  rw [List.getElem?_append_left (by omega)]
theorem vcl_get2 (p : Nat) (H Va Y : Int) (L : Nat) (os rs : List Value) (k : Nat) (ho : os.length = 6) : (vcl p H Va Y L os rs)[12 + k]? = rs[k]? := by
  unfold vcl
  rw [List.getElem?_toArray, show 12 + k = (6 + k) + 1 + 1 + 1 + 1 + 1 + 1 by omega]
  simp only [List.getElem?_cons_succ]
  rw [List.getElem?_append_right (by omega), ho, show 6 + k - 6 = k by omega]

/-- Of the world so much is made. -/
structure PartIs (w0 w : World) (q : Pl) (n1 n2 nO nR : Nat) (ops : Nat → PO) (m : List Int) (b : Nat) : Prop where
  hV : Blk w q.V 42 (vcl q.P (m.getD 2 0) (m.getD 3 0) (m.getD 4 0) q.L (ptrsN q.O n1) (ptrsN q.R n2))
  hM : MI w q.P q.S m b
  hL : Blk w q.L 2 (lcl (lks m))
  hO : ∀ k, k < nO → OpAt w (q.O k) (q.A k) (ops k)
  hR : ∀ k, k < nR → Blk w (q.R k) 30 (rco (ops k))
  sepO : ∀ i j, i < nO → j < nO → i ≠ j → q.O i ≠ q.O j ∧ q.A i ≠ q.A j
  sepR : ∀ i j, i < nR → j < nR → i ≠ j → q.R i ≠ q.R j
  new : w0.heap.size ≤ q.V ∧ w0.heap.size ≤ q.P ∧ w0.heap.size ≤ q.S ∧ w0.heap.size ≤ q.L
  newO : ∀ k, k < nO → w0.heap.size ≤ q.O k ∧ w0.heap.size ≤ q.A k
  newR : ∀ k, k < nR → w0.heap.size ≤ q.R k
  fr : Fr F0 w0 w
  len : m.length = 20
  le : n1 ≤ nO ∧ n2 ≤ nR ∧ n1 ≤ 6 ∧ n2 ≤ 6
section
variable {w0 w w' : World} {q : Pl} {n1 n2 nO nR : Nat} {ops : Nat → PO} {m : List Int} {b : Nat}
theorem PartIs.f0 (h : PartIs w0 w q n1 n2 nO nR ops m b) (hf : Fr F0 w w') : PartIs w0 w' q n1 n2 nO nR ops m b :=
  ⟨h.hV.fr hf (fun h => h), h.hM.fr hf (fun h => h) (fun h => h), h.hL.fr hf (fun h => h), fun k hk => (h.hO k hk).fr hf (fun h => h) (fun h => h), fun k hk => (h.hR k hk).fr hf (fun h => h), h.sepO, h.sepR, h.new, h.newO, h.newR, h.fr.trans hf, h.len, h.le⟩
theorem PartIs.drew (h : PartIs w0 w q n1 n2 nO nR ops m b) : PartIs w0 w.drew q n1 n2 nO nR ops m b := h.f0 (Fr.refl _ _).drew
theorem PartIs.op (h : PartIs w0 w q n1 n2 nO nR ops m b) (hf : Fr F0 w w') {o a : Nat} (hO : OpAt w' o a (ops nO)) (ho : w.heap.size ≤ o) (ha : w.heap.size ≤ a) :
    PartIs w0 w' ⟨q.V, q.P, q.S, q.L, updN q.O nO o, updN q.A nO a, q.R⟩ n1 n2 (nO + 1) nR ops m b := by
  have h1 := h.f0 hf
  have hs := h.fr.size
  have old : ∀ k, k < nO → q.O k < w.heap.size ∧ q.A k < w.heap.size := fun k hk => (h.hO k hk).lt
  refine ⟨by rw [ptrsN_upd _ _ _ _ h.le.1]; exact h1.hV, h1.hM, h1.hL, fun k hk => ?_, h1.hR, fun i j hi hj hij => ?_, h.sepR, h.new, fun k hk => ?_, h.newR, h1.fr, h.len, ⟨by have := h.le.1; omega, h.le.2⟩⟩
  · dsimp only
    by_cases e : k = nO
    · subst e; rw [updN_eq, updN_eq]; exact hO
    · rw [updN_ne _ _ e, updN_ne _ _ e]; exact h1.hO k (by omega)
  · dsimp only
    by_cases e : i = nO
    · subst e
      have := old j (by omega)
      rw [updN_eq, updN_eq, updN_ne _ _ (Ne.symm hij), updN_ne _ _ (Ne.symm hij)]
      exact ⟨by omega, by omega⟩
    · by_cases e' : j = nO
      · subst e'
        have := old i (by omega)
        rw [updN_eq, updN_eq, updN_ne _ _ e, updN_ne _ _ e]
        exact ⟨by omega, by omega⟩
      · rw [updN_ne _ _ e, updN_ne _ _ e, updN_ne _ _ e', updN_ne _ _ e']
        exact h.sepO i j (by omega) (by omega) hij
  · dsimp only
    by_cases e : k = nO
    · subst e; rw [updN_eq, updN_eq]; exact ⟨by omega, by omega⟩
    · rw [updN_ne _ _ e, updN_ne _ _ e]; exact h.newO k (by omega)
theorem PartIs.own (h : PartIs w0 w q n1 n2 nO nR ops m b) (hf : Fr F0 w w') {r : Nat} (hR : Blk w' r 30 (rco (ops nR))) (hr : w.heap.size ≤ r) :
    PartIs w0 w' ⟨q.V, q.P, q.S, q.L, q.O, q.A, updN q.R nR r⟩ n1 n2 nO (nR + 1) ops m b := by
  have h1 := h.f0 hf
  have hs := h.fr.size
  have old : ∀ k, k < nR → q.R k < w.heap.size := fun k hk => (h.hR k hk).lt
  refine ⟨by rw [ptrsN_upd _ _ _ _ h.le.2.1]; exact h1.hV, h1.hM, h1.hL, h1.hO, fun k hk => ?_, h.sepO, fun i j hi hj hij => ?_, h.new, h.newO, fun k hk => ?_, h1.fr, h.len, ⟨h.le.1, by have := h.le.2.1; omega, h.le.2.2⟩⟩
  · dsimp only
    by_cases e : k = nR
    · subst e; rw [updN_eq]; exact hR
    · rw [updN_ne _ _ e]; exact h1.hR k (by omega)
  · dsimp only
    by_cases e : i = nR
    · subst e
      have := old j (by omega)
      rw [updN_eq, updN_ne _ _ (Ne.symm hij)]
      omega
    · by_cases e' : j = nR
      · subst e'
        have := old i (by omega)
        rw [updN_eq, updN_ne _ _ e]
        omega
      · rw [updN_ne _ _ e, updN_ne _ _ e']
        exact h.sepR i j (by omega) (by omega) hij
  · dsimp only
    by_cases e : k = nR
    · subst e; rw [updN_eq]; omega
    · rw [updN_ne _ _ e]; exact h.newR k (by omega)
theorem PartIs.set_ {n1' n2' : Nat} (h : PartIs w0 w q n1 n2 nO nR ops m b) (k : Nat) (x : Value) (hV : Blk (w.setCell ⟨q.V, k, none⟩ x) q.V 42 (vcl q.P (m.getD 2 0) (m.getD 3 0) (m.getD 4 0) q.L (ptrsN q.O n1') (ptrsN q.R n2'))) (hle : n1' ≤ nO ∧ n2' ≤ nR ∧ n1' ≤ 6 ∧ n2' ≤ 6) :
    PartIs w0 (w.setCell ⟨q.V, k, none⟩ x) q n1' n2' nO nR ops m b := by
  have hf : Fr (fun g => g = q.V) w (w.setCell ⟨q.V, k, none⟩ x) := (Fr.refl (fun g => g = q.V) w).setCell (p := ⟨q.V, k, none⟩) (.inl rfl) _
  obtain ⟨a1, a2⟩ := MI.ne h.hV h.hM (by decide) (by decide)
  refine ⟨hV, h.hM.fr hf (fun e => a1 e.symm) (fun e => a2 e.symm), h.hL.fr hf (Blk.ne_ h.hL h.hV (by decide)), fun k hk => ?_, fun k hk => (h.hR k hk).fr hf (Blk.ne_ (h.hR k hk) h.hV (by decide)), h.sepO, h.sepR, h.new, h.newO, h.newR, h.fr.then hf (fun i hi => .inr (by rw [hi]; exact h.new.1)), h.len, hle⟩
  have ho := h.hO k hk
  obtain ⟨c1, c2⟩ := ho.away h.hV (by decide) (by decide) (by decide)
  exact ho.fr hf (fun e => c1 e.symm) (fun e => c2 e.symm)
theorem PartIs.set1 (h : PartIs w0 w q n1 n2 nO nR ops m b) (hn : n1 < nO) (hn6 : n1 < 6) : PartIs w0 (w.setCell ⟨q.V, 6 + n1, none⟩ (.pointer (some ⟨q.O n1, 0, none⟩))) q (n1 + 1) n2 nO nR ops m b := by
  refine h.set_ _ _ ?_ ⟨hn, h.le.2.1, hn6, h.le.2.2.2⟩
  have := h.hV.set_ (6 + n1) (.pointer (some ⟨q.O n1, 0, none⟩))
  rwa [vcl_set1 _ _ _ _ _ _ _ _ (by rw [ptrsN_length]; exact hn6), ptrsN_set _ _ hn6] at this
theorem PartIs.set2 (h : PartIs w0 w q n1 n2 nO nR ops m b) (hn : n2 < nR) (hn6 : n2 < 6) : PartIs w0 (w.setCell ⟨q.V, 12 + n2, none⟩ (.pointer (some ⟨q.R n2, 0, none⟩))) q n1 (n2 + 1) nO nR ops m b := by
  refine h.set_ _ _ ?_ ⟨h.le.1, hn, h.le.2.2.1, hn6⟩
  have := h.hV.set_ (12 + n2) (.pointer (some ⟨q.R n2, 0, none⟩))
  rwa [vcl_set2 _ _ _ _ _ _ _ _ (ptrsN_length _ _), ptrsN_set _ _ hn6] at this
theorem PartIs.c1 (h : PartIs w0 w q n1 n2 nO nR ops m b) : w.cell? ⟨q.V, 1, none⟩ = some (.int .i64 2) := by rw [h.hV.cell]; rfl
theorem PartIs.s1 (h : PartIs w0 w q n1 n2 nO nR ops m b) (hn : n1 < 6) : w.cell? ⟨q.V, 6 + n1, none⟩ = some (.pointer none) := by
  rw [h.hV.cell, vcl_get1 _ _ _ _ _ _ _ _ (ptrsN_length _ _) hn, ptrsN_none _ _ hn]
theorem PartIs.s2 (h : PartIs w0 w q n1 n2 nO nR ops m b) (hn : n2 < 6) : w.cell? ⟨q.V, 12 + n2, none⟩ = some (.pointer none) := by
  rw [h.hV.cell, vcl_get2 _ _ _ _ _ _ _ _ (ptrsN_length _ _), ptrsN_none _ _ hn]
theorem PartIs.whole (h : PartIs w0 w q 6 6 6 6 ops m b) (hs : ∀ k, k < 6 → Sta k (ops k)) (hw : ∀ k, k < 6 → WF (ops k)) : WorldIs w0 w q ops m b :=
  ⟨h.hV, h.hM, h.hL, h.hO, h.hR, fun i j hi hj hij => ⟨(h.sepO i j hi hj hij).1, (h.sepO i j hi hj hij).2, h.sepR i j hi hj hij⟩, h.new, fun k hk => ⟨(h.newO k hk).1, (h.newO k hk).2, h.newR k hk⟩, h.fr, h.len, hs, hw⟩
end
/-- All operations, before any has moved. -/
def ops0 (value why : Int) : Nat → PO := fun k => if k = 0 then fill0 2 value why else wait0 2 k (10 + k)
theorem ops0_sta (value why : Int) (k : Nat) (hk : k < 6) : Sta k (ops0 value why k) := by
  unfold ops0
  by_cases h : k = 0
  · subst h; exact ⟨rfl, rfl, rfl, fun h => by omega, by show (0 : Nat) < 20; decide⟩
  · rw [if_neg h]
    exact ⟨rfl, rfl, by simp [h], fun _ => rfl, by show 10 + k < 20; omega⟩
theorem ops0_wf (value why : Int) (k : Nat) : WF (ops0 value why k) := by
  unfold ops0
  split
  · exact wf_fill _ _ _
  · exact wf_wait _ _ _
abbrev m0 : List Int := List.replicate 20 0
theorem live_m0 : (turnR (List.replicate 20 (false, (0 : Int))) 0 20 true) = (0, lv m0) := by decide
theorem make6 (w : World) : (Instr.makeSlice 35 (.int .i64 6) (.int .i64 6)).run Try.prog w = .ok (.slice (some ⟨w.heap.size, 0, none⟩) 6 6) (w.alloc (.cells (lcl (lks m0)) 2)) := by
  have hr := run_make (P := Try.prog) w 35 2 _ (.int .i64 0) Try.underlying35 rfl rfl .i64 .i64 6 6 (by omega) (by omega) (by show (8 : Int) * _ ≤ _; omega) (by omega)
  have e : ∀ n, n = 6 → madeCells (Value.int IntKind.i64 0).cells n = lcl (lks m0) := by
    rintro _ rfl
    kernel_rfl
  rw [hr, e _ (by kernel_rfl)]
  rfl
end Go.Proofs.Ytldcffgjkfocoaa
