/-
  One instruction more in the log, in memory and as plain data.
-/
import Derived.Test.YtbhnnnpofindiaaDoorSpF
namespace Go.Proofs.YtbhnnnpofindiaaDoor
open Go.RowKit

theorem own_set {w : World} {base size n : Nat} {e : TypeId} {g cap : Nat} {xs : List Value} (h : w.ownsRow base e size (.slice (some ⟨g, 0, none⟩) n cap) n xs) (j : Nat) (_hj : j < n * size) (u : Value) :
    (w.setCell ⟨g, j, none⟩ u).ownsRow base e size (.slice (some ⟨g, 0, none⟩) n cap) n (xs.set j u) := by
  refine ⟨by rw [List.length_set]; exact h.1, ?_⟩
  rcases h.2 with ⟨h0, _⟩ | ⟨g', cap', cur, hv, hb, hh, h1, h2, h3, h4⟩
  · cases h0
  · injection hv with hv1 _ hv3
    injection hv1 with hv1
    injection hv1 with hv1
    subst hv1 hv3
    refine .inr ⟨g, cap, cur.setIfInBounds j u, rfl, hb, ?_, h1, h2, by rw [Array.size_setIfInBounds]; exact h3, ?_⟩
    · exact Blk.set_ (t := e) hh j u
    · rw [Array.toList_setIfInBounds, List.take_set, h4]

/-- An entry with an instruction more. -/
def LEnt.up (x : LEnt) : LEnt := { x with steps := x.steps + 1 }
theorem flat_up (ll : List LEnt) (m : Nat) (x : LEnt) (h : ll[m]? = some x) : (ll.flatMap LEnt.cells).set (m * 2 + 1) (.int .i64 (x.steps + 1)) = (ll.modify m LEnt.up).flatMap LEnt.cells := by
  induction ll generalizing m with
  | nil => simp at h
  | cons y r ih =>
    cases m with
    | zero =>
      simp at h
      subst h
      rfl
    | succ m =>
      have hr := ih m (by simpa using h)
      rw [List.modify_succ_cons, List.flatMap_cons, List.flatMap_cons, ← hr, List.set_append_right _ _ (by rw [LEnt.cells_length]; omega), LEnt.cells_length]
      rw [show (m + 1) * 2 + 1 - 2 = m * 2 + 1 by omega]
theorem map_up (ll : List LEnt) (m : Nat) : (ll.modify m LEnt.up).map LEnt.pure = (ll.map LEnt.pure).modify m fun e => (e.1, e.2 + 1) := by
  induction ll generalizing m with
  | nil => simp
  | cons y r ih =>
    cases m with
    | zero => rfl
    | succ m => rw [List.modify_succ_cons, List.map_cons, ih, List.map_cons, List.modify_succ_cons]
theorem mem_up {ll : List LEnt} {m : Nat} {x : LEnt} (h : x ∈ ll.modify m LEnt.up) : ∃ y ∈ ll, x.path = y.path ∧ x.A = y.A := by
  induction ll generalizing m with
  | nil => simp at h
  | cons y r ih =>
    cases m with
    | zero =>
      rw [List.modify_zero_cons] at h
      rcases List.mem_cons.1 h with rfl | h
      · exact ⟨y, by simp, rfl, rfl⟩
      · exact ⟨x, by simp [h], rfl, rfl⟩
    | succ m =>
      rw [List.modify_succ_cons] at h
      rcases List.mem_cons.1 h with rfl | h
      · exact ⟨x, by simp, rfl, rfl⟩
      · obtain ⟨z, hz, h2⟩ := ih h
        exact ⟨z, by simp [hz], h2⟩
theorem steps_at {ll : List LEnt} {sh : Sh} {m : Nat} {x : LEnt} (h : ll.map LEnt.pure = sh.log) (hx : ll[m]? = some x) : steps sh m = x.steps := by
  unfold steps
  rw [← h, List.getElem?_map, hx]
  rfl

section
variable {c : Cx} {w w' : World} {sh : Sh} {tv lv : Value} {ll : List LEnt} {g n cap : Nat}
/-- One instruction less. -/
theorem ShAt.less (h : ShAt c w sh tv lv ll) (n : Int) (u : Value) (hu : u = .int .i64 n) : ShAt c (w.setCell ⟨c.W, 3, none⟩ u) { sh with left := n } tv lv ll ∧ Fr (ShB c tv lv) w (w.setCell ⟨c.W, 3, none⟩ u) := by
  subst hu
  have hF : Fr (At c.W) w (w.setCell ⟨c.W, 3, none⟩ (.int .i64 n)) := (Fr.refl (At c.W) w).setCell (p := ⟨c.W, 3, none⟩) (.inl rfl) _
  have hF' : Fr (ShB c tv lv) w (w.setCell ⟨c.W, 3, none⟩ (.int .i64 n)) := hF.mono (fun k hk => .inl hk)
  have n1 : ∀ k, tv.ownBlock = some k → ¬ At c.W k := fun k hk hb => by
    have hb' : k = c.W := hb
    subst hb'
    exact own_ne h.told h.blk (by decide) hk
  have n2 : ∀ k, lv.ownBlock = some k → ¬ At c.W k := fun k hk hb => by
    have hb' : k = c.W := hb
    subst hb'
    exact own_ne h.log h.blk (by decide) hk
  exact ⟨⟨h.blk.set_ 3 (.int .i64 n), h.low, own_fr h.told hF n1, own_fr h.log hF n2, h.same, fun x hx => (h.paths x hx).fr hF' (fun k cs hk hb => (ShB.typed h hb).ne hk (by unfold ST; decide) rfl),
    heap_keep hF' h.pmap (fun hb => (ShB.typed h hb).ne_map h.pmap rfl), heap_keep hF' h.dmap (fun hb => (ShB.typed h hb).ne_map h.dmap rfl), h.prog.fr hF' (fun b hb hk => by have := (ShB.typed h hk).1; omega)⟩, hF'⟩

/-- One instruction more of a task. -/
theorem ShAt.up (h : ShAt c w sh tv (.slice (some ⟨g, 0, none⟩) n cap) ll) (m : Nat) (x : LEnt) (hx : ll[m]? = some x) (u : Value) (hu : u = .int .i64 (x.steps + 1)) :
    ShAt c (w.setCell ⟨g, m * 2 + 1, none⟩ u) { sh with log := sh.log.modify m fun e => (e.1, e.2 + 1) } tv (.slice (some ⟨g, 0, none⟩) n cap) (ll.modify m LEnt.up) ∧ Fr (ShB c tv (.slice (some ⟨g, 0, none⟩) n cap)) w (w.setCell ⟨g, m * 2 + 1, none⟩ u) := by
  subst hu
  have hm := (List.getElem?_eq_some_iff.1 hx).1
  have hF : Fr (At g) w (w.setCell ⟨g, m * 2 + 1, none⟩ (.int .i64 (x.steps + 1))) := (Fr.refl (At g) w).setCell (p := ⟨g, m * 2 + 1, none⟩) (.inl rfl) _
  have hF' : Fr (ShB c tv (.slice (some ⟨g, 0, none⟩) n cap)) w (w.setCell ⟨g, m * 2 + 1, none⟩ (.int .i64 (x.steps + 1))) := hF.mono (fun k hk => .inr (.inr (by have hk' : k = g := hk; rw [hk']; rfl)))
  have hn : n = ll.length := by
    rcases h.log.2 with ⟨h0, _⟩ | ⟨_, _, _, hv, _⟩
    · cases h0
    · injection hv
  have ntv : ∀ k, tv.ownBlock = some k → ¬ At g k := fun k hk hb => by
    have hb' : k = g := hb
    subst hb'
    exact own_apart h.told h.log (by decide) k hk rfl
  have nW : ¬ At g c.W := fun hb => by
    have hb' : c.W = g := hb
    exact own_ne h.log h.blk (by decide) (by rw [hb']; rfl)
  subst hn
  have ho := own_set h.log (m * 2 + 1) (by omega) (.int .i64 (x.steps + 1))
  rw [flat_up ll m x hx] at ho
  refine ⟨⟨h.blk.fr hF nW, h.low, own_fr h.told hF ntv, ?_, by rw [map_up, h.same], fun y hy => ?_,
    heap_keep hF' h.pmap (fun hb => (ShB.typed h hb).ne_map h.pmap rfl), heap_keep hF' h.dmap (fun hb => (ShB.typed h hb).ne_map h.dmap rfl), h.prog.fr hF' (fun b hb hk => by have := (ShB.typed h hk).1; omega)⟩, hF'⟩
  · rw [List.length_modify]; exact ho
  · obtain ⟨z, hz, e1, e2⟩ := mem_up hy
    rw [e1, e2]
    exact (h.paths z hz).fr hF' (fun k cs hk hb => (ShB.typed h hb).ne hk (by unfold ST; decide) rfl)
end
end Go.Proofs.YtbhnnnpofindiaaDoor
