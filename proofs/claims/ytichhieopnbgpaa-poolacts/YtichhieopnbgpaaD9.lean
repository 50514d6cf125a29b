/-
  The document's pool while it is made, in memory and in plain words. No condition.
-/
import Derived.Test.YtichhieopnbgpaaD8
namespace Go.Proofs.Ytichhieopnbgpaa
open Go.RowKit

/-- Numbers one behind the other. -/
def asc (f m : Nat) : List Nat := (List.range m).map fun j => f + j
theorem asc_succ (f m : Nat) : asc f (m + 1) = asc f m ++ [f + m] := by simp [asc, List.range_succ]
theorem asc_length (f m : Nat) : (asc f m).length = m := by simp [asc]
theorem rowL_snoc2 {b m : Nat} : rowL b (m + 1) = rowL (b + 1) m ++ [b] := by
  unfold rowL
  rw [List.range_succ, List.map_append]
  congr 1
  · apply List.map_congr_left
    intro j hj
    have := List.mem_range.1 hj
    omega
  · simp
theorem asc_rev (f m : Nat) : (rowL f m).reverse = asc f m := by
  induction m generalizing f with
  | zero => rfl
  | succ m ih =>
    rw [rowL_snoc2, List.reverse_append, ih]
    unfold asc
    rw [List.range_succ_eq_map, List.map_cons, List.map_map]
    simp only [List.reverse_singleton, List.singleton_append, Nat.add_zero, List.cons.injEq, true_and]
    apply List.map_congr_left
    intro j _
    simp only [Function.comp]
    omega
/-- Row q, where class c is at worker o, block j. -/
def rowP (S : Shp) (c o j q : Nat) : List Nat :=
  if q % 3 < c ∨ (q % 3 = c ∧ q / 3 < o) then asc (frs S (q / 3) (q % 3)) (mny S (q % 3)) else if q % 3 = c ∧ q / 3 = o then asc (frs S o c) j else []
theorem rowP_next {S : Shp} {c o q : Nat} : rowP S c o (mny S c) q = rowP S c (o + 1) 0 q := by
  unfold rowP
  by_cases h1 : q % 3 < c ∨ (q % 3 = c ∧ q / 3 < o)
  · rw [if_pos h1, if_pos (by omega)]
  · rw [if_neg h1]
    by_cases h2 : q % 3 = c ∧ q / 3 = o
    · rw [if_pos h2, if_pos (by omega), h2.1, h2.2]
    · rw [if_neg h2, if_neg (by omega)]
      by_cases h3 : q % 3 = c ∧ q / 3 = o + 1
      · rw [if_pos h3]; rfl
      · rw [if_neg h3]
theorem rowP_class {S : Shp} {c q : Nat} (hq : q < 3 * S.k) : rowP S c S.k 0 q = rowP S (c + 1) 0 0 q := by
  unfold rowP
  by_cases h1 : q % 3 < c ∨ (q % 3 = c ∧ q / 3 < S.k)
  · rw [if_pos h1, if_pos (by omega)]
  · rw [if_neg h1, if_neg (by omega), if_neg (by omega)]
    by_cases h3 : q % 3 = c + 1 ∧ q / 3 = 0
    · rw [if_pos h3]; rfl
    · rw [if_neg h3]
theorem rowP_set {S : Shp} {c o j : Nat} {gl : List (List Nat)} (hc : c < 3) (h : ∀ q, q < 3 * S.k → gl[q]? = some (rowP S c o j q)) (ho : o < S.k) (hl : gl.length = 3 * S.k) {T : Nat} (hT : T = frs S o c + j) :
    gl[o * 3 + c]? = some (asc (frs S o c) j) ∧ ∀ q, q < 3 * S.k → (gl.set (o * 3 + c) (asc (frs S o c) j ++ [T]))[q]? = some (rowP S c o (j + 1) q) := by
  have e0 : rowP S c o j (o * 3 + c) = asc (frs S o c) j := by
    unfold rowP
    rw [if_neg (by omega), if_pos (by omega)]
  refine ⟨by rw [h _ (by omega), e0], fun q hq => ?_⟩
  by_cases e : o * 3 + c = q
  · subst e
    rw [List.getElem?_set_self (by omega)]
    unfold rowP
    rw [if_neg (by omega), if_pos (by omega), asc_succ, hT]
  · rw [List.getElem?_set_ne e, h q hq]
    unfold rowP
    by_cases h1 : q % 3 < c ∨ (q % 3 = c ∧ q / 3 < o)
    · rw [if_pos h1, if_pos h1]
    · rw [if_neg h1, if_neg h1, if_neg (by omega), if_neg (by omega)]
/-- How many there are ahead of a class. -/
def tcl (S : Shp) (c : Nat) : Nat := if c = 0 then 1 else if c = 1 then 1 + S.q0 else if c = 2 then 1 + S.q0 + S.q1 else 1 + S.q0 + S.q1 + S.q2
theorem frs_tcl {S : Shp} {c o : Nat} (hc : c < 3) : frs S o c = tcl S c + o * mny S c := by
  have : c = 0 ∨ c = 1 ∨ c = 2 := by omega
  rcases this with rfl | rfl | rfl <;> simp [frs, tcl, mny]
theorem tcl_next {S : Shp} {c : Nat} (hc : c < 3) : tcl S (c + 1) = tcl S c + S.k * mny S c := by
  have : c = 0 ∨ c = 1 ∨ c = 2 := by omega
  rcases this with rfl | rfl | rfl <;> simp [tcl, mny, Shp.q0, Shp.q1, Shp.q2]
theorem tcl_last (S : Shp) : tcl S 3 = S.many + 1 := by simp [tcl, Shp.many]; omega
theorem tcl_le {S : Shp} {c : Nat} (hc : c ≤ 3) : tcl S c ≤ S.many + 1 := by
  have : c = 0 ∨ c = 1 ∨ c = 2 ∨ c = 3 := by omega
  rcases this with rfl | rfl | rfl | rfl <;> simp [tcl, Shp.many] <;> omega

structure DN (w : World) (x A D fb rb : Nat) (S : Shp) (gv : List Value) (gl : List (List Nat)) (tv : Value) (T : Nat) : Prop where
  hD : Blk w D 83 (dpC S fb rb tv)
  hf : Blk w fb 77 gv.toArray
  rr : Rws w x gv gl
  gll : gl.length = 3 * S.k
  hr : Blk w rb 75 (List.replicate S.k (Value.slice none 0 0)).toArray
  ht : w.ownsRow x 4 1 tv T (bc (List.replicate T false))
  hx : x ≤ w.heap.size
  xD : x ≤ D
  xf : x ≤ fb
  xr : x ≤ rb
  hA : Blk w A 26 S.i.cells
section
variable {w w' : World} {x A D fb rb : Nat} {S : Shp} {gv : List Value} {gl : List (List Nat)} {tv : Value} {T : Nat}
theorem DN.ownInt (h : DN w x A D fb rb S gv gl tv T) {v : Value} (hv : v ∈ gv) {b : Nat} (hb : v.ownBlock = some b) : IntB w b := by
  obtain ⟨i, hi⟩ := List.getElem?_of_mem hv
  obtain ⟨l, hl⟩ := of_lt (show i < gl.length by have := lt_of hi; have := h.rr.len; omega)
  exact own_int (h.rr.own i v l hi hl) hb
theorem DN.tvint (h : DN w x A D fb rb S gv gl tv T) {g : Nat} (hg : IntB w g) : tv.ownBlock ≠ some g := by
  intro e
  obtain ⟨c, fr, h1⟩ := own_int h.ht e
  obtain ⟨c', fr', h2⟩ := hg
  rw [h1] at h2
  injection h2 with h2
  injection h2 with _ ht
  exact absurd ht (by decide)
theorem DN.f0 (h : DN w x A D fb rb S gv gl tv T) (hf : Fr F0 w w') : DN w' x A D fb rb S gv gl tv T :=
  ⟨h.hD.fr hf (fun e => e), h.hf.fr hf (fun e => e), h.rr.fr hf (fun _ _ _ _ e => e), h.gll, h.hr.fr hf (fun e => e), own_fr h.ht hf (fun _ _ e => e), Nat.le_trans h.hx hf.size, h.xD, h.xf, h.xr, h.hA.fr hf (fun e => e)⟩
theorem DN.setrow {w4 : World} (h : DN w x A D fb rb S gv gl tv T) {i : Nat} {ov nv : Value} {l' : List Nat} (hgv : gv[i]? = some ov) (hF : Fr (fun k => ov.ownBlock = some k) w w4) (hO : w4.ownsRow x 3 1 nv l'.length (nc l'))
    (hor : ∀ k, nv.ownBlock = some k → ov.ownBlock = some k ∨ w.heap.size ≤ k) : DN (w4.setCell ⟨fb, i, none⟩ nv) x A D fb rb S (gv.set i nv) (gl.set i l') tv T := by
  have hgm := List.mem_of_getElem? hgv
  have hi : ∀ {b : Nat}, ov.ownBlock = some b → IntB w b := fun hb => h.ownInt hgm hb
  have hD4 := h.hD.fr hF (fun e => (hi e).ne h.hD (by decide) rfl)
  have hf4 := h.hf.fr hF (fun e => (hi e).ne h.hf (by decide) rfl)
  have hr4 := h.hr.fr hF (fun e => (hi e).ne h.hr (by decide) rfl)
  have ht4 := own_fr h.ht hF (fun g hg e => h.tvint (hi e) hg)
  have rr4 := h.rr.turn hgv hF hO hor
  have hf : Fr (fun q => q = fb) w4 (w4.setCell ⟨fb, i, none⟩ nv) := (Fr.refl (fun q => q = fb) w4).setCell (p := ⟨fb, i, none⟩) (.inl rfl) _
  have hf5 := hf4.set_ i nv
  rw [List.setIfInBounds_toArray] at hf5
  refine ⟨hD4.fr hf (Blk.ne_ hD4 hf4 (by decide)), hf5, rr4.fr hf (fun v hv k hk e => ?_), by rw [List.length_set]; exact h.gll, hr4.fr hf (Blk.ne_ hr4 hf4 (by decide)), own_fr ht4 hf (fun g hg e => by subst e; exact own_ne ht4 hf4 (by decide) hg), Nat.le_trans h.hx (Nat.le_trans hF.size hf.size), h.xD, h.xf, h.xr, (h.hA.fr hF (fun e => (hi e).ne h.hA (by decide) rfl)).fr hf (Blk.ne_ h.hA h.hf (by decide))⟩
  subst e
  obtain ⟨j, hj⟩ := List.getElem?_of_mem hv
  obtain ⟨l, hl⟩ := of_lt (show j < (gl.set i l').length by have := lt_of hj; have := rr4.len; omega)
  exact own_ne (rr4.own j v l hj hl) hf4 (by decide) hk
theorem DN.settaken {w4 : World} (h : DN w x A D fb rb S gv gl tv T) {nv : Value} {T' : Nat} (hF : Fr (fun k => tv.ownBlock = some k) w w4) (hO : w4.ownsRow x 4 1 nv T' (bc (List.replicate T' false))) : DN (w4.setCell ⟨D, 9, none⟩ nv) x A D fb rb S gv gl nv T' := by
  have hD4 := h.hD.fr hF (fun e => own_ne h.ht h.hD (by decide) e)
  have hf4 := h.hf.fr hF (fun e => own_ne h.ht h.hf (by decide) e)
  have hr4 := h.hr.fr hF (fun e => own_ne h.ht h.hr (by decide) e)
  have rr4 := h.rr.fr hF (fun v hv b hb e => h.tvint (h.ownInt hv hb) e)
  have hf : Fr (fun q => q = D) w4 (w4.setCell ⟨D, 9, none⟩ nv) := (Fr.refl (fun q => q = D) w4).setCell (p := ⟨D, 9, none⟩) (.inl rfl) _
  have hD5 := hD4.set_ 9 nv
  refine ⟨hD5, hf4.fr hf (Blk.ne_ hf4 hD4 (by decide)), rr4.fr hf (fun v hv k hk e => ?_), h.gll, hr4.fr hf (Blk.ne_ hr4 hD4 (by decide)), own_fr hO hf (fun g hg e => by subst e; exact own_ne hO hD4 (by decide) hg), Nat.le_trans h.hx (Nat.le_trans hF.size hf.size), h.xD, h.xf, h.xr, (h.hA.fr hF (fun e => own_ne h.ht h.hA (by decide) e)).fr hf (Blk.ne_ h.hA h.hD (by decide))⟩
  subst e
  obtain ⟨j, hj⟩ := List.getElem?_of_mem hv
  obtain ⟨l, hl⟩ := of_lt (show j < gl.length by have := lt_of hj; have := rr4.len; omega)
  exact own_ne (rr4.own j v l hj hl) hD4 (by decide) hk
theorem DN.done (h : DN w x A D fb rb S gv gl tv (S.many + 1)) : ∃ Q, DR w Q x D fb rb S gv gl (List.replicate S.k (.slice none 0 0)) (List.replicate S.k []) tv (List.replicate (S.many + 1) false) ∧ ∀ k, DB Q D fb rb (List.replicate S.k (.slice none 0 0)) tv k → x ≤ k := by
  have hn : ∀ v ∈ List.replicate S.k (Value.slice none 0 0), v = .slice none 0 0 := fun v hv => List.eq_of_mem_replicate hv
  refine ⟨fun b => ∃ v ∈ gv, v.ownBlock = some b, ⟨h.hD, h.hf, h.gll, by have := h.rr.len; have := h.gll; omega, fun i v l hv hl => ?_, fun b ⟨v, hv, hb⟩ => h.ownInt hv hb, h.hr, ⟨by simp, fun i v l hv hl => ?_, fun i j vi vj b hi hj hb => ?_⟩, by simp, fun v hv b hb => ?_, by rw [List.length_replicate]; exact h.ht, by simp, h.hx⟩, fun k hk => ?_⟩
  · have ho := h.rr.own i v l hv hl
    obtain ⟨A, c, rfl⟩ := own_slice ho
    rcases own_form ho with ⟨rfl, h0, rfl⟩ | ⟨g, rfl, hc, _⟩
    · have : l = [] := List.length_eq_zero_iff.1 h0
      subst this
      exact ⟨none, 0, rfl, Nat.le_refl _, Rd.nil⟩
    · exact ⟨_, c, rfl, hc, rd_own ho ⟨_, List.mem_of_getElem? hv, rfl⟩⟩
  · have e1 := hn v (List.mem_of_getElem? hv)
    have e2 : l = [] := List.eq_of_mem_replicate (List.mem_of_getElem? hl)
    subst e1 e2
    exact World.ownsRow_nil _ _ _ _
  · rw [hn vi (List.mem_of_getElem? hi)] at hb; cases hb
  · rw [hn v hv] at hb; cases hb
  · rcases hk with rfl | rfl | rfl | hk | ⟨v, hv, hk⟩ | ⟨v, hv, hk⟩
    · exact h.xD
    · exact h.xf
    · exact h.xr
    · exact (h.ht.lt k hk).1
    · obtain ⟨i, hi⟩ := List.getElem?_of_mem hv
      obtain ⟨l, hl⟩ := of_lt (show i < gl.length by have := lt_of hi; have := h.rr.len; omega)
      exact ((h.rr.own i v l hi hl).lt k hk).1
    · rw [hn v hv] at hk; cases hk
end
end Go.Proofs.Ytichhieopnbgpaa
