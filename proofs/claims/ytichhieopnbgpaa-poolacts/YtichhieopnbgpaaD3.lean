/-
  What turns in the document's pool: a row, a flag; and its Take. No condition.
-/
import Derived.Test.YtichhieopnbgpaaD2
namespace Go.Proofs.Ytichhieopnbgpaa
open Go.RowKit

section
variable {w w' : World} {Q : Nat → Prop} {x D fb rb : Nat} {S : Shp} {fv : List Value} {fl : List (List Nat)} {rv : List Value} {rl : List (List Nat)} {tv : Value} {tk : List Bool}
theorem DR.ownInt (h : DR w Q x D fb rb S fv fl rv rl tv tk) {v : Value} (hv : v ∈ rv) {b : Nat} (hb : v.ownBlock = some b) : IntB w b := by
  obtain ⟨i, hi⟩ := List.getElem?_of_mem hv
  obtain ⟨l, hl⟩ := of_lt (show i < rl.length by have := lt_of hi; have := h.rr.len; omega)
  exact own_int (h.rr.own i v l hi hl) hb
theorem DR.tvne (h : DR w Q x D fb rb S fv fl rv rl tv tk) {g : Nat} {t : TypeId} {cs : Array Value} (hg : Blk w g t cs) (hne : 4 ≠ t) : tv.ownBlock ≠ some g := own_ne h.ht hg hne
theorem DR.tvint (h : DR w Q x D fb rb S fv fl rv rl tv tk) {g : Nat} (hg : IntB w g) : tv.ownBlock ≠ some g := by
  intro e
  obtain ⟨c, fr, h1⟩ := own_int h.ht e
  obtain ⟨c', fr', h2⟩ := hg
  rw [h1] at h2
  injection h2 with h2
  injection h2 with _ ht
  exact absurd ht (by decide)
/-- More blocks may be read. -/
theorem DR.more (h : DR w Q x D fb rb S fv fl rv rl tv tk) (Q' : Nat → Prop) (hQ : ∀ b, Q b → Q' b) (hi : ∀ b, Q' b → IntB w b) (hr : ∀ v ∈ rv, ∀ b, v.ownBlock = some b → ¬ Q' b) : DR w Q' x D fb rb S fv fl rv rl tv tk :=
  ⟨h.hD, h.hf, h.fl3, h.fvl, fun i v l h1 h2 => by
    obtain ⟨A, c, e, hc, hR⟩ := h.row i v l h1 h2
    exact ⟨A, c, e, hc, hR.mono hQ⟩, hi, h.hr, h.rr, h.rll, hr, h.ht, h.htl, h.hx⟩
/-- A free row is another one. -/
theorem DR.setrow (h : DR w Q x D fb rb S fv fl rv rl tv tk) (i : Nat) {l' : List Nat} {A : Option Addr} {c : Nat} (hc : l'.length ≤ c) (hR : Rd w Q 1 A l'.length (nc l')) :
    DR (w.setCell ⟨fb, i, none⟩ (.slice A l'.length c)) Q x D fb rb S (fv.set i (.slice A l'.length c)) (fl.set i l') rv rl tv tk := by
  have hf : Fr (fun q => q = fb) w (w.setCell ⟨fb, i, none⟩ (.slice A l'.length c)) := (Fr.refl (fun q => q = fb) w).setCell (p := ⟨fb, i, none⟩) (.inl rfl) _
  have h1 := h.hf.set_ i (.slice A l'.length c)
  rw [List.setIfInBounds_toArray] at h1
  have hQ : ∀ b, Q b → b ≠ fb := fun b hb => (h.qi b hb).ne h.hf (by decide)
  refine ⟨h.hD.fr hf (Blk.ne_ h.hD h.hf (by decide)), h1, by rw [List.length_set]; exact h.fl3, by rw [List.length_set]; exact h.fvl, ?_, fun b hb => (h.qi b hb).fr hf (hQ b hb), h.hr.fr hf (Blk.ne_ h.hr h.hf (by decide)), h.rr.fr hf (fun v hv b hb => (h.ownInt hv hb).ne h.hf (by decide)), h.rll, h.rq, own_fr h.ht hf (fun g hg e => by subst e; exact h.tvne h.hf (by decide) hg), h.htl, Nat.le_trans h.hx hf.size⟩
  intro j v l hv hl
  rcases set_at hv with ⟨rfl, rfl⟩ | ⟨hne, hv⟩
  · rcases set_at hl with ⟨_, rfl⟩ | ⟨hne, _⟩
    · exact ⟨A, c, rfl, hc, hR.fr hf hQ⟩
    · exact absurd rfl hne
  · rcases set_at hl with ⟨rfl, _⟩ | ⟨_, hl⟩
    · exact absurd rfl hne
    · obtain ⟨A', c', e, hc', hR'⟩ := h.row j v l hv hl
      exact ⟨A', c', e, hc', hR'.fr hf hQ⟩
/-- A flag is another one. -/
theorem DR.flag {tb cp : Nat} (h : DR w Q x D fb rb S fv fl rv rl (.slice (some ⟨tb, 0, none⟩) tk.length cp) tk) (n : Nat) (a : Bool) (_hn : n < tk.length) :
    DR (w.setCell ⟨tb, n, none⟩ (.bool a)) Q x D fb rb S fv fl rv rl (.slice (some ⟨tb, 0, none⟩) tk.length cp) (tk.set n a) := by
  have hf : Fr (fun q => q = tb) w (w.setCell ⟨tb, n, none⟩ (.bool a)) := (Fr.refl (fun q => q = tb) w).setCell (p := ⟨tb, n, none⟩) (.inl rfl) _
  have hs := World.ownsRow.stored h.ht n (.bool a)
  have e1 : (bc tk).set n (.bool a) = bc (tk.set n a) := by simp [bc, List.map_set]
  have own : (Value.slice (some ⟨tb, 0, none⟩) tk.length cp).ownBlock = some tb := rfl
  have hQ : ∀ b, Q b → b ≠ tb := fun b hb e => h.tvint (h.qi b hb) (by rw [e]; exact own)
  have n1 : D ≠ tb := fun e => h.tvne h.hD (by decide) (by rw [e]; exact own)
  have n2 : fb ≠ tb := fun e => h.tvne h.hf (by decide) (by rw [e]; exact own)
  have n3 : rb ≠ tb := fun e => h.tvne h.hr (by decide) (by rw [e]; exact own)
  refine ⟨h.hD.fr hf n1, h.hf.fr hf n2, h.fl3, h.fvl, ?_, fun b hb => (h.qi b hb).fr hf (hQ b hb), h.hr.fr hf n3, h.rr.fr hf (fun v hv b hb e => h.tvint (h.ownInt hv hb) (by rw [e]; exact own)), h.rll, h.rq, ?_, by rw [List.length_set]; exact h.htl, Nat.le_trans h.hx hf.size⟩
  · intro i v l h1 h2
    obtain ⟨A, c, e, hc, hR⟩ := h.row i v l h1 h2
    exact ⟨A, c, e, hc, hR.fr hf hQ⟩
  · rw [List.length_set, ← e1]
    exact hs.1
theorem DR.tvform (h : DR w Q x D fb rb S fv fl rv rl tv tk) : ∃ tb cp, tv = .slice (some ⟨tb, 0, none⟩) tk.length cp ∧ tk.length ≤ cp := by
  obtain ⟨A, c, rfl⟩ := own_slice h.ht
  rcases own_form h.ht with ⟨_, h0, _⟩ | ⟨g, rfl, hc, _⟩
  · have := h.htl; omega
  · exact ⟨g, c, rfl, hc⟩
end
end Go.Proofs.Ytichhieopnbgpaa
