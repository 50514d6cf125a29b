/-
  Package epoch: what a store does to epochs in memory.
-/
import Derived.Test.YtjphmiemakmcbaaEp4
namespace Go.Proofs.Ytjphmiemakmcbaa
open Go.RowKit

theorem wkC_set (rows : List (Wk × Value)) (i : Nat) (r : Wk × Value) : wkC (rows.set i r) = (wkC rows).set i (.int .i64 r.1.ann, r.2) := by
  simp [wkC, List.map_set]
theorem head_ne {w : World} {g g' : Nat} {cs cs' : Array Value} {t t' : TypeId} {f f' : Nat × Nat} (h : w.heap[g]? = some (.cells cs t f)) (h' : w.heap[g']? = some (.cells cs' t' f')) (hne : t ≠ t') : g ≠ g' := by
  rintro rfl
  rw [h] at h'
  injection h' with h'
  injection h' with _ ht
  exact hne ht

section
variable {w w1 : World} {base x now n cap g i : Nat} {rows : List (Wk × Value)} {r : Wk × Value}
theorem EpR.len (h : EpR w base x now (.slice (some ⟨g, 0, none⟩) n cap) rows) : rows.length = n := by
  obtain ⟨A, c, hv⟩ := own_slice h.hr
  injection hv with _ h2 _
  exact h2.symm
theorem EpR.setNow {v : Value} (h : EpR w base x now v rows) (m : Nat) (hm : now ≤ m) : EpR (w.setCell ⟨x, 0, none⟩ (.int .i64 (m : Int))) base x m v rows := by
  have hf : Fr (fun k => k = x) w (w.setCell ⟨x, 0, none⟩ (.int .i64 (m : Int))) := (Fr.refl (fun k => k = x) w).setCell (p := ⟨x, 0, none⟩) (.inl rfl) _
  refine ⟨by simpa using h.hx.set_ 0 (.int .i64 (m : Int)), h.bx, own_fr h.hr hf ?_, fun r hr => own_fr (h.hl r hr) hf ?_, h.hd, fun r hr t ht => Nat.le_trans (h.ha r hr t ht) hm⟩
  · rintro q hq rfl
    exact own_ne h.hr h.hx (by decide) hq
  · rintro q hq rfl
    exact own_ne (h.hl r hr) h.hx (by decide) hq
theorem EpR.setAnn (h : EpR w base x now (.slice (some ⟨g, 0, none⟩) n cap) rows) (hr : rows[i]? = some r) (a : Int) :
    EpR (w.setCell ⟨g, i * 2, none⟩ (.int .i64 a)) base x now (.slice (some ⟨g, 0, none⟩) n cap) (rows.set i (⟨a, r.1.limbo⟩, r.2)) := by
  have hf : Fr (fun k => k = g) w (w.setCell ⟨g, i * 2, none⟩ (.int .i64 a)) := (Fr.refl (fun k => k = g) w).setCell (p := ⟨g, i * 2, none⟩) (.inl rfl) _
  obtain ⟨cs, hcs⟩ := own_head h.hr g rfl
  have hlen := h.len
  have key : ∀ q ∈ rows.set i (⟨a, r.1.limbo⟩, r.2), ∃ q' ∈ rows, q.2 = q'.2 ∧ q.1.limbo = q'.1.limbo := by
    intro q hq
    rcases List.mem_or_eq_of_mem_set hq with hq | rfl
    · exact ⟨q, hq, rfl, rfl⟩
    · exact ⟨r, List.mem_of_getElem? hr, rfl, rfl⟩
  have key2 : ∀ (j : Nat) (q : Wk × Value), (rows.set i (⟨a, r.1.limbo⟩, r.2))[j]? = some q → ∃ q', rows[j]? = some q' ∧ q.2 = q'.2 := by
    intro j q hq
    rw [List.getElem?_set] at hq
    split at hq
    · rename_i hij
      subst hij
      split at hq
      · injection hq with hq
        subst hq
        exact ⟨r, hr, rfl⟩
      · cases hq
    · exact ⟨q, hq, rfl⟩
  refine ⟨h.hx.fr hf (fun he => head_ne hcs h.hx (by decide) he.symm), h.bx, ?_, ?_, ?_, ?_⟩
  · have h0 := h.hr
    rw [hlen] at h0
    have h1 := own_set (j := i * 2) (u := .int .i64 a) h0
    rw [pc_set_even _ _ _ _ _ (wkC_at hr)] at h1
    rw [wkC_set, List.length_set, hlen]
    exact h1
  · intro q hq
    obtain ⟨q', hq', e1, e2⟩ := key q hq
    rw [e1, e2]
    refine own_fr (h.hl q' hq') hf ?_
    rintro b hb rfl
    obtain ⟨cs2, hcs2⟩ := own_head (h.hl q' hq') b hb
    exact head_ne hcs hcs2 (by decide) rfl
  · intro j k rj rk b hj hk hbj hbk
    obtain ⟨qj, h1, e1⟩ := key2 j rj hj
    obtain ⟨qk, h2, e2⟩ := key2 k rk hk
    exact h.hd j k qj qk b h1 h2 (by rw [← e1]; exact hbj) (by rw [← e2]; exact hbk)
  · intro q hq t ht
    obtain ⟨q', hq', _, e2⟩ := key q hq
    exact h.ha q' hq' t (by rw [← e2]; exact ht)

theorem EpR.setLimbo (h : EpR w base x now (.slice (some ⟨g, 0, none⟩) n cap) rows) (hr : rows[i]? = some r) (l : List (Int × Nat)) (lv : Value) (hF : Fr (fun q => r.2.ownBlock = some q) w w1)
    (hown : w1.ownsRow base 60 2 lv l.length (pc (thC l))) (hor : lv.ownBlock = r.2.ownBlock ∨ ∀ b, lv.ownBlock = some b → w.heap.size ≤ b) (hat : ∀ t ∈ l, t.2 ≤ now) :
    EpR (w1.setCell ⟨g, i * 2 + 1, none⟩ lv) base x now (.slice (some ⟨g, 0, none⟩) n cap) (rows.set i (⟨r.1.ann, l⟩, lv)) ∧ FrE base w (w1.setCell ⟨g, i * 2 + 1, none⟩ lv) := by
  obtain ⟨cs, hcs⟩ := own_head h.hr g rfl
  have hmem := List.mem_of_getElem? hr
  have hlen := h.len
  have hgn : ¬ r.2.ownBlock = some g := fun he => by
    obtain ⟨cs2, hcs2⟩ := own_head (h.hl r hmem) g he
    exact head_ne hcs hcs2 (by decide) rfl
  have hg1 : w1.heap[g]? = some (.cells cs 58 (0, 0)) := (hF.block g (Blk.lt (t := 58) hcs) hgn).trans hcs
  have hf : Fr (fun k => r.2.ownBlock = some k ∨ k = g) w (w1.setCell ⟨g, i * 2 + 1, none⟩ lv) := (hF.mono (fun _ h => .inl h)).setCell (p := ⟨g, i * 2 + 1, none⟩) (.inl (.inr rfl)) _
  have hf1 : Fr (fun k => k = g) w1 (w1.setCell ⟨g, i * 2 + 1, none⟩ lv) := (Fr.refl (fun k => k = g) w1).setCell (p := ⟨g, i * 2 + 1, none⟩) (.inl rfl) _
  have hil : i < rows.length := (List.getElem?_eq_some_iff.1 hr).1
  refine ⟨⟨h.hx.fr hf ?_, h.bx, ?_, ?_, ?_, ?_⟩, hf.mono ?_⟩
  · rintro (he | he)
    · exact own_ne (h.hl r hmem) h.hx (by decide) he
    · exact head_ne hcs h.hx (by decide) he.symm
  · have h0 : w1.ownsRow base 58 2 (.slice (some ⟨g, 0, none⟩) n cap) rows.length (pc (wkC rows)) := own_fr h.hr hF (fun q hq hq2 => own_apart h.hr (h.hl r hmem) (by decide) q hq hq2)
    rw [hlen] at h0
    have h1 := own_set (j := i * 2 + 1) (u := lv) h0
    rw [pc_set_odd _ _ _ _ _ (wkC_at hr)] at h1
    rw [wkC_set, List.length_set, hlen]
    exact h1
  · intro q hq
    obtain ⟨j, hj⟩ := List.getElem?_of_mem hq
    rw [List.getElem?_set] at hj
    by_cases hij : i = j
    · rw [if_pos hij, if_pos hil] at hj
      injection hj with hj
      subst hj
      refine own_fr hown hf1 ?_
      rintro b hb rfl
      obtain ⟨cs2, hcs2⟩ := own_head hown b hb
      exact head_ne hg1 hcs2 (by decide) rfl
    · rw [if_neg hij] at hj
      have hqm := List.mem_of_getElem? hj
      refine own_fr (h.hl q hqm) hf ?_
      rintro b hb (he | rfl)
      · exact hij (h.hd i j r q b hr hj he hb)
      · obtain ⟨cs2, hcs2⟩ := own_head (h.hl q hqm) b hb
        exact head_ne hcs hcs2 (by decide) rfl
  · have key : ∀ (j : Nat) (q : Wk × Value), (rows.set i (⟨r.1.ann, l⟩, lv))[j]? = some q → (j = i ∧ q.2 = lv) ∨ (j ≠ i ∧ rows[j]? = some q) := by
      intro j q hq
      rw [List.getElem?_set] at hq
      by_cases hij : i = j
      · rw [if_pos hij, if_pos hil] at hq
        injection hq with hq
        exact .inl ⟨hij.symm, by rw [← hq]⟩
      · rw [if_neg hij] at hq
        exact .inr ⟨fun h => hij h.symm, hq⟩
    intro j k rj rk b hj hk hbj hbk
    rcases key j rj hj with ⟨rfl, e1⟩ | ⟨n1, e1⟩ <;> rcases key k rk hk with ⟨rfl, e2⟩ | ⟨n2, e2⟩
    · rfl
    · rw [e1] at hbj
      rcases hor with hor | hor
      · exact h.hd j k r rk b hr e2 (by rw [← hor]; exact hbj) hbk
      · have h1 := hor b hbj
        have h2 := own_lt (h.hl rk (List.mem_of_getElem? e2)) b hbk
        omega
    · rw [e2] at hbk
      rcases hor with hor | hor
      · exact h.hd j k rj r b e1 hr hbj (by rw [← hor]; exact hbk)
      · have h1 := hor b hbk
        have h2 := own_lt (h.hl rj (List.mem_of_getElem? e1)) b hbj
        omega
    · exact h.hd j k rj rk b e1 e2 hbj hbk
  · intro q hq t ht
    rcases List.mem_or_eq_of_mem_set hq with hq | rfl
    · exact h.ha q hq t ht
    · exact hat t ht
  · rintro k (hk | rfl)
    · obtain ⟨cs2, hcs2⟩ := own_head (h.hl r hmem) k hk
      exact ⟨own_low (h.hl r hmem) k hk, _, _, _, hcs2, .inr (.inr rfl)⟩
    · exact ⟨own_low h.hr k rfl, _, _, _, hcs, .inr (.inl rfl)⟩
theorem EpR.setAnnF (h : EpR w base x now (.slice (some ⟨g, 0, none⟩) n cap) rows) (u : Value) (j : Nat) : FrE base w (w.setCell ⟨g, j, none⟩ u) := by
  obtain ⟨cs, hcs⟩ := own_head h.hr g rfl
  exact (Fr.refl _ w).setCell (p := ⟨g, j, none⟩) (.inl ⟨own_low h.hr g rfl, _, _, _, hcs, .inr (.inl rfl)⟩) _
theorem EpR.setNowF {v : Value} (h : EpR w base x now v rows) (u : Value) (j : Nat) : FrE base w (w.setCell ⟨x, j, none⟩ u) :=
  (Fr.refl _ w).setCell (p := ⟨x, j, none⟩) (.inl ⟨h.bx, _, _, _, h.hx, .inl rfl⟩) _
end

theorem take_while {α : Type} (p : α → Bool) (l : List α) : ∀ k, k ≤ l.length → (∀ t ∈ l.take k, p t = true) → (∀ t, l[k]? = some t → p t = false) → l.takeWhile p = l.take k ∧ l.dropWhile p = l.drop k := by
  induction l with
  | nil => intro k _ _ _; simp
  | cons a r ih =>
    intro k hk h1 h2
    cases k with
    | zero =>
      have := h2 a rfl
      simp [this]
    | succ k =>
      have ha := h1 a (by simp)
      have := ih k (by simpa using hk) (fun t ht => h1 t (by simp [ht])) (fun t ht => h2 t (by simpa using ht))
      simp [ha, this]
end Go.Proofs.Ytjphmiemakmcbaa
