/-
  A cell that five wait for and one fills: what stays true, whatever they do; how soon one ends by itself.
-/
import Derived.Test.YtldcffgjkfocoaaPureC
namespace Go.Proofs.Ytldcffgjkfocoaa

theorem getD_set (m : List Int) (i j : Nat) (n : Int) (h : i < m.length) : (m.set i n).getD j 0 = if i = j then n else m.getD j 0 := by
  simp only [List.getD_eq_getElem?_getD, List.getElem?_set]
  by_cases e : i = j
  · subst e; simp [h]
  · simp [e]
theorem getD_ne (m : List Int) (i j : Nat) (n : Int) (h : i ≠ j) : (m.set i n).getD j 0 = m.getD j 0 := by
  simp only [List.getD_eq_getElem?_getD, List.getElem?_set, if_neg h]
theorem getD_eq (m : List Int) (i : Nat) (n : Int) (h : i < m.length) : (m.set i n).getD i 0 = n := by rw [getD_set _ _ _ _ h, if_pos rfl]

/-- Who stands behind f, by the links. -/
def Lnk (m : List Int) : Int → List Nat → Prop
  | f, [] => f = 0
  | f, k :: r => f = (k : Int) ∧ Lnk m (m.getD (10 + k) 0) r
theorem Lnk.set {m : List Int} {i : Nat} (n : Int) : ∀ {c : List Nat} {f : Int}, Lnk m f c → (∀ k ∈ c, i ≠ 10 + k) → Lnk (m.set i n) f c
  | [], _, h, _ => h
  | k :: r, f, h, hc => ⟨h.1, by
      rw [getD_ne _ _ _ _ (hc k List.mem_cons_self)]
      exact Lnk.set n h.2 (fun j hj => hc j (List.mem_cons_of_mem _ hj))⟩

structure WOk (k : Nat) (value why : Int) (m : List Int) (v : PO) : Prop where
  sta : v.fil = false ∧ v.base = 2 ∧ v.x = k ∧ v.lk = 10 + k
  run : v.ended = false → v.nx = 0 ∨ v.nx = 1 ∨ (v.nx = 2 ∧ m.getD (10 + k) 0 = v.h) ∨ (v.nx = 3 ∧ m.getD 2 0 = -1) ∨ (v.nx = 4 ∧ m.getD 2 0 = -1 ∧ v.val = value)
  hne : v.ended = false → v.nx = 2 → v.h ≠ -1
  hn1 : v.ended = false → v.nx = 1 → v.h ≠ -1
  told : v.ended = true → v.waits = false → v.ev = value ∧ v.ey = why
  no : v.ended = false → v.waits = false
  fst : v.first = 0
structure FOk (value why : Int) (m : List Int) (v : PO) : Prop where
  sta : v.fil = true ∧ v.base = 2 ∧ v.x = 0 ∧ v.val = value ∧ v.why = why ∧ v.waits = false
  le : v.ended = false → v.nx ≤ 3
  v3 : 1 ≤ v.nx → m.getD 3 0 = value
  v4 : 2 ≤ v.nx → m.getD 4 0 = why
  on : v.ended = true → m.getD 2 0 = -1 ∧ 4 ≤ v.nx
  off : v.ended = false → m.getD 2 0 ≠ -1
structure Inv (value why : Int) (ops : Nat → PO) (m : List Int) (c : List Nat) : Prop where
  len : m.length = 20
  f : FOk value why m (ops 0)
  w : ∀ k, 1 ≤ k → k < 6 → WOk k value why m (ops k)
  link : Lnk m (if (ops 0).ended = true then (ops 0).first else m.getD 2 0) c
  nd : c.Nodup
  mem : ∀ k, k ∈ c ↔ 1 ≤ k ∧ k < 6 ∧ (ops k).ended = true ∧ (ops k).waits = true

def upd (ops : Nat → PO) (k : Nat) (v : PO) : Nat → PO := fun i => if i = k then v else ops i
theorem upd_eq (ops : Nat → PO) (k : Nat) (v : PO) : upd ops k v k = v := if_pos rfl
theorem upd_ne (ops : Nat → PO) {k i : Nat} (v : PO) (h : i ≠ k) : upd ops k v i = ops i := if_neg h
theorem upd_same (ops : Nat → PO) (k : Nat) : upd ops k (ops k) = ops := by
  funext i; unfold upd; split
  · rename_i h; rw [h]
  · rfl

/-- A word that nobody else's condition looks at. -/
theorem WOk.far {k : Nat} {value why : Int} {m : List Int} {v : PO} (h : WOk k value why m v) (i : Nat) (n : Int) (h2 : i ≠ 2) (h10 : i ≠ 10 + k) : WOk k value why (m.set i n) v :=
  ⟨h.sta, by rw [getD_ne _ _ _ _ h2, getD_ne _ _ _ _ h10]; exact h.run, h.hne, h.hn1, h.told, h.no, h.fst⟩
theorem FOk.far {value why : Int} {m : List Int} {v : PO} (h : FOk value why m v) (i : Nat) (n : Int) (h2 : i ≠ 2) (h3 : i ≠ 3) (h4 : i ≠ 4) : FOk value why (m.set i n) v :=
  ⟨h.sta, h.le, by rw [getD_ne _ _ _ _ h3]; exact h.v3, by rw [getD_ne _ _ _ _ h4]; exact h.v4, by rw [getD_ne _ _ _ _ h2]; exact h.on, by rw [getD_ne _ _ _ _ h2]; exact h.off⟩

theorem Inv.fill {value why : Int} {ops : Nat → PO} {m : List Int} {c : List Nat} (h : Inv value why ops m c) : ∃ c', Inv value why (upd ops 0 (stp (ops 0) m).1) (stp (ops 0) m).2 c' := by
  have ho : ∀ (v : PO) k, 1 ≤ k → upd ops 0 v k = ops k := fun v k hk => upd_ne ops v (by omega)
  have hmem : ∀ (v : PO) k, k ∈ c ↔ 1 ≤ k ∧ k < 6 ∧ (upd ops 0 v k).ended = true ∧ (upd ops 0 v k).waits = true := by
    intro v k
    rw [h.mem k]
    by_cases hk : 1 ≤ k
    · rw [ho v k hk]
    · simp [hk]
  obtain ⟨s1, s2, s3, s4, s5, s6⟩ := h.f.sta
  by_cases he : (ops 0).ended = true
  · have : stp (ops 0) m = (ops 0, m) := by unfold stp; rw [if_pos he]
    rw [this, upd_same]; exact ⟨c, h⟩
  have he' : (ops 0).ended = false := by simpa using he
  have hoff := h.f.off he'
  have hl := h.link
  rw [if_neg he] at hl
  have hle := h.f.le he'
  unfold stp
  rw [if_neg he, if_pos s1]
  by_cases n0 : (ops 0).nx = 0
  · rw [if_pos n0, s2]
    refine ⟨c, by simpa using h.len, ?_, ?_, ?_, h.nd, hmem _⟩
    · rw [upd_eq]
      exact ⟨⟨s1, (by first | exact s2 | rfl), s3, s4, s5, s6⟩, fun _ => (by show 1 ≤ 3; omega), fun _ => (by rw [getD_eq _ _ _ (by rw [h.len]; omega)]; exact s4), fun h' => absurd h' (by show ¬ 2 ≤ 1; omega), fun h' => absurd h' he, fun _ => (by rw [getD_ne _ _ _ _ (by omega)]; exact hoff)⟩
    · intro k hk hk6
      rw [ho _ k hk]
      exact (h.w k hk hk6).far 3 _ (by omega) (by omega)
    · rw [upd_eq, if_neg he, getD_ne _ _ _ _ (by omega)]
      exact hl.set _ (fun k _ => by omega)
  rw [if_neg n0]
  by_cases n1 : (ops 0).nx = 1
  · rw [if_pos n1, s2]
    refine ⟨c, by simpa using h.len, ?_, ?_, ?_, h.nd, hmem _⟩
    · rw [upd_eq]
      exact ⟨⟨s1, (by first | exact s2 | rfl), s3, s4, s5, s6⟩, fun _ => (by show 2 ≤ 3; omega), fun _ => (by rw [getD_ne _ _ _ _ (by omega)]; exact h.f.v3 (by omega)), fun _ => (by rw [getD_eq _ _ _ (by rw [h.len]; omega)]; exact s5), fun h' => absurd h' he, fun _ => (by rw [getD_ne _ _ _ _ (by omega)]; exact hoff)⟩
    · intro k hk hk6
      rw [ho _ k hk]
      exact (h.w k hk hk6).far 4 _ (by omega) (by omega)
    · rw [upd_eq, if_neg he, getD_ne _ _ _ _ (by omega)]
      exact hl.set _ (fun k _ => by omega)
  rw [if_neg n1]
  by_cases n2 : (ops 0).nx = 2
  · rw [if_pos n2]
    refine ⟨c, h.len, ?_, ?_, ?_, h.nd, hmem _⟩
    · rw [upd_eq]
      exact ⟨⟨s1, (by first | exact s2 | rfl), s3, s4, s5, s6⟩, fun _ => (by show 3 ≤ 3; omega), fun _ => h.f.v3 (by omega), fun _ => h.f.v4 (by omega), fun h' => absurd h' he, fun _ => hoff⟩
    · intro k hk hk6
      rw [ho _ k hk]
      exact h.w k hk hk6
    · rw [upd_eq, if_neg he]
      exact hl
  rw [if_neg n2, s2]
  by_cases hc : m.getD 2 0 = (ops 0).h
  · rw [if_pos hc]
    refine ⟨c, by simpa using h.len, ?_, ?_, ?_, h.nd, hmem _⟩
    · rw [upd_eq]
      exact ⟨⟨s1, (by first | exact s2 | rfl), s3, s4, s5, s6⟩, fun h' => absurd h' (by simp), fun _ => (by rw [getD_ne _ _ _ _ (by omega)]; exact h.f.v3 (by omega)), fun _ => (by rw [getD_ne _ _ _ _ (by omega)]; exact h.f.v4 (by omega)), fun _ => ⟨getD_eq _ _ _ (by rw [h.len]; omega), Nat.le_refl _⟩, fun h' => absurd h' (by simp)⟩
    · intro k hk hk6
      rw [ho _ k hk]
      have hw := h.w k hk hk6
      refine ⟨hw.sta, fun h' => ?_, hw.hne, hw.hn1, hw.told, hw.no, hw.fst⟩
      rw [getD_eq _ _ _ (by rw [h.len]; omega), getD_ne _ _ _ _ (by omega)]
      rcases hw.run h' with a | a | a | a | a
      · exact .inl a
      · exact .inr (.inl a)
      · exact .inr (.inr (.inl a))
      · exact absurd a.2 hoff
      · exact absurd a.2.1 hoff
    · rw [upd_eq, if_pos rfl]
      show Lnk _ (ops 0).h c
      rw [← hc]
      exact hl.set _ (fun k _ => by omega)
  · rw [if_neg hc]
    refine ⟨c, h.len, ?_, ?_, ?_, h.nd, hmem _⟩
    · rw [upd_eq]
      exact ⟨⟨s1, (by first | exact s2 | rfl), s3, s4, s5, s6⟩, fun _ => (by show 2 ≤ 3; omega), fun _ => h.f.v3 (by omega), fun _ => h.f.v4 (by omega), fun h' => absurd h' he, fun _ => hoff⟩
    · intro k hk hk6
      rw [ho _ k hk]
      exact h.w k hk hk6
    · rw [upd_eq, if_neg he]
      exact hl

theorem Inv.wait {value why : Int} {ops : Nat → PO} {m : List Int} {c : List Nat} (h : Inv value why ops m c) (k : Nat) (hk : 1 ≤ k) (hk6 : k < 6) : ∃ c', Inv value why (upd ops k (stp (ops k) m).1) (stp (ops k) m).2 c' := by
  have h0 : ∀ v : PO, upd ops k v 0 = ops 0 := fun v => upd_ne ops v (by omega)
  have hw := h.w k hk hk6
  obtain ⟨s1, s2, s3, s4⟩ := hw.sta
  by_cases he : (ops k).ended = true
  · have : stp (ops k) m = (ops k, m) := by unfold stp; rw [if_pos he]
    rw [this, upd_same]; exact ⟨c, h⟩
  have he' : (ops k).ended = false := by simpa using he
  have hno := hw.no he'
  have hkc : k ∉ c := fun hc => he ((h.mem k).1 hc).2.2.1
  -- one that has not ended, before and behind
  have hmem : ∀ v : PO, v.waits = false → ∀ i, i ∈ c ↔ 1 ≤ i ∧ i < 6 ∧ (upd ops k v i).ended = true ∧ (upd ops k v i).waits = true := by
    intro v hv i
    rw [h.mem i]
    by_cases hi : i = k
    · subst hi
      rw [upd_eq, hv]
      simp [hno]
    · rw [upd_ne ops v hi]
  have hquiet : ∀ v : PO, v.waits = false → WOk k value why m v → ∃ c', Inv value why (upd ops k v) m c' := by
    intro v hv hwv
    refine ⟨c, h.len, by rw [h0]; exact h.f, ?_, by rw [h0]; exact h.link, h.nd, hmem v hv⟩
    intro i hi hi6
    by_cases hik : i = k
    · subst hik; rw [upd_eq]; exact hwv
    · rw [upd_ne ops v hik]; exact h.w i hi hi6
  have hfil : ¬ (ops k).fil = true := by rw [s1]; decide
  unfold stp
  rw [if_neg he, if_neg hfil, s2]
  by_cases n0 : (ops k).nx = 0
  · rw [if_pos n0]
    by_cases hm : m.getD 2 0 = -1
    · rw [if_pos hm]
      exact hquiet _ hno ⟨⟨s1, (by first | exact s2 | rfl), (by first | exact s3 | rfl), (by first | exact s4 | rfl)⟩, fun _ => .inr (.inr (.inr (.inl ⟨rfl, hm⟩))), fun _ h' => absurd h' (by show ¬ 3 = 2; omega), fun _ h' => absurd h' (by show ¬ 3 = 1; omega), fun h' => absurd h' he, fun _ => hno, hw.fst⟩
    · rw [if_neg hm]
      exact hquiet _ hno ⟨⟨s1, (by first | exact s2 | rfl), (by first | exact s3 | rfl), (by first | exact s4 | rfl)⟩, fun _ => .inr (.inl rfl), fun _ h' => absurd h' (by show ¬ 1 = 2; omega), fun _ _ => hm, fun h' => absurd h' he, fun _ => hno, hw.fst⟩
  rw [if_neg n0]
  by_cases n1 : (ops k).nx = 1
  · rw [if_pos n1, s4]
    refine ⟨c, by simpa using h.len, by rw [h0]; exact h.f.far _ _ (by omega) (by omega) (by omega), ?_, ?_, h.nd, hmem _ hno⟩
    · intro i hi hi6
      by_cases hik : i = k
      · subst hik; rw [upd_eq]
        exact ⟨⟨s1, (by first | exact s2 | rfl), (by first | exact s3 | rfl), (by first | exact s4 | rfl)⟩, fun _ => .inr (.inr (.inl ⟨rfl, getD_eq _ _ _ (by rw [h.len]; omega)⟩)), fun _ _ => hw.hn1 he' n1, fun _ h' => absurd h' (by show ¬ 2 = 1; omega), fun h' => absurd h' he, fun _ => hno, hw.fst⟩
      · rw [upd_ne ops _ hik]; exact (h.w i hi hi6).far _ _ (by omega) (by omega)
    · rw [h0, getD_ne _ _ _ _ (by omega)]
      exact h.link.set _ (fun j hj => by
        have : j ≠ k := fun e => hkc (e ▸ hj)
        omega)
  rw [if_neg n1]
  by_cases n2 : (ops k).nx = 2
  · rw [if_pos n2]
    have hlk : m.getD (10 + k) 0 = (ops k).h := by
      rcases hw.run he' with a | a | a | a | a
      · omega
      · omega
      · exact a.2
      · omega
      · omega
    have hne := hw.hne he' n2
    by_cases hm : m.getD 2 0 = (ops k).h
    · rw [if_pos hm, s3]
      have hf0 : (ops 0).ended = false := by
        rw [← Bool.not_eq_true]
        intro hf
        exact hne (hm ▸ (h.f.on hf).1)
      refine ⟨k :: c, by simpa using h.len, ?_, ?_, ?_, List.nodup_cons.2 ⟨hkc, h.nd⟩, ?_⟩
      · rw [h0]
        exact ⟨h.f.sta, h.f.le, by rw [getD_ne _ _ _ _ (by omega)]; exact h.f.v3, by rw [getD_ne _ _ _ _ (by omega)]; exact h.f.v4, fun h' => absurd h' (by rw [hf0]; decide), fun _ => by rw [getD_eq _ _ _ (by rw [h.len]; omega)]; omega⟩
      · intro i hi hi6
        by_cases hik : i = k
        · subst hik; rw [upd_eq]
          exact ⟨⟨s1, (by first | exact s2 | rfl), (by first | exact s3 | rfl), (by first | exact s4 | rfl)⟩, fun h' => absurd h' (by simp), fun h' => absurd h' (by simp), fun h' => absurd h' (by simp), fun _ h' => absurd h' (by simp), fun h' => absurd h' (by simp), hw.fst⟩
        · rw [upd_ne ops _ hik]
          have hwi := h.w i hi hi6
          refine ⟨hwi.sta, fun h' => ?_, hwi.hne, hwi.hn1, hwi.told, hwi.no, hwi.fst⟩
          rw [getD_eq _ _ _ (by rw [h.len]; omega), getD_ne _ _ _ _ (by omega)]
          have hoff := h.f.off hf0
          rcases hwi.run h' with a | a | a | a | a
          · exact .inl a
          · exact .inr (.inl a)
          · exact .inr (.inr (.inl a))
          · exact absurd a.2 hoff
          · exact absurd a.2.1 hoff
      · have hl := h.link
        rw [hf0, if_neg (by decide)] at hl
        rw [h0, hf0, if_neg (by decide), getD_eq _ _ _ (by rw [h.len]; omega)]
        refine ⟨rfl, ?_⟩
        rw [getD_ne _ _ _ _ (by omega), hlk, ← hm]
        exact hl.set _ (fun j _ => by omega)
      · intro i
        by_cases hi : i = k
        · subst hi
          rw [upd_eq]
          simp [hk, hk6]
        · rw [upd_ne ops _ hi, List.mem_cons, ← h.mem i]
          simp [hi]
    · rw [if_neg hm]
      exact hquiet _ hno ⟨⟨s1, (by first | exact s2 | rfl), (by first | exact s3 | rfl), (by first | exact s4 | rfl)⟩, fun _ => .inl rfl, fun _ h' => absurd h' (by show ¬ 0 = 2; omega), fun _ h' => absurd h' (by show ¬ 0 = 1; omega), fun h' => absurd h' he, fun _ => hno, hw.fst⟩
  rw [if_neg n2]
  have h34 : ((ops k).nx = 3 ∨ ((ops k).nx = 4 ∧ (ops k).val = value)) ∧ m.getD 2 0 = -1 := by
    rcases hw.run he' with a | a | a | a | a
    · omega
    · omega
    · omega
    · exact ⟨.inl a.1, a.2⟩
    · exact ⟨.inr ⟨a.1, a.2.2⟩, a.2.1⟩
  have hf1 : (ops 0).ended = true := by
    rw [← Bool.not_eq_false]
    intro hf
    exact h.f.off hf h34.2
  have hn4 := (h.f.on hf1).2
  by_cases n3 : (ops k).nx = 3
  · rw [if_pos n3]
    exact hquiet _ hno ⟨⟨s1, (by first | exact s2 | rfl), (by first | exact s3 | rfl), (by first | exact s4 | rfl)⟩, fun _ => .inr (.inr (.inr (.inr ⟨rfl, h34.2, h.f.v3 (by omega)⟩))), fun _ h' => absurd h' (by show ¬ 4 = 2; omega), fun _ h' => absurd h' (by show ¬ 4 = 1; omega), fun h' => absurd h' he, fun _ => hno, hw.fst⟩
  · rw [if_neg n3]
    have hv : (ops k).val = value := by
      rcases h34.1 with a | a
      · exact absurd a n3
      · exact a.2
    exact hquiet _ hno ⟨⟨s1, (by first | exact s2 | rfl), (by first | exact s3 | rfl), (by first | exact s4 | rfl)⟩, fun h' => absurd h' (by simp), fun h' => absurd h' (by simp), fun h' => absurd h' (by simp), fun _ _ => ⟨hv, h.f.v4 (by omega)⟩, fun h' => absurd h' (by simp), hw.fst⟩

theorem Inv.step {value why : Int} {ops : Nat → PO} {m : List Int} {c : List Nat} (h : Inv value why ops m c) (k : Nat) (hk : k < 6) : ∃ c', Inv value why (upd ops k (stp (ops k) m).1) (stp (ops k) m).2 c' := by
  by_cases h0 : k = 0
  · subst h0; exact h.fill
  · exact h.wait k (by omega) hk

/-- How many moves one needs, alone. -/
def fu (v : PO) (m : List Int) : Nat :=
  if v.ended then 0 else
  if v.fil then (if v.nx = 0 then 4 else if v.nx = 1 then 3 else if v.nx = 2 then 2 else if m.getD v.base 0 = v.h then 1 else 3)
  else (if v.nx = 0 then 3 else if v.nx = 1 then (if m.getD v.base 0 = v.h then 2 else 5) else if v.nx = 2 then (if m.getD v.base 0 = v.h then 1 else 4) else if v.nx = 3 then 2 else 1)
theorem fu_le (v : PO) (m : List Int) : fu v m ≤ 5 := by
  unfold fu
  repeat' split
  all_goals omega
theorem fu_zero {v : PO} {m : List Int} (h : fu v m = 0) : v.ended = true := by
  unfold fu at h
  by_cases he : v.ended = true
  · exact he
  · rw [if_neg he] at h
    exfalso
    revert h
    repeat' split
    all_goals omega
theorem fu_step (v : PO) (m : List Int) (he : v.ended = false) (hlk : v.lk ≠ v.base) : fu (stp v m).1 (stp v m).2 < fu v m := by
  have hne : ¬ v.ended = true := by rw [he]; decide
  unfold stp
  rw [if_neg hne]
  by_cases hf : v.fil = true
  · rw [if_pos hf]
    by_cases n0 : v.nx = 0
    · rw [if_pos n0]; simp [fu, he, hf, n0]
    rw [if_neg n0]
    by_cases n1 : v.nx = 1
    · rw [if_pos n1]; simp [fu, he, hf, n1]
    rw [if_neg n1]
    by_cases n2 : v.nx = 2
    · rw [if_pos n2]; simp [fu, he, hf, n2]
    rw [if_neg n2]
    by_cases hm : m.getD v.base 0 = v.h
    · rw [if_pos hm]
      simp only [fu, hne, hf, n0, n1, n2, hm, if_true, if_false]
      decide
    · rw [if_neg hm]
      simp only [fu, hne, hf, n0, n1, n2, hm, if_true, if_false]
      decide
  · rw [if_neg hf]
    have hf' : v.fil = false := by simpa using hf
    by_cases n0 : v.nx = 0
    · rw [if_pos n0]
      by_cases hm : m.getD v.base 0 = -1
      · rw [if_pos hm]; simp [fu, he, hf', n0]
      · rw [if_neg hm]; simp [fu, he, hf', n0]
    rw [if_neg n0]
    by_cases n1 : v.nx = 1
    · rw [if_pos n1]
      have := getD_ne m v.lk v.base v.h hlk
      simp only [fu, he, hf', n1, this]
      by_cases hm : m.getD v.base 0 = v.h
      · simp only [hm]; simp
      · simp only [hm]; simp
    rw [if_neg n1]
    by_cases n2 : v.nx = 2
    · rw [if_pos n2]
      by_cases hm : m.getD v.base 0 = v.h
      · rw [if_pos hm]; simp only [fu, he, hf', n2, hm]; simp
      · rw [if_neg hm]; simp only [fu, he, hf', n2, hm]; simp
    rw [if_neg n2]
    by_cases n3 : v.nx = 3
    · rw [if_pos n3]; simp [fu, he, hf', n3]
    rw [if_neg n3]
    simp [fu, he, hf', n0, n1, n2, n3]
end Go.Proofs.Ytldcffgjkfocoaa
