/-
  The order of paths as plain data: which of two rows of numbers stands ahead, whether one is a beginning of the other, and what follows of that. No condition.
-/
namespace Go.Proofs.YtbhnnnpofindiaaDoor

def cmpL : List Int → List Int → Int
  | [], [] => 0
  | [], _ :: _ => -1
  | _ :: _, [] => 1
  | x :: xs, y :: ys => if x < y then -1 else if y < x then 1 else cmpL xs ys

def underL (a b : List Int) : Bool := decide (b.length ≤ a.length) && (a.take b.length == b)

theorem cmpL_range (a b : List Int) : cmpL a b = -1 ∨ cmpL a b = 0 ∨ cmpL a b = 1 := by
  induction a generalizing b with
  | nil => cases b <;> simp [cmpL]
  | cons x xs ih =>
    cases b with
    | nil => simp [cmpL]
    | cons y ys =>
      simp only [cmpL]
      split
      · exact .inl rfl
      · split
        · exact .inr (.inr rfl)
        · exact ih ys

theorem cmpL_anti (a b : List Int) : cmpL a b = - cmpL b a := by
  induction a generalizing b with
  | nil => cases b <;> simp [cmpL]
  | cons x xs ih =>
    cases b with
    | nil => simp [cmpL]
    | cons y ys =>
      simp only [cmpL]
      by_cases h1 : x < y
      · have h2 : ¬ y < x := by omega
        simp [h1, h2]
      · by_cases h2 : y < x
        · simp [h1, h2]
        · simp [h1, h2, ih ys]

theorem cmpL_zero (a b : List Int) : cmpL a b = 0 ↔ a = b := by
  induction a generalizing b with
  | nil => cases b <;> simp [cmpL]
  | cons x xs ih =>
    cases b with
    | nil => simp [cmpL]
    | cons y ys =>
      simp only [cmpL]
      by_cases h1 : x < y
      · simp [h1]; intro h; omega
      · by_cases h2 : y < x
        · simp [h1, h2]; intro h; omega
        · simp [h1, h2, ih ys]; intro _; omega

theorem cmpL_self (a : List Int) : cmpL a a = 0 := (cmpL_zero a a).2 rfl

theorem cmpL_trans (a b c : List Int) (h1 : cmpL a b ≤ 0) (h2 : cmpL b c ≤ 0) : cmpL a c ≤ 0 := by
  induction a generalizing b c with
  | nil => cases c <;> simp [cmpL]
  | cons x xs ih =>
    cases b with
    | nil => simp [cmpL] at h1
    | cons y ys =>
      cases c with
      | nil => simp [cmpL] at h2
      | cons z zs =>
        simp only [cmpL] at h1 h2 ⊢
        by_cases a1 : x < z
        · simp [a1]
        · have n1 : ¬ y < x := by
            intro h
            have : ¬ x < y := by omega
            simp [h, this] at h1
          have n2 : ¬ z < y := by
            intro h
            have : ¬ y < z := by omega
            simp [h, this] at h2
          have a2 : ¬ z < x := by omega
          have e1 : ¬ x < y := by omega
          have e2 : ¬ y < z := by omega
          rw [if_neg e1, if_neg n1] at h1
          rw [if_neg e2, if_neg n2] at h2
          rw [if_neg a1, if_neg a2]
          exact ih ys zs h1 h2

theorem cmpL_step (a b : List Int) (k : Nat) (x y : Int) (ha : a[k]? = some x) (hb : b[k]? = some y) (h : cmpL a b = cmpL (a.drop k) (b.drop k)) :
    cmpL a b = if x < y then -1 else if y < x then 1 else cmpL (a.drop (k + 1)) (b.drop (k + 1)) := by
  obtain ⟨ka, rfl⟩ := List.getElem?_eq_some_iff.1 ha
  obtain ⟨kb, rfl⟩ := List.getElem?_eq_some_iff.1 hb
  rw [h, List.drop_eq_getElem_cons ka, List.drop_eq_getElem_cons kb]
  rfl

/-- Where one of them ends. -/
theorem cmpL_end (a b : List Int) (k : Nat) (h : cmpL a b = cmpL (a.drop k) (b.drop k)) (hk : k = a.length) :
    cmpL a b = if k < b.length then -1 else 0 := by
  subst hk
  rw [h, List.drop_length]
  split
  · rename_i h1
    obtain ⟨y, ys, hy⟩ : ∃ y ys, b.drop a.length = y :: ys := by
      cases hd : b.drop a.length with
      | nil => rw [List.drop_eq_nil_iff] at hd; omega
      | cons y ys => exact ⟨y, ys, rfl⟩
    rw [hy]; rfl
  · rename_i h1
    rw [List.drop_eq_nil_iff.2 (by omega)]; rfl
theorem cmpL_end1 (a b : List Int) (k : Nat) (h : cmpL a b = cmpL (a.drop k) (b.drop k)) (hk : k < a.length) (hb : b.length ≤ k) : cmpL a b = 1 := by
  rw [h, List.drop_eq_nil_iff.2 hb, List.drop_eq_getElem_cons hk]; rfl

theorem cmpL_app (p a b : List Int) : cmpL (p ++ a) (p ++ b) = cmpL a b := by
  induction p with
  | nil => rfl
  | cons x xs ih => simp [cmpL, ih]

/-! ### Under -/
theorem underL_iff (a b : List Int) : underL a b = true ↔ ∃ r, a = b ++ r := by
  unfold underL
  simp only [Bool.and_eq_true, decide_eq_true_eq, beq_iff_eq]
  constructor
  · rintro ⟨_, h2⟩
    refine ⟨a.drop b.length, ?_⟩
    have := List.take_append_drop b.length a
    rw [h2] at this
    exact this.symm
  · rintro ⟨r, rfl⟩
    simp

theorem underL_take (a : List Int) (i : Nat) : underL a (a.take i) = true := (underL_iff _ _).2 ⟨a.drop i, (List.take_append_drop i a).symm⟩
theorem underL_takes (a : List Int) (i j : Nat) (h : j ≤ i) : underL (a.take i) (a.take j) = true := by
  rw [underL_iff]
  refine ⟨(a.take i).drop j, ?_⟩
  have := List.take_append_drop j (a.take i)
  rw [List.take_take, Nat.min_eq_left h] at this
  exact this.symm
theorem underL_back (a : List Int) (j : Nat) (h : j ≤ a.length) : underL (a.take j) a = decide (j = a.length) := by
  by_cases hj : j = a.length
  · subst hj
    rw [List.take_length, show decide (a.length = a.length) = true by simp, underL_iff]
    exact ⟨[], by simp⟩
  · rw [show decide (j = a.length) = false by simp [hj]]
    unfold underL
    have : ¬ a.length ≤ (a.take j).length := by rw [List.length_take]; omega
    rw [decide_eq_false this, Bool.false_and]

theorem cmpL_take (a : List Int) (j : Nat) : cmpL (a.take j) a ≤ 0 := by
  have h := cmpL_app (a.take j) [] (a.drop j)
  rw [List.take_append_drop, List.append_nil] at h
  rw [h]
  cases a.drop j <;> simp [cmpL]

/-- What stands between two that are under a path is under it. -/
theorem between (p a b c : List Int) (ha : underL a p = true) (hc : underL c p = true) (h1 : cmpL a b ≤ 0) (h2 : cmpL b c ≤ 0) : underL b p = true := by
  rw [underL_iff] at ha hc ⊢
  obtain ⟨ra, rfl⟩ := ha
  obtain ⟨rc, rfl⟩ := hc
  induction p generalizing b with
  | nil => exact ⟨b, rfl⟩
  | cons x xs ih =>
    cases b with
    | nil => simp [cmpL] at h1
    | cons y ys =>
      simp only [List.cons_append, cmpL] at h1 h2
      have n1 : ¬ y < x := by
        intro h
        have : ¬ x < y := by omega
        simp [h, this] at h1
      have n2 : ¬ x < y := by
        intro h
        have : ¬ y < x := by omega
        simp [h, this] at h2
      rw [if_neg n2, if_neg n1] at h1
      rw [if_neg n1, if_neg n2] at h2
      obtain ⟨r, hr⟩ := ih ys h1 h2
      exact ⟨r, by rw [hr, show y = x by omega]; rfl⟩

/-! ### Kids -/
theorem cmpL_kid (p : List Int) (n : Int) : cmpL p (p ++ [n]) = -1 := by
  have := cmpL_app p [] [n]
  rw [List.append_nil] at this
  rw [this]; rfl
theorem cmpL_next (p : List Int) (n kid : Int) : cmpL (p ++ [n] ++ [kid]) (p ++ [n + 1]) = -1 := by
  rw [List.append_assoc, cmpL_app]
  simp only [List.cons_append, List.nil_append, cmpL]
  rw [if_pos (by omega)]
theorem cmpL_next2 (p : List Int) (n kid o : Int) : cmpL (p ++ [n] ++ [kid]) (p ++ [n + 1] ++ [o]) = -1 := by
  rw [List.append_assoc, List.append_assoc, cmpL_app]
  simp only [List.cons_append, List.nil_append, cmpL]
  rw [if_pos (by omega)]
theorem cmpL_kids (p : List Int) (kid o : Int) : (cmpL (p ++ [kid]) (p ++ [o]) = -1) ↔ kid < o := by
  rw [cmpL_app]
  simp only [cmpL]
  split
  · simp_all
  · split <;> simp <;> omega
end Go.Proofs.YtbhnnnpofindiaaDoor
