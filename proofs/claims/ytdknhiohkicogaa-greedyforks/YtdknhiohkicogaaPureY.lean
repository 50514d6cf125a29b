/-
  Greedy plans in plain words: what a plan is, that it is one alone, how long it takes. No condition.
-/
namespace Go.Proofs.Ytdknhiohkicogaa

/-! ### The greatest of a row -/
def mx (f : Nat → Nat) : List Nat → Nat
  | [] => 0
  | a :: r => max (f a) (mx f r)
theorem mx_le {f : Nat → Nat} {a : Nat} : ∀ {row : List Nat}, a ∈ row → f a ≤ mx f row
  | b :: r, h => by
    rcases List.mem_cons.1 h with rfl | h
    · simp [mx]; omega
    · have := mx_le (f := f) h; simp [mx]; omega
theorem mx_ex {f : Nat → Nat} : ∀ row : List Nat, mx f row = 0 ∨ ∃ a ∈ row, mx f row = f a
  | [] => .inl rfl
  | b :: r => by
    simp only [mx]
    rcases Nat.le_total (mx f r) (f b) with h | h
    · exact .inr ⟨b, by simp, by omega⟩
    · rcases mx_ex (f := f) r with h0 | ⟨a, ha, he⟩
      · left; omega
      · exact .inr ⟨a, by simp [ha], by omega⟩
theorem mx_congr {f g : Nat → Nat} : ∀ {row : List Nat}, (∀ a ∈ row, f a = g a) → mx f row = mx g row
  | [], _ => rfl
  | b :: r, h => by simp only [mx]; rw [h b (by simp), mx_congr (fun a ha => h a (by simp [ha]))]
theorem mx_snoc {f : Nat → Nat} (a : Nat) : ∀ row : List Nat, mx f (row ++ [a]) = max (mx f row) (f a)
  | [] => by simp [mx]
  | b :: r => by simp only [List.cons_append, mx, mx_snoc a r]; omega
theorem mx_of_le {f : Nat → Nat} {n : Nat} {row : List Nat} (h : ∀ a ∈ row, f a ≤ n) : mx f row ≤ n := by
  rcases mx_ex (f := f) row with h0 | ⟨a, ha, he⟩
  · omega
  · rw [he]; exact h a ha

theorem getD_of {W : List Nat} {n m : Nat} (h : W[n]? = some m) : W.getD n 0 = m := by simp [List.getD, h]
theorem of_lt {α : Type} {W : List α} {n : Nat} (h : n < W.length) : ∃ m, W[n]? = some m := ⟨_, List.getElem?_eq_getElem h⟩
theorem lt_of {α : Type} {W : List α} {n : Nat} {m : α} (h : W[n]? = some m) : n < W.length := (List.getElem?_eq_some_iff.1 h).1
theorem take_snoc {α : Type} {W : List α} {n : Nat} {m : α} (h : W[n]? = some m) : W.take (n + 1) = W.take n ++ [m] := by
  rw [List.take_add_one, h]; rfl
theorem take_getD {W : List Nat} {n a : Nat} (h : a < n) : (W.take n).getD a 0 = W.getD a 0 := by
  simp [List.getD, h]

/-! ### Plans -/
def fre (W row : List Nat) : Nat := mx (fun a => W.getD a 0 + 1) row
structure GStep (k : Nat) (W row : List Nat) (m : Nat) : Prop where
  fre_ : fre W row ≤ m
  room : W.count m < k
  full : ∀ m', fre W row ≤ m' → m' < m → k ≤ W.count m'
/-- Each step is behind earlier ones. -/
def Ahead (G : List (List Nat)) : Prop := ∀ (n : Nat) (row : List Nat), G[n]? = some row → ∀ a ∈ row, a < n
structure PlanOf (k : Nat) (G : List (List Nat)) (W : List Nat) : Prop where
  le : W.length ≤ G.length
  at_ : ∀ (n : Nat) (row : List Nat) (m : Nat), G[n]? = some row → W[n]? = some m → GStep k (W.take n) row m

section
variable {k : Nat} {G : List (List Nat)} {W : List Nat}
theorem PlanOf.nil : PlanOf k G [] := ⟨by simp, fun n row m _ h => by simp at h⟩
theorem PlanOf.snoc {row : List Nat} {m : Nat} (h : PlanOf k G W) (hr : G[W.length]? = some row) (hs : GStep k W row m) : PlanOf k G (W ++ [m]) := by
  refine ⟨by have := lt_of hr; simp; omega, fun n row' m' hr' hm' => ?_⟩
  by_cases hn : n < W.length
  · rw [List.getElem?_append_left hn] at hm'
    rw [List.take_append_of_le_length (by omega)]
    exact h.at_ n row' m' hr' hm'
  · have hl := lt_of hm'
    have hn' : n = W.length := by simp at hl; omega
    subst hn'
    rw [hr] at hr'; injection hr' with hr'; subst hr'
    simp at hm'; subst hm'
    simpa using hs

theorem fre_take {row : List Nat} {n : Nat} (h : ∀ a ∈ row, a < n) : fre (W.take n) row = fre W row :=
  mx_congr fun a ha => by rw [take_getD (h a ha)]

theorem GStep.one {row : List Nat} {m m' : Nat} (h : GStep k W row m) (h' : GStep k W row m') : m = m' := by
  rcases Nat.lt_trichotomy m m' with hl | hl | hl
  · have := h'.full m h.fre_ hl; have := h.room; omega
  · exact hl
  · have := h.full m' h'.fre_ hl; have := h'.room; omega

theorem PlanOf.one {W' : List Nat} (h : PlanOf k G W) (h' : PlanOf k G W') (hl : W.length = W'.length) : W = W' := by
  have key : ∀ n, W.take n = W'.take n := by
    intro n
    induction n with
    | zero => simp
    | succ n ih =>
      by_cases hn : n < W.length
      · obtain ⟨m, hm⟩ := of_lt hn
        obtain ⟨m', hm'⟩ := of_lt (show n < W'.length by omega)
        obtain ⟨row, hr⟩ := of_lt (show n < G.length by have := h.le; omega)
        rw [take_snoc hm, take_snoc hm', ih]
        have a1 := h.at_ n row m hr hm
        have a2 := h'.at_ n row m' hr hm'
        rw [ih] at a1
        rw [a1.one a2]
      · rw [List.take_of_length_le (by omega), List.take_of_length_le (by omega)]
        rw [List.take_of_length_le (by omega), List.take_of_length_le (by omega)] at ih
        exact ih
  have := key W.length
  rwa [List.take_of_length_le (Nat.le_refl _), List.take_of_length_le (by omega)] at this

theorem count_zero {W : List Nat} {m : Nat} (h : ∀ (j : Nat) x, W[j]? = some x → x ≠ m) : W.count m = 0 := by
  rw [List.count_eq_zero]
  intro hm
  obtain ⟨j, hj⟩ := List.getElem?_of_mem hm
  exact h j m hj rfl

theorem PlanOf.le_self (h : PlanOf k G W) (hA : Ahead G) (hk : 1 ≤ k) : ∀ (n m : Nat), W[n]? = some m → m ≤ n := by
  intro n
  induction n using Nat.strongRecOn with
  | _ n ih =>
    intro m hm
    obtain ⟨row, hr⟩ := of_lt (show n < G.length by have := h.le; have := lt_of hm; omega)
    have st := h.at_ n row m hr hm
    have hA' := hA n row hr
    have hf : fre (W.take n) row ≤ n := by
      refine mx_of_le fun a ha => ?_
      have han := hA' a ha
      obtain ⟨x, hx⟩ := of_lt (show a < W.length by have := lt_of hm; omega)
      rw [take_getD han, getD_of hx]
      have := ih a han x hx
      omega
    rcases Nat.lt_or_ge n m with hlt | hge
    · have hc := st.full n hf hlt
      have h0 : (W.take n).count n = 0 := by
        refine count_zero fun j x hj => ?_
        rw [List.getElem?_take] at hj
        split at hj
        · next hjn => have := ih j hjn x hj; omega
        · cases hj
      omega
    · exact hge

/-- What fits. -/
structure Fit (k : Nat) (G : List (List Nat)) (V : List Nat) : Prop where
  len : V.length = G.length
  behind : ∀ (n : Nat) (row : List Nat) (m : Nat), G[n]? = some row → V[n]? = some m → ∀ a ∈ row, V.getD a 0 < m
  many : ∀ m, V.count m ≤ k

theorem PlanOf.many (h : PlanOf k G W) (m : Nat) : W.count m ≤ k := by
  have key : ∀ n, (W.take n).count m ≤ k := by
    intro n
    induction n with
    | zero => simp
    | succ n ih =>
      by_cases hn : n < W.length
      · obtain ⟨x, hx⟩ := of_lt hn
        obtain ⟨row, hr⟩ := of_lt (show n < G.length by have := h.le; omega)
        rw [take_snoc hx, List.count_append]
        have st := h.at_ n row x hr hx
        by_cases hxm : x = m
        · subst hxm; have := st.room; simp; omega
        · simp [hxm]; exact ih
      · rw [List.take_of_length_le (by omega)]
        rwa [List.take_of_length_le (by omega)] at ih
  have := key W.length
  rwa [List.take_of_length_le (Nat.le_refl _)] at this

theorem PlanOf.fit (h : PlanOf k G W) (hA : Ahead G) (hl : W.length = G.length) : Fit k G W := by
  refine ⟨hl, fun n row m hr hm a ha => ?_, h.many⟩
  have st := h.at_ n row m hr hm
  have h1 : (W.take n).getD a 0 + 1 ≤ fre (W.take n) row := mx_le (f := fun a => (W.take n).getD a 0 + 1) ha
  rw [take_getD (hA n row hr a ha)] at h1
  have := st.fre_
  omega

/-- A plan's time. -/
def tim (V : List Nat) : Nat := mx (fun m => m + 1) V
theorem tim_lt {V : List Nat} {n m : Nat} (h : V[n]? = some m) : m < tim V := by
  have : m + 1 ≤ tim V := mx_le (f := fun m => m + 1) (List.mem_of_getElem? h)
  omega

/-! ### Depths -/
structure DepthOf (G : List (List Nat)) (D : List Nat) : Prop where
  le : D.length ≤ G.length
  at_ : ∀ (n : Nat) (row : List Nat) (d : Nat), G[n]? = some row → D[n]? = some d → d = mx (fun a => D.getD a 0) row + 1
theorem DepthOf.one {G : List (List Nat)} {D D' : List Nat} (h : DepthOf G D) (h' : DepthOf G D') (hA : Ahead G) (hl : D.length = G.length) (hl' : D'.length = G.length) : D = D' := by
  have key : ∀ n : Nat, D[n]? = D'[n]? := by
    intro n
    induction n using Nat.strongRecOn with
    | _ n ih =>
      by_cases hn : n < G.length
      · obtain ⟨row, hr⟩ := of_lt hn
        obtain ⟨d, hd⟩ := of_lt (show n < D.length by omega)
        obtain ⟨d', hd'⟩ := of_lt (show n < D'.length by omega)
        rw [hd, hd', h.at_ n row d hr hd, h'.at_ n row d' hr hd']
        congr 2
        exact mx_congr fun a ha => by simp only [List.getD_eq_getElem?_getD, ih a (hA n row hr a ha)]
      · rw [List.getElem?_eq_none (by omega), List.getElem?_eq_none (by omega)]
  exact List.ext_getElem? key
theorem DepthOf.small {G : List (List Nat)} {D : List Nat} (h : DepthOf G D) (hA : Ahead G) : ∀ (n d : Nat), D[n]? = some d → d ≤ n + 1 := by
  intro n
  induction n using Nat.strongRecOn with
  | _ n ih =>
    intro d hd
    obtain ⟨row, hr⟩ := of_lt (show n < G.length by have := h.le; have := lt_of hd; omega)
    rw [h.at_ n row d hr hd]
    have : mx (fun a => D.getD a 0) row ≤ n := mx_of_le fun a ha => by
      have han := hA n row hr a ha
      obtain ⟨x, hx⟩ := of_lt (show a < D.length by have := lt_of hd; omega)
      rw [getD_of hx]
      have := ih a han x hx
      omega
    omega
def spn (D : List Nat) : Nat := mx (fun d => d) D
theorem le_spn {D : List Nat} {n d : Nat} (h : D[n]? = some d) : d ≤ spn D := mx_le (f := fun d => d) (List.mem_of_getElem? h)
theorem spn_ex (D : List Nat) : spn D = 0 ∨ ∃ n : Nat, D[n]? = some (spn D) := by
  rcases mx_ex (f := fun d => d) D with h | ⟨a, ha, he⟩
  · exact .inl h
  · obtain ⟨n, hn⟩ := List.getElem?_of_mem ha
    exact .inr ⟨n, by rw [hn]; simp only [spn, he]⟩
theorem tim_ex (V : List Nat) : tim V = 0 ∨ ∃ n m : Nat, V[n]? = some m ∧ tim V = m + 1 := by
  rcases mx_ex (f := fun m => m + 1) V with h | ⟨a, ha, he⟩
  · exact .inl h
  · obtain ⟨n, hn⟩ := List.getElem?_of_mem ha
    exact .inr ⟨n, a, hn, he⟩

variable {D V : List Nat}
theorem Fit.deep (h : Fit k G V) (hA : Ahead G) (hD : DepthOf G D) (hl : D.length = G.length) : ∀ (n d m : Nat), D[n]? = some d → V[n]? = some m → d ≤ m + 1 := by
  intro n
  induction n using Nat.strongRecOn with
  | _ n ih =>
    intro d m hd hm
    obtain ⟨row, hr⟩ := of_lt (show n < G.length by have := lt_of hd; omega)
    rw [hD.at_ n row d hr hd]
    have : mx (fun a => D.getD a 0) row ≤ m := by
      refine mx_of_le fun a ha => ?_
      have han := hA n row hr a ha
      obtain ⟨x, hx⟩ := of_lt (show a < D.length by have := lt_of hd; omega)
      obtain ⟨y, hy⟩ := of_lt (show a < V.length by have := h.len; have := lt_of hr; omega)
      have h1 := ih a han x y hx hy
      have h2 := h.behind n row m hr hm a ha
      rw [getD_of hy] at h2
      rw [getD_of hx]
      omega
    omega

theorem Fit.span_le (h : Fit k G V) (hA : Ahead G) (hD : DepthOf G D) (hl : D.length = G.length) : spn D ≤ tim V := by
  rcases spn_ex D with h0 | ⟨n, hn⟩
  · omega
  · obtain ⟨m, hm⟩ := of_lt (show n < V.length by have := h.len; have := lt_of hn; omega)
    have := h.deep hA hD hl n _ m hn hm
    have := tim_lt hm
    omega

theorem below_succ (V : List Nat) (x : Nat) : V.countP (fun m => decide (m < x + 1)) = V.countP (fun m => decide (m < x)) + V.count x := by
  induction V with
  | nil => simp
  | cons a r ih =>
    simp only [List.countP_cons, List.count_cons, ih, decide_eq_true_eq]
    by_cases h1 : a = x
    · subst h1; simp; omega
    · by_cases h2 : a < x
      · rw [if_pos (by omega), if_pos h2, if_neg (by simpa using h1)]; omega
      · rw [if_neg (by omega), if_neg h2, if_neg (by simpa using h1)]; omega
theorem below_all (V : List Nat) : V.countP (fun m => decide (m < tim V)) = V.length := by
  rw [List.countP_eq_length]
  intro a ha
  obtain ⟨n, hn⟩ := List.getElem?_of_mem ha
  exact decide_eq_true (tim_lt hn)

theorem Fit.work_le (h : Fit k G V) : G.length ≤ k * tim V := by
  have key : ∀ x, V.countP (fun m => decide (m < x)) ≤ k * x := by
    intro x
    induction x with
    | zero => simp
    | succ x ih => rw [below_succ, Nat.mul_succ]; have := h.many x; omega
  have := key (tim V)
  rw [below_all, h.len] at this
  exact this

/-- How many moments below x have a worker idle. -/
def idl (k : Nat) (W : List Nat) : Nat → Nat
  | 0 => 0
  | x + 1 => idl k W x + if W.count x < k then 1 else 0
theorem idl_mono (x : Nat) : ∀ y, x ≤ y → idl k W x ≤ idl k W y
  | 0, h => by rw [Nat.le_zero.1 h]; exact Nat.le_refl _
  | y + 1, h => by
    rcases Nat.lt_or_ge x (y + 1) with h1 | h1
    · have := idl_mono x y (by omega); simp only [idl]; omega
    · rw [show x = y + 1 by omega]; exact Nat.le_refl _
theorem idl_flat (f : Nat) : ∀ m, f ≤ m → (∀ m', f ≤ m' → m' < m → k ≤ W.count m') → idl k W m = idl k W f
  | 0, h, _ => by rw [Nat.le_zero.1 h]
  | m + 1, h, hf => by
    rcases Nat.lt_or_ge f (m + 1) with h1 | h1
    · have := idl_flat f m (by omega) (fun m' a b => hf m' a (by omega))
      simp only [idl]
      have := hf m (by omega) (by omega)
      rw [if_neg (by omega)]; omega
    · rw [show f = m + 1 by omega]

theorem count_take_le (W : List Nat) (n m : Nat) : (W.take n).count m ≤ W.count m := by
  have := List.Sublist.count_le m (List.take_sublist n W)
  exact this

theorem PlanOf.idle (h : PlanOf k G W) (hA : Ahead G) (hD : DepthOf G D) (hl : D.length = G.length) : ∀ (n m d : Nat), W[n]? = some m → D[n]? = some d → idl k W m + 1 ≤ d := by
  intro n
  induction n using Nat.strongRecOn with
  | _ n ih =>
    intro m d hm hd
    obtain ⟨row, hr⟩ := of_lt (show n < G.length by have := lt_of hd; omega)
    have st := h.at_ n row m hr hm
    rw [hD.at_ n row d hr hd]
    have hfl : idl k W m = idl k W (fre (W.take n) row) := idl_flat _ m st.fre_ fun m' a b => Nat.le_trans (st.full m' a b) (count_take_le _ _ _)
    rw [hfl]
    rw [fre_take (hA n row hr)]
    rcases mx_ex (f := fun a => W.getD a 0 + 1) row with h0 | ⟨a, ha, he⟩
    · rw [show fre W row = 0 from h0]; simp [idl]
    · rw [show fre W row = W.getD a 0 + 1 from he]
      have han := hA n row hr a ha
      obtain ⟨x, hx⟩ := of_lt (show a < W.length by have := lt_of hm; omega)
      obtain ⟨y, hy⟩ := of_lt (show a < D.length by have := lt_of hd; omega)
      have h1 := ih a han x y hx hy
      rw [getD_of hx]
      have h2 : D.getD a 0 ≤ mx (fun a => D.getD a 0) row := mx_le (f := fun a => D.getD a 0) ha
      rw [getD_of hy] at h2
      simp only [idl]
      split <;> omega

theorem PlanOf.some_at (h : PlanOf k G W) (hA : Ahead G) (hk : 1 ≤ k) {m : Nat} (hm : m < tim W) : 1 ≤ W.count m := by
  rcases Nat.lt_or_ge 0 (W.count m) with h1 | h1
  · exact h1
  have h0 : W.count m = 0 := by omega
  exfalso
  have key : ∀ (n x : Nat), W[n]? = some x → ¬ m < x := by
    intro n
    induction n using Nat.strongRecOn with
    | _ n ih =>
      intro x hx hlt
      obtain ⟨row, hr⟩ := of_lt (show n < G.length by have := h.le; have := lt_of hx; omega)
      have st := h.at_ n row x hr hx
      by_cases hf : fre (W.take n) row ≤ m
      · have := st.full m hf hlt
        have := count_take_le W n m
        omega
      · rw [fre_take (hA n row hr)] at hf
        rcases mx_ex (f := fun a => W.getD a 0 + 1) row with h2 | ⟨a, ha, he⟩
        · exact hf (by rw [show fre W row = 0 from h2]; omega)
        · rw [show fre W row = W.getD a 0 + 1 from he] at hf
          have han := hA n row hr a ha
          obtain ⟨y, hy⟩ := of_lt (show a < W.length by have := lt_of hx; omega)
          rw [getD_of hy] at hf
          have h3 := ih a han y hy
          have h4 : y = m := by omega
          subst h4
          rw [List.count_eq_zero] at h0
          exact h0 (List.mem_of_getElem? hy)
  rcases tim_ex W with h2 | ⟨n, x, hx, he⟩
  · omega
  · have h3 := key n x hx
    have h4 : x = m := by omega
    subst h4
    rw [List.count_eq_zero] at h0
    exact h0 (List.mem_of_getElem? hx)

/-- Graham's bound. -/
theorem PlanOf.graham (h : PlanOf k G W) (hA : Ahead G) (hk : 1 ≤ k) (hw : W.length = G.length) (hD : DepthOf G D) (hl : D.length = G.length) : k * tim W ≤ G.length + (k - 1) * spn D := by
  have key : ∀ x, x ≤ tim W → k * x ≤ W.countP (fun m => decide (m < x)) + (k - 1) * idl k W x := by
    intro x
    induction x with
    | zero => intro _; simp
    | succ x ih =>
      intro hx
      have h1 := ih (by omega)
      have h2 := h.some_at hA hk (show x < tim W by omega)
      rw [below_succ, Nat.mul_succ]
      simp only [idl]
      split
      · rw [Nat.mul_add]; omega
      · rw [Nat.mul_add]; omega
  have h1 := key (tim W) (Nat.le_refl _)
  rw [below_all, hw] at h1
  have h2 : idl k W (tim W) ≤ spn D := by
    rcases tim_ex W with h0 | ⟨n, m, hm, he⟩
    · rw [h0]; simp [idl]
    · obtain ⟨d, hd⟩ := of_lt (show n < D.length by have := lt_of hm; omega)
      have h3 := h.idle hA hD hl n m d hm hd
      have h4 := le_spn hd
      rw [he]; simp only [idl]; split <;> omega
  have h3 := Nat.mul_le_mul_left (k - 1) h2
  omega

/-- With workers enough each step is done at its depth. -/
theorem PlanOf.wide (h : PlanOf k G W) (hA : Ahead G) (hk : G.length ≤ k) (hD : DepthOf G D) (hl : D.length = G.length) : ∀ (n m d : Nat), W[n]? = some m → D[n]? = some d → m + 1 = d := by
  intro n
  induction n using Nat.strongRecOn with
  | _ n ih =>
    intro m d hm hd
    have hn := lt_of hm
    obtain ⟨row, hr⟩ := of_lt (show n < G.length by have := h.le; omega)
    have st := h.at_ n row m hr hm
    rw [hD.at_ n row d hr hd]
    have hmf : m = fre (W.take n) row := by
      rcases Nat.lt_or_ge (fre (W.take n) row) m with h1 | h1
      · have h2 := st.full _ (Nat.le_refl _) h1
        have h3 : (W.take n).count (fre (W.take n) row) ≤ (W.take n).length := List.count_le_length
        have h4 : (W.take n).length = n := by rw [List.length_take]; omega
        have := lt_of hr
        omega
      · have := st.fre_; omega
    rw [fre_take (hA n row hr)] at hmf
    subst hmf
    congr 1
    refine mx_congr fun a ha => ?_
    have han := hA n row hr a ha
    obtain ⟨x, hx⟩ := of_lt (show a < W.length by omega)
    obtain ⟨y, hy⟩ := of_lt (show a < D.length by have := lt_of hd; omega)
    rw [getD_of hx, getD_of hy]
    exact ih a han x y hx hy
theorem PlanOf.wide_time (h : PlanOf k G W) (hA : Ahead G) (hk : G.length ≤ k) (hw : W.length = G.length) (hD : DepthOf G D) (hl : D.length = G.length) : tim W = spn D := by
  apply Nat.le_antisymm
  · rcases tim_ex W with h0 | ⟨n, m, hm, he⟩
    · omega
    · obtain ⟨d, hd⟩ := of_lt (show n < D.length by have := lt_of hm; omega)
      have := h.wide hA hk hD hl n m d hm hd
      have := le_spn hd
      omega
  · exact (h.fit hA hw).span_le hA hD hl

theorem range_at {n i : Nat} (h : i < n) : (List.range n)[i]? = some i := by rw [List.getElem?_range h]
theorem range_take {n m : Nat} (h : m ≤ n) : (List.range n).take m = List.range m := by
  apply List.ext_getElem?
  intro i
  rw [List.getElem?_take]
  split
  · next hi => rw [range_at (by omega), range_at hi]
  · next hi => rw [List.getElem?_eq_none (by simp; omega)]
theorem range_count (n m : Nat) : (List.range n).count m = if m < n then 1 else 0 := by
  induction n with
  | zero => simp
  | succ n ih =>
    rw [List.range_succ, List.count_append, ih]
    by_cases h : m = n
    · subst h; simp
    · simp [Ne.symm h]
      by_cases h2 : m < n
      · rw [if_pos h2, if_pos (by omega)]
      · rw [if_neg h2, if_neg (by omega)]
theorem range_getD {n i : Nat} (h : i < n) : (List.range n).getD i 0 = i := getD_of (range_at h)

theorem one_plan (hA : Ahead G) : PlanOf 1 G (List.range G.length) := by
  refine ⟨by simp, fun n row m hr hm => ?_⟩
  have hn := lt_of hr
  rw [range_at hn] at hm; injection hm with hm; subst hm
  rw [range_take (by omega)]
  refine ⟨mx_of_le fun a ha => ?_, by rw [range_count]; simp, fun m' _ hm' => by rw [range_count, if_pos hm']; exact Nat.le_refl _⟩
  have := hA n row hr a ha
  rw [range_getD this]; omega

theorem row_plan (hk : 1 ≤ k) (hG : ∀ (i : Nat) (row : List Nat), G[i]? = some row → row = if i = 0 then [] else [i - 1]) : PlanOf k G (List.range G.length) := by
  refine ⟨by simp, fun n row m hr hm => ?_⟩
  have hn := lt_of hr
  rw [range_at hn] at hm; injection hm with hm; subst hm
  rw [range_take (by omega), hG n row hr]
  have hf : fre (List.range n) (if n = 0 then [] else [n - 1]) = n := by
    by_cases h0 : n = 0
    · simp [h0, fre, mx]
    · rw [if_neg h0]
      simp only [fre, mx]
      rw [range_getD (by omega)]; omega
  refine ⟨by omega, by rw [range_count]; simp; omega, fun m' h1 h2 => by omega⟩

theorem div_count (hk : 1 ≤ k) (n m : Nat) : ((List.range n).map (· / k)).count m = if m < n / k then k else if m = n / k then n % k else 0 := by
  induction n with
  | zero =>
    simp
  | succ n ih =>
    rw [List.range_succ, List.map_append, List.count_append, ih]
    simp only [List.map_cons, List.map_nil, List.count_cons, List.count_nil]
    have hd := Nat.div_add_mod n k
    have hlt := Nat.mod_lt n (show k > 0 by omega)
    by_cases hw : n % k + 1 = k
    · have h1 : (n + 1) / k = n / k + 1 := by
        rw [show n + 1 = k * (n / k + 1) by rw [Nat.mul_succ]; omega]
        exact Nat.mul_div_cancel_left _ (by omega)
      have h2 : (n + 1) % k = 0 := by
        rw [show n + 1 = k * (n / k + 1) by rw [Nat.mul_succ]; omega]
        exact Nat.mul_mod_right _ _
      rw [h1, h2]
      by_cases c1 : m < n / k
      · simp [c1, show m < n / k + 1 by omega, show n / k ≠ m by omega]
      · by_cases c2 : m = n / k
        · simp [c2, hw]
        · simp [c1, c2, show ¬ m < n / k + 1 by omega, Ne.symm c2]
    · have h1 : (n + 1) / k = n / k := by
        rw [show n + 1 = (n % k + 1) + k * (n / k) by omega, Nat.add_mul_div_left _ _ (by omega), Nat.div_eq_of_lt (by omega)]; omega
      have h2 : (n + 1) % k = n % k + 1 := by
        have h3 : n + 1 = (n % k + 1) + k * (n / k) := by omega
        have h4 : ((n % k + 1) + k * (n / k)) % k = n % k + 1 := by rw [Nat.add_mul_mod_self_left, Nat.mod_eq_of_lt (by omega)]
        rw [← h3] at h4
        exact h4
      rw [h1, h2]
      by_cases c1 : m < n / k
      · simp [c1, show n / k ≠ m by omega]
      · by_cases c2 : m = n / k
        · simp [c2]
        · simp [c1, c2, Ne.symm c2]

theorem free_plan (hk : 1 ≤ k) (hG : ∀ (i : Nat) (row : List Nat), G[i]? = some row → row = []) : PlanOf k G ((List.range G.length).map (· / k)) := by
  refine ⟨by simp, fun n row m hr hm => ?_⟩
  have hn := lt_of hr
  rw [List.getElem?_map, range_at hn] at hm; injection hm with hm
  have hm' : n / k = m := hm
  subst hm'
  rw [← List.map_take, range_take (by omega), hG n row hr]
  refine ⟨by simp [fre, mx], ?_, fun m' _ hm' => ?_⟩
  · rw [div_count hk, if_neg (by omega), if_pos rfl]; exact Nat.mod_lt _ (by omega)
  · rw [div_count hk, if_pos hm']; exact Nat.le_refl _

theorem tim_range (n : Nat) : tim (List.range n) = n := by
  apply Nat.le_antisymm
  · exact mx_of_le fun a ha => by have := List.mem_range.1 ha; omega
  · rcases Nat.eq_zero_or_pos n with rfl | h
    · omega
    · have := tim_lt (range_at (show n - 1 < n by omega)); omega
theorem tim_div (hk : 1 ≤ k) (n : Nat) : tim ((List.range n).map (· / k)) = (n + k - 1) / k := by
  rcases Nat.eq_zero_or_pos n with rfl | h
  · simp only [List.range_zero, List.map_nil]
    rw [Nat.div_eq_of_lt (by omega)]; rfl
  · have h1 : (n + k - 1) / k = (n - 1) / k + 1 := by
      rw [show n + k - 1 = (n - 1) + k by omega, Nat.add_div_right _ (by omega)]
    rw [h1]
    apply Nat.le_antisymm
    · refine mx_of_le fun a ha => ?_
      obtain ⟨i, hi, rfl⟩ := List.mem_map.1 ha
      have := List.mem_range.1 hi
      have := Nat.div_le_div_right (c := k) (show i ≤ n - 1 by omega)
      omega
    · have := tim_lt (V := (List.range n).map (· / k)) (n := n - 1) (m := (n - 1) / k) (by rw [List.getElem?_map, range_at (by omega)]; rfl)
      omega

theorem PlanOf.tim_le (h : PlanOf k G W) (hA : Ahead G) (hk : 1 ≤ k) : tim W ≤ W.length := by
  rcases tim_ex W with h0 | ⟨n, m, hm, he⟩
  · omega
  · have := h.le_self hA hk n m hm
    have := lt_of hm
    omega
end
end Go.Proofs.Ytdknhiohkicogaa
