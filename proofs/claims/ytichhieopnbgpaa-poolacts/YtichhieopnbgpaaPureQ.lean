/-
  A pool as plain data, and what always holds of it: each block is taken, or in one row of its owner's, once; a taken block's words are live. No condition.
-/
import Derived.Test.YtichhieopnbgpaaP20
namespace Go.Proofs.Ytichhieopnbgpaa

structure St where
  ls : List (List Nat)
  tk : List Bool
  ws : List (Bool × Int)

structure Inv (S : Shp) (base : Nat) (σ : St) : Prop where
  hl : σ.ls.length = 4 * S.k
  htl : σ.tk.length = S.many + 1
  nd : ∀ (q : Nat) (l : List Nat), σ.ls[q]? = some l → l.Nodup
  row : ∀ (q : Nat) (l : List Nat), σ.ls[q]? = some l → ∀ n ∈ l, ∃ a z o c, whr S n = some (a, z, o, c) ∧ (q = o * 4 + c ∨ q = o * 4 + 3) ∧ σ.tk[n]? = some false
  one : ∀ (n a z o c : Nat) (l l' : List Nat), whr S n = some (a, z, o, c) → σ.ls[o * 4 + c]? = some l → σ.ls[o * 4 + 3]? = some l' → n ∈ l → n ∉ l'
  fr : ∀ (n a z o c : Nat) (l l' : List Nat), whr S n = some (a, z, o, c) → σ.ls[o * 4 + c]? = some l → σ.ls[o * 4 + 3]? = some l' → σ.tk[n]? = some false → n ∈ l ∨ n ∈ l'
  wds : ∀ (n a z o c : Nat) (f : Bool), whr S n = some (a, z, o, c) → σ.tk[n]? = some f → ∀ k, k < z → ∃ m, σ.ws[base + a + k]? = some (f, m)
  wl : base + S.words ≤ σ.ws.length

/-- The words of a block turned. -/
def setW (S : Shp) (base : Nat) (ws : List (Bool × Int)) (n : Nat) (f : Bool) : List (Bool × Int) := match whr S n with
  | some (a, z, _, _) => setR ws (base + a) z (f, 0)
  | none => ws
theorem setW_of {S : Shp} {base n a z o c : Nat} {ws : List (Bool × Int)} {f : Bool} (h : whr S n = some (a, z, o, c)) : setW S base ws n f = setR ws (base + a) z (f, 0) := by simp [setW, h]
theorem setW_length (S : Shp) (base : Nat) (ws : List (Bool × Int)) (n : Nat) (f : Bool) : (setW S base ws n f).length = ws.length := by
  unfold setW
  split
  · rw [setR_length]
  · rfl
theorem whr_apart {S : Shp} {n n' a z o c a' z' o' c' j j' : Nat} (h : whr S n = some (a, z, o, c)) (h' : whr S n' = some (a', z', o', c')) (hne : n ≠ n') (hj : j < z) (hj' : j' < z') : a + j ≠ a' + j' := by
  intro e
  have h1 := blk_of h hj
  rw [e, blk_of h' hj'] at h1
  exact hne h1.symm

theorem Inv.words {S : Shp} {base : Nat} {σ : St} (h : Inv S base σ) {n a z o c : Nat} (hw : whr S n = some (a, z, o, c)) (f : Bool) :
    ∀ (n' a' z' o' c' : Nat) (g : Bool), whr S n' = some (a', z', o', c') → (σ.tk.set n f)[n']? = some g → ∀ k, k < z' → ∃ m, (setW S base σ.ws n f)[base + a' + k]? = some (g, m) := by
  intro n' a' z' o' c' g hw' hg k hk
  have ha := whr_at hw
  have hb := whr_at hw'
  have hwl := h.wl
  have f1 := ha.fits
  have f2 := hb.fits
  rw [setW_of hw, setR_get _ _ _ _ _ (by omega)]
  by_cases e : n = n'
  · subst e
    rw [hw] at hw'
    simp only [Option.some.injEq, Prod.mk.injEq] at hw'
    obtain ⟨rfl, rfl, rfl, rfl⟩ := hw'
    rw [if_pos (by omega)]
    have hn := ha.nm
    rw [List.getElem?_set_self (by rw [h.htl]; omega)] at hg
    simp only [Option.some.injEq] at hg
    exact ⟨0, by rw [hg]⟩
  · rw [if_neg]
    · rw [List.getElem?_set_ne e] at hg
      exact h.wds n' a' z' o' c' g hw' hg k hk
    · intro ⟨h1, h2⟩
      exact whr_apart hw hw' e (j := base + a' + k - (base + a)) (by omega) hk (by omega)

/-- One is taken out of its row's end. -/
def takeSt (S : Shp) (base : Nat) (σ : St) (q : Nat) (l0 : List Nat) (n : Nat) : St := ⟨σ.ls.set q l0, σ.tk.set n true, setW S base σ.ws n true⟩
/-- One goes to a row's end. -/
def giveSt (S : Shp) (base : Nat) (σ : St) (ix : Nat) (l : List Nat) (n : Nat) : St := ⟨σ.ls.set ix (l ++ [n]), σ.tk.set n false, setW S base σ.ws n false⟩
def drainSt (S : Shp) (σ : St) (i : Nat) : St := ⟨drainL S i σ.ls, σ.tk, σ.ws⟩

theorem Inv.own {S : Shp} {base : Nat} {σ : St} (h : Inv S base σ) {i c n : Nat} {l : List Nat} (hc : c < 3) (hl : σ.ls[i * 4 + c]? = some l) (hn : n ∈ l) :
    ∃ a z, whr S n = some (a, z, i, c) ∧ σ.tk[n]? = some false ∧ i < S.k := by
  obtain ⟨a, z, o, c', hw, hq, ht⟩ := h.row _ _ hl n hn
  have ha := whr_at hw
  have h3 := ha.cls
  have : i = o ∧ c = c' := by omega
  obtain ⟨rfl, rfl⟩ := this
  exact ⟨a, z, hw, ht, ha.own⟩
theorem Inv.backs {S : Shp} {base : Nat} {σ : St} (h : Inv S base σ) {i n : Nat} {l : List Nat} (hl : σ.ls[i * 4 + 3]? = some l) (hn : n ∈ l) :
    ∃ a z c, whr S n = some (a, z, i, c) ∧ σ.tk[n]? = some false ∧ i < S.k := by
  obtain ⟨a, z, o, c', hw, hq, ht⟩ := h.row _ _ hl n hn
  have ha := whr_at hw
  have h3 := ha.cls
  have : i = o := by omega
  subst this
  exact ⟨a, z, c', hw, ht, ha.own⟩

theorem nodup_snoc {α : Type} {l : List α} {n : α} (h : (l ++ [n]).Nodup) : l.Nodup ∧ n ∉ l := by
  rw [List.nodup_append] at h
  exact ⟨h.1, fun hn => h.2.2 n hn n (by simp) rfl⟩
theorem nodup_push {α : Type} {l : List α} {n : α} (h : l.Nodup) (hn : n ∉ l) : (l ++ [n]).Nodup := by
  rw [List.nodup_append]
  refine ⟨h, by simp, fun a ha b hb => ?_⟩
  simp only [List.mem_singleton] at hb
  rintro rfl
  exact hn (hb ▸ ha)

theorem Inv.take {S : Shp} {base : Nat} {σ : St} (h : Inv S base σ) {i c n : Nat} {l0 : List Nat} (hc : c < 3) (hl : σ.ls[i * 4 + c]? = some (l0 ++ [n])) :
    Inv S base (takeSt S base σ (i * 4 + c) l0 n) := by
  obtain ⟨a, z, hw, ht, hi⟩ := h.own hc hl (n := n) (by simp)
  have hnd := nodup_snoc (h.nd _ _ hl)
  have hql := lt_of hl
  have hback : ∀ l' : List Nat, σ.ls[i * 4 + 3]? = some l' → n ∉ l' := fun l' hl' => h.one n a z i c _ l' hw hl hl' (by simp)
  -- no row holds n now
  have hno : ∀ (q : Nat) (l : List Nat), (σ.ls.set (i * 4 + c) l0)[q]? = some l → n ∉ l := by
    intro q l hq hn
    rcases set_at hq with ⟨rfl, rfl⟩ | ⟨hne, hq⟩
    · exact hnd.2 hn
    · obtain ⟨a', z', o, c', hw', hq', _⟩ := h.row _ _ hq n hn
      rw [hw] at hw'
      simp only [Option.some.injEq, Prod.mk.injEq] at hw'
      obtain ⟨rfl, rfl, rfl, rfl⟩ := hw'
      rcases hq' with rfl | rfl
      · exact hne rfl
      · exact hback _ hq hn
  have htk : ∀ m : Nat, m ≠ n → (σ.tk.set n true)[m]? = σ.tk[m]? := fun m hm => List.getElem?_set_ne (Ne.symm hm)
  have hsub : ∀ (q : Nat) (l : List Nat), (σ.ls.set (i * 4 + c) l0)[q]? = some l → ∃ l1, σ.ls[q]? = some l1 ∧ ∀ m ∈ l, m ∈ l1 := by
    intro q l hq
    rcases set_at hq with ⟨rfl, rfl⟩ | ⟨hne, hq⟩
    · exact ⟨_, hl, fun m hm => by simp [hm]⟩
    · exact ⟨_, hq, fun m hm => hm⟩
  refine ⟨by simp [takeSt, h.hl], by simp [takeSt, h.htl], ?_, ?_, ?_, ?_, fun n' a' z' o' c' f => h.words hw true n' a' z' o' c' f, by simp [takeSt, setW_length, h.wl]⟩
  · intro q l hq
    rcases set_at hq with ⟨rfl, rfl⟩ | ⟨_, hq⟩
    · exact hnd.1
    · exact h.nd _ _ hq
  · intro q l hq m hm
    have hmn : m ≠ n := fun e => hno q l hq (e ▸ hm)
    obtain ⟨l1, h1, h2⟩ := hsub q l hq
    obtain ⟨a', z', o, c', hw', hq', ht'⟩ := h.row _ _ h1 m (h2 m hm)
    exact ⟨a', z', o, c', hw', hq', by show (σ.tk.set n true)[m]? = _; rw [htk m hmn]; exact ht'⟩
  · intro m a' z' o c' l l' hw' hq hq' hm hm'
    obtain ⟨l1, h1, h2⟩ := hsub _ l hq
    obtain ⟨l2, h3, h4⟩ := hsub _ l' hq'
    exact h.one m a' z' o c' l1 l2 hw' h1 h3 (h2 m hm) (h4 m hm')
  · intro m a' z' o c' l l' hw' hq hq' ht'
    by_cases hmn : m = n
    · subst hmn
      have : (σ.tk.set m true)[m]? = some true := List.getElem?_set_self (by rw [h.htl]; have := (whr_at hw).nm; omega)
      exact absurd (ht'.symm.trans this) (by simp)
    · have ht2 : σ.tk[m]? = some false := by rw [← htk m hmn]; exact ht'
      have hkeep : ∀ (q : Nat) (l : List Nat), (σ.ls.set (i * 4 + c) l0)[q]? = some l → ∀ l1 : List Nat, σ.ls[q]? = some l1 → m ∈ l1 → m ∈ l := by
        intro q l hq l1 h1 hm
        rcases set_at hq with ⟨rfl, rfl⟩ | ⟨hne, hq⟩
        · rw [hl] at h1
          cases h1
          simp only [List.mem_append, List.mem_singleton] at hm
          exact hm.resolve_right hmn
        · rw [hq] at h1; cases h1; exact hm
      obtain ⟨l1, h1, _⟩ := hsub _ l hq
      obtain ⟨l2, h3, _⟩ := hsub _ l' hq'
      rcases h.fr m a' z' o c' l1 l2 hw' h1 h3 ht2 with hm | hm
      · exact .inl (hkeep _ _ hq _ h1 hm)
      · exact .inr (hkeep _ _ hq' _ h3 hm)

theorem Inv.give {S : Shp} {base : Nat} {σ : St} (h : Inv S base σ) {n a z o cc ix : Nat} {l : List Nat} (hw : whr S n = some (a, z, o, cc)) (ht : σ.tk[n]? = some true) (hix : ix = o * 4 + cc ∨ ix = o * 4 + 3) (hl : σ.ls[ix]? = some l) :
    Inv S base (giveSt S base σ ix l n) := by
  have ha := whr_at hw
  have hcc := ha.cls
  have hno : ∀ (q : Nat) (l : List Nat), σ.ls[q]? = some l → n ∉ l := by
    intro q l hq hn
    obtain ⟨_, _, _, _, _, _, ht'⟩ := h.row _ _ hq n hn
    rw [ht] at ht'
    cases ht'
  have htk : ∀ m : Nat, m ≠ n → (σ.tk.set n false)[m]? = σ.tk[m]? := fun m hm => List.getElem?_set_ne (Ne.symm hm)
  have htn : (σ.tk.set n false)[n]? = some false := List.getElem?_set_self (by rw [h.htl]; have := ha.nm; omega)
  have hsub : ∀ (q : Nat) (l2 : List Nat), (σ.ls.set ix (l ++ [n]))[q]? = some l2 → ∃ l1, σ.ls[q]? = some l1 ∧ (∀ m ∈ l2, m ∈ l1 ∨ (m = n ∧ q = ix)) ∧ (∀ m ∈ l1, m ∈ l2) ∧ (q = ix → n ∈ l2) := by
    intro q l2 hq
    rcases set_at hq with ⟨rfl, rfl⟩ | ⟨hne, hq⟩
    · exact ⟨_, hl, fun m hm => by simp only [List.mem_append, List.mem_singleton] at hm; exact hm.imp id (fun e => ⟨e, rfl⟩), fun m hm => by simp [hm], fun _ => by simp⟩
    · exact ⟨_, hq, fun m hm => .inl hm, fun m hm => hm, fun e => absurd e hne⟩
  refine ⟨by simp [giveSt, h.hl], by simp [giveSt, h.htl], ?_, ?_, ?_, ?_, fun n' a' z' o' c' f => h.words hw false n' a' z' o' c' f, by simp [giveSt, setW_length, h.wl]⟩
  · intro q l2 hq
    rcases set_at hq with ⟨rfl, rfl⟩ | ⟨_, hq⟩
    · exact nodup_push (h.nd _ _ hl) (hno _ _ hl)
    · exact h.nd _ _ hq
  · intro q l2 hq m hm
    obtain ⟨l1, h1, h2, _, _⟩ := hsub q l2 hq
    rcases h2 m hm with hm1 | ⟨rfl, rfl⟩
    · have hmn : m ≠ n := fun e => hno q l1 h1 (e ▸ hm1)
      obtain ⟨a', z', o', c', hw', hq', ht'⟩ := h.row _ _ h1 m hm1
      exact ⟨a', z', o', c', hw', hq', by show (σ.tk.set n false)[m]? = _; rw [htk m hmn]; exact ht'⟩
    · exact ⟨a, z, o, cc, hw, hix, htn⟩
  · intro m a' z' o' c' l1 l2 hw' hq hq' hm hm'
    obtain ⟨k1, h1, h2, _, _⟩ := hsub _ l1 hq
    obtain ⟨k2, h3, h4, _, _⟩ := hsub _ l2 hq'
    have hc' := (whr_at hw').cls
    rcases h2 m hm with hm1 | ⟨rfl, e1⟩
    · rcases h4 m hm' with hm2 | ⟨rfl, _⟩
      · exact h.one m a' z' o' c' k1 k2 hw' h1 h3 hm1 hm2
      · exact hno _ _ h1 hm1
    · rcases h4 m hm' with hm2 | ⟨_, e2⟩
      · exact hno _ _ h3 hm2
      · omega
  · intro m a' z' o' c' l1 l2 hw' hq hq' ht'
    obtain ⟨k1, h1, _, h2, h5⟩ := hsub _ l1 hq
    obtain ⟨k2, h3, _, h4, h6⟩ := hsub _ l2 hq'
    by_cases hmn : m = n
    · subst hmn
      rw [hw] at hw'
      simp only [Option.some.injEq, Prod.mk.injEq] at hw'
      obtain ⟨rfl, rfl, rfl, rfl⟩ := hw'
      rcases hix with rfl | rfl
      · exact .inl (h5 rfl)
      · exact .inr (h6 rfl)
    · have ht2 : σ.tk[m]? = some false := by rw [← htk m hmn]; exact ht'
      rcases h.fr m a' z' o' c' k1 k2 hw' h1 h3 ht2 with hm | hm
      · exact .inl (h2 m hm)
      · exact .inr (h4 m hm)

theorem cls_lt (S : Shp) (n : Nat) : cls S n < 3 := by
  unfold cls
  split
  · next h => exact (whr_at h).cls
  · omega
theorem cls_of {S : Shp} {n a z o c : Nat} (h : whr S n = some (a, z, o, c)) : cls S n = c := by simp [cls, h]
theorem home1_length (S : Shp) (i : Nat) (ls : List (List Nat)) (n : Nat) : (home1 S i ls n).length = ls.length := by simp [home1]
theorem fold_length (S : Shp) (i : Nat) (bk : List Nat) (ls : List (List Nat)) : (bk.foldl (home1 S i) ls).length = ls.length := by
  induction bk generalizing ls with
  | nil => rfl
  | cons n r ih => rw [List.foldl_cons, ih, home1_length]
theorem fold_home (S : Shp) (i : Nat) (bk : List Nat) (ls : List (List Nat)) (hlen : i * 4 + 3 < ls.length) (q : Nat) :
    (bk.foldl (home1 S i) ls)[q]? = ls[q]?.map fun l => if q / 4 = i then l ++ bk.filter (fun n => cls S n == q % 4) else l := by
  induction bk generalizing ls with
  | nil => simp only [List.foldl_nil, List.filter_nil, List.append_nil, ite_self]; cases hh : ls[q]? <;> rfl
  | cons n r ih =>
    rw [List.foldl_cons, ih _ (by rw [home1_length]; exact hlen)]
    have hc := cls_lt S n
    unfold home1
    by_cases e : q = i * 4 + cls S n
    · subst e
      obtain ⟨l, hl⟩ := of_lt (show i * 4 + cls S n < ls.length by omega)
      rw [List.getElem?_set_self (by omega), getDL hl, hl]
      have e1 : (i * 4 + cls S n) / 4 = i := by omega
      have e2 : (i * 4 + cls S n) % 4 = cls S n := by omega
      simp [e1, e2]
    · rw [List.getElem?_set_ne (Ne.symm e)]
      by_cases e1 : q / 4 = i
      · have e2 : ¬ cls S n = q % 4 := by omega
        simp [e1, e2]
      · simp [e1]
theorem drainL_length (S : Shp) (i : Nat) (ls : List (List Nat)) : (drainL S i ls).length = ls.length := by simp [drainL, fold_length]
theorem drainL_get {S : Shp} {i : Nat} {ls : List (List Nat)} (hlen : i * 4 + 3 < ls.length) {bk : List Nat} (hbk : ls[i * 4 + 3]? = some bk) (q : Nat) :
    (drainL S i ls)[q]? = if q = i * 4 + 3 then some [] else ls[q]?.map fun l => if q / 4 = i then l ++ bk.filter (fun n => cls S n == q % 4) else l := by
  unfold drainL
  by_cases e : q = i * 4 + 3
  · subst e
    rw [if_pos rfl, List.getElem?_set_self (by rw [fold_length]; exact hlen)]
  · rw [if_neg e, List.getElem?_set_ne (Ne.symm e), getDL hbk, fold_home _ _ _ _ hlen]

theorem Inv.drain {S : Shp} {base : Nat} {σ : St} (h : Inv S base σ) {i : Nat} (hi : i < S.k) : Inv S base (drainSt S σ i) := by
  have hhl := h.hl
  obtain ⟨bk, hbk⟩ := of_lt (show i * 4 + 3 < σ.ls.length by omega)
  have hG := fun q => drainL_get (S := S) (show i * 4 + 3 < σ.ls.length by omega) hbk q
  have hB := fun n (hn : n ∈ bk) => h.backs hbk hn
  -- what a row is now
  have hrow : ∀ (q : Nat) (l : List Nat), (drainL S i σ.ls)[q]? = some l → (q = i * 4 + 3 ∧ l = []) ∨ (q ≠ i * 4 + 3 ∧ ∃ l1, σ.ls[q]? = some l1 ∧ l = if q / 4 = i then l1 ++ bk.filter (fun n => cls S n == q % 4) else l1) := by
    intro q l hq
    rw [hG] at hq
    by_cases e : q = i * 4 + 3
    · rw [if_pos e] at hq; cases hq; exact .inl ⟨e, rfl⟩
    · rw [if_neg e] at hq
      cases hl1 : σ.ls[q]? with
      | none => rw [hl1] at hq; cases hq
      | some l1 =>
        rw [hl1] at hq
        simp only [Option.map_some, Option.some.injEq] at hq
        exact .inr ⟨e, l1, rfl, hq.symm⟩
  refine ⟨by simp [drainSt, drainL_length, h.hl], h.htl, ?_, ?_, ?_, ?_, h.wds, h.wl⟩
  · intro q l hq
    rcases hrow q l hq with ⟨_, rfl⟩ | ⟨hne, l1, h1, rfl⟩
    · simp
    · by_cases e : q / 4 = i
      · rw [if_pos e, List.nodup_append]
        refine ⟨h.nd _ _ h1, (h.nd _ _ hbk).filter _, fun m hm m' hm' => ?_⟩
        rintro rfl
        simp only [List.mem_filter, beq_iff_eq] at hm'
        obtain ⟨a, z, c, hw, _, _⟩ := hB m hm'.1
        have := cls_of hw
        exact h.one m a z i c l1 bk hw (by rw [← h1]; congr 1; omega) hbk hm hm'.1
      · rw [if_neg e]; exact h.nd _ _ h1
  · intro q l hq m hm
    rcases hrow q l hq with ⟨_, rfl⟩ | ⟨hne, l1, h1, rfl⟩
    · cases hm
    · by_cases e : q / 4 = i
      · rw [if_pos e, List.mem_append] at hm
        rcases hm with hm | hm
        · exact h.row _ _ h1 m hm
        · simp only [List.mem_filter, beq_iff_eq] at hm
          obtain ⟨a, z, c, hw, ht, _⟩ := hB m hm.1
          have := cls_of hw
          exact ⟨a, z, i, c, hw, .inl (by omega), ht⟩
      · rw [if_neg e] at hm; exact h.row _ _ h1 m hm
  · intro m a z o c l l' hw hq hq' hm hm'
    rcases hrow _ l' hq' with ⟨_, rfl⟩ | ⟨hne, l1', h1', rfl⟩
    · cases hm'
    · have ho : o ≠ i := by rintro rfl; exact hne rfl
      rw [if_neg (by omega)] at hm'
      have hc := (whr_at hw).cls
      rcases hrow _ l hq with ⟨_, rfl⟩ | ⟨hne, l1, h1, rfl⟩
      · cases hm
      · rw [if_neg (by omega)] at hm
        exact h.one m a z o c l1 l1' hw h1 h1' hm hm'
  · intro m a z o c l l' hw hq hq' ht
    have hc := (whr_at hw).cls
    rcases hrow _ l hq with ⟨e, rfl⟩ | ⟨hne, l1, h1, rfl⟩
    · omega
    · by_cases ho : o = i
      · subst ho
        rw [if_pos (by omega)]
        rcases h.fr m a z o c l1 bk hw h1 hbk ht with hm | hm
        · exact .inl (by simp [hm])
        · refine .inl ?_
          simp only [List.mem_append, List.mem_filter, beq_iff_eq]
          exact .inr ⟨hm, by rw [cls_of hw]; omega⟩
      · rcases hrow _ l' hq' with ⟨e, rfl⟩ | ⟨hne, l1', h1', rfl⟩
        · omega
        · rw [if_neg (by omega), if_neg (by omega)]
          exact h.fr m a z o c l1 l1' hw h1 h1' ht
end Go.Proofs.Ytichhieopnbgpaa
