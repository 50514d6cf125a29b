/-
  Plain data: each thing goes once; behind three rounds all have gone.
-/
import Derived.Test.YtjphmiemakmcbaaPureW
namespace Go.Proofs.Ytjphmiemakmcbaa
open Go.RowKit

/-- How often a thing is in limbo. -/
def cnt (ws : List Wk) (z : Int) : Nat := (ws.map fun q => (q.limbo.map Prod.fst).count z).sum
theorem cnt_set (z : Int) (r : Wk) : ∀ (ws : List Wk) (v : Nat) (q : Wk), ws[v]? = some q → cnt (ws.set v r) z + (q.limbo.map Prod.fst).count z = cnt ws z + (r.limbo.map Prod.fst).count z
  | [], v, q, h => by simp at h
  | a :: l, 0, q, h => by simp at h; subst h; simp [cnt]; omega
  | a :: l, v + 1, q, h => by
    have ih := cnt_set z r l v q (by simpa using h)
    simp [cnt] at ih ⊢
    omega
theorem sum_zero : ∀ (l : List Nat), (∀ x ∈ l, x = 0) → l.sum = 0
  | [], _ => rfl
  | a :: l, h => by rw [List.sum_cons, h a (by simp), sum_zero l (fun x hx => h x (by simp [hx]))]
theorem cnt_zero (ws : List Wk) (z : Int) (h : ∀ (v : Nat) (q : Wk), ws[v]? = some q → ∀ t ∈ q.limbo, t.1 ≠ z) : cnt ws z = 0 := by
  unfold cnt
  refine sum_zero _ ?_
  intro x hx
  obtain ⟨q, hq, rfl⟩ := List.mem_map.1 hx
  obtain ⟨v, hv⟩ := List.getElem?_of_mem hq
  rw [List.count_eq_zero]
  intro hm
  obtain ⟨t, ht, he⟩ := List.mem_map.1 hm
  exact h v q hv t ht he
theorem drop_all {α : Type} (p : α → Bool) : ∀ (l : List α), (∀ t ∈ l, p t = true) → l.dropWhile p = []
  | [], _ => rfl
  | a :: l, h => by rw [List.dropWhile_cons_of_pos (h a (by simp)), drop_all p l (fun t ht => h t (by simp [ht]))]
theorem cnt_fresh (n : Nat) (z : Int) : cnt (fresh n) z = 0 := cnt_zero _ _ (fun v q h t ht => by
  have := List.eq_of_mem_replicate (List.mem_of_getElem? h)
  subst this
  cases ht)
/-- Counting what goes. -/
def bump : List Int → List Int → List Int
  | t, [] => t
  | t, z :: g => bump (t.set z.toNat (t.getD z.toNat 0 + 1)) g
theorem bump_length : ∀ (g t : List Int), (bump t g).length = t.length
  | [], _ => rfl
  | z :: g, t => by rw [bump, bump_length g, List.length_set]
theorem bump_snoc : ∀ (g t : List Int) (z : Int), bump t (g ++ [z]) = (bump t g).set z.toNat ((bump t g).getD z.toNat 0 + 1)
  | [], _, _ => rfl
  | y :: g, t, z => by rw [List.cons_append, bump, bump, bump_snoc g]
theorem bump_get : ∀ (g t : List Int) (i : Nat) (z : Int), (∀ y ∈ g, 0 ≤ y) → t[i]? = some z → (bump t g)[i]? = some (z + (g.count (i : Int) : Nat))
  | [], t, i, z, _, h => by simp [bump, h]
  | y :: g, t, i, z, hg, h => by
    have hy := hg y (by simp)
    have hil : i < t.length := (List.getElem?_eq_some_iff.1 h).1
    rw [bump]
    by_cases hyi : y.toNat = i
    · have e : y = (i : Int) := by omega
      have := bump_get g (t.set y.toNat (t.getD y.toNat 0 + 1)) i (z + 1) (fun a ha => hg a (by simp [ha])) (by
        rw [hyi, List.getElem?_set, if_pos rfl, if_pos hil, List.getD_eq_getElem?_getD, h]; rfl)
      rw [this, List.count_cons, e]
      simp
      omega
    · have e : y ≠ (i : Int) := by omega
      have := bump_get g (t.set y.toNat (t.getD y.toNat 0 + 1)) i z (fun a ha => hg a (by simp [ha])) (by rw [List.getElem?_set_ne hyi]; exact h)
      rw [this, List.count_cons]
      simp [e]

structure JG (n k now : Nat) (ws : List Wk) (times : List Int) (many : Nat) : Prop where
  len : ws.length = n
  l2 : times.length = 200
  nk : now ≤ k
  mle : many ≤ k
  ann : ∀ (v : Nat) (q : Wk), ws[v]? = some q → (now : Int) - 1 ≤ q.ann ∧ q.ann ≤ now
  lag : ∃ (v : Nat) (q : Wk), ws[v]? = some q ∧ q.ann ≠ (now : Int)
  lim : ∀ (v : Nat) (q : Wk), ws[v]? = some q → q.limbo.length ≤ many
  th : ∀ (v : Nat) (q : Wk) (t : Int × Nat), ws[v]? = some q → t ∈ q.limbo → ∃ i : Nat, t.1 = (i : Int) ∧ i < many ∧ t.2 ≤ now
  one : ∀ i, i < many → ∃ z : Int, times[i]? = some z ∧ 0 ≤ z ∧ z + (cnt ws (i : Int) : Nat) = 1
  zer : ∀ i, many ≤ i → i < 200 → times[i]? = some 0

theorem JG.start (n : Nat) (h1 : 1 ≤ n) : JG n 0 0 (fresh n) (List.replicate 200 0) 0 := by
  have key : ∀ (v : Nat) (q : Wk), (fresh n)[v]? = some q → q = ⟨-1, []⟩ := fun v q h => List.eq_of_mem_replicate (List.mem_of_getElem? h)
  refine ⟨by simp [fresh], List.length_replicate, Nat.le_refl _, Nat.le_refl _, fun v q h => ?_, ⟨0, ⟨-1, []⟩, ?_, by decide⟩, fun v q h => ?_, fun v q t h ht => ?_, fun i hi => by omega, fun i _ hi => by rw [List.getElem?_replicate, if_pos hi]⟩
  · rw [key v q h]; decide
  · unfold fresh; rw [List.getElem?_replicate, if_pos (by omega)]
  · rw [key v q h]; simp
  · rw [key v q h] at ht; cases ht

theorem JG.retire {n k now : Nat} {ws : List Wk} {times : List Int} {many v : Nat} {q : Wk} (h : JG n k now ws times many) (hm : many < 200) (hq : ws[v]? = some q) :
    JG n (k + 1) now (ws.set v ⟨q.ann, q.limbo ++ [((many : Int), now)]⟩) times (many + 1) := by
  have hvl : v < ws.length := (List.getElem?_eq_some_iff.1 hq).1
  refine ⟨by rw [List.length_set]; exact h.len, h.l2, Nat.le_succ_of_le h.nk, Nat.succ_le_succ h.mle, fun u r hr => ?_, ?_, fun u r hr => ?_, fun u r t hr ht => ?_, fun i hi => ?_, fun i hi h2 => h.zer i (by omega) h2⟩
  · rcases set_at hr with ⟨rfl, rfl, _⟩ | ⟨_, hr⟩
    · exact h.ann _ q hq
    · exact h.ann u r hr
  · obtain ⟨u, r, hr, ha⟩ := h.lag
    by_cases huv : v = u
    · subst huv
      rw [hq] at hr
      injection hr with hr
      subst hr
      exact ⟨v, ⟨q.ann, q.limbo ++ [((many : Int), now)]⟩, by rw [List.getElem?_set, if_pos rfl, if_pos hvl], ha⟩
    · exact ⟨u, r, by rw [List.getElem?_set_ne huv]; exact hr, ha⟩
  · rcases set_at hr with ⟨rfl, rfl, _⟩ | ⟨_, hr⟩
    · have := h.lim _ q hq
      simp; exact this
    · exact Nat.le_succ_of_le (h.lim u r hr)
  · rcases set_at hr with ⟨rfl, rfl, _⟩ | ⟨_, hr⟩
    · have ht' : t ∈ q.limbo ++ [((many : Int), now)] := ht
      rw [List.mem_append, List.mem_singleton] at ht'
      rcases ht' with ht' | rfl
      · obtain ⟨i, e1, e2, e3⟩ := h.th _ q t hq ht'
        exact ⟨i, e1, by omega, e3⟩
      · exact ⟨many, rfl, by omega, Nat.le_refl _⟩
    · obtain ⟨i, e1, e2, e3⟩ := h.th u r t hr ht
      exact ⟨i, e1, by omega, e3⟩
  · have hc := cnt_set (i : Int) ⟨q.ann, q.limbo ++ [((many : Int), now)]⟩ ws v q hq
    rw [List.map_append, List.count_append] at hc
    by_cases him : i = many
    · subst him
      have h0 : cnt ws (i : Int) = 0 := cnt_zero _ _ (fun u r hr t ht he => by
        obtain ⟨j, e1, e2, _⟩ := h.th u r t hr ht
        omega)
      refine ⟨0, h.zer i (Nat.le_refl _) hm, Int.le_refl _, ?_⟩
      simp at hc
      omega
    · obtain ⟨z, hz, hz0, hz1⟩ := h.one i (by omega)
      refine ⟨z, hz, hz0, ?_⟩
      have : ([((many : Int), now)].map Prod.fst).count (i : Int) = 0 := by
        rw [List.count_eq_zero]
        simp
        omega
      omega

theorem JG.announce {n k now : Nat} {ws : List Wk} {times : List Int} {many v : Nat} {q : Wk} (h : JG n k now ws times many) (hq : ws[v]? = some q) :
    JG n (k + 1) (annN now ws v q) (annW (annN now ws v q) now ws v q) (bump times (annG (annN now ws v q) q)) many ∧
    ∀ g ∈ annG (annN now ws v q) q, ∃ i : Nat, g = (i : Int) ∧ i < many := by
  have hvn : v < ws.length := (List.getElem?_eq_some_iff.1 hq).1
  have hc := annN_cases now ws v q
  have hlag : ∃ (u : Nat) (r : Wk), (ws.set v ⟨(now : Int), q.limbo⟩)[u]? = some r ∧ r.ann ≠ (annN now ws v q : Int) := by
    unfold annN
    by_cases hb : (ws.set v ⟨(now : Int), q.limbo⟩).any (fun k => k.ann != (now : Int)) = true
    · rw [if_pos hb]
      obtain ⟨r, hr, ha⟩ := List.any_eq_true.1 hb
      obtain ⟨u, hu⟩ := List.getElem?_of_mem hr
      exact ⟨u, r, hu, by simpa using ha⟩
    · rw [if_neg hb]
      refine ⟨v, _, by rw [List.getElem?_set, if_pos rfl, if_pos hvn], ?_⟩
      show (now : Int) ≠ ((now + 1 : Nat) : Int)
      omega
  obtain ⟨n1, hn1⟩ : ∃ n1, n1 = annN now ws v q := ⟨_, rfl⟩
  rw [← hn1] at hc hlag ⊢
  have hle : now ≤ n1 ∧ n1 ≤ now + 1 := by rcases hc with h | h <;> omega
  have hdm : ∀ t, t ∈ q.limbo.dropWhile (rdy n1) → t ∈ q.limbo := fun t ht => (List.dropWhile_suffix _).subset ht
  have hgone : ∀ g ∈ annG n1 q, ∃ i : Nat, g = (i : Int) ∧ i < many := by
    intro g hg
    unfold annG at hg
    rw [List.mem_map] at hg
    obtain ⟨t, ht, rfl⟩ := hg
    obtain ⟨i, e1, e2, _⟩ := h.th v q t hq ((List.takeWhile_prefix _).subset ht)
    exact ⟨i, e1, e2⟩
  have hpos : ∀ y ∈ annG n1 q, (0 : Int) ≤ y := fun y hy => by obtain ⟨i, e, _⟩ := hgone y hy; omega
  refine ⟨⟨by unfold annW; rw [List.length_set]; exact h.len, by rw [bump_length]; exact h.l2, by have := h.nk; omega, Nat.le_succ_of_le h.mle, fun u r hr => ?_, ?_, fun u r hr => ?_, fun u r t hr ht => ?_, fun i hi => ?_, fun i hi h2 => ?_⟩, hgone⟩
  · unfold annW at hr
    rcases set_at hr with ⟨rfl, rfl, _⟩ | ⟨hu, hr⟩
    · show (n1 : Int) - 1 ≤ (now : Int) ∧ (now : Int) ≤ n1
      omega
    · have h1 := h.ann u r hr
      rcases hc with hc | ⟨hc, hall⟩
      · rw [hc]; exact h1
      · have h2 := hall u r (by rw [List.getElem?_set_ne (Ne.symm hu)]; exact hr)
        omega
  · obtain ⟨u, r, hr, ha⟩ := hlag
    rcases set_at hr with ⟨rfl, rfl, _⟩ | ⟨hu, hr⟩
    · exact ⟨u, ⟨(now : Int), q.limbo.dropWhile (rdy n1)⟩, by unfold annW; rw [List.getElem?_set, if_pos rfl, if_pos hvn], ha⟩
    · exact ⟨u, r, by unfold annW; rw [List.getElem?_set_ne (Ne.symm hu)]; exact hr, ha⟩
  · unfold annW at hr
    rcases set_at hr with ⟨rfl, rfl, _⟩ | ⟨_, hr⟩
    · have h1 := h.lim _ q hq
      have h2 := (List.dropWhile_suffix (rdy n1) (l := q.limbo)).length_le
      show (q.limbo.dropWhile (rdy n1)).length ≤ many
      omega
    · exact h.lim u r hr
  · unfold annW at hr
    rcases set_at hr with ⟨rfl, rfl, _⟩ | ⟨_, hr⟩
    · obtain ⟨i, e1, e2, e3⟩ := h.th _ q t hq (hdm t ht)
      exact ⟨i, e1, e2, by omega⟩
    · obtain ⟨i, e1, e2, e3⟩ := h.th u r t hr ht
      exact ⟨i, e1, e2, by omega⟩
  · obtain ⟨z, hz, hz0, hz1⟩ := h.one i hi
    refine ⟨_, bump_get _ _ i z hpos hz, by omega, ?_⟩
    have hcs := cnt_set (i : Int) ⟨(now : Int), q.limbo.dropWhile (rdy n1)⟩ ws v q hq
    have hsp : (q.limbo.map Prod.fst).count (i : Int) = (annG n1 q).count (i : Int) + ((q.limbo.dropWhile (rdy n1)).map Prod.fst).count (i : Int) := by
      unfold annG
      rw [← List.count_append, ← List.map_append, List.takeWhile_append_dropWhile]
    unfold annW
    have hcs' : cnt (ws.set v ⟨(now : Int), q.limbo.dropWhile (rdy n1)⟩) (i : Int) + (q.limbo.map Prod.fst).count (i : Int) = cnt ws (i : Int) + ((q.limbo.dropWhile (rdy n1)).map Prod.fst).count (i : Int) := hcs
    omega
  · rw [bump_get _ _ i 0 hpos (h.zer i hi h2)]
    have : (annG n1 q).count (i : Int) = 0 := by
      rw [List.count_eq_zero]
      intro hm
      obtain ⟨j, e, hj⟩ := hgone _ hm
      omega
    rw [this]
    rfl

/-- Behind so many announcings in turn, all things being of epoch N at most. -/
structure QG (n N j now : Nat) (ws : List Wk) : Prop where
  old : ∀ (v : Nat) (q : Wk) (t : Int × Nat), ws[v]? = some q → t ∈ q.limbo → t.2 ≤ N
  p1 : j < n → N + 1 ≤ now ∨ (now = N ∧ ∀ (v : Nat) (q : Wk), v < j → ws[v]? = some q → q.ann = (N : Int))
  n1 : n ≤ j → N + 1 ≤ now
  p2 : n ≤ j → j < 2 * n → N + 2 ≤ now ∨ (now = N + 1 ∧ ∀ (v : Nat) (q : Wk), v < j - n → ws[v]? = some q → q.ann = ((N + 1 : Nat) : Int))
  n2 : 2 * n ≤ j → N + 2 ≤ now
  emp : 2 * n ≤ j → ∀ (v : Nat) (q : Wk), v < j - 2 * n → ws[v]? = some q → q.limbo = []
theorem QG.start {n k now : Nat} {ws : List Wk} {times : List Int} {many : Nat} (h : JG n k now ws times many) (h1 : 1 ≤ n) : QG n now 0 now ws :=
  ⟨fun v q t hq ht => by obtain ⟨i, _, _, e⟩ := h.th v q t hq ht; exact e, fun _ => .inr ⟨rfl, fun v q hv _ => by omega⟩, fun h => by omega, fun h => by omega, fun h => by omega, fun h => by omega⟩

theorem QG.p {M j now v : Nat} {ws : List Wk} {q : Wk} (hv : v = j) (hq : ws[v]? = some q) (hp : M + 1 ≤ now ∨ (now = M ∧ ∀ (v : Nat) (q : Wk), v < j → ws[v]? = some q → q.ann = (M : Int))) :
    M + 1 ≤ annN now ws v q ∨ (annN now ws v q = M ∧ ∀ (u : Nat) (r : Wk), u < j + 1 → (annW (annN now ws v q) now ws v q)[u]? = some r → r.ann = (M : Int)) := by
  have hc := annN_cases now ws v q
  have hle : now ≤ annN now ws v q := by rcases hc with h | h <;> omega
  rcases hp with hp | ⟨hp, hall⟩
  · exact .inl (by omega)
  · subst hp
    rcases hc with hc | hc
    · refine .inr ⟨hc, fun u r hu hr => ?_⟩
      unfold annW at hr
      rcases set_at hr with ⟨rfl, rfl, _⟩ | ⟨hn, hr⟩
      · rfl
      · exact hall u r (by omega) hr
    · exact .inl (by omega)
theorem QG.full {n k M now : Nat} {ws : List Wk} {times : List Int} {many : Nat} (h : JG n k now ws times many) (hp : M + 1 ≤ now ∨ (now = M ∧ ∀ (v : Nat) (q : Wk), v < n → ws[v]? = some q → q.ann = (M : Int))) : M + 1 ≤ now := by
  rcases hp with hp | ⟨hp, hall⟩
  · exact hp
  · subst hp
    obtain ⟨v, q, hq, ha⟩ := h.lag
    exact absurd (hall v q (by rw [← h.len]; exact (List.getElem?_eq_some_iff.1 hq).1) hq) ha

theorem QG.next {n k N j now v : Nat} {ws : List Wk} {times' : List Int} {many : Nat} {q : Wk} (hQ : QG n N j now ws) (h1 : 1 ≤ n) (hj : j < 3 * n) (hv : v = j % n) (hq : ws[v]? = some q)
    (h' : JG n (k + 1) (annN now ws v q) (annW (annN now ws v q) now ws v q) times' many) : QG n N (j + 1) (annN now ws v q) (annW (annN now ws v q) now ws v q) := by
  have hc := annN_cases now ws v q
  have hle : now ≤ annN now ws v q := by rcases hc with h | h <;> omega
  have hdm : ∀ t, t ∈ q.limbo.dropWhile (rdy (annN now ws v q)) → t ∈ q.limbo := fun t ht => (List.dropWhile_suffix _).subset ht
  have hold : ∀ (u : Nat) (r : Wk) (t : Int × Nat), (annW (annN now ws v q) now ws v q)[u]? = some r → t ∈ r.limbo → t.2 ≤ N := by
    intro u r t hr ht
    unfold annW at hr
    rcases set_at hr with ⟨rfl, rfl, _⟩ | ⟨_, hr⟩
    · exact hQ.old _ q t hq (hdm t ht)
    · exact hQ.old u r t hr ht
  by_cases c1 : j < n
  · have hvj : v = j := by rw [hv]; exact Nat.mod_eq_of_lt c1
    have hp := QG.p hvj hq (hQ.p1 c1)
    by_cases c2 : j + 1 < n
    · exact ⟨hold, fun _ => hp, fun h => by omega, fun h => by omega, fun h => by omega, fun h => by omega⟩
    · have hf := QG.full h' (by rw [show n = j + 1 by omega]; exact hp)
      refine ⟨hold, fun h => by omega, fun _ => hf, fun _ _ => ?_, fun h => by omega, fun h => by omega⟩
      by_cases c3 : N + 2 ≤ annN now ws v q
      · exact .inl c3
      · exact .inr ⟨by omega, fun u r hu _ => by omega⟩
  · by_cases c2 : j < 2 * n
    · have hvj : v = j - n := by
        rw [hv, show j = (j - n) + n by omega, Nat.add_mod_right, Nat.add_sub_cancel]; exact Nat.mod_eq_of_lt (by omega)
      have hp := QG.p hvj hq (hQ.p2 (by omega) c2)
      rw [show j - n + 1 = j + 1 - n by omega] at hp
      by_cases c3 : j + 1 < 2 * n
      · exact ⟨hold, fun h => by omega, fun _ => by have := hQ.n1 (by omega); omega, fun _ _ => hp, fun h => by omega, fun h => by omega⟩
      · have hf := QG.full h' (by rw [show j + 1 - n = n by omega] at hp; exact hp)
        exact ⟨hold, fun h => by omega, fun _ => by omega, fun _ h => by omega, fun _ => hf, fun _ u r hu _ => by omega⟩
    · have hvj : v = j - 2 * n := by
        rw [hv, show j = (j - 2 * n) + n + n by omega, Nat.add_mod_right, Nat.add_mod_right, show j - 2 * n + n + n - 2 * n = j - 2 * n by omega]; exact Nat.mod_eq_of_lt (by omega)
      have h2 := hQ.n2 (by omega)
      refine ⟨hold, fun h => by omega, fun _ => by omega, fun _ h => by omega, fun _ => by omega, fun _ u r hu hr => ?_⟩
      unfold annW at hr
      rcases set_at hr with ⟨rfl, rfl, _⟩ | ⟨hn, hr⟩
      · show q.limbo.dropWhile (rdy (annN now ws u q)) = []
        refine drop_all _ _ ?_
        intro t ht
        have := hQ.old _ q t hq ht
        exact decide_eq_true (by omega)
      · exact hQ.emp (by omega) u r (by omega) hr
theorem QG.done {n k N now : Nat} {ws : List Wk} {times : List Int} {many : Nat} (hQ : QG n N (3 * n) now ws) (h : JG n k now ws times many) :
    (∀ (v : Nat) (q : Wk), ws[v]? = some q → q.limbo = []) ∧ ∀ i, i < many → times[i]? = some 1 := by
  have he : ∀ (v : Nat) (q : Wk), ws[v]? = some q → q.limbo = [] := fun v q hq => hQ.emp (by omega) v q (by have := (List.getElem?_eq_some_iff.1 hq).1; have := h.len; omega) hq
  refine ⟨he, fun i hi => ?_⟩
  obtain ⟨z, hz, _, h1⟩ := h.one i hi
  have h0 : cnt ws (i : Int) = 0 := cnt_zero _ _ (fun v q hq t ht => by rw [he v q hq] at ht; cases ht)
  rw [hz, show z = 1 by omega]
end Go.Proofs.Ytjphmiemakmcbaa
