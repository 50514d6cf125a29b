/-
  Plain data: what a worker is told is what it retired, in order; an array of six bytes that came in.
-/
import Derived.Test.YtjphmiemakmcbaaPureG
import Derived.Test.YtjphmiemakmcbaaEa
namespace Go.Proofs.Ytjphmiemakmcbaa
open Go.RowKit Go.ChangeShapes Go.WideShapes

theorem array6 {α : Type} {cs : Array α} (h : cs.size = 6) : ∃ c0 c1 c2 c3 c4 c5, cs = #[c0, c1, c2, c3, c4, c5] := by
  obtain ⟨l⟩ := cs
  match l, h with
  | [c0, c1, c2, c3, c4, c5], _ => exact ⟨c0, c1, c2, c3, c4, c5, rfl⟩
def bc (ms : List Nat) : List Value := ms.map fun (m : Nat) => Value.int .u8 (m : Int)
section
variable {H : Type} {enc : TypeId × Value → H} {w : World} {base : Nat} {spare : Nat → Bool} {held : Bool}
theorem open_six {r : Reach} {b0 : Nat} {v : Value} {d : DataW H} {p : List MemPlace} (hv : Value.okWide Try.prog w r b0 50 v) (h : DataW.Trod enc Try.prog w base spare held 50 v d p) :
    ∃ ms : List Nat, ms.length = 6 ∧ (∀ m ∈ ms, m < 256) ∧ v = .agg (bc ms).toArray := by
  simp only [Value.okWide, Try.underlying50] at hv
  obtain ⟨cs, rfl, h2, _⟩ := hv
  have hC : Try.prog.cellsOf 50 = 6 := by kernel_rfl
  have hC1 : Try.prog.cellsOf 5 = 1 := by kernel_rfl
  rw [hC] at h2
  obtain ⟨c0, c1, c2, c3, c4, c5, rfl⟩ := array6 h2
  obtain ⟨fuel, hf⟩ := h
  obtain ⟨xs, m, _, _, _, hxl, hi⟩ := DataW.trod_array Try.underlying50 hf
  rw [hC1] at hi
  have key : ∀ (j : Nat) (c : Value), j < 6 → (([c0, c1, c2, c3, c4, c5] : List Value).drop (j * 1)).take 1 = [c] → ∃ z : Nat, c = .int .u8 (z : Int) ∧ z < 256 := by
    intro j c hj hc
    have h1 := hi j hj
    simp only [Value.cells] at h1
    rw [hc, List.getElem?_eq_getElem (by omega)] at h1
    obtain ⟨z, e0, _, wz⟩ := DataW.trod_int Try.underlying5 h1
    simp at e0
    obtain ⟨a, rfl, ha⟩ := bounds8 wz
    exact ⟨a, e0, ha⟩
  obtain ⟨z0, rfl, q0⟩ := key 0 c0 (by decide) rfl
  obtain ⟨z1, rfl, q1⟩ := key 1 c1 (by decide) rfl
  obtain ⟨z2, rfl, q2⟩ := key 2 c2 (by decide) rfl
  obtain ⟨z3, rfl, q3⟩ := key 3 c3 (by decide) rfl
  obtain ⟨z4, rfl, q4⟩ := key 4 c4 (by decide) rfl
  obtain ⟨z5, rfl, q5⟩ := key 5 c5 (by decide) rfl
  refine ⟨[z0, z1, z2, z3, z4, z5], rfl, ?_, rfl⟩
  intro m hm
  simp at hm
  rcases hm with rfl | rfl | rfl | rfl | rfl | rfl <;> assumption
end

/-- So many things a worker retires. -/
def mmF (ms : List Nat) (v : Nat) : Nat := ms.getD v 0 % 30
theorem mmF_lt (ms : List Nat) (v : Nat) : mmF ms v < 30 := Nat.mod_lt _ (by decide)
def thsF (v k : Nat) : List (Int × Nat) := (List.range k).map fun (j : Nat) => (100 * (v : Int) + (j : Int), 0)
theorem thsF_succ (v k : Nat) : thsF v (k + 1) = thsF v k ++ [(100 * (v : Int) + (k : Int), 0)] := by simp [thsF, List.range_succ]
theorem thsF_len (v k : Nat) : (thsF v k).length = k := by simp [thsF]
/-- So far the retiring has come. -/
structure RO (n wv i : Nat) (ms : List Nat) (ws : List Wk) : Prop where
  len : ws.length = n
  all : ∀ (v : Nat) (q : Wk), ws[v]? = some q → q.ann = -1 ∧ q.limbo = thsF v (if v < wv then mmF ms v else if v = wv then i else 0)
theorem RO.start (n : Nat) (ms : List Nat) : RO n 0 0 ms (fresh n) := ⟨by simp [fresh], fun v q h => by
  have := List.eq_of_mem_replicate (List.mem_of_getElem? h)
  subst this
  refine ⟨rfl, ?_⟩
  rw [if_neg (by omega)]
  split <;> rfl⟩
theorem RO.step {n wv i : Nat} {ms : List Nat} {ws : List Wk} {q : Wk} (h : RO n wv i ms ws) (hq : ws[wv]? = some q) : RO n wv (i + 1) ms (ws.set wv ⟨q.ann, q.limbo ++ [(100 * (wv : Int) + (i : Int), 0)]⟩) := by
  have h0 := h.all wv q hq
  refine ⟨by rw [List.length_set]; exact h.len, fun v r hr => ?_⟩
  rcases set_at hr with ⟨rfl, rfl, _⟩ | ⟨hv, hr⟩
  · refine ⟨h0.1, ?_⟩
    show q.limbo ++ _ = _
    rw [h0.2, if_neg (by omega), if_pos rfl, if_neg (by omega), if_pos rfl, thsF_succ]
  · have h1 := h.all v r hr
    refine ⟨h1.1, h1.2.trans ?_⟩
    by_cases hvw : v < wv
    · rw [if_pos hvw, if_pos hvw]
    · rw [if_neg hvw, if_neg hvw, if_neg hv, if_neg hv]
theorem RO.turn {n wv : Nat} {ms : List Nat} {ws : List Wk} (h : RO n wv (mmF ms wv) ms ws) : RO n (wv + 1) 0 ms ws := by
  refine ⟨h.len, fun v q hq => ?_⟩
  have h1 := h.all v q hq
  refine ⟨h1.1, h1.2.trans ?_⟩
  by_cases hv : v < wv
  · rw [if_pos hv, if_pos (by omega)]
  · rw [if_neg hv]
    by_cases hv2 : v = wv
    · subst hv2
      rw [if_pos rfl, if_pos (Nat.lt_succ_self v)]
    · rw [if_neg hv2, if_neg (show ¬ v < wv + 1 by omega)]
      split <;> rfl

/-- What is told, and what is left, make all. -/
structure JO (n now : Nat) (ws : List Wk) (ms : List Nat) (got : List (List Int)) : Prop where
  len : ws.length = n
  l6 : got.length = 6
  lag : ∃ (v : Nat) (q : Wk), ws[v]? = some q ∧ q.ann ≠ (now : Int)
  con : ∀ (v : Nat) (q : Wk) (g : List Int), ws[v]? = some q → got[v]? = some g → g ++ q.limbo.map Prod.fst = (thsF v (mmF ms v)).map Prod.fst
  lim : ∀ (v : Nat) (q : Wk), ws[v]? = some q → q.limbo.length ≤ 30
theorem JO.start {n : Nat} {ms : List Nat} {ws : List Wk} (h : RO n n 0 ms ws) (h1 : 1 ≤ n) (h6 : n ≤ 6) : JO n 0 ws ms [[], [], [], [], [], []] := by
  have hall : ∀ (v : Nat) (q : Wk), ws[v]? = some q → q.ann = -1 ∧ q.limbo = thsF v (mmF ms v) := fun v q hq => by
    have h2 := h.all v q hq
    rw [if_pos (by have := (List.getElem?_eq_some_iff.1 hq).1; have := h.len; omega)] at h2
    exact h2
  refine ⟨h.len, rfl, ?_, fun v q g hq hg => ?_, fun v q hq => ?_⟩
  · obtain ⟨q, hq⟩ := get_lt (l := ws) (i := 0) (by rw [h.len]; omega)
    exact ⟨0, q, hq, by rw [(hall 0 q hq).1]; decide⟩
  · have hg' : g = [] := by
      have hv6 : v < 6 := by have := (List.getElem?_eq_some_iff.1 hq).1; have := h.len; omega
      have : ∀ g ∈ ([[], [], [], [], [], []] : List (List Int)), g = [] := by simp
      exact this g (List.mem_of_getElem? hg)
    rw [hg', (hall v q hq).2]
    rfl
  · rw [(hall v q hq).2, thsF_len]
    exact Nat.le_of_lt (mmF_lt ms v)
theorem lag_next {now : Nat} {ws : List Wk} {v : Nat} {q : Wk} (hq : ws[v]? = some q) : ∃ (u : Nat) (r : Wk), (annW (annN now ws v q) now ws v q)[u]? = some r ∧ r.ann ≠ (annN now ws v q : Int) := by
  have hvn : v < ws.length := (List.getElem?_eq_some_iff.1 hq).1
  have hlag : ∃ (u : Nat) (r : Wk), (ws.set v ⟨(now : Int), q.limbo⟩)[u]? = some r ∧ r.ann ≠ (annN now ws v q : Int) := by
    unfold annN
    by_cases hb : (ws.set v ⟨(now : Int), q.limbo⟩).any (fun k => k.ann != (now : Int)) = true
    · rw [if_pos hb]
      obtain ⟨r, hr, ha⟩ := List.any_eq_true.1 hb
      obtain ⟨u, hu⟩ := List.getElem?_of_mem hr
      exact ⟨u, r, hu, by simpa using ha⟩
    · rw [if_neg hb]
      refine ⟨v, _, by rw [List.getElem?_set, if_pos rfl, if_pos hvn], ?_⟩
      show (now : Int) ≠ ((now + 1 : Nat) : Int)
      omega
  obtain ⟨u, r, hr, ha⟩ := hlag
  unfold annW
  rcases set_at hr with ⟨rfl, rfl, _⟩ | ⟨hu, hr⟩
  · exact ⟨u, ⟨(now : Int), q.limbo.dropWhile (rdy (annN now ws u q))⟩, by rw [List.getElem?_set, if_pos rfl, if_pos hvn], ha⟩
  · exact ⟨u, r, by rw [List.getElem?_set_ne (Ne.symm hu)]; exact hr, ha⟩
theorem JO.next {n now : Nat} {ws : List Wk} {ms : List Nat} {got : List (List Int)} {v : Nat} {q : Wk} {g : List Int} (h : JO n now ws ms got) (hq : ws[v]? = some q) (hg : got[v]? = some g) :
    JO n (annN now ws v q) (annW (annN now ws v q) now ws v q) ms (got.set v (g ++ annG (annN now ws v q) q)) := by
  refine ⟨by unfold annW; rw [List.length_set]; exact h.len, by rw [List.length_set]; exact h.l6, lag_next hq, fun u r g' hr hg' => ?_, fun u r hr => ?_⟩
  · unfold annW at hr
    rcases set_at hg' with ⟨rfl, rfl, _⟩ | ⟨hu, hg'⟩
    · rcases set_at hr with ⟨_, rfl, _⟩ | ⟨hn, _⟩
      · rw [← h.con u q g hq hg, List.append_assoc]
        congr 1
        unfold annG
        rw [← List.map_append, List.takeWhile_append_dropWhile]
      · exact absurd rfl hn
    · rw [List.getElem?_set_ne (Ne.symm hu)] at hr
      exact h.con u r g' hr hg'
  · unfold annW at hr
    rcases set_at hr with ⟨rfl, rfl, _⟩ | ⟨_, hr⟩
    · have h1 := h.lim _ q hq
      have h2 := (List.dropWhile_suffix (rdy (annN now ws u q)) (l := q.limbo)).length_le
      show (q.limbo.dropWhile (rdy (annN now ws u q))).length ≤ 30
      omega
    · exact h.lim u r hr
theorem QO.start {n : Nat} {ms : List Nat} {ws : List Wk} (h : RO n n 0 ms ws) (h1 : 1 ≤ n) : QG n 0 0 0 ws :=
  ⟨fun v q t hq ht => by
    have h2 := (h.all v q hq).2
    rw [h2] at ht
    unfold thsF at ht
    obtain ⟨j, _, rfl⟩ := List.mem_map.1 ht
    exact Nat.le_refl _, fun _ => .inr ⟨rfl, fun v q hv _ => by omega⟩, fun h => by omega, fun h => by omega, fun h => by omega, fun h => by omega⟩
theorem QO.full {n M now : Nat} {ws : List Wk} (hlen : ws.length = n) (hlag : ∃ (v : Nat) (q : Wk), ws[v]? = some q ∧ q.ann ≠ (now : Int)) (hp : M + 1 ≤ now ∨ (now = M ∧ ∀ (v : Nat) (q : Wk), v < n → ws[v]? = some q → q.ann = (M : Int))) : M + 1 ≤ now := by
  rcases hp with hp | ⟨hp, hall⟩
  · exact hp
  · subst hp
    obtain ⟨v, q, hq, ha⟩ := hlag
    exact absurd (hall v q (by rw [← hlen]; exact (List.getElem?_eq_some_iff.1 hq).1) hq) ha
theorem QO.next {n N j now v : Nat} {ws : List Wk} {q : Wk} (hQ : QG n N j now ws) (h1 : 1 ≤ n) (hj : j < 3 * n) (hv : v = j % n) (hq : ws[v]? = some q)
    (hlen : ws.length = n) : QG n N (j + 1) (annN now ws v q) (annW (annN now ws v q) now ws v q) := by
  have hc := annN_cases now ws v q
  have hle : now ≤ annN now ws v q := by rcases hc with h | h <;> omega
  have hdm : ∀ t, t ∈ q.limbo.dropWhile (rdy (annN now ws v q)) → t ∈ q.limbo := fun t ht => (List.dropWhile_suffix _).subset ht
  have hold : ∀ (u : Nat) (r : Wk) (t : Int × Nat), (annW (annN now ws v q) now ws v q)[u]? = some r → t ∈ r.limbo → t.2 ≤ N := by
    intro u r t hr ht
    unfold annW at hr
    rcases set_at hr with ⟨rfl, rfl, _⟩ | ⟨_, hr⟩
    · exact hQ.old _ q t hq (hdm t ht)
    · exact hQ.old u r t hr ht
  by_cases c1 : j < n
  · have hvj : v = j := by rw [hv]; exact Nat.mod_eq_of_lt c1
    have hp := QG.p hvj hq (hQ.p1 c1)
    by_cases c2 : j + 1 < n
    · exact ⟨hold, fun _ => hp, fun h => by omega, fun h => by omega, fun h => by omega, fun h => by omega⟩
    · have hf := QO.full (n := n) (by unfold annW; rw [List.length_set]; exact hlen) (lag_next hq) (by rw [show n = j + 1 by omega]; exact hp)
      refine ⟨hold, fun h => by omega, fun _ => hf, fun _ _ => ?_, fun h => by omega, fun h => by omega⟩
      by_cases c3 : N + 2 ≤ annN now ws v q
      · exact .inl c3
      · exact .inr ⟨by omega, fun u r hu _ => by omega⟩
  · by_cases c2 : j < 2 * n
    · have hvj : v = j - n := by
        rw [hv, show j = (j - n) + n by omega, Nat.add_mod_right, Nat.add_sub_cancel]; exact Nat.mod_eq_of_lt (by omega)
      have hp := QG.p hvj hq (hQ.p2 (by omega) c2)
      rw [show j - n + 1 = j + 1 - n by omega] at hp
      by_cases c3 : j + 1 < 2 * n
      · exact ⟨hold, fun h => by omega, fun _ => by have := hQ.n1 (by omega); omega, fun _ _ => hp, fun h => by omega, fun h => by omega⟩
      · have hf := QO.full (n := n) (by unfold annW; rw [List.length_set]; exact hlen) (lag_next hq) (by rw [show j + 1 - n = n by omega] at hp; exact hp)
        exact ⟨hold, fun h => by omega, fun _ => by omega, fun _ h => by omega, fun _ => hf, fun _ u r hu _ => by omega⟩
    · have hvj : v = j - 2 * n := by
        rw [hv, show j = (j - 2 * n) + n + n by omega, Nat.add_mod_right, Nat.add_mod_right, show j - 2 * n + n + n - 2 * n = j - 2 * n by omega]; exact Nat.mod_eq_of_lt (by omega)
      have h2 := hQ.n2 (by omega)
      refine ⟨hold, fun h => by omega, fun _ => by omega, fun _ h => by omega, fun _ => by omega, fun _ u r hu hr => ?_⟩
      unfold annW at hr
      rcases set_at hr with ⟨rfl, rfl, _⟩ | ⟨hn, hr⟩
      · show q.limbo.dropWhile (rdy (annN now ws u q)) = []
        refine drop_all _ _ ?_
        intro t ht
        have := hQ.old _ q t hq ht
        exact decide_eq_true (by omega)
      · exact hQ.emp (by omega) u r (by omega) hr
theorem JO.done {n now N : Nat} {ws : List Wk} {ms : List Nat} {got : List (List Int)} (h : JO n now ws ms got) (hQ : QG n N (3 * n) now ws) : ∀ (v : Nat) (g : List Int), v < n → got[v]? = some g → g = (thsF v (mmF ms v)).map Prod.fst := by
  intro v g hv hg
  obtain ⟨q, hq⟩ := get_lt (l := ws) (i := v) (by rw [h.len]; exact hv)
  have he := hQ.emp (by omega) v q (by omega) hq
  have hc := h.con v q g hq hg
  rw [he] at hc
  simpa using hc
end Go.Proofs.Ytjphmiemakmcbaa
