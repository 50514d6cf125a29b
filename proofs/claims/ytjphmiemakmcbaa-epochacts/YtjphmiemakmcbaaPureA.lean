/-
  Plain data: package epoch's workers and the document's one row of things say the same.
-/
import Derived.Test.YtjphmiemakmcbaaEr2
namespace Go.Proofs.Ytjphmiemakmcbaa
open Go.RowKit

def thOf (t : Th) : Int × Nat := (t.2.1, t.2.2)
structure Rel (n now : Nat) (ws : List Wk) (anns : List Int) (L : List Th) : Prop where
  len : ws.length = n
  ann : anns = ws.map Wk.ann
  lim : ∀ (v : Nat) (q : Wk), ws[v]? = some q → q.limbo = (L.filter (fun t => t.1 == (v : Int))).map thOf
  srt : L.Pairwise (fun a b => a.2.2 ≤ b.2.2)
  ats : ∀ t ∈ L, t.2.2 ≤ now
  whs : ∀ t ∈ L, ∃ u : Nat, u < n ∧ t.1 = (u : Int)
theorem Rel.start (n : Nat) : Rel n 0 (fresh n) (List.replicate n (-1)) [] := by
  have key : ∀ (v : Nat) (q : Wk), (fresh n)[v]? = some q → q = ⟨-1, []⟩ := fun v q h => List.eq_of_mem_replicate (List.mem_of_getElem? h)
  refine ⟨by simp [fresh], by simp [fresh], fun v q h => by rw [key v q h]; rfl, List.Pairwise.nil, fun t h => absurd h (by simp), fun t h => absurd h (by simp)⟩

theorem sorted_while (n1 : Nat) : ∀ (l : List (Int × Nat)), l.Pairwise (fun a b => a.2 ≤ b.2) → l.takeWhile (rdy n1) = l.filter (rdy n1) ∧ l.dropWhile (rdy n1) = l.filter (fun t => !rdy n1 t)
  | [], _ => by simp
  | a :: l, h => by
    have ih := sorted_while n1 l h.of_cons
    cases hr : rdy n1 a with
    | true => simp [hr, ih.1, ih.2]
    | false =>
      have hall : ∀ t ∈ l, rdy n1 t = false := by
        intro t ht
        have h1 := (List.pairwise_cons.1 h).1 t ht
        have h2 := of_decide_eq_false hr
        exact decide_eq_false (by omega)
      have e1 : l.filter (rdy n1) = [] := by
        rw [List.filter_eq_nil_iff]
        intro t ht
        rw [hall t ht]; decide
      have e2 : l.filter (fun t => !rdy n1 t) = l := by
        rw [List.filter_eq_self]
        intro t ht
        rw [hall t ht]; rfl
      simp [hr, e1, e2]
theorem Rel.limS {n now : Nat} {ws : List Wk} {anns : List Int} {L : List Th} {v : Nat} {q : Wk} (h : Rel n now ws anns L) (hq : ws[v]? = some q) : q.limbo.Pairwise (fun a b => a.2 ≤ b.2) := by
  rw [h.lim v q hq, List.pairwise_map]
  exact h.srt.sublist List.filter_sublist

theorem Rel.retire {n now : Nat} {ws : List Wk} {anns : List Int} {L : List Th} {v : Nat} {q : Wk} (h : Rel n now ws anns L) (hq : ws[v]? = some q) (th : Int) :
    Rel n now (ws.set v ⟨q.ann, q.limbo ++ [(th, now)]⟩) anns (L ++ [((v : Int), th, now)]) := by
  have hvn : v < n := by rw [← h.len]; exact (List.getElem?_eq_some_iff.1 hq).1
  refine ⟨by rw [List.length_set]; exact h.len, ?_, fun u r hr => ?_, ?_, fun t ht => ?_, fun t ht => ?_⟩
  · rw [h.ann, List.map_set]
    apply List.ext_getElem?
    intro j
    rw [List.getElem?_set]
    by_cases hj : v = j
    · subst hj
      rw [if_pos rfl, if_pos (by rw [List.length_map, h.len]; exact hvn), List.getElem?_map, hq]
      rfl
    · rw [if_neg hj]
  · rcases set_at hr with ⟨rfl, rfl, _⟩ | ⟨hu, hr⟩
    · rw [List.filter_append, List.map_append, ← h.lim _ q hq]
      simp [thOf]
    · rw [List.filter_append, List.map_append, ← h.lim u r hr]
      have : ((v : Int) == (u : Int)) = false := by simp; omega
      simp [this]
  · rw [List.pairwise_append]
    refine ⟨h.srt, List.pairwise_singleton _ _, fun a ha b hb => ?_⟩
    rw [List.mem_singleton] at hb
    rw [hb]
    exact h.ats a ha
  · rw [List.mem_append, List.mem_singleton] at ht
    rcases ht with ht | rfl
    · exact h.ats t ht
    · exact Nat.le_refl _
  · rw [List.mem_append, List.mem_singleton] at ht
    rcases ht with ht | rfl
    · exact h.whs t ht
    · exact ⟨v, hvn, rfl⟩

theorem Rel.now {n now : Nat} {ws : List Wk} {anns : List Int} {L : List Th} {v : Nat} {q : Wk} (h : Rel n now ws anns L) : annN now ws v q = rN now anns v := by
  unfold annN rN
  have e : (anns.set v (now : Int)).all (fun a => a == (now : Int)) = !((ws.set v ⟨(now : Int), q.limbo⟩).any (fun k => k.ann != (now : Int))) := by
    rw [h.ann, ← List.map_set (f := Wk.ann) (a := (⟨(now : Int), q.limbo⟩ : Wk)), List.all_map, List.not_any_eq_all_not]
    congr 1
    funext k
    simp [bne]
  rw [e]
  cases (ws.set v ⟨(now : Int), q.limbo⟩).any (fun k => k.ann != (now : Int)) <;> rfl
theorem rp_eq (n1 : Nat) (v : Int) (L : List Th) : ((L.filter (fun t => t.1 == v)).map thOf).filter (rdy n1) = (L.filter (rp n1 v)).map thOf ∧ ((L.filter (fun t => t.1 == v)).map thOf).filter (fun t => !rdy n1 t) = ((L.filter (fun t => !rp n1 v t)).filter (fun t => t.1 == v)).map thOf := by
  constructor
  · rw [List.filter_map, List.filter_filter]
    congr 1
    apply List.filter_congr
    intro t _
    unfold rp rdy
    rw [Bool.and_comm]
    rfl
  · rw [List.filter_map, List.filter_filter, List.filter_filter]
    congr 1
    apply List.filter_congr
    intro t _
    show (!rdy n1 (thOf t) && (t.1 == v)) = ((t.1 == v) && !rp n1 v t)
    unfold rp
    have : rdy n1 (thOf t) = decide (t.2.2 + 2 ≤ n1) := rfl
    rw [this]
    cases t.1 == v <;> cases decide (t.2.2 + 2 ≤ n1) <;> rfl
theorem Rel.gone {n now : Nat} {ws : List Wk} {anns : List Int} {L : List Th} {v : Nat} {q : Wk} (h : Rel n now ws anns L) (hq : ws[v]? = some q) (n1 : Nat) : annG n1 q = rOut n1 (v : Int) L := by
  unfold annG rOut
  rw [(sorted_while n1 _ (h.limS hq)).1, h.lim v q hq, (rp_eq n1 (v : Int) L).1, List.map_map]
  rfl
theorem Rel.next {n now : Nat} {ws : List Wk} {anns : List Int} {L : List Th} {v : Nat} {q : Wk} (h : Rel n now ws anns L) (hq : ws[v]? = some q) (n1 : Nat) (hn1 : now ≤ n1) :
    Rel n n1 (annW n1 now ws v q) (anns.set v (now : Int)) (rLeft n1 (v : Int) L) := by
  unfold annW rLeft
  refine ⟨by rw [List.length_set]; exact h.len, ?_, fun u r hr => ?_, h.srt.sublist List.filter_sublist, fun t ht => ?_, fun t ht => h.whs t (List.mem_filter.1 ht).1⟩
  · rw [h.ann, List.map_set]
  · rcases set_at hr with ⟨rfl, rfl, _⟩ | ⟨hu, hr⟩
    · show q.limbo.dropWhile (rdy n1) = _
      rw [(sorted_while n1 _ (h.limS hq)).2, h.lim _ q hq, (rp_eq n1 _ L).2]
    · rw [h.lim u r hr]
      congr 1
      rw [List.filter_filter]
      apply List.filter_congr
      intro t _
      unfold rp
      by_cases htu : t.1 = (u : Int)
      · have : (t.1 == (v : Int)) = false := by rw [htu]; simp; omega
        rw [this]; simp
      · have : (t.1 == (u : Int)) = false := by simp [htu]
        rw [this]; rfl
  · exact Nat.le_trans (h.ats t (List.mem_filter.1 ht).1) hn1
theorem Rel.out {n now : Nat} {ws : List Wk} {anns : List Int} {L : List Th} (h : Rel n now ws anns L) (i : Int) (hi : i < 0 ∨ (n : Int) ≤ i) : L.filter (fun t => t.1 == i) = [] := by
  rw [List.filter_eq_nil_iff]
  intro t ht
  obtain ⟨u, hu, e⟩ := h.whs t ht
  simp
  omega
/-- The program's Limbo, in the document's words. -/
theorem limbo_rel (w : World) (base x now n : Nat) (ws : List Wk) (anns : List Int) (L : List Th) (hE : EpAt w base x now ws) (h : Rel n now ws anns L) (i : Int) :
    Calls Try.prog 16 #[.pointer (some ⟨x, 0, none⟩), .int .i64 i] w fun e w' => e = .returned (.int .i64 ((L.filter (fun t => t.1 == i)).length : Int)) ∧ w' = w := by
  by_cases hi : i < 0 ∨ (n : Int) ≤ i
  · have := limbo_out w base x now ws hE i (by rw [h.len]; exact hi)
    rw [h.out i hi]
    exact this
  · obtain ⟨u, rfl⟩ : ∃ u : Nat, i = u := ⟨i.toNat, by omega⟩
    obtain ⟨q, hq⟩ := get_lt (l := ws) (i := u) (by rw [h.len]; omega)
    have := limbo_at w base x now ws hE u q hq
    rw [h.lim u q hq, List.length_map] at this
    exact this
theorem annN_le (now : Nat) (ws : List Wk) (v : Nat) (q : Wk) : now ≤ annN now ws v q ∧ annN now ws v q ≤ now + 1 := by
  rcases annN_cases now ws v q with h | h <;> omega
end Go.Proofs.Ytjphmiemakmcbaa
