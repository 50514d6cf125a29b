/-
  Two thieves of one deque that go move by move together: who comes first, and who comes too late.
-/
import Derived.Test.YtfcboacmailfiaaDq17
import Derived.Test.YtfcboacmailfiaaDq14
namespace Go.Proofs.Ytfcboacmailfiaa
open Go.RowKit

/-- A steal of y of N moves, in the memory ws; whoever's last move comes first makes it ws'. -/
structure Race (k : Nat) (ty : TypeId) (room : Nat) (ws ws' : List (Bool × Int)) (y : Int) (N : Nat) (st : Nat → Nat → OpV) (vy vn : Nat → OpV) : Prop where
  h0 : st 0 = op0 k 0 room "haymow/deque.steal" ty true 0
  N1 : 1 ≤ N ∧ N ≤ 4
  go : ∀ i, i + 1 < N → MoveOK (st i) ws (st (i + 1)) ws false
  yes : MoveOK (st (N - 1)) ws vy ws' true
  no : MoveOK (st (N - 1)) ws' vn ws' true
  ey : ∀ o, endR (vy o) = (y, 0)
  en : ∀ o, endR (vn o) = (0, 10)
  ny : ∀ o, (vy o).next = .nilFunc
  nn : ∀ o, (vn o).next = .nilFunc

theorem ex_race (room : Nat) (ws : List (Bool × Int)) (t q : Nat) (htl : t < 1152921504606846976) (hq : t % 65536 = q) (h1 : ws[0 + 1]? = some (true, (t : Int))) (E : Nat) (n : Int) (h0 : ws[0]? = some (true, (E : Int))) (hm : q < E) (h2 : ws[0 + 2 + q]? = some (true, n)) :
    ∃ st vy vn, Race 1 94 room ws (ws.set (0 + 1) (true, ((t + 1 : Nat) : Int))) n 4 st vy vn := by
  have hl1 := (List.getElem?_eq_some_iff.1 h1).1
  refine ⟨fun i o => if i = 0 then op0 1 0 room "haymow/deque.steal" 94 true 0 o else if i = 1 then { op0 1 0 room "haymow/deque.steal" 94 true 0 o with t := (t : Int), next := mv 68 o, how := 0, ended := false } else if i = 2 then { op0 1 0 room "haymow/deque.steal" 94 true 0 o with t := (t : Int), next := mv 75 o, how := 0, ended := false } else { op0 1 0 room "haymow/deque.steal" 94 true 0 o with t := (t : Int), num := n, next := mv 80 o, how := 0, ended := false }, fun o => { op0 1 0 room "haymow/deque.steal" 94 true 0 o with t := (t : Int), num := n, next := .nilFunc, how := 0, ended := true }, fun o => { op0 1 0 room "haymow/deque.steal" 94 true 0 o with t := (t : Int), num := n, next := .nilFunc, how := 10, ended := true }, rfl, by decide, fun i hi => ?_, ?_, ?_, fun _ => rfl, fun _ => rfl, fun _ => rfl, fun _ => rfl⟩
  · have : i = 0 ∨ i = 1 ∨ i = 2 := by omega
    rcases this with rfl | rfl | rfl
    · intro w o p s b hO hM hb
      exact begin_go w o p s _ _ _ b hO 62 ex_steal_own 68 "haymow/deque.steal" 94 ex_steal_rule rfl 0 (ex_steal w o p s _ _ b hO hM hb 0 rfl (by decide) (t : Int) h1)
    · intro w o p s b hO hM hb
      exact move_go w o p s _ _ _ b hO 68 ex_stealLooks_own 75 rfl 0 (ex_stealLooks_go w o p s _ _ b hO hM hb 0 rfl (by decide) t rfl htl q hq E h0 hm)
    · intro w o p s b hO hM hb
      exact move_go w o p s _ _ _ b hO 75 ex_stealFinds_own 80 rfl 0 (ex_stealFinds w o p s _ _ b hO hM hb 0 rfl (by decide) t rfl htl q hq n h2)
  · intro w o p s b hO hM hb
    exact move_end w o p s _ _ _ b hO 80 ex_stealRaces_own rfl 0 (ex_stealRaces_yes w o p s _ _ b hO hM hb 0 rfl (by decide) t rfl htl (t : Int) h1 rfl)
  · intro w o p s b hO hM hb
    exact move_end w o p s _ _ _ b hO 80 ex_stealRaces_own rfl 10 (ex_stealRaces_no w o p s _ _ b hO hM hb 0 rfl (by decide) t rfl htl ((t + 1 : Nat) : Int) (by rw [List.getElem?_set_self hl1]) (by show ¬ ((t + 1 : Nat) : Int) = (t : Int); omega))

theorem la_race (room : Nat) (ws : List (Bool × Int)) (t q : Nat) (htl : t < 1152921504606846976) (hq : t % 65536 = q) (h1 : ws[0 + 1]? = some (true, (t : Int))) (j : Nat) (hj : j + 1 = q) (n : Int) (h2 : ws[0 + 2 + j]? = some (true, n)) :
    ∃ st vy vn, Race 2 95 room ws (ws.set (0 + 1) (true, ((t : Int) - 1))) n 3 st vy vn := by
  have hl1 := (List.getElem?_eq_some_iff.1 h1).1
  refine ⟨fun i o => if i = 0 then op0 2 0 room "haymow/deque.steal" 95 true 0 o else if i = 1 then { op0 2 0 room "haymow/deque.steal" 95 true 0 o with final := mv 94 o, t := (t : Int), next := mv 95 o, how := 0, ended := false } else { op0 2 0 room "haymow/deque.steal" 95 true 0 o with final := mv 94 o, t := (t : Int), num := n, next := mv 94 o, how := 0, ended := false }, fun o => { op0 2 0 room "haymow/deque.steal" 95 true 0 o with final := mv 94 o, t := (t : Int), num := n, next := .nilFunc, how := 0, ended := true }, fun o => { op0 2 0 room "haymow/deque.steal" 95 true 0 o with final := mv 94 o, t := (t : Int), num := n, next := .nilFunc, how := 10, ended := true }, rfl, by decide, fun i hi => ?_, ?_, ?_, fun _ => rfl, fun _ => rfl, fun _ => rfl, fun _ => rfl⟩
  · have : i = 0 ∨ i = 1 := by omega
    rcases this with rfl | rfl
    · intro w o p s b hO hM hb
      exact begin_go w o p s _ _ _ b hO 90 la_steal_own 95 "haymow/deque.steal" 95 la_steal_rule rfl 0 (la_steal_go w o p s _ _ b hO hM hb 0 rfl (by decide) t htl q hq h1 (by omega))
    · intro w o p s b hO hM hb
      exact move_go w o p s _ _ _ b hO 95 la_takeFinds_own 94 rfl 0 (la_takeFinds w o p s _ _ b hO hM hb 0 rfl (by decide) t rfl htl q hq j hj n h2)
  · intro w o p s b hO hM hb
    exact move_end w o p s _ _ _ b hO 94 la_stealRaces_own rfl 0 (la_stealRaces_yes w o p s _ _ b hO hM hb 0 rfl (by decide) t rfl htl (t : Int) h1 rfl)
  · intro w o p s b hO hM hb
    exact move_end w o p s _ _ _ b hO 94 la_stealRaces_own rfl 10 (la_stealRaces_no w o p s _ _ b hO hM hb 0 rfl (by decide) t rfl htl ((t : Int) - 1) (by rw [List.getElem?_set_self hl1]) (by show ¬ ((t : Int) - 1) = (t : Int); omega))

theorem fi_race (room : Nat) (ws : List (Bool × Int)) (hr0 : 0 < room) (hr1 : room ≤ 1000) (t : Nat) (htl : t < 1152921504606846976) (h1 : ws[0 + 1]? = some (true, (t : Int))) (E : Nat) (h0 : ws[0]? = some (true, (E : Int))) (hm : t < E) (q : Nat) (hq : t % room = q) (n : Int) (h2 : ws[0 + 2 + q]? = some (true, n)) :
    ∃ st vy vn, Race 3 96 room ws (ws.set (0 + 1) (true, ((t + 1 : Nat) : Int))) n 4 st vy vn := by
  have hl1 := (List.getElem?_eq_some_iff.1 h1).1
  refine ⟨fun i o => if i = 0 then op0 3 0 room "haymow/deque.steal" 96 true 0 o else if i = 1 then { op0 3 0 room "haymow/deque.steal" 96 true 0 o with final := mv 103 o, t := (t : Int), next := mv 101 o, how := 0, ended := false } else if i = 2 then { op0 3 0 room "haymow/deque.steal" 96 true 0 o with final := mv 103 o, t := (t : Int), next := mv 104 o, how := 0, ended := false } else { op0 3 0 room "haymow/deque.steal" 96 true 0 o with final := mv 103 o, t := (t : Int), num := n, next := mv 103 o, how := 0, ended := false }, fun o => { op0 3 0 room "haymow/deque.steal" 96 true 0 o with final := mv 103 o, t := (t : Int), num := n, next := .nilFunc, how := 0, ended := true }, fun o => { op0 3 0 room "haymow/deque.steal" 96 true 0 o with final := mv 103 o, t := (t : Int), num := n, next := .nilFunc, how := 10, ended := true }, rfl, by decide, fun i hi => ?_, ?_, ?_, fun _ => rfl, fun _ => rfl, fun _ => rfl, fun _ => rfl⟩
  · have : i = 0 ∨ i = 1 ∨ i = 2 := by omega
    rcases this with rfl | rfl | rfl
    · intro w o p s b hO hM hb
      exact begin_go w o p s _ _ _ b hO 99 fi_steal_own 101 "haymow/deque.steal" 96 fi_steal_rule rfl 0 (fi_steal w o p s _ _ b hO hM hb 0 rfl (by decide) (t : Int) h1)
    · intro w o p s b hO hM hb
      exact move_go w o p s _ _ _ b hO 101 fi_takeLooks_own 104 rfl 0 (fi_takeLooks_go w o p s _ _ b hO hM hb 0 rfl (by decide) t rfl E h0 hm)
    · intro w o p s b hO hM hb
      exact move_go w o p s _ _ _ b hO 104 fi_takeFinds_own 103 rfl 0 (fi_takeFinds w o p s _ _ b hO hM hb 0 rfl (by decide) room rfl hr0 hr1 t rfl q hq n h2)
  · intro w o p s b hO hM hb
    exact move_end w o p s _ _ _ b hO 103 fi_stealRaces_own rfl 0 (fi_stealRaces_yes w o p s _ _ b hO hM hb 0 rfl (by decide) t rfl htl (t : Int) h1 rfl)
  · intro w o p s b hO hM hb
    exact move_end w o p s _ _ _ b hO 103 fi_stealRaces_own rfl 10 (fi_stealRaces_no w o p s _ _ b hO hM hb 0 rfl (by decide) t rfl htl ((t + 1 : Nat) : Int) (by rw [List.getElem?_set_self hl1]) (by show ¬ ((t + 1 : Nat) : Int) = (t : Int); omega))

/-- A race in a deque that is read as a list. -/
theorem race_any (k room : Nat) (hk1 : 1 ≤ k) (hk3 : k ≤ 3) (hr0 : 0 < room) (hr : room ≤ 1000) : ∃ ty, Alone k ty room ∧ AloneP k ty room ∧ ∀ (c : Nat) (ws : List (Bool × Int)) (y : Int) (r : List Int) (u : Nat), AK k room c ws (if k = 2 then r ++ [y] else y :: r) u → c ≤ 10000 → ∃ N st vy vn ws', Race k ty room ws ws' y N st vy vn ∧ AK k room (c + 1) ws' r u := by
  have : k = 1 ∨ k = 2 ∨ k = 3 := by omega
  rcases this with rfl | rfl | rfl
  · refine ⟨_, alone1 room hr, aloneP1 room hr, ?_⟩
    rintro c ws y r u ⟨t, h⟩ hc
    have h' : A1 room c ws (y :: r) u t := h
    have heu := h'.eu
    rw [List.length_cons] at heu
    have hur := h'.ur
    have htc := h'.tc
    have hy := h'.el 0 y rfl
    obtain ⟨st, vy, vn, hR⟩ := ex_race room ws t (t % 65536) (by omega) rfl h'.h1 u y h'.h0 (by omega) (by rw [show 0 + 2 + t % 65536 = 2 + (t % 65536 + 0) by omega]; exact hy)
    have hm : (t + 1) % 65536 = t % 65536 + 1 := by omega
    refine ⟨4, st, vy, vn, _, hR, t + 1, ?_, ?_, ?_, ?_, hur, h'.sl.set _ _, ?_⟩
    · rw [List.getElem?_set_ne (by omega)]; exact h'.h0
    · rw [List.getElem?_set_self (List.getElem?_eq_some_iff.1 h'.h1).1]
    · omega
    · omega
    · intro i z hz
      have := h'.el (i + 1) z (by simpa using hz)
      rw [List.getElem?_set_ne (by omega), hm, show t % 65536 + 1 + i = t % 65536 + (i + 1) by omega]
      exact this
  · refine ⟨_, alone2 room hr, aloneP2 room hr, ?_⟩
    rintro c ws y r u ⟨t, h⟩ hc
    have h' : A2 room c ws (r ++ [y]) t := h
    have heu := h'.eu
    rw [List.length_append, List.length_singleton] at heu
    have hur := h'.ur
    rw [List.length_append, List.length_singleton] at hur
    have htc := h'.tc
    have hy := h'.el r.length y (by simp)
    obtain ⟨st, vy, vn, hR⟩ := la_race room ws t (r.length + 1) (by omega) heu h'.h1 r.length rfl y (by rw [show 0 + 2 + r.length = 2 + r.length by omega]; exact hy)
    refine ⟨3, st, vy, vn, _, hR, t - 1, ?_, ?_, ?_, ?_, h'.sl.set _ _, ?_⟩
    · rw [List.getElem?_set_self (List.getElem?_eq_some_iff.1 h'.h1).1, show (t : Int) - 1 = ((t - 1 : Nat) : Int) by omega]
    · omega
    · omega
    · omega
    · intro i z hz
      have hil := (List.getElem?_eq_some_iff.1 hz).1
      rw [List.getElem?_set_ne (by omega)]
      exact h'.el i z (by rw [List.getElem?_append_left hil]; exact hz)
  · refine ⟨_, alone3 room hr0 hr, aloneP3 room hr0 hr, ?_⟩
    rintro c ws y r u ⟨t, h⟩ hc
    have h' : A3 room c ws (y :: r) t := h
    have htc := h'.tc
    have hur := h'.ur
    rw [List.length_cons] at htc hur
    have hy := h'.el 0 y rfl
    have h00 := h'.h0
    rw [List.length_cons] at h00
    obtain ⟨st, vy, vn, hR⟩ := fi_race room ws hr0 hr t (by omega) h'.h1 (t + (r.length + 1)) h00 (by omega) (t % room) rfl y (by rw [show 0 + 2 + t % room = 2 + (t + 0) % room by simp]; exact hy)
    refine ⟨4, st, vy, vn, _, hR, t + 1, ?_, ?_, ?_, ?_, h'.sl.set _ _, ?_⟩
    · rw [List.getElem?_set_ne (by omega), h00, show t + (r.length + 1) = t + 1 + r.length by omega]
    · rw [List.getElem?_set_self (List.getElem?_eq_some_iff.1 h'.h1).1]
    · omega
    · omega
    · intro i z hz
      have := h'.el (i + 1) z (by simpa using hz)
      rw [List.getElem?_set_ne (by omega), show t + 1 + i = t + (i + 1) by omega]
      exact this
section
variable {k : Nat} {ty : TypeId} {room : Nat} {ws ws' : List (Bool × Int)} {y : Int} {N : Nat} {st : Nat → Nat → OpV} {vy vn : Nat → OpV}
/-- Behind i rounds: who moves first, who moves second, the memory. -/
def fstV (N : Nat) (st : Nat → Nat → OpV) (vy : Nat → OpV) (i o : Nat) : OpV := if i < N then st i o else vy o
def memV (N : Nat) (ws ws' : List (Bool × Int)) (i : Nat) : List (Bool × Int) := if i < N then ws else ws'
theorem Race.first (h : Race k ty room ws ws' y N st vy vn) (i : Nat) (w : World) (o p s b : Nat) (hO : OpAt w o (fstV N st vy i o)) (hM : MI w p s (memV N ws ws' i) b) (hb : b < 900000) :
    Calls Try.prog 22 #[.pointer (some ⟨o, 0, none⟩), .pointer (some ⟨p, 0, none⟩)] w fun e w' => (∃ en, e = .returned (.bool en)) ∧ OpAt w' o (fstV N st vy (i + 1) o) ∧ MI w' p s (memV N ws ws' (i + 1)) (b + 1) ∧ Fr (Thr o p s) w w' := by
  unfold fstV memV at *
  obtain ⟨n1, n4⟩ := h.N1
  by_cases h1 : i + 1 < N
  · rw [if_pos (by omega)] at hO hM
    rw [if_pos h1, if_pos h1]
    refine (h.go i h1 w o p s b hO hM hb).mono ?_
    rintro e w' ⟨he, a, c, d⟩
    exact ⟨⟨_, he⟩, a, c.more (by omega), d⟩
  · rw [if_neg h1, if_neg h1]
    by_cases h2 : i < N
    · rw [if_pos h2] at hO hM
      obtain rfl : i = N - 1 := by omega
      refine (h.yes w o p s b hO hM hb).mono ?_
      rintro e w' ⟨he, a, c, d⟩
      exact ⟨⟨_, he⟩, a, c.more (by omega), d⟩
    · rw [if_neg h2] at hO hM
      refine (move_done w o _ _ hO (h.ny o)).mono ?_
      rintro e w' ⟨he, rfl⟩
      exact ⟨⟨_, he⟩, hO, hM.more (by omega), Fr.refl _ _⟩
theorem Race.second (h : Race k ty room ws ws' y N st vy vn) (i : Nat) (w : World) (o p s b : Nat) (hO : OpAt w o (fstV N st vn i o)) (hM : MI w p s (memV N ws ws' (i + 1)) b) (hb : b < 900000) :
    Calls Try.prog 22 #[.pointer (some ⟨o, 0, none⟩), .pointer (some ⟨p, 0, none⟩)] w fun e w' => (∃ en, e = .returned (.bool en)) ∧ OpAt w' o (fstV N st vn (i + 1) o) ∧ MI w' p s (memV N ws ws' (i + 1)) (b + 1) ∧ Fr (Thr o p s) w w' := by
  unfold fstV memV at *
  obtain ⟨n1, n4⟩ := h.N1
  by_cases h1 : i + 1 < N
  · rw [if_pos (by omega)] at hO
    rw [if_pos h1] at hM ⊢
    rw [if_pos h1]
    refine (h.go i h1 w o p s b hO hM hb).mono ?_
    rintro e w' ⟨he, a, c, d⟩
    exact ⟨⟨_, he⟩, a, c.more (by omega), d⟩
  · rw [if_neg h1] at hM ⊢
    rw [if_neg h1]
    by_cases h2 : i < N
    · rw [if_pos h2] at hO
      obtain rfl : i = N - 1 := by omega
      refine (h.no w o p s b hO hM hb).mono ?_
      rintro e w' ⟨he, a, c, d⟩
      exact ⟨⟨_, he⟩, a, c.more (by omega), d⟩
    · rw [if_neg h2] at hO
      refine (move_done w o _ _ hO (h.nn o)).mono ?_
      rintro e w' ⟨he, rfl⟩
      exact ⟨⟨_, he⟩, hO, hM.more (by omega), Fr.refl _ _⟩
end
/-- Both thieves' operations, beside the deque. -/
structure Duel (w0 w : World) (D p s k n : Nat) (ws : List (Bool × Int)) (m : Nat) (o1 o2 : Nat) (v1 v2 : OpV) : Prop where
  dw : DW w0 w D p s k n ws m
  a1 : OpAt w o1 v1
  a2 : OpAt w o2 v2
  ne : o1 ≠ o2
  g1 : w0.heap.size ≤ o1
  g2 : w0.heap.size ≤ o2
theorem DW.moved {w0 w w' : World} {D p s k n m m' o : Nat} {ws ws' : List (Bool × Int)} {v : OpV} (h : DW w0 w D p s k n ws m) (hO : OpAt w o v) (hg : w0.heap.size ≤ o) (hM : MI w' p s ws' m') (hf : Fr (Thr o p s) w w') : DW w0 w' D p s k n ws' m' :=
  ⟨h.hD.fr hf (h.ne hO), hM, h.fr.then hf (fun i hi => .inr (by rcases hi with rfl | rfl | rfl; exact hg; exact h.hp; exact h.hs)), h.hp, h.hs⟩
theorem DW.opne {w0 w : World} {D p s k n m o : Nat} {ws : List (Bool × Int)} {v : OpV} (h : DW w0 w D p s k n ws m) (hO : OpAt w o v) : o ≠ p ∧ o ≠ s := hO.ne h.hM
theorem Duel.one {k : Nat} {ty : TypeId} {room : Nat} {ws ws' : List (Bool × Int)} {y : Int} {N : Nat} {st : Nat → Nat → OpV} {vy vn : Nat → OpV} (h : Race k ty room ws ws' y N st vy vn) {w0 w : World} {D p s m o1 o2 i : Nat} (hd : Duel w0 w D p s k room (memV N ws ws' i) m o1 o2 (fstV N st vy i o1) (fstV N st vn i o2)) (hb : m < 900000) :
    Calls Try.prog 22 #[.pointer (some ⟨o1, 0, none⟩), .pointer (some ⟨p, 0, none⟩)] w fun e w' => (∃ en, e = .returned (.bool en)) ∧ Duel w0 w' D p s k room (memV N ws ws' (i + 1)) (m + 1) o1 o2 (fstV N st vy (i + 1) o1) (fstV N st vn i o2) := by
  refine (h.first i w o1 p s m hd.a1 hd.dw.hM hb).mono ?_
  rintro e w' ⟨he, a, c, d⟩
  obtain ⟨q1, q2⟩ := hd.dw.opne hd.a2
  exact ⟨he, hd.dw.moved hd.a1 hd.g1 c d, a, Blk.fr hd.a2 d (fun h => h.elim hd.ne.symm (fun h => h.elim q1 q2)), hd.ne, hd.g1, hd.g2⟩
theorem Duel.two {k : Nat} {ty : TypeId} {room : Nat} {ws ws' : List (Bool × Int)} {y : Int} {N : Nat} {st : Nat → Nat → OpV} {vy vn : Nat → OpV} (h : Race k ty room ws ws' y N st vy vn) {w0 w : World} {D p s m o1 o2 i : Nat} (hd : Duel w0 w D p s k room (memV N ws ws' (i + 1)) m o1 o2 (fstV N st vy (i + 1) o1) (fstV N st vn i o2)) (hb : m < 900000) :
    Calls Try.prog 22 #[.pointer (some ⟨o2, 0, none⟩), .pointer (some ⟨p, 0, none⟩)] w fun e w' => (∃ en, e = .returned (.bool en)) ∧ Duel w0 w' D p s k room (memV N ws ws' (i + 1)) (m + 1) o1 o2 (fstV N st vy (i + 1) o1) (fstV N st vn (i + 1) o2) := by
  refine (h.second i w o2 p s m hd.a2 hd.dw.hM hb).mono ?_
  rintro e w' ⟨he, a, c, d⟩
  obtain ⟨q1, q2⟩ := hd.dw.opne hd.a1
  exact ⟨he, hd.dw.moved hd.a2 hd.g2 c d, Blk.fr hd.a1 d (fun h => h.elim hd.ne (fun h => h.elim q1 q2)), a, hd.ne, hd.g1, hd.g2⟩
theorem Duel.f0 {w0 w w' : World} {D p s k n m o1 o2 : Nat} {ws : List (Bool × Int)} {v1 v2 : OpV} (h : Duel w0 w D p s k n ws m o1 o2 v1 v2) (hf : Fr None' w w') : Duel w0 w' D p s k n ws m o1 o2 v1 v2 :=
  ⟨h.dw.f0 hf, Blk.fr h.a1 hf (fun h => h), Blk.fr h.a2 hf (fun h => h), h.ne, h.g1, h.g2⟩
end Go.Proofs.Ytfcboacmailfiaa
