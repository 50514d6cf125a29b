/-
  A deque that one uses alone, read as a list: what push, steal and pop of each kind come to.
-/
import Derived.Test.YtfcboacmailfiaaDq12
namespace Go.Proofs.Ytfcboacmailfiaa
open Go.RowKit

def StealK (k : Nat) (ty : TypeId) : Prop := ∀ (w : World) (base room : Nat), Calls Try.prog 21 #[.agg #[.int .i64 k, .int .i64 base, .int .i64 room]] w fun e w' => e = .returned (.pointer (some ⟨w.heap.size + 2, 0, none⟩)) ∧ OpAt w' (w.heap.size + 2) (op0 k base room "haymow/deque.steal" ty true 0 (w.heap.size + 2)) ∧ Fr (fun _ => False) w w'

/-- Slots that are all live. -/
def Slots (room : Nat) (ws : List (Bool × Int)) : Prop := ∀ i, i < room → ∃ m : Int, ws[2 + i]? = some (true, m)
theorem Slots.set {room : Nat} {ws : List (Bool × Int)} (h : Slots room ws) (j : Nat) (x : Int) : Slots room (ws.set j (true, x)) := by
  intro i hi
  obtain ⟨m, hm⟩ := h i hi
  rw [List.getElem?_set]
  split
  · rename_i he
    rw [if_pos (by rw [he]; exact (List.getElem?_eq_some_iff.1 hm).1)]
    exact ⟨x, rfl⟩
  · exact ⟨m, hm⟩

theorem tc_up {t c : Nat} (h : t ≤ c * 65537) : t ≤ (c + 1) * 65537 := Nat.le_trans h (Nat.mul_le_mul_right _ (Nat.le_succ c))
/-- Kind 1. -/
structure A1 (room c : Nat) (ws : List (Bool × Int)) (l : List Int) (u : Nat) (t : Nat) : Prop where
  h0 : ws[0]? = some (true, (u : Int))
  h1 : ws[1]? = some (true, (t : Int))
  tc : t ≤ c * 65537
  eu : t % 65536 + l.length = u
  ur : u ≤ room
  sl : Slots room ws
  el : ∀ (i : Nat) (z : Int), l[i]? = some z → ws[2 + (t % 65536 + i)]? = some (true, z)
/-- Kind 2. -/
structure A2 (room c : Nat) (ws : List (Bool × Int)) (l : List Int) (t : Nat) : Prop where
  h1 : ws[1]? = some (true, (t : Int))
  tc : t ≤ c * 65537
  eu : t % 65536 = l.length
  ur : l.length ≤ room
  sl : Slots room ws
  el : ∀ (i : Nat) (z : Int), l[i]? = some z → ws[2 + i]? = some (true, z)
/-- Kind 3. -/
structure A3 (room c : Nat) (ws : List (Bool × Int)) (l : List Int) (t : Nat) : Prop where
  h0 : ws[0]? = some (true, ((t + l.length : Nat) : Int))
  h1 : ws[1]? = some (true, (t : Int))
  tc : t + l.length ≤ c * 65537
  ur : l.length ≤ room
  sl : Slots room ws
  el : ∀ (i : Nat) (z : Int), l[i]? = some z → ws[2 + (t + i) % room]? = some (true, z)
def AK (k room c : Nat) (ws : List (Bool × Int)) (l : List Int) (u : Nat) : Prop :=
  match k with
  | 1 => ∃ t, A1 room c ws l u t
  | 2 => ∃ t, A2 room c ws l t
  | _ => ∃ t, A3 room c ws l t

/-- What a kind's operations come to, alone. -/
structure Alone (k : Nat) (ty : TypeId) (room : Nat) : Prop where
  kpush : PushK k ty
  kpop : PopK k ty
  ksteal : StealK k ty
  push : ∀ (c : Nat) (ws : List (Bool × Int)) (l : List Int) (u : Nat) (x : Int), AK k room c ws l u → c ≤ 10000 → l.length < room → u < room → ∃ n v' ws', n ≤ 9 ∧ Chain n (op0 k 0 room "haymow/deque.push" ty false x) ws v' ws' ∧ (∀ o, endR (v' o) = (0, 0)) ∧ AK k room (c + 1) ws' (l ++ [x]) (u + 1)
  steal : ∀ (c : Nat) (ws : List (Bool × Int)) (y : Int) (r : List Int) (u : Nat), AK k room c ws (if k = 2 then r ++ [y] else y :: r) u → c ≤ 10000 → ∃ n v' ws', n ≤ 9 ∧ Chain n (op0 k 0 room "haymow/deque.steal" ty true 0) ws v' ws' ∧ (∀ o, endR (v' o) = (y, 0)) ∧ AK k room (c + 1) ws' r u
  stealE : ∀ (c : Nat) (ws : List (Bool × Int)) (u : Nat), AK k room c ws [] u → c ≤ 10000 → ∃ n v', n ≤ 9 ∧ Chain n (op0 k 0 room "haymow/deque.steal" ty true 0) ws v' ws ∧ ∀ o, endR (v' o) = (0, 9)
  popE : ∀ (c : Nat) (ws : List (Bool × Int)) (u : Nat), AK k room c ws [] u → c ≤ 10000 → ∃ n v' ws', n ≤ 9 ∧ Chain n (op0 k 0 room "haymow/deque.pop" ty true 0) ws v' ws' ∧ (∀ o, endR (v' o) = (0, 9)) ∧ AK k room (c + 1) ws' [] 0

theorem alone1 (room : Nat) (hr : room ≤ 1000) : Alone 1 94 room := by
  refine ⟨fun w base room x => ex_Push w base room x, fun w base room => ex_Pop w base room, fun w base room => ex_Steal w base room, ?_, ?_, ?_, ?_⟩
  · rintro c ws l u x ⟨t, h⟩ hc hl hu
    obtain ⟨m, hm⟩ := h.sl u hu
    obtain ⟨v', hch, he⟩ := ex_push_chain 0 room (by decide) ws x u hu hr m h.h0 (by rw [show 0 + 2 + u = 2 + u by omega]; exact hm)
    refine ⟨3, v', _, by decide, hch, he, t, ?_⟩
    have hul : 2 + u < ws.length := (List.getElem?_eq_some_iff.1 hm).1
    refine ⟨?_, ?_, ?_, ?_, ?_, (h.sl.set _ _).set _ _, ?_⟩
    · rw [List.getElem?_set_self (by rw [List.length_set]; omega)]
    · rw [List.getElem?_set_ne (by omega), List.getElem?_set_ne (by omega)]; exact h.h1
    · exact tc_up h.tc
    · have := h.eu; rw [List.length_append, List.length_singleton]; omega
    · omega
    · intro i z hz
      rw [List.getElem?_set_ne (by omega)]
      by_cases hi : i < l.length
      · rw [List.getElem?_append_left hi] at hz
        have := h.eu
        rw [List.getElem?_set_ne (by omega)]
        exact h.el i z hz
      · have hi2 : i = l.length := by have := (List.getElem?_eq_some_iff.1 hz).1; simp at this; omega
        subst hi2
        rw [List.getElem?_append_right (Nat.le_refl _)] at hz
        simp at hz
        have := h.eu
        rw [show 2 + (t % 65536 + l.length) = 0 + 2 + u by omega, List.getElem?_set_self (by omega), hz]
  · rintro c ws y r u ⟨t, h⟩ hc
    have h' : A1 room c ws (y :: r) u t := h
    have heu := h'.eu
    rw [List.length_cons] at heu
    have hur := h'.ur
    have htc := h'.tc
    have hy := h'.el 0 y rfl
    obtain ⟨v', hch, he⟩ := ex_steal_chain 0 room (by decide) ws t (t % 65536) (by omega) rfl h'.h1 u y h'.h0 (by omega) (by rw [show 0 + 2 + t % 65536 = 2 + (t % 65536 + 0) by omega]; exact hy)
    have hm : (t + 1) % 65536 = t % 65536 + 1 := by omega
    refine ⟨4, v', _, by decide, hch, he, t + 1, ?_, ?_, ?_, ?_, hur, h'.sl.set _ _, ?_⟩
    · rw [List.getElem?_set_ne (by omega)]; exact h'.h0
    · rw [List.getElem?_set_self (List.getElem?_eq_some_iff.1 h'.h1).1]
    · omega
    · omega
    · intro i z hz
      have := h'.el (i + 1) z (by simpa using hz)
      rw [List.getElem?_set_ne (by omega), hm, show t % 65536 + 1 + i = t % 65536 + (i + 1) by omega]
      exact this
  · rintro c ws u ⟨t, h⟩ hc
    have heu := h.eu
    have htc := h.tc
    rw [List.length_nil] at heu
    obtain ⟨v', hch, he⟩ := ex_steal_empty_chain 0 room (by decide) ws t (t % 65536) (by omega) rfl h.h1 u h.h0 (by omega)
    exact ⟨2, v', by decide, hch, he⟩
  · rintro c ws u ⟨t, h⟩ hc
    have heu := h.eu
    have htc := h.tc
    have hur := h.ur
    rw [List.length_nil] at heu
    by_cases hu : u = 0
    · subst hu
      obtain ⟨v', hch, he⟩ := ex_pop_empty_chain 0 room (by decide) ws h.h0
      exact ⟨1, v', ws, by decide, hch, he, t, h.h0, h.h1, tc_up h.tc, by rw [List.length_nil]; omega, by omega, h.sl, h.el⟩
    · obtain ⟨j, rfl⟩ : ∃ j, u = j + 1 := ⟨u - 1, by omega⟩
      obtain ⟨m, hm⟩ := h.sl j (by omega)
      obtain ⟨v', hch, he⟩ := ex_pop_lost_chain 0 room (by decide) ws j (by omega) m h.h0 (by rw [show 0 + 2 + j = 2 + j by omega]; exact hm) t (t % 65536) (by omega) rfl h.h1 (by omega) (t - t % 65536 + 65536 + 0) rfl
      have h1l := (List.getElem?_eq_some_iff.1 h.h1).1
      refine ⟨6, v', _, by decide, hch, he, t - t % 65536 + 65536 + 0, ?_, ?_, by omega, by rw [List.length_nil]; omega, by omega, ((h.sl.set _ _).set _ _).set _ _, fun i z hz => by simp at hz⟩
      · rw [List.getElem?_set_ne (by omega), List.getElem?_set_self (by rw [List.length_set]; omega)]; rfl
      · rw [List.getElem?_set_self (by rw [List.length_set, List.length_set]; omega)]

theorem alone2 (room : Nat) (hr : room ≤ 1000) : Alone 2 95 room := by
  refine ⟨fun w base room x => la_Push w base room x, fun w base room => la_Pop w base room, fun w base room => la_Steal w base room, ?_, ?_, ?_, ?_⟩
  · rintro c ws l u x ⟨t, h⟩ hc hl hu
    have heu := h.eu
    have htc := h.tc
    obtain ⟨m, hm⟩ := h.sl l.length hl
    obtain ⟨v', hch, he⟩ := la_push_chain 0 room (by decide) ws x t l.length (by omega) heu h.h1 (by omega) m (by rw [show 0 + 2 + l.length = 2 + l.length by omega]; exact hm) (t - t % 65536 + 65536 + (l.length + 1)) rfl
    have hul : 2 + l.length < ws.length := (List.getElem?_eq_some_iff.1 hm).1
    refine ⟨3, v', _, by decide, hch, he, t - t % 65536 + 65536 + (l.length + 1), ?_, ?_, ?_, ?_, (h.sl.set _ _).set _ _, ?_⟩
    · rw [List.getElem?_set_self (by rw [List.length_set]; omega)]
    · omega
    · rw [List.length_append, List.length_singleton]; omega
    · rw [List.length_append, List.length_singleton]; omega
    · intro i z hz
      rw [List.getElem?_set_ne (by omega)]
      by_cases hi : i < l.length
      · rw [List.getElem?_append_left hi] at hz
        rw [List.getElem?_set_ne (by omega)]
        exact h.el i z hz
      · have hi2 : i = l.length := by have := (List.getElem?_eq_some_iff.1 hz).1; simp at this; omega
        subst hi2
        rw [List.getElem?_append_right (Nat.le_refl _)] at hz
        simp at hz
        rw [show 2 + l.length = 0 + 2 + l.length by omega, List.getElem?_set_self (by omega), hz]
  · rintro c ws y r u ⟨t, h⟩ hc
    have h' : A2 room c ws (r ++ [y]) t := h
    have heu := h'.eu
    rw [List.length_append, List.length_singleton] at heu
    have hur := h'.ur
    rw [List.length_append, List.length_singleton] at hur
    have htc := h'.tc
    have hy := h'.el r.length y (by simp)
    obtain ⟨v', hch, he⟩ := la_steal_chain 0 room (by decide) ws t (r.length + 1) (by omega) heu h'.h1 r.length rfl y (by rw [show 0 + 2 + r.length = 2 + r.length by omega]; exact hy)
    refine ⟨3, v', _, by decide, hch, he, t - 1, ?_, ?_, ?_, ?_, h'.sl.set _ _, ?_⟩
    · rw [List.getElem?_set_self (List.getElem?_eq_some_iff.1 h'.h1).1, show (t : Int) - 1 = ((t - 1 : Nat) : Int) by omega]
    · omega
    · omega
    · omega
    · intro i z hz
      have hil := (List.getElem?_eq_some_iff.1 hz).1
      rw [List.getElem?_set_ne (by omega)]
      exact h'.el i z (by rw [List.getElem?_append_left hil]; exact hz)
  · rintro c ws u ⟨t, h⟩ hc
    have heu := h.eu
    have htc := h.tc
    rw [List.length_nil] at heu
    obtain ⟨v', hch, he⟩ := la_steal_empty_chain 0 room (by decide) ws t 0 (by omega) heu h.h1 rfl
    exact ⟨1, v', by decide, hch, he⟩
  · rintro c ws u ⟨t, h⟩ hc
    have heu := h.eu
    have htc := h.tc
    rw [List.length_nil] at heu
    obtain ⟨v', hch, he⟩ := la_pop_empty_chain 0 room (by decide) ws t 0 (by omega) heu h.h1 rfl
    exact ⟨1, v', ws, by decide, hch, he, t, h.h1, tc_up h.tc, by rw [List.length_nil]; exact heu, by simp, h.sl, h.el⟩

theorem alone3 (room : Nat) (hr0 : 0 < room) (hr : room ≤ 1000) : Alone 3 96 room := by
  refine ⟨fun w base room x => fi_Push w base room x, fun w base room => fi_Pop w base room, fun w base room => fi_Steal w base room, ?_, ?_, ?_, ?_⟩
  · rintro c ws l u x ⟨t, h⟩ hc hl hu
    have htc := h.tc
    have hq : (t + l.length) % room < room := Nat.mod_lt _ hr0
    obtain ⟨m, hm⟩ := h.sl _ hq
    obtain ⟨v', hch, he⟩ := fi_push_chain 0 room (by decide) ws x hr0 hr t (by omega) h.h1 (t + l.length) (by omega) h.h0 (by omega) ((t + l.length) % room) rfl m (by rw [show 0 + 2 + (t + l.length) % room = 2 + (t + l.length) % room by omega]; exact hm)
    have hul : 2 + (t + l.length) % room < ws.length := (List.getElem?_eq_some_iff.1 hm).1
    refine ⟨4, v', _, by decide, hch, he, t, ?_, ?_, ?_, ?_, (h.sl.set _ _).set _ _, ?_⟩
    · rw [List.getElem?_set_self (by rw [List.length_set]; omega), List.length_append, List.length_singleton]
      rfl
    · rw [List.getElem?_set_ne (by omega), List.getElem?_set_ne (by omega)]; exact h.h1
    · rw [List.length_append, List.length_singleton]; omega
    · rw [List.length_append, List.length_singleton]; omega
    · intro i z hz
      rw [List.getElem?_set_ne (by omega)]
      by_cases hi : i < l.length
      · rw [List.getElem?_append_left hi] at hz
        have hne : (t + i) % room ≠ (t + l.length) % room := by
          intro he
          have h1 := Nat.div_add_mod (t + i) room
          have h2 := Nat.div_add_mod (t + l.length) room
          rw [he] at h1
          have h3 : room * ((t + l.length) / room) = room * ((t + i) / room) + (l.length - i) := by omega
          have h4 : (t + i) / room ≤ (t + l.length) / room := Nat.div_le_div_right (by omega)
          obtain ⟨d, hd⟩ : ∃ d, (t + l.length) / room = (t + i) / room + d := ⟨(t + l.length) / room - (t + i) / room, by omega⟩
          rw [hd, Nat.mul_add] at h3
          rcases Nat.eq_zero_or_pos d with h5 | h5
          · subst h5; omega
          · have : room * 1 ≤ room * d := Nat.mul_le_mul_left room h5
            omega
        rw [List.getElem?_set_ne (by omega)]
        exact h.el i z hz
      · have hi2 : i = l.length := by have := (List.getElem?_eq_some_iff.1 hz).1; simp at this; omega
        subst hi2
        rw [List.getElem?_append_right (Nat.le_refl _)] at hz
        simp at hz
        rw [show 2 + (t + l.length) % room = 0 + 2 + (t + l.length) % room by omega, List.getElem?_set_self (by omega), hz]
  · rintro c ws y r u ⟨t, h⟩ hc
    have h' : A3 room c ws (y :: r) t := h
    have htc := h'.tc
    have hur := h'.ur
    rw [List.length_cons] at htc hur
    have hy := h'.el 0 y rfl
    have h00 := h'.h0
    rw [List.length_cons] at h00
    obtain ⟨v', hch, he⟩ := fi_steal_chain 0 room (by decide) ws hr0 hr t (by omega) h'.h1 (t + (r.length + 1)) (by omega) h00 (by omega) (t % room) rfl y (by rw [show 0 + 2 + t % room = 2 + (t + 0) % room by simp]; exact hy)
    refine ⟨4, v', _, by decide, hch, he, t + 1, ?_, ?_, ?_, ?_, h'.sl.set _ _, ?_⟩
    · rw [List.getElem?_set_ne (by omega), h00, show t + (r.length + 1) = t + 1 + r.length by omega]
    · rw [List.getElem?_set_self (List.getElem?_eq_some_iff.1 h'.h1).1]
    · omega
    · omega
    · intro i z hz
      have := h'.el (i + 1) z (by simpa using hz)
      rw [List.getElem?_set_ne (by omega), show t + 1 + i = t + (i + 1) by omega]
      exact this
  · rintro c ws u ⟨t, h⟩ hc
    have htc := h.tc
    have h00 := h.h0
    rw [List.length_nil] at htc h00
    obtain ⟨v', hch, he⟩ := fi_steal_empty_chain 0 room (by decide) ws t (by omega) h.h1 t (by omega) h00 (Nat.le_refl _)
    exact ⟨2, v', by decide, hch, he⟩
  · rintro c ws u ⟨t, h⟩ hc
    have htc := h.tc
    have h00 := h.h0
    rw [List.length_nil] at htc h00
    obtain ⟨v', hch, he⟩ := fi_pop_empty_chain 0 room (by decide) ws t (by omega) h.h1 t (by omega) h00 (Nat.le_refl _)
    exact ⟨2, v', ws, by decide, hch, he, t, h.h0, h.h1, tc_up h.tc, by simp, h.sl, h.el⟩
theorem alone (k room : Nat) (h1 : 1 ≤ k) (h3 : k ≤ 3) (hr0 : 0 < room) (hr : room ≤ 1000) : ∃ ty, Alone k ty room := by
  have : k = 1 ∨ k = 2 ∨ k = 3 := by omega
  rcases this with rfl | rfl | rfl
  · exact ⟨_, alone1 room hr⟩
  · exact ⟨_, alone2 room hr⟩
  · exact ⟨_, alone3 room hr0 hr⟩
/-- A new deque's words. -/
theorem alone_new (k room : Nat) (ws : List (Bool × Int)) (h : ∀ i, i < room + 2 → ws[i]? = some (true, 0)) : AK k room 0 ws [] 0 := by
  have hs : Slots room ws := fun i hi => ⟨0, h (2 + i) (by omega)⟩
  unfold AK
  split
  · exact ⟨0, h 0 (by omega), h 1 (by omega), by omega, rfl, by omega, hs, fun i z hz => by simp at hz⟩
  · exact ⟨0, h 1 (by omega), by omega, rfl, by simp, hs, fun i z hz => by simp at hz⟩
  · exact ⟨0, h 0 (by omega), h 1 (by omega), by simp, by simp, hs, fun i z hz => by simp at hz⟩
end Go.Proofs.Ytfcboacmailfiaa
