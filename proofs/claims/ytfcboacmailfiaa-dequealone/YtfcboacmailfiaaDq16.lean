/-
  A deque that one uses alone: a push where there is no room, a pop of a row that is not empty.
-/
import Derived.Test.YtfcboacmailfiaaDq15
namespace Go.Proofs.Ytfcboacmailfiaa
open Go.RowKit

/-- More of what a kind's operations come to, alone: of kind 1 a row is full where its last slot is taken. -/
structure AloneP (k : Nat) (ty : TypeId) (room : Nat) : Prop where
  full : ∀ (c : Nat) (ws : List (Bool × Int)) (l : List Int) (u : Nat) (x : Int), AK k room c ws l u → c ≤ 10000 → (if k = 1 then u = room else l.length = room) → ∃ n v', n ≤ 9 ∧ Chain n (op0 k 0 room "haymow/deque.push" ty false x) ws v' ws ∧ ∀ o, endR (v' o) = (0, 8)
  pop : ∀ (c : Nat) (ws : List (Bool × Int)) (y : Int) (r : List Int) (u : Nat), AK k room c ws (if k = 3 then y :: r else r ++ [y]) u → c ≤ 10000 → ∃ n v' ws', n ≤ 9 ∧ Chain n (op0 k 0 room "haymow/deque.pop" ty true 0) ws v' ws' ∧ (∀ o, endR (v' o) = (y, 0)) ∧ AK k room (c + 1) ws' r (if r = [] then 0 else u - 1)

theorem aloneP1 (room : Nat) (hr : room ≤ 1000) : AloneP 1 94 room := by
  refine ⟨?_, ?_⟩
  · rintro c ws l u x ⟨t, h⟩ _ hu
    have hu' : u = room := hu
    subst hu'
    obtain ⟨v', hch, he⟩ := ex_push_full_chain 0 u (by decide) ws x h.h0
    exact ⟨1, v', by decide, hch, he⟩
  · rintro c ws y r u ⟨t, h⟩ hc
    have h' : A1 room c ws (r ++ [y]) u t := h
    have heu := h'.eu
    rw [List.length_append, List.length_singleton] at heu
    have hur := h'.ur
    have htc := h'.tc
    have hy := h'.el r.length y (by simp)
    obtain ⟨j, rfl⟩ : ∃ j, u = j + 1 := ⟨u - 1, by omega⟩
    have hjy : ws[0 + 2 + j]? = some (true, y) := by rw [show 0 + 2 + j = 2 + (t % 65536 + r.length) by omega]; exact hy
    have h0l := (List.getElem?_eq_some_iff.1 h'.h0).1
    have h1l := (List.getElem?_eq_some_iff.1 h'.h1).1
    by_cases hr0 : r = []
    · subst hr0
      rw [List.length_nil] at heu
      obtain ⟨v', hch, he⟩ := ex_pop_race_chain 0 room (by decide) ws j (by omega) y h'.h0 hjy t (t % 65536) (by omega) rfl h'.h1 (by omega) (t - t % 65536 + 65536 + 0) rfl
      refine ⟨6, v', _, by decide, hch, he, t - t % 65536 + 65536 + 0, ?_, ?_, by omega, ?_, ?_, ((h'.sl.set _ _).set _ _).set _ _, fun i z hz => by simp at hz⟩
      · rw [List.getElem?_set_ne (by omega), List.getElem?_set_self (by rw [List.length_set]; omega)]; rfl
      · rw [List.getElem?_set_self (by rw [List.length_set, List.length_set]; omega)]
      · rw [List.length_nil, if_pos rfl]; omega
      · rw [if_pos rfl]; omega
    · have hrl : 0 < r.length := List.length_pos_iff.2 hr0
      obtain ⟨v', hch, he⟩ := ex_pop_chain 0 room (by decide) ws j (by omega) y h'.h0 hjy t (t % 65536) (by omega) rfl h'.h1 (by omega)
      refine ⟨4, v', _, by decide, hch, he, t, ?_, ?_, tc_up htc, ?_, ?_, h'.sl.set _ _, ?_⟩
      · rw [if_neg hr0, Nat.add_sub_cancel, List.getElem?_set_self h0l]
      · rw [List.getElem?_set_ne (by omega)]; exact h'.h1
      · rw [if_neg hr0]; omega
      · rw [if_neg hr0]; omega
      · intro i z hz
        have hil := (List.getElem?_eq_some_iff.1 hz).1
        rw [List.getElem?_set_ne (by omega)]
        exact h'.el i z (by rw [List.getElem?_append_left hil]; exact hz)

theorem aloneP2 (room : Nat) (hr : room ≤ 1000) : AloneP 2 95 room := by
  refine ⟨?_, ?_⟩
  · rintro c ws l u x ⟨t, h⟩ hc hu
    have hu' : l.length = room := hu
    have htc := h.tc
    obtain ⟨v', hch, he⟩ := la_push_full_chain 0 room (by decide) ws x t l.length (by omega) h.eu h.h1 hu'
    exact ⟨1, v', by decide, hch, he⟩
  · rintro c ws y r u ⟨t, h⟩ hc
    have h' : A2 room c ws (r ++ [y]) t := h
    have heu := h'.eu
    rw [List.length_append, List.length_singleton] at heu
    have hur := h'.ur
    rw [List.length_append, List.length_singleton] at hur
    have htc := h'.tc
    have hy := h'.el r.length y (by simp)
    obtain ⟨v', hch, he⟩ := la_pop_chain 0 room (by decide) ws t (r.length + 1) (by omega) heu h'.h1 r.length rfl y (by rw [show 0 + 2 + r.length = 2 + r.length by omega]; exact hy)
    refine ⟨3, v', _, by decide, hch, he, t - 1, ?_, ?_, ?_, ?_, h'.sl.set _ _, ?_⟩
    · rw [List.getElem?_set_self (List.getElem?_eq_some_iff.1 h'.h1).1, show (t : Int) - 1 = ((t - 1 : Nat) : Int) by omega]
    · omega
    · omega
    · omega
    · intro i z hz
      have hil := (List.getElem?_eq_some_iff.1 hz).1
      rw [List.getElem?_set_ne (by omega)]
      exact h'.el i z (by rw [List.getElem?_append_left hil]; exact hz)

theorem aloneP3 (room : Nat) (hr0 : 0 < room) (hr : room ≤ 1000) : AloneP 3 96 room := by
  refine ⟨?_, ?_⟩
  · rintro c ws l u x ⟨t, h⟩ hc hu
    have hu' : l.length = room := hu
    have htc := h.tc
    obtain ⟨v', hch, he⟩ := fi_push_full_chain 0 room (by decide) ws x t (by omega) h.h1 (t + l.length) (by omega) h.h0 (by omega)
    exact ⟨2, v', by decide, hch, he⟩
  · rintro c ws y r u ⟨t, h⟩ hc
    have h' : A3 room c ws (y :: r) t := h
    have htc := h'.tc
    have hur := h'.ur
    rw [List.length_cons] at htc hur
    have hy := h'.el 0 y rfl
    have h00 := h'.h0
    rw [List.length_cons] at h00
    obtain ⟨v', hch, he⟩ := fi_pop_chain 0 room (by decide) ws hr0 hr t (by omega) h'.h1 (t + (r.length + 1)) (by omega) h00 (by omega) (t % room) rfl y (by rw [show 0 + 2 + t % room = 2 + (t + 0) % room by simp]; exact hy)
    refine ⟨4, v', _, by decide, hch, he, t + 1, ?_, ?_, ?_, ?_, h'.sl.set _ _, ?_⟩
    · rw [List.getElem?_set_ne (by omega), h00, show t + (r.length + 1) = t + 1 + r.length by omega]
    · rw [List.getElem?_set_self (List.getElem?_eq_some_iff.1 h'.h1).1]
    · omega
    · omega
    · intro i z hz
      have := h'.el (i + 1) z (by simpa using hz)
      rw [List.getElem?_set_ne (by omega), show t + 1 + i = t + (i + 1) by omega]
      exact this
theorem aloneB (k room : Nat) (h1 : 1 ≤ k) (h3 : k ≤ 3) (hr0 : 0 < room) (hr : room ≤ 1000) : ∃ ty, Alone k ty room ∧ AloneP k ty room := by
  have : k = 1 ∨ k = 2 ∨ k = 3 := by omega
  rcases this with rfl | rfl | rfl
  · exact ⟨_, alone1 room hr, aloneP1 room hr⟩
  · exact ⟨_, alone2 room hr, aloneP2 room hr⟩
  · exact ⟨_, alone3 room hr0 hr, aloneP3 room hr0 hr⟩
end Go.Proofs.Ytfcboacmailfiaa
