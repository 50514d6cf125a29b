/-
  Steps of the memory below a pool, as a law sees them. No condition.
-/
import Derived.Test.YtichhieopnbgpaaP22
namespace Go.Proofs.Ytichhieopnbgpaa
open Go.RowKit

section
variable {w0 w w' : World} {G : Nat → Prop} {x P mp ms b t : Nat} {S : Shp} {base : Nat} {st : Int} {vs : List Value} {σ : St}
theorem two_pb {k : Nat} (h : Two mp ms k) : PB vs b t mp ms k := by
  rcases h with h | h
  · exact .inr (.inr (.inl h))
  · exact .inr (.inr (.inr (.inl h)))
theorem PlI.memstep {ws' : List (Bool × Int)} {st' : Int} (h : PlI w0 G w x P mp ms b t S base st vs σ) (hm : MemIs w' mp ms ws' st') (hf : Fr (Two mp ms) w w') (hl : ws'.length = σ.ws.length) (hi : Inv S base ⟨σ.ls, σ.tk, ws'⟩) : Pl w0 G w' P mp S base st' ⟨σ.ls, σ.tk, ws'⟩ ∧ FrG w0 G w w' :=
  h.step (σ' := ⟨σ.ls, σ.tk, ws'⟩) (h.pr.mem hf hm hl) (hf.mono (fun _ hk => two_pb hk)) (fun _ hk => .inl hk) hi
theorem Inv.put (h : Inv S base σ) {i : Nat} {f : Bool} {m : Int} (hi : σ.ws[i]? = some (f, m)) (n : Int) : Inv S base ⟨σ.ls, σ.tk, σ.ws.set i (f, n)⟩ := by
  refine ⟨h.hl, h.htl, h.nd, h.row, h.one, h.fr, ?_, by simp [h.wl]⟩
  intro n' a z o c f' hw hf k hk
  obtain ⟨m', hm'⟩ := h.wds n' a z o c f' hw hf k hk
  by_cases e : i = base + a + k
  · subst e
    rw [hi] at hm'
    simp only [Option.some.injEq, Prod.mk.injEq] at hm'
    obtain ⟨rfl, rfl⟩ := hm'
    exact ⟨n, List.getElem?_set_self (lt_of hi)⟩
  · exact ⟨m', by show (σ.ws.set i (f, n))[base + a + k]? = _; rw [List.getElem?_set_ne e]; exact hm'⟩
theorem store_pl (h : Pl w0 G w P mp S base st σ) (h0 : 0 ≤ st) (h1 : st < 1000000) (i : Nat) (m n : Int) (hi : σ.ws[i]? = some (true, m)) :
    Calls Try.prog 27 #[.pointer (some ⟨mp, 0, none⟩), .int .i64 (i : Int), .int .i64 n] w fun e w' => e = .returned (.int .i64 0) ∧ Pl w0 G w' P mp S base (st + 1) ⟨σ.ls, σ.tk, σ.ws.set i (true, n)⟩ ∧ FrG w0 G w w' := by
  obtain ⟨x, ms, b, t, vs, h⟩ := h
  refine (store_ok w mp ms σ.ws st h.pr.hm i m n hi h0 h1).mono ?_
  rintro e w1 ⟨rfl, hm, hf⟩
  exact ⟨rfl, h.memstep hm hf (by simp) (h.inv.put hi n)⟩
theorem load_pl (h : Pl w0 G w P mp S base st σ) (h0 : 0 ≤ st) (h1 : st < 1000000) (i : Nat) (n : Int) (hi : σ.ws[i]? = some (true, n)) :
    Calls Try.prog 28 #[.pointer (some ⟨mp, 0, none⟩), .int .i64 (i : Int)] w fun e w' => e = .returned (.tuple #[.int .i64 n, .int .i64 0]) ∧ Pl w0 G w' P mp S base (st + 1) σ ∧ FrG w0 G w w' := by
  obtain ⟨x, ms, b, t, vs, h⟩ := h
  refine (load_ok w mp ms σ.ws st h.pr.hm i n hi h0 h1).mono ?_
  rintro e w1 ⟨rfl, hm, hf⟩
  exact ⟨rfl, h.memstep hm hf rfl h.inv⟩
theorem loadf_pl (h : Pl w0 G w P mp S base st σ) (i : Nat) (m : Int) (hi : σ.ws[i]? = some (false, m)) :
    Calls Try.prog 28 #[.pointer (some ⟨mp, 0, none⟩), .int .i64 (i : Int)] w fun e w' => e = .returned (.tuple #[.int .i64 0, .int .i64 7]) ∧ Pl w0 G w' P mp S base st σ ∧ FrG w0 G w w' := by
  obtain ⟨x, ms, b, t, vs, h⟩ := h
  refine (load_free w mp ms σ.ws st h.pr.hm i m hi).mono ?_
  rintro e w1 ⟨rfl, hm, hf⟩
  exact ⟨rfl, h.memstep hm hf rfl h.inv⟩
/-- To make live what is live fails. -/
theorem live_pl (h : Pl w0 G w P mp S base st σ) (a z : Nat) (hz : 0 < z) (hfit : a + z ≤ σ.ws.length) (m : Int) (ha : σ.ws[a]? = some (true, m)) :
    Calls Try.prog 26 #[.pointer (some ⟨mp, 0, none⟩), .int .i64 (a : Int), .int .i64 (z : Int)] w fun e w' => e = .returned (.int .i64 11) ∧ Pl w0 G w' P mp S base st σ ∧ FrG w0 G w w' := by
  obtain ⟨x, ms, b, t, vs, h⟩ := h
  have hw1 := h.pr.w1
  have ht : turnR σ.ws a z true = (11, σ.ws) := by
    unfold turnR
    rw [if_pos (by omega), if_pos]
    unfold anyLive
    rw [List.any_eq_true]
    exact ⟨0, List.mem_range.2 (by omega), by simp [ha]⟩
  have hl := live_any w mp ms σ.ws st h.pr.hm a z hw1 (by omega)
  rw [ht] at hl
  refine hl.mono ?_
  rintro e w1 ⟨rfl, hm, hf⟩
  exact ⟨rfl, h.memstep hm hf rfl h.inv⟩
end
end Go.Proofs.Ytichhieopnbgpaa
