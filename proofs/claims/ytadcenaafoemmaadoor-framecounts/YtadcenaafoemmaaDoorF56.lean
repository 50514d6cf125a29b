/-
  A copy of a slice. No condition.
-/
import Derived.Test.YtadcenaafoemmaaDoorF1
import Derived.ArgAppend
import Derived.Lib.SliceRun
import Derived.Lib.BufferMore
import Derived.Laws.CopyRow
import Derived.Laws.IdiomCopy
namespace Go.Proofs.YtadcenaafoemmaaDoor
open Go.RowKit

theorem info_int : (Tryd.prog.info? 3).map (fun i => (i.zero, i.size, i.bytes)) = some (some (.int .i64 0), 1, 8) := by kernel_rfl
theorem info3 {t : TypeId} {z : Value} {s b : Nat} (h : (Tryd.prog.info? t).map (fun i => (i.zero, i.size, i.bytes)) = some (some z, s, b)) : ∃ i, Tryd.prog.info? t = some i ∧ i.zero = some z ∧ i.size = s ∧ i.bytes = b := by
  obtain ⟨i, hi, hi2⟩ := Option.map_eq_some_iff.1 h
  simp only [Prod.mk.injEq] at hi2
  exact ⟨i, hi, hi2.1, hi2.2.1, hi2.2.2⟩

/-- A slice's numbers, wherever they lie. -/
def IntsA (w : World) (A : Option Addr) (xs : List Int) : Prop := 0 < xs.length → ∃ (b off : Nat), A = some ⟨b, off, none⟩ ∧ ∀ (j : Nat) (x : Int), xs[j]? = some x → w.cell? ⟨b, off + j, none⟩ = some (Value.int .i64 x)

set_option maxHeartbeats 8000000 in
set_option maxRecDepth 100000 in
theorem clone_any (w : World) (P : Option Addr) (path : List Int) (pc : Nat) (hN : P = none → pc = 0) (hP : IntsA w P path) (h50 : path.length ≤ 1000) :
    Calls Tryd.prog 31 #[.slice P path.length pc] w fun e w' => ∃ v, e = .returned v ∧ w'.ownsRow w.heap.size 3 1 v path.length (ints path) ∧ Fr None' w w' := by
  cases P with
  | none =>
    have hz := hN rfl
    subst hz
    have he : path = [] := by
      rcases Nat.eq_zero_or_pos path.length with h | h
      · exact List.eq_nil_of_length_eq_zero h
      · obtain ⟨b, off, h', _⟩ := hP h
        cases h'
    subst he
    have hq : (binOp .eql 23 (.slice none 0 0) (.slice none 0 0)).run Tryd.prog w = .ok (.bool true) w := by kernel_rfl
    simp only [List.length_nil]
    clear hP hN h50
    go_enter Tryd.func31, Tryd.ntmps31
    go_wp2_with fail
    go_ret
    exact ⟨_, rfl, ⟨rfl, .inl ⟨rfl, rfl⟩⟩, Fr.refl _ _⟩
  | some p =>
    have hq : (binOp .eql 23 (.slice (some p) path.length pc) (.slice none 0 0)).run Tryd.prog w = .ok (.bool false) w := Lib.run_eql_slice_some_nil w p _ _ Tryd.underlying23
    clear hN
    obtain ⟨i0, hi0, hz0, hz1, hz2⟩ := info3 info_int
    have hpos : 0 < path.length → ∃ b off : Nat, p = ⟨b, off, none⟩ ∧ ∀ (j : Nat) (x : Int), path[j]? = some x → w.cell? ⟨b, off + j, none⟩ = some (Value.int .i64 x) := fun h => by
      obtain ⟨b, off, h1, h2⟩ := hP h
      cases h1
      exact ⟨b, off, rfl, h2⟩
    clear hP
    go_enter Tryd.func31, Tryd.ntmps31
    go_wp2_with (first | (at_builtin; refine wpList_append_arg _ rfl _ _ 23 rfl 3 i0 _ 1 8 Tryd.underlying23 hi0 hz0 hz1 hz2 rfl (by decide) w.heap.size 0 0 0 [] rfl rfl ?olds p path.length pc (ints path) rfl ?len ?c1 ?c2 ?spare ?maxLen ?bytes ?room ?grow) | fail)
    case olds => intro j u h; cases h
    case len => simp [ints]
    case c1 =>
      intro j u hj
      rw [ints, List.getElem?_map] at hj
      obtain ⟨x, hx, rfl⟩ := Option.map_eq_some_iff.1 hj
      have hlt := (List.getElem?_eq_some_iff.1 hx).1
      obtain ⟨b, off, rfl, hc⟩ := hpos (by omega)
      rw [show (⟨b, off, none⟩ : Addr).add j = ⟨b, off + j, none⟩ by unfold Addr.add; split <;> simp_all]
      exact ((Fr.refl None' w).alloc _).held (hc j x hx) (fun h => h)
    case c2 =>
      intro u hu
      obtain ⟨x, _, rfl⟩ := List.mem_map.1 hu
      rfl
    case spare =>
      intro h j hj
      simp only [ints, List.length_map] at hj
      omega
    case maxLen => unfold maxLen; omega
    case bytes => omega
    case room =>
      intro h0
      subst h0
      change wpList _ _ _ _ _ (w.alloc (.cells #[] 3))
      go_wp2_with fail
      go_ret
      exact ⟨_, rfl, ⟨rfl, .inr ⟨w.heap.size, 0, #[], rfl, Nat.le_refl _, heap_alloc_new w _, Nat.le_refl _, by decide, rfl, rfl⟩⟩, (Fr.refl _ _).alloc _⟩
    case grow =>
      intro _ v' w' hown hgr
      go_wp2_with fail
      go_ret
      refine ⟨v', rfl, ⟨hown.1, hown.2.imp id (fun ⟨g, cap, cur, h1, h2, h3⟩ => ⟨g, cap, cur, h1, by omega, h3⟩)⟩, ((Fr.refl None' w).alloc _).trans ⟨hgr.os, hgr.tape, hgr.output, hgr.size, fun k hk _ => hgr.block k hk (by simp)⟩⟩
end Go.Proofs.YtadcenaafoemmaaDoor

/-
  The arguments are copied into a new frame's registers. No condition.
-/
namespace Go.Proofs.YtadcenaafoemmaaDoor
open Go.RowKit

/-- The registers that hold the first eight of some arguments. -/
def reg8 (args : List Int) : List Int := args.take 8 ++ List.replicate (8 - (args.take 8).length) 0

set_option maxRecDepth 100000 in
theorem frcopy (W : World) (g : Nat) (fn : Int) (pv : Value) (q0 q1 q2 q3 : Int) (hB : Blk W g 95 (frL fn 0 0 0 pv [0, 0, 0, 0, 0, 0, 0, 0] [q0, q1, q2, q3]).toArray) (A : Option Addr) (args : List Int) (ac : Nat) (hA : IntsA W A args) (ty : TypeId) :
    ∃ W', (Builtin.copy_ #[34, 34] ty #[.slice (some ⟨g, 5, none⟩) 8 8, .slice A args.length ac]).run Tryd.prog W = .ok (goInt (args.take 8).length) W' ∧ Blk W' g 95 (frL fn 0 0 0 pv (reg8 args) [q0, q1, q2, q3]).toArray ∧ Fr (At g) W W' := by
  rcases Nat.eq_zero_or_pos args.length with h0 | h0
  · have e := List.eq_nil_of_length_eq_zero h0
    subst e
    exact ⟨W, run_copy_none W _ _ ty 2 _ A 8 8 0 ac Tryd.underlying34 (by kernel_rfl) (by decide), hB, Fr.refl _ _⟩
  · obtain ⟨b, off, rfl, hc⟩ := hA h0
    have hr := run_copy_row (P := Tryd.prog) W 34 34 ty 2 g 5 8 8 ⟨b, off, none⟩ args.length ac _ 95 (ints (args.take 8)) Tryd.underlying34 (by kernel_rfl) hB (by rw [ints_length, List.length_take]; exact Nat.min_comm _ _) (fun j v hv => by
        have hadd : (⟨b, off, none⟩ : Addr).add j = ⟨b, off + j, none⟩ := by unfold Addr.add; split <;> simp_all
        rw [hadd]
        rw [ints, List.getElem?_map] at hv
        obtain ⟨x, hx, rfl⟩ := Option.map_eq_some_iff.1 hv
        have hj : j < 8 := by have := (List.getElem?_eq_some_iff.1 hx).1; rw [List.length_take] at this; omega
        rw [List.getElem?_take, if_pos hj] at hx
        exact hc j x hx) (by simp only [List.size_toArray, ints_length, List.length_take]; show 5 + min 8 args.length ≤ 17; omega) (fun v hv => by
        obtain ⟨x, _, rfl⟩ := List.mem_map.1 hv
        rfl)
    rw [ints_length] at hr
    refine ⟨_, hr, ?_, ⟨rfl, rfl, rfl, by simp, fun k _ hn => setRow_other W g k _ hn⟩⟩
    have hh := setRow_heap W g _ (List.take 5 (frL fn 0 0 0 pv [0, 0, 0, 0, 0, 0, 0, 0] [q0, q1, q2, q3]).toArray.toList ++ ints (args.take 8) ++ List.drop (5 + (args.take 8).length) (frL fn 0 0 0 pv [0, 0, 0, 0, 0, 0, 0, 0] [q0, q1, q2, q3]).toArray.toList).toArray 95 (0, 0) hB
    have e : ∀ xs : List Int, xs.length ≤ 8 → List.take 5 (frL fn 0 0 0 pv [0, 0, 0, 0, 0, 0, 0, 0] [q0, q1, q2, q3]) ++ ints xs ++ List.drop (5 + xs.length) (frL fn 0 0 0 pv [0, 0, 0, 0, 0, 0, 0, 0] [q0, q1, q2, q3]) = frL fn 0 0 0 pv (xs ++ List.replicate (8 - xs.length) 0) [q0, q1, q2, q3] := by
      intro xs h8
      match xs, h8 with
      | [], _ => rfl
      | [a0], _ => rfl
      | [a0, a1], _ => rfl
      | [a0, a1, a2], _ => rfl
      | [a0, a1, a2, a3], _ => rfl
      | [a0, a1, a2, a3, a4], _ => rfl
      | [a0, a1, a2, a3, a4, a5], _ => rfl
      | [a0, a1, a2, a3, a4, a5, a6], _ => rfl
      | [a0, a1, a2, a3, a4, a5, a6, a7], _ => rfl
      | _ :: _ :: _ :: _ :: _ :: _ :: _ :: _ :: _ :: _, h => simp at h
    have e' := e (args.take 8) (by rw [List.length_take]; omega)
    rw [List.toList_toArray, e'] at hh
    rw [List.toList_toArray, e']
    exact hh
end Go.Proofs.YtadcenaafoemmaaDoor
