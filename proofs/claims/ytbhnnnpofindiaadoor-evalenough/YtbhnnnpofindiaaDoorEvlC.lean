/-
  The arguments are copied into a new task's registers.
-/
import Derived.Test.YtbhnnnpofindiaaDoorLogE
import Derived.Laws.CopyRow
import Derived.Laws.IdiomCopy
namespace Go.Proofs.YtbhnnnpofindiaaDoor
open Go.RowKit

set_option maxRecDepth 100000 in
theorem copy_any (W : World) (g : Nat) (Wb : Nat) (cd pa : Value) (me : Nat) (futs : List (Bool × Int)) (hB : Blk W g 106 (tkL Wb cd pa me (newTk [] futs) (.slice none 0 0) false 0).toArray) (A : Option Addr) (args : List Int) (ac : Nat) (hA : IntsA W A args) (h8 : args.length ≤ 8) (ty : TypeId) :
    ∃ W', (Builtin.copy_ #[23, 23] ty #[.slice (some ⟨g, 1, none⟩) 8 8, .slice A args.length ac]).run Tryd.prog W = .ok (goInt args.length) W' ∧ Blk W' g 106 (tkL Wb cd pa me (newTk args futs) (.slice none 0 0) false 0).toArray ∧ Fr (At g) W W' := by
  rcases Nat.eq_zero_or_pos args.length with h0 | h0
  · have e := List.eq_nil_of_length_eq_zero h0
    subst e
    exact ⟨W, run_copy_none W _ _ ty 2 _ A 8 8 0 ac Tryd.underlying23 (by kernel_rfl) (by decide), hB, Fr.refl _ _⟩
  · obtain ⟨b, off, rfl, hc⟩ := hA h0
    have hsz : (tkL Wb cd pa me (newTk [] futs) (.slice none 0 0) false 0).length = 17 + (futC futs).length := by simp [tkL, newTk]; omega
    have hr := run_copy_row (P := Tryd.prog) W 23 23 ty 2 g 1 8 8 ⟨b, off, none⟩ args.length ac _ 106 (ints args) Tryd.underlying23 (by kernel_rfl) hB (by rw [List.length_map]; exact (Nat.min_eq_left h8).symm) (fun j v hv => by
        have hadd : (⟨b, off, none⟩ : Addr).add j = ⟨b, off + j, none⟩ := by unfold Addr.add; split <;> simp_all
        rw [hadd]
        rw [List.getElem?_map] at hv
        cases hx : args[j]? with
        | none => rw [hx] at hv; cases hv
        | some x => rw [hx] at hv; cases hv; exact hc j x hx) (by simp only [List.size_toArray, hsz, List.length_map]; omega) (fun v hv => by
        obtain ⟨x, _, rfl⟩ := List.mem_map.1 hv
        rfl)
    have hlen : (ints args).length = args.length := List.length_map _
    rw [hlen] at hr
    refine ⟨_, hr, ?_, ⟨rfl, rfl, rfl, by simp, fun k _ hn => setRow_other W g k _ hn⟩⟩
    have hh := setRow_heap W g _ (List.take 1 (tkL Wb cd pa me (newTk [] futs) (.slice none 0 0) false 0).toArray.toList ++ ints args ++ List.drop (1 + args.length) (tkL Wb cd pa me (newTk [] futs) (.slice none 0 0) false 0).toArray.toList).toArray 106 (0, 0) hB
    have e : List.take 1 (tkL Wb cd pa me (newTk [] futs) (.slice none 0 0) false 0) ++ ints args ++ List.drop (1 + args.length) (tkL Wb cd pa me (newTk [] futs) (.slice none 0 0) false 0) = tkL Wb cd pa me (newTk args futs) (.slice none 0 0) false 0 := by
      match args, h0, h8 with
      | [a0], _, _ => rfl
      | [a0, a1], _, _ => rfl
      | [a0, a1, a2], _, _ => rfl
      | [a0, a1, a2, a3], _, _ => rfl
      | [a0, a1, a2, a3, a4], _, _ => rfl
      | [a0, a1, a2, a3, a4, a5], _, _ => rfl
      | [a0, a1, a2, a3, a4, a5, a6], _, _ => rfl
      | [a0, a1, a2, a3, a4, a5, a6, a7], _, _ => rfl
      | _ :: _ :: _ :: _ :: _ :: _ :: _ :: _ :: _ :: _, _, h => simp at h
    rw [List.toList_toArray, e] at hh
    rw [List.toList_toArray, e]
    exact hh
end Go.Proofs.YtbhnnnpofindiaaDoor
