/-
  haymowlaw13.CellMoves returns true for every two numbers and every row of bytes, and its arguments read as they did. No condition.
-/
import Derived.Test.YtldcffgjkfocoaaCl9
import Derived.Test.YtldcffgjkfocoaaCl10
import Derived.Test.YtldcffgjkfocoaaArgsC
import Derived.Test.YtldcffgjkfocoaaRows
import Derived.ProofKit
import Derived.OpenShut
import Derived.ShutString
import Derived.ChangeOld
namespace Go.Proofs.Ytldcffgjkfocoaa.cellMoves
open Go.ChangeShapes Go.WideShapes Go.ChangeAt Go.RowKit
open Go.ChangeMaps (open_string shut_string)

set_option maxHeartbeats 1000000 in
theorem long (value why : Int) (a2 : Option Addr) (len2 cap2 : Nat) (h : 300 < len2) (w : World) :
    Calls Try.prog 3 #[.int .i64 value, .int .i64 why, .slice a2 len2 cap2] w fun e w' => e = .returned (.bool true) ∧ Fr F0 w w' := by
  have h1 : (300 : Int) < (len2 : Int) := by omega
  go_enter Try.func3, Try.ntmps3
  go_wp2_with fail
  go_ret
  exact ⟨rfl, Fr.refl _ _⟩

set_option maxHeartbeats 4000000 in
set_option maxRecDepth 100000 in
theorem few (value why : Int) (a2 : Option Addr) (len2 cap2 : Nat) (zs : List Int) (w : World) (w2 : IsRow .u8 w a2 len2 cap2 zs) (h : len2 ≤ 300) :
    Calls Try.prog 3 #[.int .i64 value, .int .i64 why, .slice a2 len2 cap2] w fun e w' => e = .returned (.bool true) ∧ Fr F0 w w' := by
  have h1 : ¬ (300 : Int) < (len2 : Int) := by omega
  have HROW := Lib.hid w2
  clear w2
  go_enter Try.func3, Try.ntmps3
  go_wp2_with fail
  refine (world_any w value why).mono ?_
  rintro e w3 ⟨q, rfl, hW⟩
  have HW := Lib.hid hW
  clear hW
  go_wp2_with fail
  go_loopw [9] (fun iv wx => ∃ (j : Nat) (ops : Nat → PO) (m : List Int), j ≤ len2 ∧ iv = .int .i64 (j : Int) ∧ Hid (WorldIs w wx q ops m (9 * j))) (fun iv _ => len2 - (intOf iv).toNat)
  case atStart => exact ⟨0, _, _, by omega, rfl, HW⟩
  case round =>
    clear HW
    obtain ⟨j, ops, m, hj2, rfl, HW⟩ := hrel
    by_cases hj : j < len2
    · have g1 : (j : Int) < (len2 : Int) := by omega
      obtain ⟨bb, off, n, rfl, hn, hc⟩ := HROW.out.u8 HW.out.fr hj
      have HMV := Lib.hid (wmove_any w wr q ops m (9 * j) HW.out (by omega) n hn _ rfl)
      go_wp2_with fail
      refine HMV.out.mono ?_
      rintro e w4 ⟨rfl, hW4⟩
      have HW4 := Lib.hid hW4
      clear hW4 HMV HW hc
      go_wp2_with fail
      exact ⟨⟨j + 1, _, _, by omega, by go_num, HW4⟩, by simp [intOf]; omega⟩
    · obtain rfl : j = len2 := by omega
      have g1 : ¬ (j : Int) < (j : Int) := by omega
      go_wp2_with fail
      refine (awake_any wr).mono ?_
      rintro e w4 ⟨rfl, hF⟩
      go_wp2_with fail
      go_ret
      exact ⟨rfl, HW.out.fr.trans hF⟩
theorem walk_ {w : World} (a0 : Int) (_w0 : (Lit.int .i64 a0).wf = true) (a1 : Int) (_w1 : (Lit.int .i64 a1).wf = true) (a2 : Option Addr) (len2 cap2 : Nat) (z2 : List Int) (w2 : IsRow .u8 w a2 len2 cap2 z2) :
    Calls Try.prog 3 #[.int .i64 a0, .int .i64 a1, .slice a2 len2 cap2] w fun e w' => e = .returned (.bool true) ∧ Below w.heap.size w w' := by
  by_cases h : 300 < len2
  · exact (long a0 a1 a2 len2 cap2 h w).mono fun _ _ ⟨he, hf⟩ => ⟨he, hf.below (Nat.le_refl _) (fun _ h => h.elim)⟩
  · exact (few a0 a1 a2 len2 cap2 z2 w w2 (by omega)).mono fun _ _ ⟨he, hf⟩ => ⟨he, hf.below (Nat.le_refl _) (fun _ h => h.elim)⟩
theorem walk (a0 : Int) (w0 : (Lit.int .i64 a0).wf = true) (a1 : Int) (w1 : (Lit.int .i64 a1).wf = true) (a2 : Option Addr) (len2 cap2 : Nat) (z2 : List Int) {W0 : World} (w2 : IsRow .u8 W0 a2 len2 cap2 z2) (w : World) (hw : w = W0) :
    Calls Try.prog 3 #[.int .i64 a0, .int .i64 a1, .slice a2 len2 cap2] w fun e w' => e = .returned (.bool true) ∧ Below w.heap.size w w' := by
  subst hw; exact walk_ a0 w0 a1 w1 a2 len2 cap2 z2 w2

/-! ### The row's step -/
theorem own : ownKnob Try.prog.godebug = none := by kernel_rfl
theorem laidOut : laidOutB Try.prog = true := by kernel_rfl

set_option maxRecDepth 100000 in
theorem lifted (os : Os) (started : os.Started) (H : Type) (enc : TypeId × Value → H) :
    ReturnsInHanded {} Try.checked os 3 .any (Rows.cellMovesSpec.pre6 enc Try.prog Try.f3 Rows.cellMovesRow.domain false) (Rows.cellMovesSpec.post enc Try.prog Try.f3 false true false false) := by
  refine returnsInHanded_of_change (C := Try.checked) own started (by kernel_rfl) Try.func3
    (ChangeSpec.witness6 (enc := enc) (C := Try.checked) false ⟨#[], #[.int .i64 0, .int .i64 0, .slice none 0 0], []⟩ 8 (by kernel_rfl) (by kernel_rfl) (by kernel_rfl) (by kernel_rfl)) ?_
  intro W base args ds gs before hval0 hW hcnd _
  have hval : ∀ (j : Nat) t v, Try.f3.params[j]? = some t → args[j]? = some v → Value.okWide Try.prog W .any base t v := hval0
  have hW' := hW
  obtain ⟨p, q, hA0, hV, rfl, hfz, hnd⟩ := hW
  have hA : DataW.TrodAll enc Try.prog W 0 (fun _ => true) true Try.f3.params.toList args.toList ds p := hA0
  rw [Try.params3] at hA hval
  obtain ⟨v0, vs0, d0, ds0, p0, q0, hargs, rfl, rfl, h0, r0⟩ := trodAll_cons hA
  obtain ⟨v1, vs1, d1, ds1, p1, q1, rfl, rfl, rfl, h1, r1⟩ := trodAll_cons r0
  obtain ⟨v2, vs2, d2, ds2, p2, q2, rfl, rfl, rfl, h2, r2⟩ := trodAll_cons r1
  obtain ⟨rfl, rfl, rfl⟩ := trodAll_nil r2
  obtain rfl : args = #[v0, v1, v2] := by cases args; simp_all
  obtain ⟨rfl, rfl⟩ := trodVars_none hV
  obtain ⟨a0, rfl, rfl, rfl, w0⟩ := open_int Try.underlying2 (hval 0 2 v0 rfl rfl) h0
  obtain ⟨a1, rfl, rfl, rfl, w1⟩ := open_int Try.underlying2 (hval 1 2 v1 rfl rfl) h1
  obtain ⟨a2, len2, cap2, rfl⟩ := okWide_slice Try.underlying22 (hval 2 22 v2 rfl rfl)
  have k2 := h2
  have lt2 : ∀ x ∈ p2, x.block < W.heap.size := by obtain ⟨m, hm⟩ := k2; exact DataW.trod_lt m _ _ _ hm
  obtain ⟨z2, w2⟩ : ∃ zs, IsRow .u8 W a2 len2 cap2 zs := by
    obtain ⟨fuel, hf⟩ := h2
    rcases open_ints Try.underlying22 Try.underlying5 (by kernel_rfl) hf with ⟨hcs, _⟩ | ⟨x, l, c, zs, hcs, _, hl, hm, hz, _, hcell, hwz⟩
    · simp [Value.cells] at hcs
      obtain ⟨rfl, rfl, rfl⟩ := hcs
      exact ⟨[], .inl ⟨rfl, rfl, rfl, rfl⟩⟩
    · simp [Value.cells] at hcs
      obtain ⟨rfl, rfl, rfl⟩ := hcs
      exact ⟨zs, .inr ⟨_, rfl, hl, hm, by simpa using hz, hcell, hwz⟩⟩
  clear hA0 hval0
  refine (walk a0 w0 a1 w1 a2 len2 cap2 z2 w2 W rfl).mono fun e W' ⟨he, bel⟩ => ?_
  subst he
  exact ⟨_, rfl, _, _, _, [], _, [], hW', trodAll_mk1 (shut_bool Try.underlying4 _), (trodAll_cons_mk (shut_int Try.underlying2 w0) (trodAll_cons_mk (shut_int Try.underlying2 w1) (trodAll_cons_mk (Below.trod laidOut (by kernel_rfl) (of_decide_eq_true (by kernel_rfl)) k2 bel lt2) trodAll_mk0))), rfl, bel.frame _, fun h => by cases h⟩

theorem over : Rows.cellMovesRow.holds Try.pinned (OpenSpec.ofChange Rows.cellMovesSpec) :=
  OpenClaim.holds_of_wide 3 Try.f3 rfl rfl rfl rfl rfl rfl rfl ⟨rfl, rfl, rfl, rfl, rfl⟩ rfl rfl rfl rfl rfl (by kernel_rfl) Try.func3 (by kernel_rfl)
    (of_decide_eq_true (by kernel_rfl)) (by unfold Func.isWrapper; first | (rw [if_pos (by decide +kernel)]; kernel_rfl) | (rw [if_neg (by decide +kernel)]; exact ⟨rfl, rfl⟩))
    (fun os started H enc _ => lifted os started H enc)

/-- The statement. -/
theorem proved : Rows.CellMovesSaid := over
#print axioms proved
end Go.Proofs.Ytldcffgjkfocoaa.cellMoves
