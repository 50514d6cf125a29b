/-
  The statement EpochNew holds: which epochs there are, and that one that is not there does nothing. No condition.
-/
import Derived.Test.YtjphmiemakmcbaaEp9
import Derived.Test.YtjphmiemakmcbaaRows
import Derived.ProofKit
import Derived.OpenShut
import Derived.ShutString
import Derived.ChangeOld
namespace Go.Proofs.Ytjphmiemakmcbaa.epochNew
open Go.ChangeShapes Go.WideShapes Go.ChangeAt Go.RowKit
open Go.ChangeMaps (open_string shut_string)

set_option maxHeartbeats 4000000 in
theorem walk_yes (w : World) (n : Nat) (h1 : 1 ≤ n) (h2 : n ≤ 64) :
    Calls Try.prog 4 #[.int .i64 (n : Int)] w fun e w' => e = .returned (.bool true) ∧ Fr F0 w w' := by
  have g1 : decide (1 ≤ (n : Int)) = true := decide_eq_true (by omega)
  have g2 : decide ((n : Int) ≤ 64) = true := decide_eq_true (by omega)
  have g3 : decide (1 ≤ n) = true := decide_eq_true h1
  have g4 : decide (n ≤ 64) = true := decide_eq_true h2
  go_enter Try.func4, Try.ntmps4
  go_wp2_with fail
  refine (new_yes w n h1 h2).mono ?_
  rintro e w1 ⟨rfl, -, hF1⟩
  have HF1 := Lib.hid hF1
  clear hF1
  go_wp2_with fail
  refine (announce_nil w1 0).mono ?_
  rintro e w2 ⟨rfl, hF2⟩
  have HF2 := Lib.hid (HF1.out.trans hF2)
  clear hF2
  go_wp2_with fail
  refine (retire_nil w2 0 1).mono ?_
  rintro e w3 ⟨rfl, rfl⟩
  go_wp2_with fail
  refine (now_nil w3).mono ?_
  rintro e w4 ⟨rfl, rfl⟩
  go_wp2_with fail
  refine (limbo_nil w4 0).mono ?_
  rintro e w5 ⟨rfl, rfl⟩
  go_wp2_with fail
  refine (awake_any w5).mono ?_
  rintro e w6 ⟨rfl, hF6⟩
  have HF6 := Lib.hid (HF2.out.trans hF6)
  clear hF6
  go_wp2_with fail
  go_ret
  exact ⟨rfl, HF6.out⟩

set_option maxHeartbeats 4000000 in
theorem walk_no (w : World) (x : Int) (h : x < 1 ∨ 64 < x) :
    Calls Try.prog 4 #[.int .i64 x] w fun e w' => e = .returned (.bool true) ∧ Fr F0 w w' := by
  obtain ⟨b, hb, hb2⟩ : ∃ b, decide (1 ≤ x) = b ∧ (b = true → decide (x ≤ 64) = false) := ⟨_, rfl, fun hb => decide_eq_false (by have := of_decide_eq_true hb; omega)⟩
  have HNO := Lib.hid (new_no w x h)
  clear h
  cases b with
  | true =>
    have hb3 := hb2 rfl
    clear hb2
    go_enter Try.func4, Try.ntmps4
    go_wp2_with fail
    refine HNO.out.mono ?_
    rintro e w1 ⟨rfl, rfl⟩
    have hF1 : Fr F0 w1 w1 := Fr.refl _ _
    have HF1 := Lib.hid hF1
    clear hF1
    go_wp2_with fail
    refine (announce_nil w1 0).mono ?_
    rintro e w2 ⟨rfl, hF2⟩
    have HF2 := Lib.hid (HF1.out.trans hF2)
    clear hF2
    go_wp2_with fail
    refine (retire_nil w2 0 1).mono ?_
    rintro e w3 ⟨rfl, rfl⟩
    go_wp2_with fail
    refine (now_nil w3).mono ?_
    rintro e w4 ⟨rfl, rfl⟩
    go_wp2_with fail
    refine (limbo_nil w4 0).mono ?_
    rintro e w5 ⟨rfl, rfl⟩
    go_wp2_with fail
    refine (awake_any w5).mono ?_
    rintro e w6 ⟨rfl, hF6⟩
    have HF6 := Lib.hid (HF2.out.trans hF6)
    clear hF6
    go_wp2_with fail
    go_ret
    exact ⟨rfl, HF6.out⟩
  | false =>
    clear hb2
    go_enter Try.func4, Try.ntmps4
    go_wp2_with fail
    refine HNO.out.mono ?_
    rintro e w1 ⟨rfl, rfl⟩
    have hF1 : Fr F0 w1 w1 := Fr.refl _ _
    have HF1 := Lib.hid hF1
    clear hF1
    go_wp2_with fail
    refine (announce_nil w1 0).mono ?_
    rintro e w2 ⟨rfl, hF2⟩
    have HF2 := Lib.hid (HF1.out.trans hF2)
    clear hF2
    go_wp2_with fail
    refine (retire_nil w2 0 1).mono ?_
    rintro e w3 ⟨rfl, rfl⟩
    go_wp2_with fail
    refine (now_nil w3).mono ?_
    rintro e w4 ⟨rfl, rfl⟩
    go_wp2_with fail
    refine (limbo_nil w4 0).mono ?_
    rintro e w5 ⟨rfl, rfl⟩
    go_wp2_with fail
    refine (awake_any w5).mono ?_
    rintro e w6 ⟨rfl, hF6⟩
    have HF6 := Lib.hid (HF2.out.trans hF6)
    clear hF6
    go_wp2_with fail
    go_ret
    exact ⟨rfl, HF6.out⟩
theorem walk (x : Int) (_ : (Lit.int .i64 x).wf = true) (w : World) :
    Calls Try.prog 4 #[.int .i64 x] w fun e w' => e = .returned (.bool true) ∧ Below w.heap.size w w' := by
  have key : Calls Try.prog 4 #[.int .i64 x] w fun e w' => e = .returned (.bool true) ∧ Fr F0 w w' := by
    by_cases h : 1 ≤ x ∧ x ≤ 64
    · obtain ⟨n, rfl⟩ : ∃ n : Nat, x = n := ⟨x.toNat, by omega⟩
      exact walk_yes w n (by omega) (by omega)
    · exact walk_no w x (by omega)
  exact key.mono fun _ _ ⟨he, hF⟩ => ⟨he, hF.below (Nat.le_refl _) (fun _ h => h.elim)⟩

/-! ### The row's step -/
theorem own : ownKnob Try.prog.godebug = none := by kernel_rfl
theorem laidOut : laidOutB Try.prog = true := by kernel_rfl

set_option maxRecDepth 100000 in
theorem lifted (os : Os) (started : os.Started) (H : Type) (enc : TypeId × Value → H) :
    ReturnsInHanded {} Try.checked os 4 .any (Rows.epochNewSpec.pre6 enc Try.prog Try.f4 Rows.epochNewRow.domain false) (Rows.epochNewSpec.post enc Try.prog Try.f4 false true false false) := by
  refine returnsInHanded_of_change (C := Try.checked) own started (by kernel_rfl) Try.func4
    (ChangeSpec.witness6 (enc := enc) (C := Try.checked) false ⟨#[], #[.int .i64 0], []⟩ 8 (by kernel_rfl) (by kernel_rfl) (by kernel_rfl) (by kernel_rfl)) ?_
  intro W base args ds gs before hval0 hW hcnd _
  have hval : ∀ (j : Nat) t v, Try.f4.params[j]? = some t → args[j]? = some v → Value.okWide Try.prog W .any base t v := hval0
  have hW' := hW
  obtain ⟨p, q, hA0, hV, rfl, hfz, hnd⟩ := hW
  have hA : DataW.TrodAll enc Try.prog W 0 (fun _ => true) true Try.f4.params.toList args.toList ds p := hA0
  rw [Try.params4] at hA hval
  obtain ⟨v0, vs0, d0, ds0, p0, q0, hargs, rfl, rfl, h0, r0⟩ := trodAll_cons hA
  obtain ⟨rfl, rfl, rfl⟩ := trodAll_nil r0
  obtain rfl : args = #[v0] := by cases args; simp_all
  obtain ⟨rfl, rfl⟩ := trodVars_none hV
  obtain ⟨a0, rfl, rfl, rfl, w0⟩ := open_int Try.underlying3 (hval 0 3 v0 rfl rfl) h0
  clear hA0 hval0
  refine (walk a0 w0 W).mono fun e W' ⟨he, bel⟩ => ?_
  subst he
  exact ⟨_, rfl, _, _, _, [], _, [], hW', trodAll_mk1 (shut_bool Try.underlying4 _), (trodAll_cons_mk (shut_int Try.underlying3 w0) trodAll_mk0), rfl, bel.frame _, fun h => by cases h⟩

theorem over : Rows.epochNewRow.holds Try.pinned (OpenSpec.ofChange Rows.epochNewSpec) :=
  OpenClaim.holds_of_wide 4 Try.f4 rfl rfl rfl rfl rfl rfl rfl ⟨rfl, rfl, rfl, rfl, rfl⟩ rfl rfl rfl rfl rfl (by kernel_rfl) Try.func4 (by kernel_rfl)
    (of_decide_eq_true (by kernel_rfl)) (by unfold Func.isWrapper; first | (rw [if_pos (by decide +kernel)]; kernel_rfl) | (rw [if_neg (by decide +kernel)]; exact ⟨rfl, rfl⟩))
    (fun os started H enc _ => lifted os started H enc)

/-- The statement. -/
theorem proved : Rows.EpochNewSaid := over
#print axioms proved
end Go.Proofs.Ytjphmiemakmcbaa.epochNew
