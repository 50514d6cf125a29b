/-
  The statement GreedyPlans holds: the greedy plan of any graph. No condition.
-/
import Derived.Test.YtdknhiohkicogaaY6
import Derived.Test.YtdknhiohkicogaaY12
import Derived.Test.YtdknhiohkicogaaRows
import Derived.ProofKit
import Derived.OpenShut
import Derived.ShutString
import Derived.ChangeOld
namespace Go.Proofs.Ytdknhiohkicogaa.greedyPlans
open Go.ChangeShapes Go.WideShapes Go.ChangeAt Go.RowKit
open Go.ChangeMaps (open_string shut_string)

set_option maxHeartbeats 8000000 in
set_option maxRecDepth 100000 in
theorem go (w : World) (a : Option Addr) (len cap : Nat) (g : List (List Int)) (hg : RowsIn w a len g) (x : Int) :
    Calls Try.prog 3 #[.slice a len cap, .int .i64 x] w fun e w' => e = .returned (.bool true) ∧ Fr F0 w w' := by
  obtain ⟨hlen, hG⟩ := hg
  have HL := Lib.hid (light_any w _ a cap g len hlen hG)
  obtain ⟨lb, hlb⟩ : ∃ lb, lb = lightB g := ⟨_, rfl⟩
  rw [← hlb] at HL
  have HG := Lib.hid hG
  have HN := Lib.hid hlen
  have HLB := Lib.hid hlb
  clear hG hlen hlb
  cases lb with
  | false =>
    go_enter Try.func3, Try.ntmps3
    go_wp2_with fail
    refine HL.out.mono ?_
    rintro e w1 ⟨rfl, rfl⟩
    go_wp2_with fail
    go_ret
    exact ⟨rfl, Fr.refl _ _⟩
  | true =>
    have HFW := Lib.hid (lightB_few HLB.out.symm).1
    have hl1 : len ≤ 1000 := by have := HFW.out.n; have := HN.out; omega
    by_cases hx : 1 ≤ x ∧ x ≤ 64
    · obtain ⟨k, rfl⟩ : ∃ k : Nat, x = k := ⟨x.toNat, by omega⟩
      have hk1 : 1 ≤ k := by omega
      have hk2 : k ≤ 64 := by omega
      have q1 : ¬ (k : Int) < 1 := by omega
      have q2 : ¬ (64 : Int) < (k : Int) := by omega
      have HK1 := Lib.hid hk1
      have HK2 := Lib.hid hk2
      clear hx hk1
      by_cases hr : rightB g = true
      · obtain ⟨G, hgG, hA⟩ := right_nat hr
        subst hgG
        have hn : len = G.length := by rw [HN.out, gi_length]
        have HPL := Lib.hid (plan_any w _ a cap G k len hn HG.out HFW.out hA hr HK1.out HK2.out)
        have HA := Lib.hid hA
        have HNN := Lib.hid hn
        have HR := Lib.hid hr
        clear hr hA hn
        go_enter Try.func3, Try.ntmps3
        go_wp2_with fail
        refine HL.out.mono ?_
        rintro e w1 ⟨rfl, rfl⟩
        go_wp2_with fail
        refine HPL.out.mono ?_
        rintro e w2 ⟨g', W, rfl, hgl, hW, hWl, hP, hF1⟩
        have HF1 := Lib.hid hF1
        have HW := Lib.hid hW
        have HWL := Lib.hid hWl
        have HP := Lib.hid hP
        have HRR := Lib.hid (rright_any w2 _ a cap len (gi G) HN.out (HG.out.f0 hF1) HFW.out)
        rw [HR.out] at HRR
        clear hgl hW hWl hP hF1
        go_wp2_with fail
        refine HRR.out.mono ?_
        rintro e w3 ⟨rfl, hF2⟩
        have HF2 := Lib.hid (HF1.out.trans hF2)
        have HW2 := Lib.hid (Blk.fr HW.out hF2 (fun h => h))
        have HPL2 := Lib.hid (rplan_any w3 _ a cap len k G W HP.out HA.out HNN.out (HG.out.f0 HF2.out) HFW.out HWL.out HK1.out HK2.out)
        clear hF2
        go_wp2_with fail
        refine HPL2.out.mono ?_
        rintro e w4 ⟨g2, rfl, hgl, hW3, hF3⟩
        have HF3 := Lib.hid (HF2.out.trans hF3)
        have HW3 : Hid (Nb w4 g' W) := Lib.hid (Blk.fr HW2.out hF3 (fun h => h))
        have HW4 : Hid (Nb w4 g2 W) := Lib.hid hW3
        clear hgl hW3 hF3
        go_wp2_with fail
        go_loopw [8] (fun i wx => ∃ j : Nat, j ≤ len ∧ i = .int .i64 (j : Int) ∧ Hid (Fr F0 w4 wx)) (fun i _ => len - (intOf i).toNat)
        case atStart => exact ⟨0, by omega, rfl, Lib.hid (Fr.refl _ _)⟩
        case round =>
          obtain ⟨j, hj, rfl, HF4⟩ := hrel
          by_cases hjl : j < len
          · have g1 : (j : Int) < (len : Int) := by omega
            obtain ⟨m, hm⟩ := of_lt (show j < W.length by have := HWL.out; omega)
            have c1 := HF4.out.held (Nb.at_ HW3.out hm) (fun h => h)
            have c2 := HF4.out.held (Nb.at_ HW4.out hm) (fun h => h)
            clear hm
            go_wp2_with fail
            go_quiet (fail)
            go_wp2_with fail
            refine ⟨⟨j + 1, by omega, by go_num, ?_⟩, by simp [intOf]; omega⟩
            first | exact HF4 | exact Lib.hid (HF4.out.drew) | exact Lib.hid (HF4.out.drewN _)
          · have HF5 := Lib.hid (HF3.out.trans HF4.out)
            go_wp2_with fail
            refine (awake_any wr).mono ?_
            rintro e w6 ⟨rfl, hF6⟩
            have HF6 := Lib.hid (HF5.out.trans hF6)
            clear hF6
            go_wp2_with fail
            go_ret
            exact ⟨rfl, HF6.out⟩
      · have HPL := Lib.hid (plan_no w _ a cap g (k : Int) len HN.out HG.out HFW.out (by simp [mayB, hr]))
        have hrf : rightB g = false := by simpa using hr
        have HR := Lib.hid hrf
        clear hr hrf
        go_enter Try.func3, Try.ntmps3
        go_wp2_with fail
        refine HL.out.mono ?_
        rintro e w1 ⟨rfl, rfl⟩
        go_wp2_with fail
        refine HPL.out.mono ?_
        rintro e w2 ⟨rfl, hF1⟩
        have HF1 := Lib.hid hF1
        have HRR := Lib.hid (rright_any w2 _ a cap len g HN.out (HG.out.f0 hF1) HFW.out)
        rw [HR.out] at HRR
        clear hF1
        go_wp2_with fail
        refine HRR.out.mono ?_
        rintro e w3 ⟨rfl, hF2⟩
        have HF2 := Lib.hid (HF1.out.trans hF2)
        clear hF2
        go_wp2_with fail
        refine (awake_any w3).mono ?_
        rintro e w4 ⟨rfl, hF3⟩
        have HF3 := Lib.hid (HF2.out.trans hF3)
        clear hF3
        go_wp2_with fail
        go_ret
        exact ⟨rfl, HF3.out⟩
    · have HPL := Lib.hid (plan_no w _ a cap g x len HN.out HG.out HFW.out (by
        by_cases h1 : 1 ≤ x
        · simp [mayB, show ¬ x ≤ 64 by omega]
        · simp [mayB, h1]))
      by_cases h1 : x < 1
      · have d1 : decide (x < 1) = true := decide_eq_true h1
        clear hx
        go_enter Try.func3, Try.ntmps3
        go_wp2_with fail
        refine HL.out.mono ?_
        rintro e w1 ⟨rfl, rfl⟩
        go_wp2_with fail
        refine HPL.out.mono ?_
        rintro e w2 ⟨rfl, hF1⟩
        have HF1 := Lib.hid hF1
        clear hF1
        go_wp2_with fail
        refine (awake_any w2).mono ?_
        rintro e w4 ⟨rfl, hF3⟩
        have HF3 := Lib.hid (HF1.out.trans hF3)
        clear hF3
        go_wp2_with fail
        go_ret
        exact ⟨rfl, HF3.out⟩
      · have d1 : decide (x < 1) = false := decide_eq_false h1
        have h2 : 64 < x := by omega
        have d2 : decide (64 < x) = true := decide_eq_true h2
        clear hx
        go_enter Try.func3, Try.ntmps3
        go_wp2_with fail
        refine HL.out.mono ?_
        rintro e w1 ⟨rfl, rfl⟩
        go_wp2_with fail
        refine HPL.out.mono ?_
        rintro e w2 ⟨rfl, hF1⟩
        have HF1 := Lib.hid hF1
        clear hF1
        go_wp2_with fail
        refine (awake_any w2).mono ?_
        rintro e w4 ⟨rfl, hF3⟩
        have HF3 := Lib.hid (HF1.out.trans hF3)
        clear hF3
        go_wp2_with fail
        go_ret
        exact ⟨rfl, HF3.out⟩

theorem walk (a0 : Option Addr) (len0 cap0 : Nat) (z0 : List (List Int)) {W : World} (h0 : RowsIn W a0 len0 z0) (x : Int) (_ : (Lit.int .i64 x).wf = true) (w : World) (hw : W = w := by rfl) :
    Calls Try.prog 3 #[.slice a0 len0 cap0, .int .i64 x] w fun e w' => e = .returned (.bool true) ∧ Below w.heap.size w w' := by
  subst hw
  exact (go _ a0 len0 cap0 z0 h0 x).mono fun _ _ ⟨he, hF⟩ => ⟨he, hF.below (Nat.le_refl _) (fun _ h => h.elim)⟩

/-! ### The row's step -/
theorem own : ownKnob Try.prog.godebug = none := by kernel_rfl
theorem laidOut : laidOutB Try.prog = true := by kernel_rfl

set_option maxRecDepth 100000 in
theorem lifted (os : Os) (started : os.Started) (H : Type) (enc : TypeId × Value → H) :
    ReturnsInHanded {} Try.checked os 3 .any (Rows.greedyPlansSpec.pre6 enc Try.prog Try.f3 Rows.greedyPlansRow.domain false) (Rows.greedyPlansSpec.post enc Try.prog Try.f3 false true false false) := by
  refine returnsInHanded_of_change (C := Try.checked) own started (by kernel_rfl) Try.func3
    (ChangeSpec.witness6 (enc := enc) (C := Try.checked) false ⟨#[], #[.slice none 0 0, .int .i64 0], []⟩ 8 (by kernel_rfl) (by kernel_rfl) (by kernel_rfl) (by kernel_rfl)) ?_
  intro W base args ds gs before hval0 hW hcnd _
  have hval : ∀ (j : Nat) t v, Try.f3.params[j]? = some t → args[j]? = some v → Value.okWide Try.prog W .any base t v := hval0
  have hW' := hW
  obtain ⟨p, q, hA0, hV, rfl, hfz, hnd⟩ := hW
  have hA : DataW.TrodAll enc Try.prog W 0 (fun _ => true) true Try.f3.params.toList args.toList ds p := hA0
  rw [Try.params3] at hA hval
  obtain ⟨v0, vs0, d0, ds0, p0, q0, hargs, rfl, rfl, h0, r0⟩ := trodAll_cons hA
  obtain ⟨v1, vs1, d1, ds1, p1, q1, rfl, rfl, rfl, h1, r1⟩ := trodAll_cons r0
  obtain ⟨rfl, rfl, rfl⟩ := trodAll_nil r1
  obtain rfl : args = #[v0, v1] := by cases args; simp_all
  obtain ⟨rfl, rfl⟩ := trodVars_none hV
  obtain ⟨a0, len0, cap0, rfl⟩ := okWide_slice Try.underlying22 (hval 0 22 v0 rfl rfl)
  have k0 := h0
  have lt0 : ∀ x ∈ p0, x.block < W.heap.size := by obtain ⟨m, hm⟩ := k0; exact DataW.trod_lt m _ _ _ hm
  obtain ⟨z0, w0⟩ := open_rows h0
  obtain ⟨a1, rfl, rfl, rfl, w1⟩ := open_int Try.underlying3 (hval 1 3 v1 rfl rfl) h1
  clear hA0 hval0
  refine (walk a0 len0 cap0 z0 w0 a1 w1 W).mono fun e W' ⟨he, bel⟩ => ?_
  subst he
  exact ⟨_, rfl, _, _, _, [], _, [], hW', trodAll_mk1 (shut_bool Try.underlying4 _), (trodAll_cons_mk (Below.trod laidOut (by kernel_rfl) (of_decide_eq_true (by kernel_rfl)) k0 bel lt0) (trodAll_cons_mk (shut_int Try.underlying3 w1) trodAll_mk0)), rfl, bel.frame _, fun h => by cases h⟩

theorem over : Rows.greedyPlansRow.holds Try.pinned (OpenSpec.ofChange Rows.greedyPlansSpec) :=
  OpenClaim.holds_of_wide 3 Try.f3 rfl rfl rfl rfl rfl rfl rfl ⟨rfl, rfl, rfl, rfl, rfl⟩ rfl rfl rfl rfl rfl (by kernel_rfl) Try.func3 (by kernel_rfl)
    (of_decide_eq_true (by kernel_rfl)) (by unfold Func.isWrapper; first | (rw [if_pos (by decide +kernel)]; kernel_rfl) | (rw [if_neg (by decide +kernel)]; exact ⟨rfl, rfl⟩))
    (fun os started H enc _ => lifted os started H enc)

/-- The statement. -/
theorem proved : Rows.GreedyPlansSaid := over
#print axioms proved
end Go.Proofs.Ytdknhiohkicogaa.greedyPlans
