/-
  The statement GreedyWide holds: with as many workers as steps the time is the span, and each step is done at its depth. No condition.
-/
import Derived.Test.YtdknhiohkicogaaY6
import Derived.Test.YtdknhiohkicogaaY7
import Derived.Test.YtdknhiohkicogaaGrown
import Derived.Test.YtdknhiohkicogaaRows
import Derived.ProofKit
import Derived.OpenShut
import Derived.ShutString
import Derived.ChangeOld
namespace Go.Proofs.Ytdknhiohkicogaa.greedyWide
open Go.ChangeShapes Go.WideShapes Go.ChangeAt Go.RowKit
open Go.ChangeMaps (open_string shut_string)

set_option maxHeartbeats 8000000 in
set_option maxRecDepth 100000 in
theorem go (w : World) (a : Option Addr) (len cap : Nat) (g : List (List Int)) (hg : RowsIn w a len g) :
    Calls Try.prog 7 #[.slice a len cap] w fun e w' => e = .returned (.bool true) ∧ Fr F0 w w' := by
  obtain ⟨hlen, hG⟩ := hg
  have HL := Lib.hid (light_any w _ a cap g len hlen hG)
  obtain ⟨lb, hlb⟩ : ∃ lb, lb = lightB g := ⟨_, rfl⟩
  rw [← hlb] at HL
  have HG := Lib.hid hG
  have HN := Lib.hid hlen
  have HLB := Lib.hid hlb
  clear hG hlen hlb
  cases lb with
  | false =>
    go_enter Try.func7, Try.ntmps7
    go_wp2_with fail
    refine HL.out.mono ?_
    rintro e w1 ⟨rfl, rfl⟩
    go_wp2_with fail
    go_ret
    exact ⟨rfl, Fr.refl _ _⟩
  | true =>
    have hF := (lightB_few HLB.out.symm).1
    by_cases h64 : 64 < len
    · have d1 : (64 : Int) < (len : Int) := by omega
      clear hF
      go_enter Try.func7, Try.ntmps7
      go_wp2_with fail
      refine HL.out.mono ?_
      rintro e w1 ⟨rfl, rfl⟩
      go_wp2_with fail
      go_ret
      exact ⟨rfl, Fr.refl _ _⟩
    · have d1 : ¬ (64 : Int) < (len : Int) := by omega
      have hFA : Fr F0 w (w.alloc (.cells #[.slice a len cap] 29)) := (Fr.refl F0 w).alloc _
      have HFA := Lib.hid hFA
      have HB := Lib.hid (Blk.new w 29 #[.slice a len cap])
      by_cases hr : rightB g = true
      · obtain ⟨G, hgG, hA⟩ := right_nat hr
        subst hgG
        have hn : len = G.length := by rw [HN.out, gi_length]
        have HPL := Lib.hid (plan_any _ _ a cap G 64 len hn (HG.out.f0 hFA) hF hA hr (by omega) (by omega))
        have HA := Lib.hid hA
        have HNN := Lib.hid hn
        have HR := Lib.hid hr
        have HFW := Lib.hid hF
        clear hF hr hA hn hFA
        go_enter Try.func7, Try.ntmps7
        go_wp2_with fail
        refine HL.out.mono ?_
        rintro e w1 ⟨rfl, rfl⟩
        go_wp2_with fail
        refine HPL.out.mono ?_
        rintro e w2 ⟨g', W, rfl, hgl, hW, hWl, hP, hF1⟩
        have HF1 := Lib.hid (HFA.out.trans hF1)
        have HB1 := Lib.hid (HB.out.fr hF1 (fun h => h))
        have hc1 : w2.cell? ⟨w1.heap.size, 0, none⟩ = some (.slice a len cap) := by rw [HB1.out.cell]; rfl
        have HDEP := Lib.hid (depths_any w2 _ a cap G len HNN.out (HG.out.f0 HF1.out) HFW.out HA.out HR.out)
        have HW := Lib.hid hW
        have HWL := Lib.hid hWl
        have HP := Lib.hid hP
        clear hW hWl hP hF1 hgl
        go_wp2_with fail
        refine HDEP.out.mono ?_
        rintro e w3 ⟨g2, D, rfl, hgl, hDB, hDl, hDO, hF2⟩
        have HF2 := Lib.hid (HF1.out.trans hF2)
        have HB2 := Lib.hid (HB1.out.fr hF2 (fun h => h))
        have HW2 := Lib.hid (Nb.frs HW.out hF2 (fun h => h))
        have HD := Lib.hid hDB
        have HDL := Lib.hid hDl
        have HDO := Lib.hid hDO
        clear hDB hDl hDO hF2 hgl hc1
        go_wp2_with fail
        go_loopw [7] (fun i wx => ∃ j : Nat, j ≤ len ∧ i = .int .i64 (j : Int) ∧ Hid (Fr F0 w3 wx)) (fun i _ => len - (intOf i).toNat)
        case atStart => exact ⟨0, by omega, rfl, Lib.hid (Fr.refl _ _)⟩
        case round =>
          obtain ⟨j, hj, rfl, HF3⟩ := hrel
          by_cases hjn : j < len
          · have g1 : (j : Int) < (len : Int) := by omega
            obtain ⟨m, hm⟩ := of_lt (show j < W.length by have := HWL.out; omega)
            obtain ⟨d, hd⟩ := of_lt (show j < D.length by have := HDL.out; omega)
            have hmd := HP.out.wide HA.out (by have := HNN.out; omega) HDO.out (by rw [HDL.out]; exact HNN.out) j m d hm hd
            subst hmd
            have c1 := Nb.at_ (HW2.out.frs HF3.out (fun h => h)) hm
            have c2 := Nb.at_ (HD.out.frs HF3.out (fun h => h)) hd
            rw [show ((m + 1 : Nat) : Int) = (m : Int) + 1 by omega] at c2
            have hm1 : m ≤ 1000 := by
              have := HP.out.le_self HA.out (by omega) j m hm
              omega
            have hw : IntKind.i64.wrap ((m : Int) + 1 - 1) = (m : Int) := (IntWalk.i64_in _ (by omega)).trans (by omega)
            have hw2 : (m : Int) + 1 - 1 = (m : Int) := by omega
            clear hm hd
            go_wp2_with fail
            go_quiet (fail)
            go_wp2_with fail
            refine ⟨⟨j + 1, by omega, by go_num, ?_⟩, by simp [intOf]; omega⟩
            first | exact HF3 | exact Lib.hid (HF3.out.drew) | exact Lib.hid (HF3.out.drewN _)
          · have htw := HP.out.wide_time HA.out (by have := HNN.out; omega) (by rw [HWL.out]; exact HNN.out) HDO.out (by rw [HDL.out]; exact HNN.out)
            have HW3 := Lib.hid (HW2.out.frs HF3.out (fun h => h))
            have HF4 := Lib.hid (HF2.out.trans HF3.out)
            have HB3 := Lib.hid (HB2.out.fr HF3.out (fun h => h))
            have hcx : ∀ p : Grown wr, p.at_.cell? ⟨w1.heap.size, 0, none⟩ = some (.slice a len cap) := fun p => by rw [(HB3.out.fr p.fr (fun h => h)).cell]; rfl
            have hsm : ∀ z ∈ ni W, z ≤ 4611686018427387904 := by
              intro z hz
              obtain ⟨x, hx, rfl⟩ := List.mem_map.1 hz
              obtain ⟨i, hi⟩ := List.getElem?_of_mem hx
              have h1 := HP.out.le_self HA.out (by omega) i x hi
              have h2 := lt_of hi
              have h3 := HWL.out
              omega
            have C1 : Hid (∀ p : Grown wr, Calls Try.prog 17 #[.slice (some ⟨g', 0, none⟩) len len] p.at_ fun e w'' => e = .returned (.int .i64 ((spn D : Nat) : Int)) ∧ ∃ q : Grown wr, w'' = q.at_) := Lib.hid fun p =>
              grown_of_same p (by
                have h1 := time_any p.at_ (fun b => b = g') (some ⟨g', 0, none⟩) len len (ni W) (by rw [ni_length]; exact HWL.out.symm) (by have := Nb.rd (Nb.frs HW3.out p.fr (fun h => h)) (Q := fun b => b = g') rfl; rw [HWL.out] at this; exact this) (by omega) hsm
                rw [lastI_ni, htw] at h1
                exact h1)
            have C2 : Hid (∀ p : Grown wr, Calls Try.prog 19 #[.agg #[.slice a len cap]] p.at_ fun e w'' => e = .returned (.int .i64 ((spn D : Nat) : Int)) ∧ ∃ q : Grown wr, w'' = q.at_) := Lib.hid fun p =>
              grown_of p (span_any p.at_ _ a cap G len HNN.out ((HG.out.f0 HF4.out).f0 p.fr) HFW.out HA.out HR.out D HDL.out HDO.out)
            have C3 : Hid (∀ p : Grown wr, Calls Try.prog 13 #[] p.at_ fun e w'' => e = .returned (.bool true) ∧ ∃ q : Grown wr, w'' = q.at_) := Lib.hid fun p => grown_of p (awake_any _)
            clear htw hsm
            go_wp2_with fail
            refine wp_region_grown (by kernel_rfl) (by kernel_rfl) ?_
            repeat (go_big_quiet_step (first | with_reducible exact C1.out _ | with_reducible exact C2.out _ | with_reducible exact C3.out _))
            refine wpQuiet_nil ?_
            intro _ hw'
            obtain ⟨⟨wq, hFq⟩, hw''⟩ := hw'
            subst hw''
            have HFq := Lib.hid (HF4.out.trans hFq)
            clear hFq hcx
            go_wp2_with fail
            go_ret
            exact ⟨rfl, HFq.out⟩
      · have HPL := Lib.hid (plan_no _ _ a cap g 64 len HN.out (HG.out.f0 hFA) hF (by simp [mayB, hr]))
        clear hF hr hFA
        go_enter Try.func7, Try.ntmps7
        go_wp2_with fail
        refine HL.out.mono ?_
        rintro e w1 ⟨rfl, rfl⟩
        go_wp2_with fail
        refine HPL.out.mono ?_
        rintro e w2 ⟨rfl, hF1⟩
        have HF1 := Lib.hid (HFA.out.trans hF1)
        clear hF1
        go_wp2_with fail
        refine (awake_any w2).mono ?_
        rintro e w3 ⟨rfl, hF3⟩
        have HF3 := Lib.hid (HF1.out.trans hF3)
        clear hF3
        go_wp2_with fail
        go_ret
        exact ⟨rfl, HF3.out⟩

theorem walk (a0 : Option Addr) (len0 cap0 : Nat) (z0 : List (List Int)) {W : World} (h0 : RowsIn W a0 len0 z0) (w : World) (hw : W = w := by rfl) :
    Calls Try.prog 7 #[.slice a0 len0 cap0] w fun e w' => e = .returned (.bool true) ∧ Below w.heap.size w w' := by
  subst hw
  exact (go _ a0 len0 cap0 z0 h0).mono fun _ _ ⟨he, hF⟩ => ⟨he, hF.below (Nat.le_refl _) (fun _ h => h.elim)⟩

/-! ### The row's step -/
theorem own : ownKnob Try.prog.godebug = none := by kernel_rfl
theorem laidOut : laidOutB Try.prog = true := by kernel_rfl

set_option maxRecDepth 100000 in
theorem lifted (os : Os) (started : os.Started) (H : Type) (enc : TypeId × Value → H) :
    ReturnsInHanded {} Try.checked os 7 .any (Rows.greedyWideSpec.pre6 enc Try.prog Try.f7 Rows.greedyWideRow.domain false) (Rows.greedyWideSpec.post enc Try.prog Try.f7 false true false false) := by
  refine returnsInHanded_of_change (C := Try.checked) own started (by kernel_rfl) Try.func7
    (ChangeSpec.witness6 (enc := enc) (C := Try.checked) false ⟨#[], #[.slice none 0 0], []⟩ 8 (by kernel_rfl) (by kernel_rfl) (by kernel_rfl) (by kernel_rfl)) ?_
  intro W base args ds gs before hval0 hW hcnd _
  have hval : ∀ (j : Nat) t v, Try.f7.params[j]? = some t → args[j]? = some v → Value.okWide Try.prog W .any base t v := hval0
  have hW' := hW
  obtain ⟨p, q, hA0, hV, rfl, hfz, hnd⟩ := hW
  have hA : DataW.TrodAll enc Try.prog W 0 (fun _ => true) true Try.f7.params.toList args.toList ds p := hA0
  rw [Try.params7] at hA hval
  obtain ⟨v0, vs0, d0, ds0, p0, q0, hargs, rfl, rfl, h0, r0⟩ := trodAll_cons hA
  obtain ⟨rfl, rfl, rfl⟩ := trodAll_nil r0
  obtain rfl : args = #[v0] := by cases args; simp_all
  obtain ⟨rfl, rfl⟩ := trodVars_none hV
  obtain ⟨a0, len0, cap0, rfl⟩ := okWide_slice Try.underlying22 (hval 0 22 v0 rfl rfl)
  have k0 := h0
  have lt0 : ∀ x ∈ p0, x.block < W.heap.size := by obtain ⟨m, hm⟩ := k0; exact DataW.trod_lt m _ _ _ hm
  obtain ⟨z0, w0⟩ := open_rows h0
  clear hA0 hval0
  refine (walk a0 len0 cap0 z0 w0 W).mono fun e W' ⟨he, bel⟩ => ?_
  subst he
  exact ⟨_, rfl, _, _, _, [], _, [], hW', trodAll_mk1 (shut_bool Try.underlying4 _), (trodAll_cons_mk (Below.trod laidOut (by kernel_rfl) (of_decide_eq_true (by kernel_rfl)) k0 bel lt0) trodAll_mk0), rfl, bel.frame _, fun h => by cases h⟩

theorem over : Rows.greedyWideRow.holds Try.pinned (OpenSpec.ofChange Rows.greedyWideSpec) :=
  OpenClaim.holds_of_wide 7 Try.f7 rfl rfl rfl rfl rfl rfl rfl ⟨rfl, rfl, rfl, rfl, rfl⟩ rfl rfl rfl rfl rfl (by kernel_rfl) Try.func7 (by kernel_rfl)
    (of_decide_eq_true (by kernel_rfl)) (by unfold Func.isWrapper; first | (rw [if_pos (by decide +kernel)]; kernel_rfl) | (rw [if_neg (by decide +kernel)]; exact ⟨rfl, rfl⟩))
    (fun os started H enc _ => lifted os started H enc)

/-- The statement. -/
theorem proved : Rows.GreedyWideSaid := over
#print axioms proved
end Go.Proofs.Ytdknhiohkicogaa.greedyWide
