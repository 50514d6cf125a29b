/-
  The statement GreedyOne holds: one worker does the steps in their order, one at each moment. No condition.
-/
import Derived.Test.YtdknhiohkicogaaY6
import Derived.Test.YtdknhiohkicogaaRows
import Derived.ProofKit
import Derived.OpenShut
import Derived.ShutString
import Derived.ChangeOld
namespace Go.Proofs.Ytdknhiohkicogaa.greedyOne
open Go.ChangeShapes Go.WideShapes Go.ChangeAt Go.RowKit
open Go.ChangeMaps (open_string shut_string)

set_option maxHeartbeats 4000000 in
set_option maxRecDepth 100000 in
theorem go (w : World) (a : Option Addr) (len cap : Nat) (g : List (List Int)) (hg : RowsIn w a len g) :
    Calls Try.prog 9 #[.slice a len cap] w fun e w' => e = .returned (.bool true) ∧ Fr F0 w w' := by
  obtain ⟨hlen, hG⟩ := hg
  have HL := Lib.hid (light_any w _ a cap g len hlen hG)
  obtain ⟨lb, hlb⟩ : ∃ lb, lb = lightB g := ⟨_, rfl⟩
  rw [← hlb] at HL
  have HG := Lib.hid hG
  have HN := Lib.hid hlen
  have HLB := Lib.hid hlb
  clear hG hlen hlb
  cases lb with
  | false =>
    go_enter Try.func9, Try.ntmps9
    go_wp2_with fail
    refine HL.out.mono ?_
    rintro e w1 ⟨rfl, rfl⟩
    go_wp2_with fail
    go_ret
    exact ⟨rfl, Fr.refl _ _⟩
  | true =>
    have hF := (lightB_few HLB.out.symm).1
    by_cases hr : rightB g = true
    · obtain ⟨G, hgG, hA⟩ := right_nat hr
      have hn : len = G.length := by rw [HN.out, hgG, gi_length]
      have HPL := Lib.hid (plan_any w _ a cap G 1 len hn (hgG ▸ HG.out) (hgG ▸ hF) hA (hgG ▸ hr) (by omega) (by omega))
      have HA := Lib.hid hA
      have HNN := Lib.hid hn
      have hl1 : len ≤ 1000 := by have := hF.n; have := HN.out; omega
      clear hF hr hA hn hgG
      go_enter Try.func9, Try.ntmps9
      go_wp2_with fail
      refine HL.out.mono ?_
      rintro e w1 ⟨rfl, rfl⟩
      go_wp2_with fail
      refine HPL.out.mono ?_
      rintro e w2 ⟨g', W, rfl, hgl, hW, hWl, hP, hF1⟩
      have hWe : W = List.range len := by
        have := hP.one (one_plan HA.out) (by simp; rw [hWl]; exact HNN.out)
        rw [this, HNN.out]
      subst hWe
      have HW := Lib.hid hW
      have HF1 := Lib.hid hF1
      clear hW hWl hP hF1 hgl
      go_wp2_with fail
      go_loopw [5] (fun i wx => ∃ j : Nat, j ≤ len ∧ i = .int .i64 (j : Int) ∧ wx = w2) (fun i _ => len - (intOf i).toNat)
      case atStart => exact ⟨0, by omega, rfl, rfl⟩
      case round =>
        obtain ⟨j, hj, rfl, rfl⟩ := hrel
        by_cases hjn : j < len
        · have g1 : (j : Int) < (len : Int) := by omega
          have hc := Nb.at_ HW.out (range_at hjn)
          go_wp2_with fail
          refine ⟨⟨j + 1, by omega, by go_num, trivial⟩, by simp [intOf]; omega⟩
        · go_wp2_with fail
          refine (awake_any wr).mono ?_
          rintro e w3 ⟨rfl, hF3⟩
          have HF3 := Lib.hid (HF1.out.trans hF3)
          clear hF3
          go_wp2_with fail
          go_ret
          exact ⟨rfl, HF3.out⟩
    · have HPL := Lib.hid (plan_no w _ a cap g 1 len HN.out HG.out hF (by simp [mayB, hr]))
      clear hF hr
      go_enter Try.func9, Try.ntmps9
      go_wp2_with fail
      refine HL.out.mono ?_
      rintro e w1 ⟨rfl, rfl⟩
      go_wp2_with fail
      refine HPL.out.mono ?_
      rintro e w2 ⟨rfl, hF1⟩
      have HF1 := Lib.hid hF1
      clear hF1
      go_wp2_with fail
      refine (awake_any w2).mono ?_
      rintro e w3 ⟨rfl, hF3⟩
      have HF3 := Lib.hid (HF1.out.trans hF3)
      clear hF3
      go_wp2_with fail
      go_ret
      exact ⟨rfl, HF3.out⟩

theorem walk (a0 : Option Addr) (len0 cap0 : Nat) (z0 : List (List Int)) {W : World} (h0 : RowsIn W a0 len0 z0) (w : World) (hw : W = w := by rfl) :
    Calls Try.prog 9 #[.slice a0 len0 cap0] w fun e w' => e = .returned (.bool true) ∧ Below w.heap.size w w' := by
  subst hw
  exact (go _ a0 len0 cap0 z0 h0).mono fun _ _ ⟨he, hF⟩ => ⟨he, hF.below (Nat.le_refl _) (fun _ h => h.elim)⟩

/-! ### The row's step -/
theorem own : ownKnob Try.prog.godebug = none := by kernel_rfl
theorem laidOut : laidOutB Try.prog = true := by kernel_rfl

set_option maxRecDepth 100000 in
theorem lifted (os : Os) (started : os.Started) (H : Type) (enc : TypeId × Value → H) :
    ReturnsInHanded {} Try.checked os 9 .any (Rows.greedyOneSpec.pre6 enc Try.prog Try.f9 Rows.greedyOneRow.domain false) (Rows.greedyOneSpec.post enc Try.prog Try.f9 false true false false) := by
  refine returnsInHanded_of_change (C := Try.checked) own started (by kernel_rfl) Try.func9
    (ChangeSpec.witness6 (enc := enc) (C := Try.checked) false ⟨#[], #[.slice none 0 0], []⟩ 8 (by kernel_rfl) (by kernel_rfl) (by kernel_rfl) (by kernel_rfl)) ?_
  intro W base args ds gs before hval0 hW hcnd _
  have hval : ∀ (j : Nat) t v, Try.f9.params[j]? = some t → args[j]? = some v → Value.okWide Try.prog W .any base t v := hval0
  have hW' := hW
  obtain ⟨p, q, hA0, hV, rfl, hfz, hnd⟩ := hW
  have hA : DataW.TrodAll enc Try.prog W 0 (fun _ => true) true Try.f9.params.toList args.toList ds p := hA0
  rw [Try.params9] at hA hval
  obtain ⟨v0, vs0, d0, ds0, p0, q0, hargs, rfl, rfl, h0, r0⟩ := trodAll_cons hA
  obtain ⟨rfl, rfl, rfl⟩ := trodAll_nil r0
  obtain rfl : args = #[v0] := by cases args; simp_all
  obtain ⟨rfl, rfl⟩ := trodVars_none hV
  obtain ⟨a0, len0, cap0, rfl⟩ := okWide_slice Try.underlying22 (hval 0 22 v0 rfl rfl)
  have k0 := h0
  have lt0 : ∀ x ∈ p0, x.block < W.heap.size := by obtain ⟨m, hm⟩ := k0; exact DataW.trod_lt m _ _ _ hm
  obtain ⟨z0, w0⟩ := open_rows h0
  clear hA0 hval0
  refine (walk a0 len0 cap0 z0 w0 W).mono fun e W' ⟨he, bel⟩ => ?_
  subst he
  exact ⟨_, rfl, _, _, _, [], _, [], hW', trodAll_mk1 (shut_bool Try.underlying4 _), (trodAll_cons_mk (Below.trod laidOut (by kernel_rfl) (of_decide_eq_true (by kernel_rfl)) k0 bel lt0) trodAll_mk0), rfl, bel.frame _, fun h => by cases h⟩

theorem over : Rows.greedyOneRow.holds Try.pinned (OpenSpec.ofChange Rows.greedyOneSpec) :=
  OpenClaim.holds_of_wide 9 Try.f9 rfl rfl rfl rfl rfl rfl rfl ⟨rfl, rfl, rfl, rfl, rfl⟩ rfl rfl rfl rfl rfl (by kernel_rfl) Try.func9 (by kernel_rfl)
    (of_decide_eq_true (by kernel_rfl)) (by unfold Func.isWrapper; first | (rw [if_pos (by decide +kernel)]; kernel_rfl) | (rw [if_neg (by decide +kernel)]; exact ⟨rfl, rfl⟩))
    (fun os started H enc _ => lifted os started H enc)

/-- The statement. -/
theorem proved : Rows.GreedyOneSaid := over
#print axioms proved
end Go.Proofs.Ytdknhiohkicogaa.greedyOne
