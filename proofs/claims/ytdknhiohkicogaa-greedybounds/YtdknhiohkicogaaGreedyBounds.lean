/-
  The statement GreedyBounds holds: Graham's bound. No condition.
-/
import Derived.Test.YtdknhiohkicogaaY6
import Derived.Test.YtdknhiohkicogaaY7
import Derived.Test.YtdknhiohkicogaaY9
import Derived.Test.YtdknhiohkicogaaGrown
import Derived.Test.YtdknhiohkicogaaRows
import Derived.ProofKit
import Derived.OpenShut
import Derived.ShutString
import Derived.ChangeOld
namespace Go.Proofs.Ytdknhiohkicogaa.greedyBounds
open Go.ChangeShapes Go.WideShapes Go.ChangeAt Go.RowKit
open Go.ChangeMaps (open_string shut_string)

theorem numbers {k n T S : Nat} (hk1 : 1 ≤ k) (hk2 : k ≤ 64) (hT : T ≤ 1000) (hS : S ≤ 1000) (h2 : n ≤ k * T) (h3 : k * T ≤ n + (k - 1) * S) :
    ∃ k1 kt ks : Nat, (k : Int) - 1 = (k1 : Int) ∧ (k : Int) * (T : Int) = (kt : Int) ∧ (k1 : Int) * (S : Int) = (ks : Int) ∧ kt ≤ 64000 ∧ ks ≤ 64000 ∧ n ≤ kt ∧ kt ≤ n + ks ∧ k1 ≤ 64 := by
  refine ⟨k - 1, k * T, (k - 1) * S, by omega, by rw [Int.natCast_mul], by rw [Int.natCast_mul], ?_, ?_, h2, h3, by omega⟩
  · exact Nat.mul_le_mul hk2 hT
  · exact Nat.mul_le_mul (show k - 1 ≤ 64 by omega) hS

set_option maxHeartbeats 8000000 in
set_option maxRecDepth 100000 in
theorem go (w : World) (a : Option Addr) (len cap : Nat) (g : List (List Int)) (hg : RowsIn w a len g) (c : Nat) (hc : c < 256) :
    Calls Try.prog 5 #[.slice a len cap, .int .u8 (c : Int)] w fun e w' => e = .returned (.bool true) ∧ Fr F0 w w' := by
  obtain ⟨hlen, hG⟩ := hg
  have HL := Lib.hid (light_any w _ a cap g len hlen hG)
  obtain ⟨lb, hlb⟩ : ∃ lb, lb = lightB g := ⟨_, rfl⟩
  rw [← hlb] at HL
  have HG := Lib.hid hG
  have HN := Lib.hid hlen
  have HLB := Lib.hid hlb
  clear hG hlen hlb
  cases lb with
  | false =>
    go_enter Try.func5, Try.ntmps5
    go_wp2_with fail
    refine HL.out.mono ?_
    rintro e w1 ⟨rfl, rfl⟩
    go_wp2_with fail
    go_ret
    exact ⟨rfl, Fr.refl _ _⟩
  | true =>
    have hF := (lightB_few HLB.out.symm).1
    have hFA : Fr F0 w (w.alloc (.cells #[.slice a len cap] 29)) := (Fr.refl F0 w).alloc _
    have HFA := Lib.hid hFA
    have HB := Lib.hid (Blk.new w 29 #[.slice a len cap])
    have hcx0 : (w.alloc (.cells #[.slice a len cap] 29)).cell? ⟨w.heap.size, 0, none⟩ = some (.slice a len cap) := by rw [HB.out.cell]; rfl
    obtain ⟨k, hk⟩ : ∃ k, k = c % 64 + 1 := ⟨_, rfl⟩
    have hk1 : 1 ≤ k := by omega
    have hk2 : k ≤ 64 := by omega
    have e1 : (c : Int) % 64 + 1 = (k : Int) := by omega
    have hl1 : len ≤ 1000 := by have := hF.n; have := HN.out; omega
    clear hk
    by_cases hr : rightB g = true
    · obtain ⟨G, hgG, hA⟩ := right_nat hr
      subst hgG
      have hn : len = G.length := by rw [HN.out, gi_length]
      obtain ⟨D, hDl, hDO⟩ := depth_ex hA
      have hDl2 : D.length = len := by rw [hn]; exact hDl
      have HPL := Lib.hid (plan_any _ _ a cap G k len hn (HG.out.f0 hFA) hF hA hr hk1 hk2)
      have HA := Lib.hid hA
      have HNN := Lib.hid hn
      have HR := Lib.hid hr
      have HFW := Lib.hid hF
      have HDL := Lib.hid hDl
      have HDL2 := Lib.hid hDl2
      have HDO := Lib.hid hDO
      have HK1 := Lib.hid hk1
      have HK2 := Lib.hid hk2
      clear hF hr hA hn hFA hDl hDl2 hDO hk1
      go_enter Try.func5, Try.ntmps5
      go_wp2_with fail
      refine HL.out.mono ?_
      rintro e w1 ⟨rfl, rfl⟩
      go_wp2_with fail
      refine HPL.out.mono ?_
      rintro e w2 ⟨g', W, rfl, hgl, hW, hWl, hP, hF1⟩
      have HF1 := Lib.hid (HFA.out.trans hF1)
      have HB1 := Lib.hid (HB.out.fr hF1 (fun h => h))
      have hcx : ∀ p : Grown w2, p.at_.cell? ⟨w1.heap.size, 0, none⟩ = some (.slice a len cap) := fun p => by rw [(HB1.out.fr p.fr (fun h => h)).cell]; rfl
      have HW := Lib.hid hW
      have HWL := Lib.hid hWl
      have hWG : W.length = G.length := by rw [hWl]; exact HNN.out
      have HFIT := Lib.hid (hP.fit HA.out hWG)
      have HGR := Lib.hid (hP.graham HA.out HK1.out hWG HDO.out HDL.out)
      have hTn : tim W ≤ 1000 := by have := hP.tim_le HA.out HK1.out; omega
      have hST : spn D ≤ tim W := HFIT.out.span_le HA.out HDO.out HDL.out
      have hK1T : k = 1 → tim W = len := by
        intro h1
        subst h1
        have := hP.one (one_plan HA.out) (by simp; exact hWG)
        rw [this, tim_range]; exact HNN.out.symm
      have HSM : Hid (∀ z ∈ ni W, z ≤ 4611686018427387904) := Lib.hid (by
        intro z hz
        obtain ⟨x, hx, rfl⟩ := List.mem_map.1 hz
        obtain ⟨i, hi⟩ := List.getElem?_of_mem hx
        have h1 := tim_lt hi
        omega)
      obtain ⟨T, hT⟩ : ∃ T, T = tim W := ⟨_, rfl⟩
      obtain ⟨S, hS⟩ : ∃ S, S = spn D := ⟨_, rfl⟩
      obtain ⟨k1, kt, ks, m1, m2, m3, m4, m5, m6, m7, m8⟩ := numbers HK1.out hk2 hTn (Nat.le_trans hST hTn) (by have := HFIT.out.work_le; have := HNN.out; omega) (by have := HGR.out; have := HNN.out; omega)
      rw [← hT, ← hS] at hST
      rw [← hT] at hTn hK1T m2
      rw [← hS] at m3
      have C1 : Hid (∀ p : Grown w2, Calls Try.prog 17 #[.slice (some ⟨g', 0, none⟩) len len] p.at_ fun e w'' => e = .returned (.int .i64 (T : Int)) ∧ ∃ q : Grown w2, w'' = q.at_) := Lib.hid fun p =>
        grown_of_same p (by
          have h1 := time_any p.at_ (fun b => b = g') (some ⟨g', 0, none⟩) len len (ni W) (by rw [ni_length]; exact HWL.out.symm) (by have := Nb.rd (Nb.frs HW.out p.fr (fun h => h)) (Q := fun b => b = g') rfl; rw [HWL.out] at this; exact this) (by omega) HSM.out
          rw [lastI_ni, ← hT] at h1
          exact h1)
      have C2 : Hid (∀ p : Grown w2, Calls Try.prog 19 #[.agg #[.slice a len cap]] p.at_ fun e w'' => e = .returned (.int .i64 (S : Int)) ∧ ∃ q : Grown w2, w'' = q.at_) := Lib.hid fun p =>
        grown_of p (by rw [hS]; exact span_any p.at_ _ a cap G len HNN.out ((HG.out.f0 HF1.out).f0 p.fr) HFW.out HA.out HR.out D HDL2.out HDO.out)
      have C3 : Hid (∀ p : Grown w2, Calls Try.prog 18 #[.agg #[.slice a len cap]] p.at_ fun e w'' => e = .returned (.int .i64 (len : Int)) ∧ ∃ q : Grown w2, w'' = q.at_) := Lib.hid fun p =>
        grown_of p (work_any p.at_ _ a cap (gi G) len (by rw [gi_length]; exact HNN.out) ((HG.out.f0 HF1.out).f0 p.fr) HFW.out HR.out)
      have HHS := Lib.hid hS
      have HHT := Lib.hid hT
      clear hW hWl hP hF1 hgl hWG hS hT
      go_wp2_with fail
      refine wp_region_grown (by kernel_rfl) (by kernel_rfl) ?_
      repeat (go_big_quiet_step (first | with_reducible exact C1.out _ | with_reducible exact C2.out _ | with_reducible exact C3.out _))
      refine wpQuiet_nil ?_
      intro wq hw'
      obtain ⟨⟨wq', hFq⟩, hw''⟩ := hw'
      subst hw''
      have HFq := Lib.hid (HF1.out.trans hFq)
      have hcq : wq.cell? ⟨w1.heap.size, 0, none⟩ = some (.slice a len cap) := by rw [(HB1.out.fr hFq (fun h => h)).cell]; rfl
      have HWQ := Lib.hid (Nb.frs HW.out hFq (fun h => h))
      have HFI := Lib.hid (fits_any wq _ (fun b => b = g') a cap G k len HNN.out (HG.out.f0 HFq.out) HFW.out HA.out HR.out HK1.out HK2.out (some ⟨g', 0, none⟩) len len (ni W) (by have := Nb.rd HWQ.out (Q := fun b => b = g') rfl; rw [HWL.out] at this; exact this) (by rw [ni_length]; exact HWL.out.symm) (by omega))
      rw [fit_of HFIT.out] at HFI
      clear hFq hcx C1 C2 C3
      have n1 : (S : Int) ≤ (T : Int) := by omega
      have n2 : (len : Int) ≤ (kt : Int) := by have := HNN.out; omega
      have n3 : (kt : Int) ≤ (len : Int) + (ks : Int) := by have := HNN.out; omega
      have w1' : IntKind.i64.wrap ((k : Int) * (T : Int)) = (kt : Int) := (IntWalk.i64_in _ (by omega)).trans m2
      have w3' : IntKind.i64.wrap ((k1 : Int) * (S : Int)) = (ks : Int) := (IntWalk.i64_in _ (by omega)).trans m3
      by_cases hk11 : k = 1
      · have q1 : ¬ (1 : Int) < (k : Int) := by omega
        have q2 := hK1T hk11
        clear hK1T hk11
        subst q2
        go_wp2_with fail
        refine HFI.out.mono ?_
        rintro e w4 ⟨rfl, hF4⟩
        have HF4 := Lib.hid (HFq.out.trans hF4)
        clear hF4
        go_wp2_with fail
        refine (awake_any w4).mono ?_
        rintro e w5 ⟨rfl, hF5⟩
        have HF5 := Lib.hid (HF4.out.trans hF5)
        clear hF5
        go_wp2_with fail
        go_ret
        exact ⟨rfl, HF5.out⟩
      · have q1 : (1 : Int) < (k : Int) := by have := HK1.out; omega
        clear hK1T
        go_wp2_with fail
        refine HFI.out.mono ?_
        rintro e w4 ⟨rfl, hF4⟩
        have HF4 := Lib.hid (HFq.out.trans hF4)
        clear hF4
        go_wp2_with fail
        refine (awake_any w4).mono ?_
        rintro e w5 ⟨rfl, hF5⟩
        have HF5 := Lib.hid (HF4.out.trans hF5)
        clear hF5
        go_wp2_with fail
        go_ret
        exact ⟨rfl, HF5.out⟩
    · have HPL := Lib.hid (plan_no _ _ a cap g (k : Int) len HN.out (HG.out.f0 hFA) hF (by simp [mayB, hr]))
      clear hF hr hFA
      go_enter Try.func5, Try.ntmps5
      go_wp2_with fail
      refine HL.out.mono ?_
      rintro e w1 ⟨rfl, rfl⟩
      go_wp2_with fail
      refine HPL.out.mono ?_
      rintro e w2 ⟨rfl, hF1⟩
      have HF1 := Lib.hid (HFA.out.trans hF1)
      clear hF1
      go_wp2_with fail
      refine (awake_any w2).mono ?_
      rintro e w3 ⟨rfl, hF3⟩
      have HF3 := Lib.hid (HF1.out.trans hF3)
      clear hF3
      go_wp2_with fail
      go_ret
      exact ⟨rfl, HF3.out⟩

theorem walk (a0 : Option Addr) (len0 cap0 : Nat) (z0 : List (List Int)) {W : World} (h0 : RowsIn W a0 len0 z0) (x : Int) (hx : (Lit.int .u8 x).wf = true) (w : World) (hw : W = w := by rfl) :
    Calls Try.prog 5 #[.slice a0 len0 cap0, .int .u8 x] w fun e w' => e = .returned (.bool true) ∧ Below w.heap.size w w' := by
  subst hw
  have hb := bounds_u8 hx
  obtain ⟨c, rfl⟩ : ∃ c : Nat, x = c := ⟨x.toNat, by omega⟩
  exact (go _ a0 len0 cap0 z0 h0 c (by omega)).mono fun _ _ ⟨he, hF⟩ => ⟨he, hF.below (Nat.le_refl _) (fun _ h => h.elim)⟩

/-! ### The row's step -/
theorem own : ownKnob Try.prog.godebug = none := by kernel_rfl
theorem laidOut : laidOutB Try.prog = true := by kernel_rfl

set_option maxRecDepth 100000 in
theorem lifted (os : Os) (started : os.Started) (H : Type) (enc : TypeId × Value → H) :
    ReturnsInHanded {} Try.checked os 5 .any (Rows.greedyBoundsSpec.pre6 enc Try.prog Try.f5 Rows.greedyBoundsRow.domain false) (Rows.greedyBoundsSpec.post enc Try.prog Try.f5 false true false false) := by
  refine returnsInHanded_of_change (C := Try.checked) own started (by kernel_rfl) Try.func5
    (ChangeSpec.witness6 (enc := enc) (C := Try.checked) false ⟨#[], #[.slice none 0 0, .int .u8 0], []⟩ 8 (by kernel_rfl) (by kernel_rfl) (by kernel_rfl) (by kernel_rfl)) ?_
  intro W base args ds gs before hval0 hW hcnd _
  have hval : ∀ (j : Nat) t v, Try.f5.params[j]? = some t → args[j]? = some v → Value.okWide Try.prog W .any base t v := hval0
  have hW' := hW
  obtain ⟨p, q, hA0, hV, rfl, hfz, hnd⟩ := hW
  have hA : DataW.TrodAll enc Try.prog W 0 (fun _ => true) true Try.f5.params.toList args.toList ds p := hA0
  rw [Try.params5] at hA hval
  obtain ⟨v0, vs0, d0, ds0, p0, q0, hargs, rfl, rfl, h0, r0⟩ := trodAll_cons hA
  obtain ⟨v1, vs1, d1, ds1, p1, q1, rfl, rfl, rfl, h1, r1⟩ := trodAll_cons r0
  obtain ⟨rfl, rfl, rfl⟩ := trodAll_nil r1
  obtain rfl : args = #[v0, v1] := by cases args; simp_all
  obtain ⟨rfl, rfl⟩ := trodVars_none hV
  obtain ⟨a0, len0, cap0, rfl⟩ := okWide_slice Try.underlying22 (hval 0 22 v0 rfl rfl)
  have k0 := h0
  have lt0 : ∀ x ∈ p0, x.block < W.heap.size := by obtain ⟨m, hm⟩ := k0; exact DataW.trod_lt m _ _ _ hm
  obtain ⟨z0, w0⟩ := open_rows h0
  obtain ⟨a1, rfl, rfl, rfl, w1⟩ := open_int Try.underlying5 (hval 1 5 v1 rfl rfl) h1
  clear hA0 hval0
  refine (walk a0 len0 cap0 z0 w0 a1 w1 W).mono fun e W' ⟨he, bel⟩ => ?_
  subst he
  exact ⟨_, rfl, _, _, _, [], _, [], hW', trodAll_mk1 (shut_bool Try.underlying4 _), (trodAll_cons_mk (Below.trod laidOut (by kernel_rfl) (of_decide_eq_true (by kernel_rfl)) k0 bel lt0) (trodAll_cons_mk (shut_int Try.underlying5 w1) trodAll_mk0)), rfl, bel.frame _, fun h => by cases h⟩

theorem over : Rows.greedyBoundsRow.holds Try.pinned (OpenSpec.ofChange Rows.greedyBoundsSpec) :=
  OpenClaim.holds_of_wide 5 Try.f5 rfl rfl rfl rfl rfl rfl rfl ⟨rfl, rfl, rfl, rfl, rfl⟩ rfl rfl rfl rfl rfl (by kernel_rfl) Try.func5 (by kernel_rfl)
    (of_decide_eq_true (by kernel_rfl)) (by unfold Func.isWrapper; first | (rw [if_pos (by decide +kernel)]; kernel_rfl) | (rw [if_neg (by decide +kernel)]; exact ⟨rfl, rfl⟩))
    (fun os started H enc _ => lifted os started H enc)

/-- The statement. -/
theorem proved : Rows.GreedyBoundsSaid := over
#print axioms proved
end Go.Proofs.Ytdknhiohkicogaa.greedyBounds
