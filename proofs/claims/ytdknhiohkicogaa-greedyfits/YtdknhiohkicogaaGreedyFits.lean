/-
  The statement GreedyFits holds: whether any plan fits any graph, and its time. No condition.
-/
import Derived.Test.YtdknhiohkicogaaY6
import Derived.Test.YtdknhiohkicogaaY9
import Derived.Test.YtdknhiohkicogaaY13
import Derived.Test.YtdknhiohkicogaaRows
import Derived.ProofKit
import Derived.OpenShut
import Derived.ShutString
import Derived.ChangeOld
namespace Go.Proofs.Ytdknhiohkicogaa.greedyFits
open Go.ChangeShapes Go.WideShapes Go.ChangeAt Go.RowKit
open Go.ChangeMaps (open_string shut_string)

set_option maxHeartbeats 8000000 in
set_option maxRecDepth 100000 in
theorem go (w : World) (a : Option Addr) (len cap : Nat) (g : List (List Int)) (hg : RowsIn w a len g) (x : Int) (b : Option Addr) (nv cb : Nat) (V : List Int) (hVI : NumsIn w b nv V) :
    Calls Try.prog 4 #[.slice a len cap, .int .i64 x, .slice b nv cb] w fun e w' => e = .returned (.bool true) ∧ Fr F0 w w' := by
  obtain ⟨hlen, hG⟩ := hg
  obtain ⟨hvl, hV, _⟩ := hVI
  have HL := Lib.hid (light_any w _ a cap g len hlen hG)
  obtain ⟨lb, hlb⟩ : ∃ lb, lb = lightB g := ⟨_, rfl⟩
  rw [← hlb] at HL
  have HG := Lib.hid hG
  have HN := Lib.hid hlen
  have HLB := Lib.hid hlb
  have HV := Lib.hid hV
  have HVL := Lib.hid hvl
  clear hG hlen hlb hV hvl
  cases lb with
  | false =>
    go_enter Try.func4, Try.ntmps4
    go_wp2_with fail
    refine HL.out.mono ?_
    rintro e w1 ⟨rfl, rfl⟩
    go_wp2_with fail
    go_ret
    exact ⟨rfl, Fr.refl _ _⟩
  | true =>
    have HFW := Lib.hid (lightB_few HLB.out.symm).1
    by_cases h200 : 200 < nv
    · have d1 : (200 : Int) < (nv : Int) := by omega
      go_enter Try.func4, Try.ntmps4
      go_wp2_with fail
      refine HL.out.mono ?_
      rintro e w1 ⟨rfl, rfl⟩
      go_wp2_with fail
      go_ret
      exact ⟨rfl, Fr.refl _ _⟩
    · have d1 : ¬ (200 : Int) < (nv : Int) := by omega
      have hnv : nv ≤ 200 := by omega
      have hl1 : len ≤ 1000 := by have := HFW.out.n; have := HN.out; omega
      go_enter Try.func4, Try.ntmps4
      go_wp2_with fail
      refine HL.out.mono ?_
      rintro e w1 ⟨rfl, rfl⟩
      clear HL
      go_wp2_with fail
      go_loopw [7, 8] (fun wt i wx => ∃ (j : Nat) (zw : Int), j ≤ nv ∧ i = .int .i64 (j : Int) ∧ wt = .int .i64 zw ∧ 0 ≤ zw ∧ zw ≤ 4611686018427387904 ∧ Hid (lastI (V.take j) + 1 = zw) ∧ Hid (∀ z ∈ V.take j, z < 4611686018427387904) ∧ wx = w1) (fun _ i _ => nv - (intOf i).toNat)
      case atStart => exact ⟨0, 0, by omega, rfl, rfl, by omega, by omega, Lib.hid rfl, Lib.hid (by simp), rfl⟩
      case round =>
        obtain ⟨j, zw, hj, rfl, rfl, hzw, hzw2, HZW, HZ, rfl⟩ := hrel
        by_cases hjn : j < nv
        · have g1 : (j : Int) < (nv : Int) := by omega
          obtain ⟨z, hz⟩ := of_lt (show j < V.length by have := HVL.out; omega)
          have hV2 := HV.out
          rw [HVL.out] at hV2
          obtain ⟨bb, off, hBe, _, hcz⟩ := Rd.int_at hV2 hz
          subst hBe
          have HZ2 : Hid (z < 4611686018427387904 → ∀ y ∈ V.take (j + 1), y < 4611686018427387904) := Lib.hid (fun h y hy => by
            rw [take_snoc hz] at hy
            rcases List.mem_append.1 hy with hy | hy
            · exact HZ.out y hy
            · rw [List.mem_singleton] at hy; omega)
          have HLS : Hid (lastI (V.take (j + 1)) = max (lastI (V.take j)) z) := Lib.hid (by rw [take_snoc hz, lastI_snoc])
          clear hV2 hz
          by_cases hbig : 4611686018427387904 ≤ z
          · have d2 : decide (4611686018427387904 ≤ z) = true := decide_eq_true hbig
            go_wp2_with fail
            go_ret
            exact ⟨rfl, Fr.refl _ _⟩
          · have d2 : decide (4611686018427387904 ≤ z) = false := decide_eq_false hbig
            have HZ3 := Lib.hid (HZ2.out (by omega))
            by_cases hwz : zw ≤ z
            · have d3 : decide (zw ≤ z) = true := decide_eq_true hwz
              have HZW2 : Hid (lastI (V.take (j + 1)) + 1 = z + 1) := Lib.hid (by rw [HLS.out]; have := HZW.out; omega)
              go_wp2_with fail
              refine ⟨⟨j + 1, z + 1, by omega, by go_num, ?_, by omega, by omega, HZW2, HZ3, trivial⟩, by simp [intOf]; omega⟩
              first | rfl | go_num
            · have d3 : decide (zw ≤ z) = false := decide_eq_false hwz
              have HZW2 : Hid (lastI (V.take (j + 1)) + 1 = zw) := Lib.hid (by rw [HLS.out]; have := HZW.out; omega)
              go_wp2_with fail
              exact ⟨⟨j + 1, zw, by omega, by go_num, rfl, hzw, hzw2, HZW2, HZ3, trivial⟩, by simp [intOf]; omega⟩
        · have HSM : Hid (∀ z ∈ V, z < 4611686018427387904) := Lib.hid (by
            have := HZ.out
            rwa [show j = V.length by have := HVL.out; omega, List.take_length] at this)
          have hzw0 := HZW.out
          rw [show V.take j = V by rw [show j = V.length by have := HVL.out; omega, List.take_length]] at hzw0
          clear HZ HZW
          have HZW := Lib.hid hzw0
          clear hzw0
          have HF0 : Hid (Fr F0 wr wr) := Fr.refl _ _
          by_cases hx : 1 ≤ x ∧ x ≤ 64
          · obtain ⟨k, rfl⟩ : ∃ k : Nat, x = k := ⟨x.toNat, by omega⟩
            have hk1 : 1 ≤ k := by omega
            have hk2 : k ≤ 64 := by omega
            have q1 : (1 : Int) ≤ (k : Int) := by omega
            have q2 : (k : Int) ≤ (64 : Int) := by omega
            have HK1 := Lib.hid hk1
            have HK2 := Lib.hid hk2
            have HRR := Lib.hid (rright_any wr _ a cap len g HN.out HG.out HFW.out)
            clear hx hk1
            by_cases hr : rightB g = true
            · obtain ⟨G, hgG, hA⟩ := right_nat hr
              subst hgG
              have hn : len = G.length := by rw [HN.out, gi_length]
              have HA := Lib.hid hA
              have HNN := Lib.hid hn
              have HR := Lib.hid hr
              rw [HR.out] at HRR
              obtain ⟨fb, hfb⟩ : ∃ fb, fb = refB k G V := ⟨_, rfl⟩
              have HFB := Lib.hid hfb
              clear hr hA hn hfb
              go_wp2_with fail
              refine HRR.out.mono ?_
              rintro e w2 ⟨rfl, hF2⟩
              have HF2 := Lib.hid hF2
              have HRF := Lib.hid (rfits_any w2 _ _ a cap G k len HNN.out (HG.out.f0 HF2.out) HFW.out HA.out b nv cb V (HV.out.fr HF2.out (fun _ _ h => h)) HVL.out (by omega))
              rw [← HFB.out] at HRF
              clear hF2
              cases fb with
              | false =>
                go_wp2_with fail
                refine HRF.out.mono ?_
                rintro e w3 ⟨rfl, hF3⟩
                have HF3 := Lib.hid (HF2.out.trans hF3)
                have HFI := Lib.hid (fits_any w3 _ _ a cap G k len HNN.out (HG.out.f0 HF3.out) HFW.out HA.out HR.out HK1.out HK2.out b nv cb V (HV.out.fr HF3.out (fun _ _ h => h)) HVL.out (by omega))
                rw [fit_ref, ← HFB.out] at HFI
                clear hF3
                go_wp2_with fail
                refine HFI.out.mono ?_
                rintro e wt ⟨rfl, hFt⟩
                have HFt := Lib.hid (HF3.out.trans hFt)
                have HTI := Lib.hid (time_any wt _ b cb nv V HVL.out (HV.out.fr HFt.out (fun _ _ h => h)) (by omega) (fun z hz => by have := HSM.out z hz; omega))
                rw [HZW.out] at HTI
                clear hFt
                go_wp2_with fail
                refine HTI.out.mono ?_
                rintro e wu ⟨rfl, rfl⟩
                go_wp2_with fail
                refine (awake_any wu).mono ?_
                rintro e wv ⟨rfl, hFv⟩
                have HFv := Lib.hid (HFt.out.trans hFv)
                clear hFv
                go_wp2_with fail
                go_ret
                exact ⟨rfl, HFv.out⟩
              | true =>
                go_wp2_with fail
                refine HRF.out.mono ?_
                rintro e w3 ⟨rfl, hF3⟩
                have HF3 := Lib.hid (HF2.out.trans hF3)
                have HFI := Lib.hid (fits_any w3 _ _ a cap G k len HNN.out (HG.out.f0 HF3.out) HFW.out HA.out HR.out HK1.out HK2.out b nv cb V (HV.out.fr HF3.out (fun _ _ h => h)) HVL.out (by omega))
                rw [fit_ref, ← HFB.out] at HFI
                clear hF3
                go_wp2_with fail
                refine HFI.out.mono ?_
                rintro e wt ⟨rfl, hFt⟩
                have HFt := Lib.hid (HF3.out.trans hFt)
                have HTI := Lib.hid (time_any wt _ b cb nv V HVL.out (HV.out.fr HFt.out (fun _ _ h => h)) (by omega) (fun z hz => by have := HSM.out z hz; omega))
                rw [HZW.out] at HTI
                clear hFt
                go_wp2_with fail
                refine HTI.out.mono ?_
                rintro e wu ⟨rfl, rfl⟩
                go_wp2_with fail
                refine (awake_any wu).mono ?_
                rintro e wv ⟨rfl, hFv⟩
                have HFv := Lib.hid (HFt.out.trans hFv)
                clear hFv
                go_wp2_with fail
                go_ret
                exact ⟨rfl, HFv.out⟩
            · have hrf : rightB g = false := by simpa using hr
              rw [hrf] at HRR
              have HMB := Lib.hid (show mayB (k : Int) g = false by simp [mayB, hrf])
              clear hr hrf
              go_wp2_with fail
              refine HRR.out.mono ?_
              rintro e w2 ⟨rfl, hF2⟩
              have HF2 := Lib.hid hF2
              have HFI := Lib.hid (fits_no w2 _ a cap g (k : Int) len HN.out (HG.out.f0 HF2.out) HFW.out HMB.out b nv cb)
              clear hF2
              go_wp2_with fail
              refine HFI.out.mono ?_
              rintro e wt ⟨rfl, hFt⟩
              have HFt := Lib.hid (HF2.out.trans hFt)
              have HTI := Lib.hid (time_any wt _ b cb nv V HVL.out (HV.out.fr HFt.out (fun _ _ h => h)) (by omega) (fun z hz => by have := HSM.out z hz; omega))
              rw [HZW.out] at HTI
              clear hFt
              go_wp2_with fail
              refine HTI.out.mono ?_
              rintro e wu ⟨rfl, rfl⟩
              go_wp2_with fail
              refine (awake_any wu).mono ?_
              rintro e wv ⟨rfl, hFv⟩
              have HFv := Lib.hid (HFt.out.trans hFv)
              clear hFv
              go_wp2_with fail
              go_ret
              exact ⟨rfl, HFv.out⟩
          · have HFI := Lib.hid (fits_no wr _ a cap g x len HN.out HG.out HFW.out (by
              by_cases h1 : 1 ≤ x
              · simp [mayB, show ¬ x ≤ 64 by omega]
              · simp [mayB, h1]) b nv cb)
            by_cases h1 : 1 ≤ x
            · have d2 : decide (1 ≤ x) = true := decide_eq_true h1
              have h2 : ¬ x ≤ 64 := by omega
              have d3 : decide (x ≤ 64) = false := decide_eq_false h2
              clear hx
              go_wp2_with fail
              refine HFI.out.mono ?_
              rintro e wt ⟨rfl, hFt⟩
              have HFt := Lib.hid (HF0.out.trans hFt)
              have HTI := Lib.hid (time_any wt _ b cb nv V HVL.out (HV.out.fr HFt.out (fun _ _ h => h)) (by omega) (fun z hz => by have := HSM.out z hz; omega))
              rw [HZW.out] at HTI
              clear hFt
              go_wp2_with fail
              refine HTI.out.mono ?_
              rintro e wu ⟨rfl, rfl⟩
              go_wp2_with fail
              refine (awake_any wu).mono ?_
              rintro e wv ⟨rfl, hFv⟩
              have HFv := Lib.hid (HFt.out.trans hFv)
              clear hFv
              go_wp2_with fail
              go_ret
              exact ⟨rfl, HFv.out⟩
            · have d2 : decide (1 ≤ x) = false := decide_eq_false h1
              clear hx
              go_wp2_with fail
              refine HFI.out.mono ?_
              rintro e wt ⟨rfl, hFt⟩
              have HFt := Lib.hid (HF0.out.trans hFt)
              have HTI := Lib.hid (time_any wt _ b cb nv V HVL.out (HV.out.fr HFt.out (fun _ _ h => h)) (by omega) (fun z hz => by have := HSM.out z hz; omega))
              rw [HZW.out] at HTI
              clear hFt
              go_wp2_with fail
              refine HTI.out.mono ?_
              rintro e wu ⟨rfl, rfl⟩
              go_wp2_with fail
              refine (awake_any wu).mono ?_
              rintro e wv ⟨rfl, hFv⟩
              have HFv := Lib.hid (HFt.out.trans hFv)
              clear hFv
              go_wp2_with fail
              go_ret
              exact ⟨rfl, HFv.out⟩

theorem walk (a0 : Option Addr) (len0 cap0 : Nat) (z0 : List (List Int)) {W : World} (h0 : RowsIn W a0 len0 z0) (x : Int) (_ : (Lit.int .i64 x).wf = true) (a2 : Option Addr) (len2 cap2 : Nat) (z2 : List Int) (h2 : NumsIn W a2 len2 z2) (w : World) (hw : W = w := by rfl) :
    Calls Try.prog 4 #[.slice a0 len0 cap0, .int .i64 x, .slice a2 len2 cap2] w fun e w' => e = .returned (.bool true) ∧ Below w.heap.size w w' := by
  subst hw
  exact (go _ a0 len0 cap0 z0 h0 x a2 len2 cap2 z2 h2).mono fun _ _ ⟨he, hF⟩ => ⟨he, hF.below (Nat.le_refl _) (fun _ h => h.elim)⟩

/-! ### The row's step -/
theorem own : ownKnob Try.prog.godebug = none := by kernel_rfl
theorem laidOut : laidOutB Try.prog = true := by kernel_rfl

set_option maxRecDepth 100000 in
theorem lifted (os : Os) (started : os.Started) (H : Type) (enc : TypeId × Value → H) :
    ReturnsInHanded {} Try.checked os 4 .any (Rows.greedyFitsSpec.pre6 enc Try.prog Try.f4 Rows.greedyFitsRow.domain false) (Rows.greedyFitsSpec.post enc Try.prog Try.f4 false true false false) := by
  refine returnsInHanded_of_change (C := Try.checked) own started (by kernel_rfl) Try.func4
    (ChangeSpec.witness6 (enc := enc) (C := Try.checked) false ⟨#[], #[.slice none 0 0, .int .i64 0, .slice none 0 0], []⟩ 8 (by kernel_rfl) (by kernel_rfl) (by kernel_rfl) (by kernel_rfl)) ?_
  intro W base args ds gs before hval0 hW hcnd _
  have hval : ∀ (j : Nat) t v, Try.f4.params[j]? = some t → args[j]? = some v → Value.okWide Try.prog W .any base t v := hval0
  have hW' := hW
  obtain ⟨p, q, hA0, hV, rfl, hfz, hnd⟩ := hW
  have hA : DataW.TrodAll enc Try.prog W 0 (fun _ => true) true Try.f4.params.toList args.toList ds p := hA0
  rw [Try.params4] at hA hval
  obtain ⟨v0, vs0, d0, ds0, p0, q0, hargs, rfl, rfl, h0, r0⟩ := trodAll_cons hA
  obtain ⟨v1, vs1, d1, ds1, p1, q1, rfl, rfl, rfl, h1, r1⟩ := trodAll_cons r0
  obtain ⟨v2, vs2, d2, ds2, p2, q2, rfl, rfl, rfl, h2, r2⟩ := trodAll_cons r1
  obtain ⟨rfl, rfl, rfl⟩ := trodAll_nil r2
  obtain rfl : args = #[v0, v1, v2] := by cases args; simp_all
  obtain ⟨rfl, rfl⟩ := trodVars_none hV
  obtain ⟨a0, len0, cap0, rfl⟩ := okWide_slice Try.underlying22 (hval 0 22 v0 rfl rfl)
  have k0 := h0
  have lt0 : ∀ x ∈ p0, x.block < W.heap.size := by obtain ⟨m, hm⟩ := k0; exact DataW.trod_lt m _ _ _ hm
  obtain ⟨z0, w0⟩ := open_rows h0
  obtain ⟨a1, rfl, rfl, rfl, w1⟩ := open_int Try.underlying3 (hval 1 3 v1 rfl rfl) h1
  obtain ⟨a2, len2, cap2, rfl⟩ := okWide_slice Try.underlying24 (hval 2 24 v2 rfl rfl)
  have k2 := h2
  have lt2 : ∀ x ∈ p2, x.block < W.heap.size := by obtain ⟨m, hm⟩ := k2; exact DataW.trod_lt m _ _ _ hm
  obtain ⟨z2, w2⟩ := open_nums h2
  clear hA0 hval0
  refine (walk a0 len0 cap0 z0 w0 a1 w1 a2 len2 cap2 z2 w2 W).mono fun e W' ⟨he, bel⟩ => ?_
  subst he
  exact ⟨_, rfl, _, _, _, [], _, [], hW', trodAll_mk1 (shut_bool Try.underlying4 _), (trodAll_cons_mk (Below.trod laidOut (by kernel_rfl) (of_decide_eq_true (by kernel_rfl)) k0 bel lt0) (trodAll_cons_mk (shut_int Try.underlying3 w1) (trodAll_cons_mk (Below.trod laidOut (by kernel_rfl) (of_decide_eq_true (by kernel_rfl)) k2 bel lt2) trodAll_mk0))), rfl, bel.frame _, fun h => by cases h⟩

theorem over : Rows.greedyFitsRow.holds Try.pinned (OpenSpec.ofChange Rows.greedyFitsSpec) :=
  OpenClaim.holds_of_wide 4 Try.f4 rfl rfl rfl rfl rfl rfl rfl ⟨rfl, rfl, rfl, rfl, rfl⟩ rfl rfl rfl rfl rfl (by kernel_rfl) Try.func4 (by kernel_rfl)
    (of_decide_eq_true (by kernel_rfl)) (by unfold Func.isWrapper; first | (rw [if_pos (by decide +kernel)]; kernel_rfl) | (rw [if_neg (by decide +kernel)]; exact ⟨rfl, rfl⟩))
    (fun os started H enc _ => lifted os started H enc)

/-- The statement. -/
theorem proved : Rows.GreedyFitsSaid := over
#print axioms proved
end Go.Proofs.Ytdknhiohkicogaa.greedyFits
