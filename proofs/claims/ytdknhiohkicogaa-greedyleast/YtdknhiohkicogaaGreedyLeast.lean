/-
  The statement GreedyLeast holds: no plan that fits takes less than the span, or than the work by the workers; nor less than half of the greedy one. No condition.
-/
import Derived.Test.YtdknhiohkicogaaY6
import Derived.Test.YtdknhiohkicogaaY7
import Derived.Test.YtdknhiohkicogaaY9
import Derived.Test.YtdknhiohkicogaaRows
import Derived.ProofKit
import Derived.OpenShut
import Derived.ShutString
import Derived.ChangeOld
namespace Go.Proofs.Ytdknhiohkicogaa.greedyLeast
open Go.ChangeShapes Go.WideShapes Go.ChangeAt Go.RowKit
open Go.ChangeMaps (open_string shut_string)

theorem half {k : Nat} {G : List (List Nat)} {W V D : List Nat} (hP : PlanOf k G W) (hA : Ahead G) (hk : 1 ≤ k) (hw : W.length = G.length) (hV : Fit k G V) (hD : DepthOf G D) (hl : D.length = G.length) : tim W ≤ 2 * tim V := by
  have h1 := hP.graham hA hk hw hD hl
  have h2 := hV.work_le
  have h3 := hV.span_le hA hD hl
  have h4 : (k - 1) * spn D ≤ k * tim V := Nat.mul_le_mul (by omega) h3
  have h5 : k * tim W ≤ k * (2 * tim V) := by
    rw [show 2 * tim V = tim V + tim V by omega, Nat.mul_add]; omega
  exact Nat.le_of_mul_le_mul_left h5 (by omega)
theorem product {k T : Nat} (hk2 : k ≤ 64) (hT : T ≤ 36028797018963968) : ∃ kt : Nat, (k : Int) * (T : Int) = (kt : Int) ∧ kt = k * T ∧ kt ≤ 2305843009213693952 :=
  ⟨k * T, by rw [Int.natCast_mul], rfl, Nat.mul_le_mul hk2 hT⟩

set_option maxHeartbeats 8000000 in
set_option maxRecDepth 100000 in
theorem go (w : World) (a : Option Addr) (len cap : Nat) (g : List (List Int)) (hg : RowsIn w a len g) (c : Nat) (hc : c < 256) (b : Option Addr) (nv cb : Nat) (V : List Int) (hVI : NumsIn w b nv V) :
    Calls Try.prog 6 #[.slice a len cap, .int .u8 (c : Int), .slice b nv cb] w fun e w' => e = .returned (.bool true) ∧ Fr F0 w w' := by
  obtain ⟨hlen, hG⟩ := hg
  obtain ⟨hvl, hV, _⟩ := hVI
  have HL := Lib.hid (light_any w _ a cap g len hlen hG)
  obtain ⟨lb, hlb⟩ : ∃ lb, lb = lightB g := ⟨_, rfl⟩
  rw [← hlb] at HL
  have HG := Lib.hid hG
  have HN := Lib.hid hlen
  have HLB := Lib.hid hlb
  have HV := Lib.hid hV
  have HVL := Lib.hid hvl
  clear hG hlen hlb hV hvl
  cases lb with
  | false =>
    go_enter Try.func6, Try.ntmps6
    go_wp2_with fail
    refine HL.out.mono ?_
    rintro e w1 ⟨rfl, rfl⟩
    go_wp2_with fail
    go_ret
    exact ⟨rfl, Fr.refl _ _⟩
  | true =>
    have HFW := Lib.hid (lightB_few HLB.out.symm).1
    by_cases h200 : 200 < nv
    · have d1 : (200 : Int) < (nv : Int) := by omega
      go_enter Try.func6, Try.ntmps6
      go_wp2_with fail
      refine HL.out.mono ?_
      rintro e w1 ⟨rfl, rfl⟩
      go_wp2_with fail
      go_ret
      exact ⟨rfl, Fr.refl _ _⟩
    · have d1 : ¬ (200 : Int) < (nv : Int) := by omega
      have hnv : nv ≤ 200 := by omega
      have hFA : Fr F0 w (w.alloc (.cells #[.slice a len cap] 29)) := (Fr.refl F0 w).alloc _
      have HFA := Lib.hid hFA
      have HB := Lib.hid (Blk.new w 29 #[.slice a len cap])
      have hcx0 : (w.alloc (.cells #[.slice a len cap] 29)).cell? ⟨w.heap.size, 0, none⟩ = some (.slice a len cap) := by rw [HB.out.cell]; rfl
      obtain ⟨k, hk⟩ : ∃ k, k = c % 64 + 1 := ⟨_, rfl⟩
      have hk1 : 1 ≤ k := by omega
      have hk2 : k ≤ 64 := by omega
      have e1 : (c : Int) % 64 + 1 = (k : Int) := by omega
      have hl1 : len ≤ 1000 := by have := HFW.out.n; have := HN.out; omega
      have HK1 := Lib.hid hk1
      have HK2 := Lib.hid hk2
      clear hk hFA hk1
      go_enter Try.func6, Try.ntmps6
      go_wp2_with fail
      refine HL.out.mono ?_
      rintro e w1 ⟨rfl, rfl⟩
      clear HL
      go_wp2_with fail
      go_loopw [7] (fun i wx => ∃ j : Nat, j ≤ nv ∧ i = .int .i64 (j : Int) ∧ Hid (∀ z ∈ V.take j, z < 36028797018963968) ∧ wx = w1) (fun i _ => nv - (intOf i).toNat)
      case atStart => exact ⟨0, by omega, rfl, Lib.hid (by simp), rfl⟩
      case round =>
        obtain ⟨j, hj, rfl, HZ, rfl⟩ := hrel
        by_cases hjn : j < nv
        · have g1 : (j : Int) < (nv : Int) := by omega
          obtain ⟨z, hz⟩ := of_lt (show j < V.length by have := HVL.out; omega)
          have hV2 := HV.out
          rw [HVL.out] at hV2
          obtain ⟨bb, off, hBe, _, hcz⟩ := Rd.int_at hV2 hz
          subst hBe
          have HZ2 : Hid (z < 36028797018963968 → ∀ y ∈ V.take (j + 1), y < 36028797018963968) := Lib.hid (fun h y hy => by
            rw [take_snoc hz] at hy
            rcases List.mem_append.1 hy with hy | hy
            · exact HZ.out y hy
            · rw [List.mem_singleton] at hy; omega)
          clear hV2 hz
          by_cases hbig : 36028797018963968 ≤ z
          · have d2 : decide (36028797018963968 ≤ z) = true := decide_eq_true hbig
            go_wp2_with fail
            go_ret
            exact ⟨rfl, Fr.refl _ _⟩
          · have d2 : decide (36028797018963968 ≤ z) = false := decide_eq_false hbig
            have HZ3 := Lib.hid (HZ2.out (by omega))
            go_wp2_with fail
            exact ⟨⟨j + 1, by omega, by go_num, HZ3, trivial⟩, by simp [intOf]; omega⟩
        · have HSM : Hid (∀ z ∈ V, z < 36028797018963968) := Lib.hid (by
            have := HZ.out
            rwa [show j = V.length by have := HVL.out; omega, List.take_length] at this)
          clear HZ
          by_cases hr : rightB g = true
          · obtain ⟨G, hgG, hA⟩ := right_nat hr
            subst hgG
            have hn : len = G.length := by rw [HN.out, gi_length]
            have HFI := Lib.hid (fits_any _ _ _ a cap G k len hn (HG.out.f0 HFA.out) HFW.out hA hr HK1.out HK2.out b nv cb V (HV.out.fr HFA.out (fun _ _ h => h)) HVL.out (by omega))
            have HNN := Lib.hid hn
            have HA := Lib.hid hA
            have HR := Lib.hid hr
            obtain ⟨fb, hfb⟩ : ∃ fb, fb = fitB k G V := ⟨_, rfl⟩
            rw [← hfb] at HFI
            have HFB := Lib.hid hfb
            clear hfb hn hA hr
            cases fb with
            | false =>
              go_wp2_with fail
              refine HFI.out.mono ?_
              rintro e w2 ⟨rfl, hF1⟩
              have HF1 := Lib.hid (HFA.out.trans hF1)
              clear hF1
              go_wp2_with fail
              refine (awake_any w2).mono ?_
              rintro e w3 ⟨rfl, hF3⟩
              have HF3 := Lib.hid (HF1.out.trans hF3)
              clear hF3
              go_wp2_with fail
              go_ret
              exact ⟨rfl, HF3.out⟩
            | true =>
              obtain ⟨V', hV', hFIT⟩ := of_fit HFB.out.symm
              obtain ⟨D, hDl, hDO⟩ := depth_ex HA.out
              have hDl2 : D.length = len := by rw [HNN.out]; exact hDl
              obtain ⟨T, hT⟩ : ∃ T, T = tim V' := ⟨_, rfl⟩
              have hT1 : T ≤ 36028797018963968 := by
                rw [hT]
                refine mx_of_le fun y hy => ?_
                have := HSM.out (y : Int) (by rw [hV']; exact List.mem_map.2 ⟨y, hy, rfl⟩)
                omega
              have hLT : lastI V + 1 = (T : Int) := by rw [hV', lastI_ni, hT]
              obtain ⟨S, hS⟩ : ∃ S, S = spn D := ⟨_, rfl⟩
              have hST : S ≤ T := by rw [hT, hS]; exact hFIT.span_le HA.out hDO hDl
              obtain ⟨kt, m1, m2, m3⟩ := product HK2.out hT1
              have hW : len ≤ kt := by rw [m2, hT, HNN.out]; exact hFIT.work_le
              have HFIT := Lib.hid hFIT
              have HDL := Lib.hid hDl
              have HDL2 := Lib.hid hDl2
              have HDO := Lib.hid hDO
              have HLT := Lib.hid hLT
              have HS := Lib.hid hS
              have HTV := Lib.hid hT
              have n1 : (S : Int) ≤ (T : Int) := by omega
              have n2 : (len : Int) ≤ (kt : Int) := by omega
              have p1 : IntKind.i64.wrap ((k : Int) * (T : Int)) = (kt : Int) := (IntWalk.i64_in _ (by omega)).trans m1
              have p2 : IntKind.i64.wrap (2 * (T : Int)) = 2 * (T : Int) := IntWalk.i64_in _ (by omega)
              clear hV' hFIT hDl hDO hDl2 hLT hS hT m2
              go_wp2_with fail
              refine HFI.out.mono ?_
              rintro e w2 ⟨rfl, hF1⟩
              have HF1 := Lib.hid (HFA.out.trans hF1)
              have HB1 := Lib.hid (HB.out.fr hF1 (fun h => h))
              have hcx1 : w2.cell? ⟨wr.heap.size, 0, none⟩ = some (.slice a len cap) := by rw [HB1.out.cell]; rfl
              have HPL := Lib.hid (plan_any w2 _ a cap G k len HNN.out (HG.out.f0 HF1.out) HFW.out HA.out HR.out HK1.out HK2.out)
              clear hF1
              go_wp2_with fail
              refine HPL.out.mono ?_
              rintro e w3 ⟨g', W, rfl, hgl, hW3, hWl, hP, hF2⟩
              have HF2 := Lib.hid (HF1.out.trans hF2)
              have HB2 := Lib.hid (HB1.out.fr hF2 (fun h => h))
              have hcx2 : w3.cell? ⟨wr.heap.size, 0, none⟩ = some (.slice a len cap) := by rw [HB2.out.cell]; rfl
              have hWG : W.length = G.length := by rw [hWl]; exact HNN.out
              obtain ⟨T2, hT2⟩ : ∃ T2, T2 = tim W := ⟨_, rfl⟩
              have hhalf : T2 ≤ 2 * T := by rw [hT2, HTV.out]; exact half hP HA.out HK1.out hWG HFIT.out HDO.out HDL.out
              have hTn : T2 ≤ 1000 := by have := hP.tim_le HA.out HK1.out; omega
              have n3 : (T2 : Int) ≤ 2 * (T : Int) := by omega
              have HW3 := Lib.hid hW3
              have HWL := Lib.hid hWl
              have HT2 := Lib.hid hT2
              have HTI := Lib.hid (time_any w3 _ b cb nv V HVL.out (HV.out.fr HF2.out (fun _ _ h => h)) (by omega) (fun z hz => by have := HSM.out z hz; omega))
              rw [HLT.out] at HTI
              clear hF2 hgl hW3 hWl hP hWG hT2 hhalf hcx1
              go_wp2_with fail
              refine HTI.out.mono ?_
              rintro e w4 ⟨rfl, rfl⟩
              have HSP := Lib.hid (span_any w4 _ a cap G len HNN.out (HG.out.f0 HF2.out) HFW.out HA.out HR.out D HDL2.out HDO.out)
              rw [← HS.out] at HSP
              go_wp2_with fail
              refine HSP.out.mono ?_
              rintro e w5 ⟨rfl, hF5⟩
              have HF5 := Lib.hid (HF2.out.trans hF5)
              have HB5 := Lib.hid (HB2.out.fr hF5 (fun h => h))
              have hcx5 : w5.cell? ⟨wr.heap.size, 0, none⟩ = some (.slice a len cap) := by rw [HB5.out.cell]; rfl
              have HW5 := Lib.hid (Nb.frs HW3.out hF5 (fun h => h))
              have HWK := Lib.hid (work_any w5 _ a cap (gi G) len (by rw [gi_length]; exact HNN.out) (HG.out.f0 HF5.out) HFW.out HR.out)
              clear hF5 hcx2
              go_wp2_with fail
              refine HWK.out.mono ?_
              rintro e w6 ⟨rfl, hF6⟩
              have HF6 := Lib.hid (HF5.out.trans hF6)
              have HW6 := Lib.hid (Nb.frs HW5.out hF6 (fun h => h))
              have HTJ := Lib.hid (time_any w6 (fun b => b = g') (some ⟨g', 0, none⟩) len len (ni W) (by rw [ni_length]; exact HWL.out.symm) (by have := Nb.rd HW6.out (Q := fun b => b = g') rfl; rw [HWL.out] at this; exact this) (by omega) (by
                intro z hz
                obtain ⟨x, hx, rfl⟩ := List.mem_map.1 hz
                obtain ⟨i, hi⟩ := List.getElem?_of_mem hx
                have h1 := tim_lt hi
                have h2 := HT2.out
                omega))
              rw [lastI_ni, ← HT2.out] at HTJ
              clear hF6 hcx5
              go_wp2_with fail
              refine HTJ.out.mono ?_
              rintro e w7 ⟨rfl, rfl⟩
              go_wp2_with fail
              refine (awake_any w7).mono ?_
              rintro e w8 ⟨rfl, hF8⟩
              have HF8 := Lib.hid (HF6.out.trans hF8)
              clear hF8
              go_wp2_with fail
              go_ret
              exact ⟨rfl, HF8.out⟩
          · have HFI := Lib.hid (fits_no _ _ a cap g (k : Int) len HN.out (HG.out.f0 HFA.out) HFW.out (by simp [mayB, hr]) b nv cb)
            clear hr
            go_wp2_with fail
            refine HFI.out.mono ?_
            rintro e w2 ⟨rfl, hF1⟩
            have HF1 := Lib.hid (HFA.out.trans hF1)
            clear hF1
            go_wp2_with fail
            refine (awake_any w2).mono ?_
            rintro e w3 ⟨rfl, hF3⟩
            have HF3 := Lib.hid (HF1.out.trans hF3)
            clear hF3
            go_wp2_with fail
            go_ret
            exact ⟨rfl, HF3.out⟩

theorem walk (a0 : Option Addr) (len0 cap0 : Nat) (z0 : List (List Int)) {W : World} (h0 : RowsIn W a0 len0 z0) (x : Int) (hx : (Lit.int .u8 x).wf = true) (a2 : Option Addr) (len2 cap2 : Nat) (z2 : List Int) (h2 : NumsIn W a2 len2 z2) (w : World) (hw : W = w := by rfl) :
    Calls Try.prog 6 #[.slice a0 len0 cap0, .int .u8 x, .slice a2 len2 cap2] w fun e w' => e = .returned (.bool true) ∧ Below w.heap.size w w' := by
  subst hw
  have hb := bounds_u8 hx
  obtain ⟨c, rfl⟩ : ∃ c : Nat, x = c := ⟨x.toNat, by omega⟩
  exact (go _ a0 len0 cap0 z0 h0 c (by omega) a2 len2 cap2 z2 h2).mono fun _ _ ⟨he, hF⟩ => ⟨he, hF.below (Nat.le_refl _) (fun _ h => h.elim)⟩

/-! ### The row's step -/
theorem own : ownKnob Try.prog.godebug = none := by kernel_rfl
theorem laidOut : laidOutB Try.prog = true := by kernel_rfl

set_option maxRecDepth 100000 in
theorem lifted (os : Os) (started : os.Started) (H : Type) (enc : TypeId × Value → H) :
    ReturnsInHanded {} Try.checked os 6 .any (Rows.greedyLeastSpec.pre6 enc Try.prog Try.f6 Rows.greedyLeastRow.domain false) (Rows.greedyLeastSpec.post enc Try.prog Try.f6 false true false false) := by
  refine returnsInHanded_of_change (C := Try.checked) own started (by kernel_rfl) Try.func6
    (ChangeSpec.witness6 (enc := enc) (C := Try.checked) false ⟨#[], #[.slice none 0 0, .int .u8 0, .slice none 0 0], []⟩ 8 (by kernel_rfl) (by kernel_rfl) (by kernel_rfl) (by kernel_rfl)) ?_
  intro W base args ds gs before hval0 hW hcnd _
  have hval : ∀ (j : Nat) t v, Try.f6.params[j]? = some t → args[j]? = some v → Value.okWide Try.prog W .any base t v := hval0
  have hW' := hW
  obtain ⟨p, q, hA0, hV, rfl, hfz, hnd⟩ := hW
  have hA : DataW.TrodAll enc Try.prog W 0 (fun _ => true) true Try.f6.params.toList args.toList ds p := hA0
  rw [Try.params6] at hA hval
  obtain ⟨v0, vs0, d0, ds0, p0, q0, hargs, rfl, rfl, h0, r0⟩ := trodAll_cons hA
  obtain ⟨v1, vs1, d1, ds1, p1, q1, rfl, rfl, rfl, h1, r1⟩ := trodAll_cons r0
  obtain ⟨v2, vs2, d2, ds2, p2, q2, rfl, rfl, rfl, h2, r2⟩ := trodAll_cons r1
  obtain ⟨rfl, rfl, rfl⟩ := trodAll_nil r2
  obtain rfl : args = #[v0, v1, v2] := by cases args; simp_all
  obtain ⟨rfl, rfl⟩ := trodVars_none hV
  obtain ⟨a0, len0, cap0, rfl⟩ := okWide_slice Try.underlying22 (hval 0 22 v0 rfl rfl)
  have k0 := h0
  have lt0 : ∀ x ∈ p0, x.block < W.heap.size := by obtain ⟨m, hm⟩ := k0; exact DataW.trod_lt m _ _ _ hm
  obtain ⟨z0, w0⟩ := open_rows h0
  obtain ⟨a1, rfl, rfl, rfl, w1⟩ := open_int Try.underlying5 (hval 1 5 v1 rfl rfl) h1
  obtain ⟨a2, len2, cap2, rfl⟩ := okWide_slice Try.underlying24 (hval 2 24 v2 rfl rfl)
  have k2 := h2
  have lt2 : ∀ x ∈ p2, x.block < W.heap.size := by obtain ⟨m, hm⟩ := k2; exact DataW.trod_lt m _ _ _ hm
  obtain ⟨z2, w2⟩ := open_nums h2
  clear hA0 hval0
  refine (walk a0 len0 cap0 z0 w0 a1 w1 a2 len2 cap2 z2 w2 W).mono fun e W' ⟨he, bel⟩ => ?_
  subst he
  exact ⟨_, rfl, _, _, _, [], _, [], hW', trodAll_mk1 (shut_bool Try.underlying4 _), (trodAll_cons_mk (Below.trod laidOut (by kernel_rfl) (of_decide_eq_true (by kernel_rfl)) k0 bel lt0) (trodAll_cons_mk (shut_int Try.underlying5 w1) (trodAll_cons_mk (Below.trod laidOut (by kernel_rfl) (of_decide_eq_true (by kernel_rfl)) k2 bel lt2) trodAll_mk0))), rfl, bel.frame _, fun h => by cases h⟩

theorem over : Rows.greedyLeastRow.holds Try.pinned (OpenSpec.ofChange Rows.greedyLeastSpec) :=
  OpenClaim.holds_of_wide 6 Try.f6 rfl rfl rfl rfl rfl rfl rfl ⟨rfl, rfl, rfl, rfl, rfl⟩ rfl rfl rfl rfl rfl (by kernel_rfl) Try.func6 (by kernel_rfl)
    (of_decide_eq_true (by kernel_rfl)) (by unfold Func.isWrapper; first | (rw [if_pos (by decide +kernel)]; kernel_rfl) | (rw [if_neg (by decide +kernel)]; exact ⟨rfl, rfl⟩))
    (fun os started H enc _ => lifted os started H enc)

/-- The statement. -/
theorem proved : Rows.GreedyLeastSaid := over
#print axioms proved
end Go.Proofs.Ytdknhiohkicogaa.greedyLeast
