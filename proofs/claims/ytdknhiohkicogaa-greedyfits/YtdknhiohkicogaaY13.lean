/-
  The document's Fits. No condition.
-/
import Derived.Test.YtdknhiohkicogaaY10
namespace Go.Proofs.Ytdknhiohkicogaa
open Go.RowKit

set_option maxHeartbeats 16000000 in
set_option maxRecDepth 100000 in
theorem rfits_any (w : World) (Q Q' : Nat → Prop) (A : Option Addr) (c : Nat) (G : List (List Nat)) (k n : Nat) (hn : n = G.length) (hG : GrAt w Q A (gi G)) (hF : Few (gi G)) (hA : Ahead G)
    (B : Option Addr) (nv cb : Nat) (V : List Int) (hV : Rd w Q' 1 B nv (ic V)) (hnv : nv = V.length) (hv1 : nv ≤ 1000) :
    Calls Try.prog 15 #[.slice A n c, .int .i64 (k : Int), .slice B nv cb] w fun e w' => e = .returned (.bool (refB k G V)) ∧ Fr F0 w w' := by
  have hn1 : n ≤ 1000 := by have := hF.n; rw [gi_length] at this; omega
  have HG := Lib.hid hG
  have HFW := Lib.hid hF
  have HA := Lib.hid hA
  have HN := Lib.hid hn
  have HV := Lib.hid hV
  have HNV := Lib.hid hnv
  obtain ⟨fb, hfb⟩ : ∃ fb, fb = refB k G V := ⟨_, rfl⟩
  rw [← hfb]
  have HFB := Lib.hid hfb
  clear hG hF hA hn hV hnv hfb
  by_cases hnn : nv = n
  · subst hnn
    go_enter Try.func15, Try.ntmps15
    go_wp2_with fail
    go_loopw [7] (fun i wx => ∃ j : Nat, j ≤ nv ∧ i = .int .i64 (j : Int) ∧ Hid (fb = refFrom k V j (G.drop j)) ∧ Hid (Fr F0 w wx)) (fun i _ => nv - (intOf i).toNat)
    case atStart => exact ⟨0, by omega, rfl, Lib.hid (by rw [HFB.out, refB, decide_eq_true (by rw [← HNV.out]; exact HN.out)]; rfl), Lib.hid (Fr.refl _ _)⟩
    case round =>
      obtain ⟨j, hj, rfl, HE, HF3⟩ := hrel
      by_cases hjn : j < nv
      · have g1 : (j : Int) < (nv : Int) := by omega
        obtain ⟨z, hz⟩ := of_lt (show j < V.length by have := HNV.out; omega)
        obtain ⟨row, hrow⟩ := of_lt (show j < G.length by have := HN.out; omega)
        have HZ := Lib.hid hz
        have HROW := Lib.hid hrow
        have hV0 := HV.out
        rw [HNV.out] at hV0
        obtain ⟨bb, off, hBe, _, hcz0⟩ := Rd.int_at hV0 hz
        subst hBe
        have HCV : Hid (∀ (i : Nat) (u : Int), V[i]? = some u → w.cell? ⟨bb, off + i, none⟩ = some (.int .i64 u)) := Lib.hid (fun i u hu => by
          obtain ⟨b', off', he, _, hc⟩ := Rd.int_at hV0 hu
          injection he with he
          injection he with e1 e2
          subst e1; subst e2
          exact hc)
        have hcz := HF3.out.held hcz0 (fun h => h)
        have HE2 : Hid (fb = (refOk k V row z && refFrom k V (j + 1) (G.drop (j + 1)))) := Lib.hid (by
          rw [HE.out, List.drop_eq_getElem_cons (lt_of hrow), (List.getElem?_eq_some_iff.1 hrow).2]
          simp only [refFrom]
          rw [getDI hz])
        obtain ⟨br, offr, A', c', hAe, _, hcell, hrd⟩ := HG.out j _ (gi_at hrow)
        subst hAe
        obtain ⟨L, hL⟩ : ∃ L, L = (ni row).length := ⟨_, rfl⟩
        have hLr : L = row.length := by rw [hL, ni_length]
        have hL1 : L ≤ 1000 := by have := HFW.out.r _ (List.mem_of_getElem? (gi_at hrow)); omega
        rw [← hL] at hcell hrd
        have HLR := Lib.hid hLr
        have HLE := Lib.hid hL
        have HRD := Lib.hid hrd
        have HCELL := Lib.hid hcell
        clear hz hrow hV0 HE hcz0 hLr hL hrd hcell
        by_cases hz0 : z < 0
        · have d1 : decide (z < 0) = true := decide_eq_true hz0
          have HV0 : Hid (fb = false) := Lib.hid (by rw [HE2.out, refOk, decide_eq_false (show ¬ 0 ≤ z by omega)]; rfl)
          go_wp2_with fail
          go_ret
          exact ⟨by rw [HV0.out]; rfl, HF3.out⟩
        · have d1 : decide (z < 0) = false := decide_eq_false hz0
          have HZ0 := Lib.hid (show 0 ≤ z by omega)
          go_wp2_with fail
          clear hcz
          go_loopw [8] (fun i wx => ∃ q : Nat, q ≤ L ∧ i = .int .i64 (q : Int) ∧ Hid (lateB V (row.take q) z = false) ∧ Hid (Fr F0 w wx)) (fun i _ => L - (intOf i).toNat)
          case atStart => exact ⟨0, by omega, rfl, Lib.hid rfl, HF3⟩
          case round =>
            obtain ⟨q, hq, rfl, HLA, HF4⟩ := hrel
            have hcell := HF4.out.held HCELL.out (fun h => h)
            have hcz := HF4.out.held (HCV.out j z HZ.out) (fun h => h)
            by_cases hql : q < L
            · have g2 : (q : Int) < (L : Int) := by omega
              obtain ⟨a, ha⟩ := of_lt (show q < row.length by have := HLR.out; omega)
              have hrd := HRD.out.fr HF4.out (fun _ _ h => h)
              rw [HLE.out] at hrd
              obtain ⟨b2, off2, hAe2, _, hca⟩ := Rd.int_at hrd (ni_at ha)
              subst hAe2
              have han := HA.out j row HROW.out a (List.mem_of_getElem? ha)
              obtain ⟨u, hu⟩ := of_lt (show a < V.length by have := HNV.out; omega)
              have hcu := HF4.out.held (HCV.out a u hu) (fun h => h)
              have g3 : (a : Int) < (nv : Int) := by omega
              have HLA2 : Hid (lateB V (row.take (q + 1)) z = decide (z ≤ u)) := Lib.hid (by
                have h1 := HLA.out
                rw [lateB] at h1
                rw [take_snoc ha, lateB, List.any_append, h1]
                simp only [List.any_cons, List.any_nil, Bool.or_false, Bool.false_or]
                rw [getDI hu])
              have HAA := Lib.hid (List.mem_of_getElem? ha)
              have HUU := Lib.hid hu
              have HQ : Hid (∀ t, Fr F0 w (wr.drewN t)) := Lib.hid (fun t => HF4.out.drewN t)
              clear hrd ha hu
              by_cases hzu : z ≤ u
              · have d2 : decide (z ≤ u) = true := decide_eq_true hzu
                have HV0 : Hid (fb = false) := Lib.hid (by
                  have : lateB V row z = true := List.any_eq_true.2 ⟨a, HAA.out, by rw [getDI HUU.out]; exact d2⟩
                  rw [HE2.out, refOk, this, Bool.not_true, Bool.false_and, Bool.and_false]; rfl)
                go_wp2_with fail
                go_quiet (fail)
                go_wp2_with fail
                go_ret
                exact ⟨by rw [HV0.out]; rfl, by first | exact HF4.out | exact HF4.out.drew | exact HQ.out _⟩
              · have d2 : decide (z ≤ u) = false := decide_eq_false hzu
                rw [d2] at HLA2
                go_wp2_with fail
                go_quiet (fail)
                go_wp2_with fail
                refine ⟨⟨q + 1, by omega, by go_num, HLA2, ?_⟩, by simp [intOf]; omega⟩
                first | exact HF4 | exact Lib.hid HF4.out.drew | exact Lib.hid (HQ.out _)
            · have HLF : Hid (lateB V row z = false) := Lib.hid (by
                have := HLA.out
                rwa [show q = row.length by have := HLR.out; omega, List.take_length] at this)
              clear hcz
              go_wp2_with fail
              go_loopw [9, 10] (fun bz i wx => ∃ t bN : Nat, t ≤ nv ∧ i = .int .i64 (t : Int) ∧ bz = .int .i64 (bN : Int) ∧ Hid (bN = (V.take t).count z) ∧ bN ≤ 1000 ∧ Hid (Fr F0 w wx)) (fun _ i _ => nv - (intOf i).toNat)
              case atStart => exact ⟨0, 0, by omega, rfl, rfl, Lib.hid (by simp), by omega, HF4⟩
              case round =>
                obtain ⟨t, bN, ht, rfl, rfl, HBN, hbn, HF5⟩ := hrel
                by_cases htn : t < nv
                · have g2 : (t : Int) < (nv : Int) := by omega
                  obtain ⟨u, hu⟩ := of_lt (show t < V.length by have := HNV.out; omega)
                  have hcu := HF5.out.held (HCV.out t u hu) (fun h => h)
                  have hcz := HF5.out.held (HCV.out j z HZ.out) (fun h => h)
                  have HUU := Lib.hid hu
                  have HQ : Hid (∀ t, Fr F0 w (wr.drewN t)) := Lib.hid (fun t => HF5.out.drewN t)
                  clear hu
                  by_cases huz : u = z
                  · subst huz
                    have HB2 : Hid (bN + 1 = (V.take (t + 1)).count u) := Lib.hid (by rw [take_snoc HUU.out, List.count_append, HBN.out]; simp)
                    have hb2 : bN + 1 ≤ 1000 := by
                      have h1 := count_take_int V (t + 1) u
                      have h2 : V.count u ≤ V.length := List.count_le_length
                      have := HNV.out
                      have := HB2.out
                      omega
                    go_wp2_with fail
                    go_quiet (fail)
                    go_wp2_with fail
                    refine ⟨⟨t + 1, bN + 1, by omega, by go_num, by go_num, HB2, hb2, ?_⟩, by simp [intOf]; omega⟩
                    first | exact HF5 | exact Lib.hid HF5.out.drew | exact Lib.hid (HQ.out _)
                  · have d2 : (u == z) = false := by simpa using huz
                    have HB2 : Hid (bN = (V.take (t + 1)).count z) := Lib.hid (by
                      rw [take_snoc HUU.out, List.count_append, HBN.out]
                      have : List.count z [u] = 0 := by simp [huz]
                      omega)
                    go_wp2_with fail
                    go_quiet (fail)
                    go_wp2_with fail
                    refine ⟨⟨t + 1, bN, by omega, by go_num, rfl, HB2, hbn, ?_⟩, by simp [intOf]; omega⟩
                    first | exact HF5 | exact Lib.hid HF5.out.drew | exact Lib.hid (HQ.out _)
                · have HBF : Hid (bN = V.count z) := Lib.hid (by rw [HBN.out, show t = V.length by have := HNV.out; omega, List.take_length])
                  have HRO : Hid (refOk k V row z = decide (bN ≤ k)) := Lib.hid (by rw [refOk, HLF.out, decide_eq_true HZ0.out, HBF.out]; simp)
                  by_cases hbk : k < bN
                  · have d2 : (k : Int) < (bN : Int) := by omega
                    have HV0 : Hid (fb = false) := Lib.hid (by rw [HE2.out, HRO.out, decide_eq_false (by omega)]; rfl)
                    go_wp2_with fail
                    go_ret
                    exact ⟨by rw [HV0.out]; rfl, HF5.out⟩
                  · have d2 : ¬ (k : Int) < (bN : Int) := by omega
                    have HV0 : Hid (fb = refFrom k V (j + 1) (G.drop (j + 1))) := Lib.hid (by rw [HE2.out, HRO.out, decide_eq_true (by omega)]; rfl)
                    go_wp2_with fail
                    exact ⟨⟨j + 1, by omega, by go_num, HV0, HF5⟩, by simp [intOf]; omega⟩
      · have HV0 : Hid (fb = true) := Lib.hid (by rw [HE.out, List.drop_eq_nil_of_le (by have := HN.out; omega)]; rfl)
        go_wp2_with fail
        go_ret
        exact ⟨by rw [HV0.out]; rfl, HF3.out⟩
  · have d1 : ¬ (nv : Int) = (n : Int) := by omega
    have HV0 : Hid (fb = false) := Lib.hid (by rw [HFB.out, refB, decide_eq_false (by rw [← HNV.out, ← HN.out]; exact hnn)]; rfl)
    go_enter Try.func15, Try.ntmps15
    go_wp2_with fail
    go_ret
    exact ⟨by rw [HV0.out]; rfl, Fr.refl _ _⟩
end Go.Proofs.Ytdknhiohkicogaa
