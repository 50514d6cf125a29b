/-
  The chapter's example (awake) of layer 11 holds; two rows that are alike are told so.
-/
import Derived.Test.YtjphmiemakmcbaaEp8
namespace Go.Proofs.Ytjphmiemakmcbaa
open Go.RowKit

theorem own_at {w : World} {base n i : Nat} {e : TypeId} {v : Value} {xs : List Value} {u : Value} (h : w.ownsRow base e 1 v n xs) (hi : xs[i]? = some u) :
    ∃ g cap, v = .slice (some ⟨g, 0, none⟩) n cap ∧ base ≤ g ∧ i < n ∧ n ≤ cap ∧ w.cell? ⟨g, i, none⟩ = some u := by
  have hil : i < xs.length := (List.getElem?_eq_some_iff.1 hi).1
  have hn : xs.length = n := by have := h.1; omega
  obtain ⟨g, cap, rfl, hb, _⟩ := h.form (by omega)
  have hc := h.cells (g := g) rfl i u hi
  have hadd : (⟨g, 0, none⟩ : Addr).add i = ⟨g, i, none⟩ := by unfold Addr.add; split <;> simp_all
  rw [hadd] at hc
  obtain ⟨A, c, hv, hcap⟩ := own_cap h
  injection hv with _ _ h3
  exact ⟨g, cap, rfl, hb, by omega, by omega, hc⟩
theorem ic_at {xs : List Int} {i : Nat} {z : Int} (h : xs[i]? = some z) : (ic xs)[i]? = some (.int .i64 z) := by simp [ic, h]

set_option maxHeartbeats 4000000 in
theorem same_yes (w : World) (ba bb : Nat) (va vb : Value) (xs : List Int) (hl : xs.length ≤ 1000000) (ha : w.ownsRow ba 3 1 va xs.length (ic xs)) (hb : w.ownsRow bb 3 1 vb xs.length (ic xs)) :
    Calls Try.prog 14 #[va, vb] w fun e w' => e = .returned (.bool true) ∧ Fr F0 w w' := by
  obtain ⟨A, ca, rfl⟩ := own_slice ha
  obtain ⟨B, cb, rfl⟩ := own_slice hb
  obtain ⟨n, hn⟩ : ∃ n, n = xs.length := ⟨_, rfl⟩
  rw [← hn] at ha hb hl ⊢
  have HA := Lib.hid ha
  have HB := Lib.hid hb
  have HN := Lib.hid hn
  have g0 : ((n : Int) != (n : Int)) = false := by simp
  clear ha hb hn
  go_enter Try.func14, Try.ntmps14
  go_wp2_with fail
  go_loopw [5] (fun i wx => ∃ k : Nat, k ≤ n ∧ i = .int .i64 (k : Int) ∧ Hid (Fr F0 w wx)) (fun i _ => n - (intOf i).toNat)
  case atStart => exact ⟨0, by omega, rfl, Lib.hid (Fr.refl _ _)⟩
  case round =>
    obtain ⟨k, hkn, rfl, HF⟩ := hrel
    by_cases hk : k < n
    · have g1 : (k : Int) < (n : Int) := by omega
      obtain ⟨z, hz⟩ : ∃ z, xs[k]? = some z := ⟨_, List.getElem?_eq_getElem (by have := HN.out; omega)⟩
      obtain ⟨g, c1, hv1, _, _, _, ce1⟩ := own_at (own_fr HA.out HF.out (fun _ _ h => h)) (ic_at hz)
      obtain ⟨g', c2, hv2, _, _, _, ce2⟩ := own_at (own_fr HB.out HF.out (fun _ _ h => h)) (ic_at hz)
      injection hv1 with hv1 _ hv3
      injection hv2 with hv2 _ hv4
      subst hv1; subst hv2; subst hv3; subst hv4
      have g2 : (z != z) = false := by simp
      clear hz
      go_wp2_with fail
      go_quiet (fail)
      go_wp2_with fail
      exact ⟨⟨k + 1, by omega, by go_num, Lib.hid (HF.out.drewN _)⟩, by simp [intOf]; omega⟩
    · obtain rfl : k = n := by omega
      go_wp2_with fail
      go_ret
      exact ⟨rfl, HF.out⟩

set_option maxHeartbeats 4000000 in
theorem awake_any (w : World) : Calls Try.prog 18 #[] w fun e w' => e = .returned (.bool true) ∧ Fr F0 w w' := by
  have HNEW : Hid (Calls Try.prog 9 #[.int .i64 1] w fun e w' => e = .returned (.tuple #[.pointer (some ⟨w.heap.size, 0, none⟩), .int .i64 0]) ∧ EpAt w' w.heap.size w.heap.size 0 (fresh 1) ∧ Fr F0 w w') := new_yes w 1 (by decide) (by decide)
  go_enter Try.func18, Try.ntmps18
  go_wp2_with fail
  refine HNEW.out.mono ?_
  rintro e w1 ⟨rfl, hE1, hF1⟩
  have HRT : Hid (Calls Try.prog 11 #[.pointer (some ⟨w.heap.size, 0, none⟩), .int .i64 0, .int .i64 9] w1 fun e w' => e = .returned (.int .i64 0) ∧ EpAt w' w.heap.size w.heap.size 0 [⟨-1, [(9, 0)]⟩] ∧ FrE w.heap.size w1 w') := retire_yes w1 _ _ 0 _ hE1 0 ⟨-1, []⟩ rfl (by decide) hF1.size 9
  have HF1 : Hid (FrE w.heap.size w w1) := Fr.f0 hF1
  clear hE1 hF1 HNEW
  go_wp2_with fail
  refine HRT.out.mono ?_
  rintro e w2 ⟨rfl, hE2, hF2⟩
  have HAN : Hid (Calls Try.prog 12 #[.pointer (some ⟨w.heap.size, 0, none⟩), .int .i64 0] w2 (AnnP w2 w.heap.size w.heap.size 0 [⟨-1, [(9, 0)]⟩] 0 ⟨-1, [(9, 0)]⟩ 1)) := announce_yes w2 _ _ 0 _ hE2 0 ⟨-1, [(9, 0)]⟩ rfl (by decide) (by decide) (by decide)
  have HF2 : Hid (FrE w.heap.size w w2) := FrE.trans HF1.out hF2
  clear hE2 hF2 HRT HF1
  go_wp2_with fail
  refine HAN.out.mono ?_
  rintro e w3 ⟨v, rfl, hO3, hE3, hF3⟩
  have hO3' : w3.ownsRow w2.heap.size 3 1 v 0 [] := hO3
  obtain ⟨vA, vc, rfl⟩ := own_slice hO3'
  have HAN2 : Hid (Calls Try.prog 12 #[.pointer (some ⟨w.heap.size, 0, none⟩), .int .i64 0] w3 (AnnP w3 w.heap.size w.heap.size 1 [⟨0, [(9, 0)]⟩] 0 ⟨0, [(9, 0)]⟩ 2)) := announce_yes w3 _ _ 1 _ hE3 0 ⟨0, [(9, 0)]⟩ rfl (by decide) (by decide) (by decide)
  have HF3 : Hid (FrE w.heap.size w w3) := FrE.trans HF2.out hF3
  clear hE3 hF3 HAN HF2 hO3 hO3'
  go_wp2_with fail
  refine HAN2.out.mono ?_
  rintro e w4 ⟨v, rfl, hO4, hE4, hF4⟩
  have hO4' : w4.ownsRow w3.heap.size 3 1 v [(9 : Int)].length (ic [9]) := hO4
  have hE4' : EpAt w4 w.heap.size w.heap.size 2 [⟨1, []⟩] := hE4
  have hfA : Fr F0 w4 (w4.alloc (.cells #[.int .i64 9] 3)) := (Fr.refl _ _).alloc _
  have hrow : (w4.alloc (.cells #[.int .i64 9] 3)).ownsRow 0 3 1 (.slice (some ⟨w4.heap.size, 0, none⟩) 1 1) [(9 : Int)].length (ic [9]) := ⟨rfl, .inr ⟨w4.heap.size, 1, #[.int .i64 9], rfl, Nat.zero_le _, heap_alloc_new _ _, by decide, by decide, rfl, rfl⟩⟩
  have HSM := Lib.hid (same_yes _ _ _ v _ [9] (by decide) (own_fr hO4' hfA (fun _ _ h => h)) hrow)
  have HF4 : Hid (FrE w.heap.size w (w4.alloc (.cells #[.int .i64 9] 3))) := FrE.trans (FrE.trans HF3.out hF4) (Fr.f0 hfA)
  have HE4 := Lib.hid (hE4'.f0 hfA)
  obtain ⟨vB, vd, rfl⟩ := own_slice hO4'
  clear hE4 hF4 HAN2 HF3 hO4 hO4' hrow hfA hE4'
  go_wp2_with fail
  refine HSM.out.mono ?_
  rintro e w5 ⟨rfl, hF5⟩
  have HE5 := Lib.hid (HE4.out.f0 hF5)
  have HF5 : Hid (FrE w.heap.size w w5) := FrE.trans HF4.out (Fr.f0 hF5)
  have hx0 : w5.cell? ⟨w.heap.size, 0, none⟩ = some (.int .i64 2) := by
    obtain ⟨_, _, _, hR⟩ := HE5.out
    rw [hR.hx.cell]; rfl
  have HNW := Lib.hid (now_any w5 _ _ hx0)
  clear hF5 HSM HE4 HF4
  go_wp2_with fail
  refine HNW.out.mono ?_
  rintro e w6 ⟨rfl, rfl⟩
  go_wp2_with fail
  go_ret
  refine ⟨rfl, ⟨HF5.out.os, HF5.out.tape, HF5.out.output, HF5.out.size, fun k hk _ => HF5.out.block k hk (fun h => by omega)⟩⟩
end Go.Proofs.Ytjphmiemakmcbaa
