/-
  path.parts' iterator hands its parts to the rounds, one by one, till a round says no more.
-/
import Derived.Test.YtafchncdolagdaaDoorSplD
import Derived.RangeFuncStops
import Derived.RangeFuncLeaves
import Derived.RangeFuncCalls
import Derived.OwnWalkIn
import Derived.TacticsInMore
import Derived.RegionIn
import Derived.LoopNIn
import Derived.LoopIn
namespace Go.Proofs.YtafchncdolagdaaDoor
open Go.RowKit

def lenAt (w : World) (B : Nat) : Nat := match w.cell? ⟨B, 0, none⟩ with
  | some (.string s) => s.size
  | _ => 0
def yes (v : Value) : Nat := match v with
  | .bool true => 1
  | _ => 0
theorem lenAt_of {w : World} {B : Nat} {r : List UInt8} (h : w.cell? ⟨B, 0, none⟩ = some (.string ⟨r.toArray⟩)) : lenAt w B = r.length := by
  unfold lenAt; rw [h]; rfl

set_option maxHeartbeats 4000000 in
set_option maxRecDepth 100000 in
theorem iter_in (m l Bs : Nat) (r0 : List UInt8) (hr0 : r0.length ≤ 1000000) (I : List (List UInt8) → List UInt8 → World → Prop) (Ix : World → Prop)
    (hcell : ∀ pre r W, I pre r W → W.cell? ⟨Bs, 0, none⟩ = some (.string ⟨r.toArray⟩) ∧ W.frozen? ⟨Bs, 0, none⟩ = false)
    (hset : ∀ pre r r' W, I pre r W → I pre r' (W.setCell ⟨Bs, 0, none⟩ (.string ⟨r'.toArray⟩)))
    (hdrew : ∀ pre r W q, I pre r W → I pre r (W.drewN q))
    (hY : ∀ k pre x r W, I pre r W → (∃ rest, pre ++ x :: rest = splitD 46 r0) → YieldAt Fence.wide k Tryd.prog l #[.string ⟨x.toArray⟩] W fun e W' => (e = .returned (.bool true) ∧ I (pre ++ [x]) r W') ∨ (e = .returned (.bool false) ∧ Ix W'))
    (W0 : World) (h0 : I [] r0 W0) :
    CallsIn Fence.wide m Tryd.prog 27 #[.func (.yield l) #[] #[], .pointer (some ⟨Bs, 0, none⟩)] W0 fun e W' => (∃ v, e = .returned v) ∧ ((∃ r, I (splitD 46 r0) r W') ∨ Ix W') := by
  refine callsIn_of_wp Tryd.func27 rfl trivial ?_ rfl
  simp only [Tryd.ntmps27, List.size_toArray, List.length_cons, List.length_nil, Nat.reduceAdd, Nat.reduceSub, Array.replicate_succ, Array.replicate_zero, List.push_toArray, List.append_toArray, List.nil_append, List.cons_append]
  have HC := Lib.hid hcell
  have HS := Lib.hid hset
  have HD := Lib.hid hdrew
  have HY := Lib.hid hY
  have H0 := Lib.hid h0
  clear hcell hset hdrew hY h0
  gi_wp2
  gi_loopw [3] (fun v wr => ∃ (pre : List (List UInt8)) (r : List UInt8) (b : Bool), v = .bool b ∧ Hid (I pre r wr) ∧ r.length ≤ 1000000 ∧ Hid (b = true → pre ++ splitD 46 r = splitD 46 r0) ∧ Hid (b = false → pre = splitD 46 r0))
    (fun v wr => yes v + lenAt wr Bs)
  case atStart => exact ⟨[], r0, true, rfl, H0, hr0, Lib.hid (fun _ => rfl), Lib.hid (fun h => by cases h)⟩
  case round =>
    obtain ⟨pre, r, b, rfl, HI, hrl, HT, HN⟩ := hrel
    cases b with
    | false =>
      have HP := Lib.hid (HN.out rfl)
      clear HN HT
      gi_wp2
      go_end0
      exact ⟨⟨_, rfl⟩, .inl ⟨r, by rw [← HP.out]; exact HI.out⟩⟩
    | true =>
      have HP := Lib.hid (HT.out rfl)
      clear HN HT
      obtain ⟨hc, hf⟩ := HC.out pre r wr HI.out
      have HL := Lib.hid (lenAt_of hc)
      gi_wp2
      refine ⟨trivial, fun h => (by simp [Fence.wide] at h), ?_⟩
      refine (callsIn_wide.2 (cut_any _ ⟨r.toArray⟩ 46 (by show r.toArray.size ≤ 1000000; simpa using hrl))).mono ?_
      rintro e w1 ⟨rfl, q, rfl⟩
      simp only [cutV]
      obtain ⟨⟨x, r', f⟩, hx⟩ : ∃ z, cut1 46 r = z := ⟨_, rfl⟩
      have hcut := split_cut 46 r
      have hlen := cut_rest_len 46 r
      rw [hx] at hcut hlen ⊢
      have HCUT := Lib.hid hcut
      have HI2 := Lib.hid (HS.out pre r r' _ (HD.out pre r wr q HI.out))
      obtain ⟨fn, tmps, assign, body, hy, hR⟩ := HY.out (m - 1) pre x r' _ HI2.out (by
        cases hf : f with
        | true => exact ⟨splitD 46 r', by rw [← HP.out, (HCUT.out.1 hf).1]⟩
        | false => exact ⟨[], by rw [← HP.out, HCUT.out.2 hf]⟩)
      have HR := Lib.hid hR
      clear hcut hR hx
      dsimp only
      gi_wp2
      refine ⟨fun h => (by simp [Fence.wide] at h), ?_⟩
      refine HR.out.mono ?_
      rintro e W3 (⟨rfl, hI3⟩ | ⟨rfl, hx3⟩)
      · obtain ⟨hc3, hf3⟩ := HC.out _ _ _ hI3
        have HL3 := Lib.hid (lenAt_of hc3)
        have HI3 := Lib.hid hI3
        clear hI3 hc3 hf3
        gi_wp2
        go_roundw
        case rel =>
          refine ⟨pre ++ [x], r', f, rfl, HI3, Nat.le_trans hlen hrl, Lib.hid (fun hf => ?_), Lib.hid (fun hf => ?_)⟩
          · rw [← HP.out, (HCUT.out.1 hf).1, List.append_assoc]; rfl
          · rw [← HP.out, HCUT.out.2 hf]
        case measure =>
          rw [HL3.out, HL.out]
          cases hf : f with
          | true =>
            have h4 : r'.length < r.length := (HCUT.out.1 hf).2
            simp only [yes]
            omega
          | false =>
            have h4 : r'.length ≤ r.length := hlen
            simp only [yes]
            omega
      · gi_wp2
        refine bodyPost_ret (results_none rfl _ _ _) rfl ?_
        exact ⟨⟨_, rfl⟩, .inr hx3⟩
end Go.Proofs.YtafchncdolagdaaDoor
