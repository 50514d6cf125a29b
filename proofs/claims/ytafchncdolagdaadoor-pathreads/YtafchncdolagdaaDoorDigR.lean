/-
  The document's Digits tells a number's digits.
-/
import Derived.Test.YtafchncdolagdaaDoorPureQ
import Derived.Test.YtafchncdolagdaaDoorTabP
import Derived.IntWalk
import Derived.Laws.Concat
namespace Go.Proofs.YtafchncdolagdaaDoor
open Go.RowKit

/-- The byte of a figure. -/
def figB (u : Nat) : ByteArray := ⟨#[UInt8.ofNat (48 + u)]⟩
theorem sl_run (w : World) (u : Nat) (h : u < 10) : (Instr.slice 9 (.string ⟨#[48, 49, 50, 51, 52, 53, 54, 55, 56, 57]⟩) (some (.int .i64 (u : Int))) (some (.int .i64 ((u : Int) + 1))) none).run Tryd.prog w = .ok (.string (figB u)) w := by
  have : u = 0 ∨ u = 1 ∨ u = 2 ∨ u = 3 ∨ u = 4 ∨ u = 5 ∨ u = 6 ∨ u = 7 ∨ u = 8 ∨ u = 9 := by omega
  rcases this with rfl | rfl | rfl | rfl | rfl | rfl | rfl | rfl | rfl | rfl <;> rfl

theorem app_bytes (a b : List UInt8) : (⟨a.toArray⟩ ++ ⟨b.toArray⟩ : ByteArray) = ⟨(a ++ b).toArray⟩ := by
  apply WideShapes.bytes_inj
  simp [ByteArray.data_append]
theorem itoa_big (u v d : Nat) (h : ¬ u < 10) (hv : u / 10 = v) (hd : u % 10 = d) : Lib.itoa (u : Int) = Lib.itoa (v : Int) ++ [UInt8.ofNat (48 + d)] := by
  rw [itoa_nat, itoa_nat, dd_big h, hv, hd]

set_option maxHeartbeats 4000000 in
theorem rdig_any (u : Nat) : u < 9223372036854775808 → ∀ w : World, Calls Tryd.prog 25 #[.int .i64 (u : Int)] w fun e w' => e = .returned (.string ⟨(Lib.itoa (u : Int)).toArray⟩) ∧ ∃ q, w' = w.drewN q := by
  induction u using Nat.strongRecOn with
  | ind u ih =>
    intro hu w
    have HI := Lib.hid ih
    clear ih
    by_cases h : u < 10
    · have HE : Hid (Lib.itoa (u : Int) = [UInt8.ofNat (48 + u)]) := Lib.hid (by rw [itoa_nat, dd_small h])
      have g1 : ¬ (u : Int) < 0 := by omega
      have g2 : (u : Int) < 10 := by omega
      have hsl := sl_run w u h
      go_enter Tryd.func25, Tryd.ntmps25
      go_wp2_with fail
      go_ret
      exact ⟨by rw [HE.out]; rfl, 0, rfl⟩
    · have g1 : ¬ (u : Int) < 0 := by omega
      have g2 : ¬ (u : Int) < 10 := by omega
      obtain ⟨v, hv⟩ : ∃ v, u / 10 = v := ⟨_, rfl⟩
      obtain ⟨d, hd⟩ : ∃ d, u % 10 = d := ⟨_, rfl⟩
      have HE := Lib.hid (itoa_big u v d h hv hd)
      have hvu : v < u := by omega
      have hd10 : d < 10 := by omega
      have t1 : (u : Int).tdiv 10 = (v : Int) := by rw [← hv]; rfl
      have t2 : (u : Int) / 10 = (v : Int) := by omega
      have t3 : (u : Int).tmod 10 = (d : Int) := by rw [← hd]; rfl
      have t4 : (u : Int) % 10 = (d : Int) := by omega
      have w1 : IntKind.i64.wrap (v : Int) = v := IntWalk.i64_in _ (by omega)
      have w2 : IntKind.i64.wrap (d : Int) = d := IntWalk.i64_in _ (by omega)
      have w3 : IntKind.i64.wrap ((d : Int) + 1) = (d : Int) + 1 := IntWalk.i64_in _ (by omega)
      have hsl := fun n => sl_run (w.drewN n) d hd10
      have hln : (Lib.itoa (v : Int)).length ≤ 20 := itoa_len _ (by omega) (by omega)
      obtain ⟨sv, hsv⟩ : ∃ sv : ByteArray, (⟨(Lib.itoa (v : Int)).toArray⟩ : ByteArray) = sv := ⟨_, rfl⟩
      have hs1 : sv.size ≤ 20 := by rw [← hsv]; show (Lib.itoa (v : Int)).toArray.size ≤ 20; rw [List.size_toArray]; exact hln
      have hs2 : (figB d).size ≤ 1 := Nat.le_refl _
      have hs3 : ¬ (9223372036854775807 < sv.size + (figB d).size) := by omega
      have HC := Lib.hid (HI.out v hvu (by omega))
      rw [hsv] at HC
      have HV := Lib.hid hsv
      clear hsv hln
      clear hv hd
      go_enter Tryd.func25, Tryd.ntmps25
      go_wp2_with fail
      go_quiet ((go_at_call 25; exact Calls.quiet_of (HC.out _)))
      go_wp2_with fail
      go_ret
      refine ⟨?_, _, rfl⟩
      rw [HE.out, ← app_bytes, HV.out]
      rfl
end Go.Proofs.YtafchncdolagdaaDoor
