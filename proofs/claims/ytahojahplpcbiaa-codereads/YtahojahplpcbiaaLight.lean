/-
  What light comes to: where it says true, the parts are few.
-/
import Derived.Test.YtahojahplpcbiaaCommon
namespace Go.Proofs.Ytahojahplpcbiaa
open Go.RowKit

def parts (L : List LFn) : Nat := (L.map fun x => x.f.code.length).sum
theorem parts_snoc {L : List LFn} {k : Nat} {x : LFn} (h : L[k]? = some x) : parts (L.take (k + 1)) = parts (L.take k) + x.f.code.length := by
  unfold parts
  rw [take_snoc L k x h, List.map_append, List.sum_append]
  simp
theorem room_parts (L : List LFn) : room L = 2 * L.length + 8 * parts L := by
  induction L with
  | nil => rfl
  | cons a r ih =>
    simp only [room, parts, List.map_cons, List.sum_cons, List.length_cons] at ih ⊢
    omega

set_option maxHeartbeats 4000000 in
theorem light_any (w : World) (Q : Nat → Prop) (A : Option Addr) (c : Nat) (L : List LFn) (hR : FnRow w Q A L) :
    Calls Try.prog 9 #[.slice A L.length c] w fun e w' => ∃ t, e = .returned (.bool t) ∧ (t = true → L.length ≤ 300 ∧ parts L ≤ 600) ∧ w' = w := by
  have HR := Lib.hid hR
  clear hR
  by_cases hl : 300 < L.length
  · have h1 : (300 : Int) < (L.length : Int) := by omega
    go_enter Try.func9, Try.ntmps9
    go_wp2_with fail
    go_ret
    exact ⟨false, rfl, (fun h => by cases h), rfl⟩
  · have h1 : ¬ (300 : Int) < (L.length : Int) := by omega
    go_enter Try.func9, Try.ntmps9
    go_wp2_with fail
    go_loopw [3, 4] (fun n i wx => ∃ k : Nat, k ≤ L.length ∧ i = .int .i64 k ∧ n = .int .i64 (parts (L.take k) : Nat) ∧ parts (L.take k) ≤ 300 * k ∧ wx = w) (fun n i _ => L.length - (intOf i).toNat)
    case atStart => exact ⟨0, by omega, rfl, by simp [parts], by simp [parts], rfl⟩
    case round =>
      obtain ⟨k, hk, rfl, rfl, hp, rfl⟩ := hrel
      by_cases hkl : k < L.length
      · obtain ⟨x, hx⟩ : ∃ x, L[k]? = some x := ⟨_, List.getElem?_eq_getElem hkl⟩
        obtain ⟨b, off, rfl, _, _, d1, _⟩ := HR.out.at_ hx
        have hps := parts_snoc hx
        by_cases hx3 : 300 < x.f.code.length
        · have g1 : (300 : Int) < (x.f.code.length : Int) := by omega
          clear hps
          go_wp2_with fail
          go_ret
          exact ⟨false, rfl, (fun h => by cases h), rfl⟩
        · have g1 : ¬ (300 : Int) < (x.f.code.length : Int) := by omega
          have HP := Lib.hid hps
          clear hps
          go_wp2_with fail
          exact ⟨⟨k + 1, by omega, by go_num, by rw [HP.out]; go_num, by rw [HP.out]; omega, trivial⟩, by simp [intOf]; omega⟩
      · have : k = L.length := by omega
        subst this
        rw [List.take_length] at hp ⊢
        go_wp2_with fail
        go_ret
        refine ⟨_, rfl, fun h => ⟨by omega, ?_⟩, rfl⟩
        simp at h
        omega
end Go.Proofs.Ytahojahplpcbiaa
