/-
  What told comes to where the two programs are one.
-/
import Derived.Test.YtahojahplpcbiaaOf
import Derived.RegionTactic
import Derived.BigRegion
import Derived.Deep.QuietTactic
import Derived.BigQuiet
import Derived.StillTailTactics
namespace Go.Proofs.Ytahojahplpcbiaa
open Go.RowKit

theorem Made.row {w : World} {base : Nat} {v : Value} {L : List LFn} (h : Made w base v L) : ∃ A c, v = .slice A L.length c ∧ FnRow w (fun b => b < w.heap.size) A L := by
  obtain ⟨A, c, rfl⟩ := own_slice h.1
  exact ⟨A, c, rfl, (Rd.of_own h.1).mono (fun _ h => h.2), fun x hx => (Rd.of_own (h.2 x hx)).mono (fun _ h => h.2)⟩

theorem parts_fns {L L2 : List LFn} (h : fns L = fns L2) : parts L = parts L2 := by
  have e : ∀ l : List LFn, parts l = ((fns l).map fun f => f.code.length).sum := fun l => by simp only [parts, fns, List.map_map]; rfl
  rw [e, e, h]

set_option maxHeartbeats 8000000 in
set_option maxRecDepth 100000 in
theorem told_same (w : World) (A : Option Addr) (c : Nat) (L : List LFn) (hR : FnRow w (fun b => b < w.heap.size) A L) (A2 : Option Addr) (c2 : Nat) (L2 : List LFn) (hR2 : FnRow w (fun b => b < w.heap.size) A2 L2)
    (hl : L2.length ≤ 300) (hp : parts L2 ≤ 600) (he : fns L = fns L2) :
    Calls Try.prog 16 #[.slice A L.length c, .slice A2 L2.length c2] w fun e w' => e = .returned (.bool true) ∧ Fr (fun _ => False) w w' := by
  have hl0 : L.length ≤ 300 := by
    have := congrArg List.length he
    simp only [fns, List.length_map] at this
    omega
  have hp0 : parts L ≤ 600 := by rw [parts_fns he]; exact hp
  have HR := Lib.hid hR
  have HR2 := Lib.hid hR2
  have HE := Lib.hid he
  clear hR hR2 he
  go_enter Try.func16, Try.ntmps16
  go_wp2_with fail
  refine (of_any w A2 c2 L2 HR2.out hl hp).mono ?_
  rintro e w1 ⟨v, L', rfl, hfn, hM, hF⟩
  obtain ⟨A', c', rfl, hR'⟩ := hM.row
  have hll : L'.length = L.length := by
    have := congrArg List.length (hfn.trans HE.out.symm)
    simpa [fns] using this
  have HRw := Lib.hid (HR.out.fr hF (fun _ _ h => h))
  have HR' := Lib.hid hR'
  have HFN := Lib.hid (hfn.trans HE.out.symm)
  clear hR' hfn hM HR HR2
  rw [hll]
  go_wp2_with fail
  go_loopw [6] (fun i wx => ∃ k : Nat, k ≤ L.length ∧ i = .int .i64 k ∧ Fr (fun _ => False) w1 wx) (fun i _ => L.length - (intOf i).toNat)
  case atStart => exact ⟨0, by omega, rfl, Fr.refl _ _⟩
  case round =>
    obtain ⟨k, hk, rfl, hFk⟩ := hrel
    by_cases hkl : k < L.length
    · obtain ⟨x, hx⟩ : ∃ x, L[k]? = some x := ⟨_, List.getElem?_eq_getElem hkl⟩
      obtain ⟨x', hx'⟩ : ∃ x', L'[k]? = some x' := ⟨_, List.getElem?_eq_getElem (by omega)⟩
      have hxl : x.f.code.length ≤ 600 := Nat.le_trans (len_parts (List.mem_of_getElem? hx)) hp0
      have hxx : x'.f = x.f := by
        have := congrArg (fun l => l[k]?) HFN.out
        simpa [fns, List.getElem?_map, hx, hx'] using this
      have HRk := Lib.hid (HRw.out.fr hFk (fun _ _ h => h))
      have HRk' := Lib.hid (HR'.out.fr hFk (fun _ _ h => h))
      obtain ⟨b, off, rfl, _, d0, d1, di⟩ := HRk.out.at_ hx
      obtain ⟨b', off', rfl, _, d0', d1', di'⟩ := HRk'.out.at_ hx'
      rw [hxx] at d0' d1' di'
      have DI := Lib.hid di
      have DI' := Lib.hid di'
      have HFk := Lib.hid hFk
      clear hx hx' hxx di di' hFk
      obtain ⟨wo, hwo⟩ : ∃ wo, wo = wr := ⟨_, rfl⟩
      subst hwo
      go_wp2_with fail
      go_quiet (fail)
      go_wp2_with fail
      go_loopw [7] (fun i wx => ∃ j : Nat, j ≤ x.f.code.length ∧ i = .int .i64 j ∧ Fr (fun _ => False) wo wx) (fun i _ => x.f.code.length - (intOf i).toNat)
      case atStart => exact ⟨0, by omega, rfl, (Fr.refl _ _).drewN _⟩
      case round =>
        obtain ⟨j, hj, rfl, hFj⟩ := hrel
        have g1 := hFj.held d1 (fun h => h)
        have g1' := hFj.held d1' (fun h => h)
        by_cases hjl : j < x.f.code.length
        · obtain ⟨y, hy⟩ : ∃ y, x.f.code[j]? = some y := ⟨_, List.getElem?_eq_getElem hjl⟩
          obtain ⟨p, po, hA, _, y0, y1, y2, y3, y4⟩ := InsRow.at_ (Rd.fr DI.out hFj (fun _ _ h => h)) hy
          obtain ⟨p', po', hA', _, z0, z1, z2, z3, z4⟩ := InsRow.at_ (Rd.fr DI'.out hFj (fun _ _ h => h)) hy
          rw [hA] at g1
          rw [hA'] at g1'
          have HFj := Lib.hid hFj
          clear hFj hy d0 d1 d0' d1'
          go_wp2_with fail
          go_quiet (fail)
          go_wp2_with fail
          exact ⟨⟨j + 1, by omega, by go_num, HFj.out.drewN _⟩, by simp [intOf]; omega⟩
        · obtain rfl : j = x.f.code.length := by omega
          have HFj := Lib.hid hFj
          clear hFj d0 d1 d0' d1'
          go_wp2_with fail
          exact ⟨⟨k + 1, by omega, by go_num, HFk.out.trans HFj.out⟩, by simp [intOf]; omega⟩
    · obtain rfl : k = L.length := by omega
      have HFk := Lib.hid hFk
      clear hFk
      go_wp2_with fail
      go_ret
      exact ⟨rfl, hF.trans HFk.out⟩
end Go.Proofs.Ytahojahplpcbiaa
