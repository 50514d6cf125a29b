/-
  Package pool: Home. No condition.
-/
import Derived.Test.YtichhieopnbgpaaP18
namespace Go.Proofs.Ytichhieopnbgpaa
open Go.RowKit

set_option maxHeartbeats 4000000 in
theorem hcont_any (w : World) (x P mp ms b t : Nat) (S : Shp) (base : Nat) (st : Int) (vs : List Value) (ls : List (List Nat)) (tk : List Bool) (ws : List (Bool × Int)) (h : PR w x P mp ms b t S base st vs ls tk ws) (c : Nat) (hc : w.cell? ⟨c, 0, none⟩ = some (.pointer (some ⟨P, 0, none⟩))) :
    Calls Try.prog 50 #[.slice (some ⟨b, 0, none⟩) S.k S.k, .func (.func 49) #[] #[.pointer (some ⟨c, 0, none⟩)]] w fun e w' => e = .returned (.bool (missL S ls)) ∧ Fr F0 w w' := by
  have HI := Lib.hid (hidx_any w x P mp ms b t S base st vs ls tk ws h c hc)
  obtain ⟨m, hm⟩ : ∃ m, m = missL S ls := ⟨_, rfl⟩
  rw [← hm] at HI ⊢
  clear h hc hm
  go_enter Try.func50, Try.ntmps50
  go_wp2_with fail
  refine HI.out.mono ?_
  rintro e w1 ⟨r, rfl, hd, hF1⟩
  have HF1 := Lib.hid hF1
  have HD := Lib.hid hd
  clear hF1 hd
  go_wp2_with fail
  go_ret
  exact ⟨by rw [← HD.out]; rfl, HF1.out⟩

set_option maxHeartbeats 4000000 in
theorem home_any (w : World) (x P mp ms b t : Nat) (S : Shp) (base : Nat) (st : Int) (vs : List Value) (ls : List (List Nat)) (tk : List Bool) (ws : List (Bool × Int)) (h : PR w x P mp ms b t S base st vs ls tk ws) :
    Calls Try.prog 31 #[.pointer (some ⟨P, 0, none⟩)] w fun e w' => e = .returned (.bool (!missL S ls)) ∧ Fr F0 w w' := by
  have hfa : Fr F0 w (w.alloc (.cells #[.pointer (some ⟨P, 0, none⟩)] 33)) := (Fr.refl _ _).alloc _
  have HC := Lib.hid (hcont_any _ x P mp ms b t S base st vs ls tk ws (h.f0 hfa) w.heap.size (by rw [(Blk.new w 33 #[.pointer (some ⟨P, 0, none⟩)]).cell]; rfl))
  have k13 : (w.alloc (.cells #[.pointer (some ⟨P, 0, none⟩)] 33)).cell? ⟨P, 13, none⟩ = some (.slice (some ⟨b, 0, none⟩) S.k S.k) := by rw [(h.f0 hfa).hP.cell]; rfl
  have k13' : w.cell? ⟨P, 13, none⟩ = some (.slice (some ⟨b, 0, none⟩) S.k S.k) := by rw [h.hP.cell]; rfl
  have HFA := Lib.hid hfa
  have hPl := h.hP.lt
  generalize missL S ls = m at HC ⊢
  clear h hfa
  go_enter Try.func31, Try.ntmps31
  go_wp2_with fail
  refine HC.out.mono ?_
  rintro e w1 ⟨rfl, hF1⟩
  have HF1 := Lib.hid (HFA.out.trans hF1)
  clear hF1
  go_wp2_with fail
  go_ret
  exact ⟨rfl, HF1.out⟩

set_option maxHeartbeats 4000000 in
theorem home_nil (w : World) : Calls Try.prog 31 #[.pointer none] w fun e w' => e = .returned (.bool false) ∧ Fr F0 w w' := by
  go_enter Try.func31, Try.ntmps31
  go_wp2_with fail
  go_ret
  exact ⟨rfl, (Fr.refl _ _).alloc _⟩
end Go.Proofs.Ytichhieopnbgpaa
