/-
  A new frame. No condition.
-/
import Derived.Test.YtadcenaafoemmaaDoorF56
import Derived.Test.YtadcenaafoemmaaDoorOwnR
namespace Go.Proofs.YtadcenaafoemmaaDoor
open Go.RowKit

set_option maxHeartbeats 8000000 in
set_option maxRecDepth 100000 in
theorem new_any (w : World) (fn : Int) (P A : Option Addr) (path args : List Int) (pc ac : Nat) (q0 q1 q2 q3 : Int) (hN : P = none → pc = 0) (hP : IntsA w P path) (hA : IntsA w A args) (h50 : path.length ≤ 1000) :
    Calls Tryd.prog 18 #[.int .i64 fn, .slice P path.length pc, .slice A args.length ac, .agg #[.int .i64 q0, .int .i64 q1, .int .i64 q2, .int .i64 q3]] w fun e w' => ∃ g : Nat, w.heap.size ≤ g ∧ e = .returned (.pointer (some ⟨g, 0, none⟩)) ∧ ∃ v : Value, Blk w' g 95 (frL fn 0 0 0 v (reg8 args) [q0, q1, q2, q3]).toArray ∧ w'.ownsRow w.heap.size 3 1 v path.length (ints path) ∧ v.ownBlock ≠ some g ∧ Fr None' w w' := by
  have HCL : Hid (∀ w1, Fr None' w w1 → Calls Tryd.prog 31 #[.slice P path.length pc] w1 fun e w' => ∃ v, e = .returned v ∧ w'.ownsRow w1.heap.size 3 1 v path.length (ints path) ∧ Fr None' w1 w') := Lib.hid (fun w1 hF => clone_any w1 P path pc hN (fun h => by
    obtain ⟨b, off, e, hc⟩ := hP h
    exact ⟨b, off, e, fun j x hx => hF.held (hc j x hx) (fun h => h)⟩) h50)
  have HA := Lib.hid hA
  clear hP hN hA
  go_enter Tryd.func18, Tryd.ntmps18
  go_upto_region 1 with (fail)
  generalize hW0 : w.alloc (.cells _ 25) = W0
  have hH : Blk W0 w.heap.size 25 #[.int .i64 q0, .int .i64 q1, .int .i64 q2, .int .i64 q3] := by rw [← hW0]; exact Blk.new _ _ _
  have hF : Fr None' w W0 := by rw [← hW0]; exact (Fr.refl _ _).alloc _
  have hB0 : w.heap.size ≤ W0.drew.heap.size := hF.drew.size
  have HSF : Hid (∀ w' : World, Blk w' w.heap.size 25 #[.int .i64 q0, .int .i64 q1, .int .i64 q2, .int .i64 q3] → (fun w' : World => w'.cell? ⟨w.heap.size, 0, none⟩ = some (.int .i64 q0) ∧ w'.cell? ⟨w.heap.size, 1, none⟩ = some (.int .i64 q1) ∧ w'.cell? ⟨w.heap.size, 2, none⟩ = some (.int .i64 q2) ∧ w'.cell? ⟨w.heap.size, 3, none⟩ = some (.int .i64 q3)) w') := Lib.hid (fun w' hI => ⟨by rw [hI.cell]; rfl, by rw [hI.cell]; rfl, by rw [hI.cell]; rfl, by rw [hI.cell]; rfl⟩)
  have HH := Lib.hid hH.drew
  have HF := Lib.hid hF.drew
  have HS : (fun w' : World => w'.cell? ⟨w.heap.size, 0, none⟩ = some (.int .i64 q0) ∧ w'.cell? ⟨w.heap.size, 1, none⟩ = some (.int .i64 q1) ∧ w'.cell? ⟨w.heap.size, 2, none⟩ = some (.int .i64 q2) ∧ w'.cell? ⟨w.heap.size, 3, none⟩ = some (.int .i64 q3)) W0.drew := HSF.out _ HH.out
  clear hH hF hW0
  refine region_K 7 (fun w' : World => w'.cell? ⟨w.heap.size, 0, none⟩ = some (.int .i64 q0) ∧ w'.cell? ⟨w.heap.size, 1, none⟩ = some (.int .i64 q1) ∧ w'.cell? ⟨w.heap.size, 2, none⟩ = some (.int .i64 q2) ∧ w'.cell? ⟨w.heap.size, 3, none⟩ = some (.int .i64 q3)) (by kernel_rfl) ?_
  generalize W0.drew = V at *
  refine AnyK.take (i := 0) rfl (by decide) (by kernel_rfl) (by kernel_rfl) (by kernel_rfl) (fun _ _ _ _ h => h) HS (fun K hK => ?_)
  go_simp
  refine hK.out _ ⟨_, by rfl, Or.inl ⟨by rfl, by intro w' hSw; (try dsimp only at hSw); go_simp⟩, ?_⟩
  clear hK K
  refine AnyK.take (i := 1) rfl (by decide) (by kernel_rfl) (by kernel_rfl) (by kernel_rfl) (fun _ _ _ _ h => h) HS (fun K hK => ?_)
  go_simp
  refine hK.out _ ⟨_, by rfl, Or.inl ⟨by rfl, by intro w' hSw; (try dsimp only at hSw); go_simp⟩, ?_⟩
  clear hK K
  refine AnyK.take (i := 3) rfl (by decide) (by kernel_rfl) (by kernel_rfl) (by kernel_rfl) (fun _ _ _ _ h => h) HS (fun K hK => ?_)
  go_simp
  refine hK.out _ ⟨_, by rfl, Or.inl ⟨by rfl, by intro w' hSw; (try dsimp only at hSw); go_simp⟩, ?_⟩
  clear hK K
  refine AnyK.one (i := 2) rfl (by kernel_rfl) (fun K hK => ?_)
  go_simp
  refine (HCL.out V HF.out).mono ?_
  rintro e w1 ⟨v, rfl, hown, hF1⟩
  obtain ⟨vX, vn, vc, rfl⟩ : ∃ X n c, v = .slice X n c := by
    rcases hown.2 with ⟨h, _⟩ | ⟨g, cap, cur, h, _⟩
    · exact ⟨_, _, _, h⟩
    · exact ⟨_, _, _, h⟩
  have HS := HSF.out w1 (HH.out.fr hF1 (fun h => h))
  have HO := Lib.hid hown
  have HF1 := Lib.hid (HF.out.trans hF1)
  have HV1 := Lib.hid hF1
  clear HH HF hown HCL hF1
  refine hK.out _ _ (fun _ => HS) ?_
  clear hK K
  refine AnyK.take (i := 4) rfl (by decide) (by kernel_rfl) (by kernel_rfl) (by kernel_rfl) (fun _ _ _ _ h => h) HS (fun K hK => ?_)
  go_simp
  refine hK.out _ ⟨_, by rfl, Or.inl ⟨by rfl, by intro w' hSw; (try dsimp only at hSw); go_simp⟩, ?_⟩
  clear hK K
  refine AnyK.one (i := 5) rfl (by kernel_rfl) (fun K hK => ?_)
  go_simp
  generalize hW2 : w1.alloc (.cells _ 95) = W2
  have hG : Blk W2 w1.heap.size 95 (frL fn 0 0 0 (.slice vX vn vc) [0, 0, 0, 0, 0, 0, 0, 0] [q0, q1, q2, q3]).toArray := by rw [← hW2]; exact Blk.new _ _ _
  have hF2 : Fr None' w1 W2 := by rw [← hW2]; exact (Fr.refl _ _).alloc _
  have hgt : ∀ b, Value.ownBlock (.slice vX vn vc) = some b → w.heap.size ≤ b ∧ b < w1.heap.size := fun b hb => by
    have h := HO.out.lt b hb
    exact ⟨by omega, h.2⟩
  have hle : w.heap.size ≤ w1.heap.size := HF1.out.size
  have HO2 := Lib.hid (own_fr HO.out hF2 (fun _ _ h => h))
  have HF2 := Lib.hid (HF1.out.trans hF2)
  have HGT := Lib.hid hgt
  have hA2 : IntsA W2 A args := fun h => by
    obtain ⟨b, off, e, hc⟩ := HA.out h
    exact ⟨b, off, e, fun j x hx => HF2.out.held (hc j x hx) (fun h => h)⟩
  obtain ⟨W3, hcp, hB3, hF3⟩ := frcopy W2 w1.heap.size fn (.slice vX vn vc) q0 q1 q2 q3 hG A args ac hA2 3
  have HB3 := Lib.hid hB3
  have HF3 := Lib.hid hF3
  have HHH := Lib.hid (HF2.out)
  have HS : (fun w' : World => w'.cell? ⟨w.heap.size, 0, none⟩ = some (.int .i64 q0) ∧ w'.cell? ⟨w.heap.size, 1, none⟩ = some (.int .i64 q1) ∧ w'.cell? ⟨w.heap.size, 2, none⟩ = some (.int .i64 q2) ∧ w'.cell? ⟨w.heap.size, 3, none⟩ = some (.int .i64 q3)) W2 := by
    rw [← hW2]
    exact ⟨((Fr.refl None' w1).alloc _).held HS.1 (fun h => h), ((Fr.refl None' w1).alloc _).held HS.2.1 (fun h => h), ((Fr.refl None' w1).alloc _).held HS.2.2.1 (fun h => h), ((Fr.refl None' w1).alloc _).held HS.2.2.2 (fun h => h)⟩
  have hg0 : W2.heap[w1.heap.size]? = some (.cells (frL fn 0 0 0 (.slice vX vn vc) [0, 0, 0, 0, 0, 0, 0, 0] [q0, q1, q2, q3]).toArray 95 (0, 0)) := hG
  clear hW2 hF2 hA2 hB3 hF3 HA hgt hG hg0
  generalize w1.heap.size = g at *
  refine hK.out _ _ (fun _ => HS) ?_
  clear hK K
  refine AnyK.one (i := 6) rfl (by kernel_rfl) (fun K hK => ?_)
  go_simp
  refine hK.out _ _ (fun _ => HS) ?_
  clear hK K HS
  refine AnyK.done (by kernel_rfl) ?_ _
  go_wp2_with fail
  go_ret
  refine ⟨g, hle, rfl, _, HB3.out, ?_, fun h => absurd (HGT.out g h).2 (Nat.lt_irrefl _), ?_⟩
  · have h := own_fr HO2.out HF3.out (fun b hb h' => by
      have e : b = g := h'
      exact absurd (HGT.out b hb).2 (by omega))
    exact ⟨h.1, h.2.imp id (fun ⟨g, cap, cur, h1, h2, h3⟩ => ⟨g, cap, cur, h1, by omega, h3⟩)⟩
  · exact HHH.out.then HF3.out (fun i h => .inr (by have e : i = g := h; omega))
end Go.Proofs.YtadcenaafoemmaaDoor
