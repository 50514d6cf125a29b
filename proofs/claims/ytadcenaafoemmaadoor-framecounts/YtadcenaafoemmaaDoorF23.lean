/-
  A new frame as a frame; the chapter's example (awake) holds. No condition.
-/
import Derived.Test.YtadcenaafoemmaaDoorF22
import Derived.Test.YtadcenaafoemmaaDoorF4
namespace Go.Proofs.YtadcenaafoemmaaDoor
open Go.RowKit

theorem reg8_len (args : List Int) : (reg8 args).length = 8 := by
  unfold reg8
  simp only [List.length_append, List.length_take, List.length_replicate]
  omega
theorem new_at (w : World) (fn : Int) (P A : Option Addr) (path args : List Int) (pc ac : Nat) (q0 q1 q2 q3 : Int) (hN : P = none → pc = 0) (hP : IntsA w P path) (hA : IntsA w A args) (h50 : path.length ≤ 1000) :
    Calls Tryd.prog 18 #[.int .i64 fn, .slice P path.length pc, .slice A args.length ac, .agg #[.int .i64 q0, .int .i64 q1, .int .i64 q2, .int .i64 q3]] w fun e w' => ∃ g : Nat, w.heap.size ≤ g ∧ e = .returned (.pointer (some ⟨g, 0, none⟩)) ∧ FrameAt w' g ⟨fn, 0, 0, 0, path, reg8 args, [q0, q1, q2, q3]⟩ ∧ Fr None' w w' :=
  (new_any w fn P A path args pc ac q0 q1 q2 q3 hN hP hA h50).mono (fun e w' h => by
    obtain ⟨g, hg, he, v, hB, ho, _, hF⟩ := h
    obtain ⟨P', pc', rfl, h1, h2, h3⟩ := PInts.of_own ho
    exact ⟨g, hg, he, ⟨⟨P', pc', hB, h3, h1, h2⟩, reg8_len args, rfl, by show (-9223372036854775808 : Int) ≤ 0; decide⟩, hF⟩)

/-- A row of one function in new memory, behind its code. -/
theorem lit_row (w : World) (ar : Int) (l : List Ins) (cs : Array Value) (hcs : cs = (l.flatMap Ins.cells).toArray) (n : Nat) (hn : l.length = n) :
    FnRow ((w.alloc (.cells cs 98)).alloc (.cells #[.int .i64 ar, .slice (some ⟨w.heap.size, 0, none⟩) n n] 101)) (fun b => b < w.heap.size + 2) (some ⟨w.heap.size + 1, 0, none⟩) [⟨⟨ar, l⟩, some ⟨w.heap.size, 0, none⟩, n⟩] := by
  subst hcs hn
  have h1 := Blk.new (w.alloc (.cells (l.flatMap Ins.cells).toArray 98)) 101 #[.int .i64 ar, .slice (some ⟨w.heap.size, 0, none⟩) l.length l.length]
  rw [show (w.alloc (.cells (l.flatMap Ins.cells).toArray 98)).heap.size = w.heap.size + 1 by simp] at h1
  refine ⟨Rd.of_blk (t := 101) (cs := [.int .i64 ar, .slice (some ⟨w.heap.size, 0, none⟩) l.length l.length]) h1 rfl (by show _ < _; omega), fun x hx => ?_⟩
  rw [List.mem_singleton.1 hx]
  have h2 := (Blk.new w 98 (l.flatMap Ins.cells).toArray).alloc (.cells #[.int .i64 ar, .slice (some ⟨w.heap.size, 0, none⟩) l.length l.length] 101)
  exact Rd.of_blk (t := 98) h2 (flat_length Ins.cells 5 Ins.cells_length l) (by show _ < _; omega)

def awkP : List Fn := [⟨0, [⟨1, 1, 0, 0, 7⟩, ⟨15, 1, 0, 0, 0⟩, ⟨17, 1, 0, 0, 0⟩]⟩]
def awkF (at_ st v : Int) : FR := ⟨0, at_, st, 0, [], [0, v, 0, 0, 0, 0, 0, 0], [0, 0, 0, 0]⟩
theorem awk_1 : execP awkP 9 0 (awkF 0 0 0) = (gE, 0, awkF 1 1 7) := by kernel_rfl
theorem awk_2 : execP awkP 9 0 (awkF 1 1 7) = (⟨2, 7, 0, 0, 0, 0, [], []⟩, 0, awkF 2 2 7) := by kernel_rfl
theorem awk_3 : execP awkP 9 0 (awkF 2 2 7) = (⟨7, 0, 1, 0, 0, 0, [], []⟩, 0, awkF 3 3 7) := by kernel_rfl

set_option maxHeartbeats 8000000 in
set_option maxRecDepth 100000 in
theorem awake_any (w : World) (hT : FieldsAt w) : Calls Tryd.prog 16 #[] w fun e w' => e = .returned (.bool true) ∧ Fr None' w w' := by
  have hrow := lit_row w 0 [⟨1, 1, 0, 0, 7⟩, ⟨15, 1, 0, 0, 0⟩, ⟨17, 1, 0, 0, 0⟩] _ rfl 3 rfl
  have hF0 : Fr None' w ((w.alloc (.cells ((([⟨1, 1, 0, 0, 7⟩, ⟨15, 1, 0, 0, 0⟩, ⟨17, 1, 0, 0, 0⟩] : List Ins).flatMap Ins.cells).toArray) 98)).alloc (.cells #[.int .i64 0, .slice (some ⟨w.heap.size, 0, none⟩) 3 3] 101)) := ((Fr.refl _ _).alloc _).alloc _
  generalize hW0 : ((w.alloc (.cells ((([⟨1, 1, 0, 0, 7⟩, ⟨15, 1, 0, 0, 0⟩, ⟨17, 1, 0, 0, 0⟩] : List Ins).flatMap Ins.cells).toArray) 98)).alloc (.cells #[.int .i64 0, .slice (some ⟨w.heap.size, 0, none⟩) 3 3] 101)) = W0 at hrow hF0
  have hs0 : W0.heap.size = w.heap.size + 2 := by rw [← hW0]; simp
  have HEX : Hid (∀ (W : World) (F : Nat) (f : FR), Fr None' W0 W → w.heap.size + 2 ≤ F → f.path.length ≤ 1000 → FrameAt W F f → Calls Tryd.prog 11 #[.slice (some ⟨w.heap.size + 1, 0, none⟩) 1 1, .agg #[.int .i64 9, .int .i64 0], .pointer (some ⟨F, 0, none⟩)] W (ExecPost W F (execP awkP 9 0 f))) := Lib.hid (fun W F f hF hFl hpl hf =>
    exec_any W (some ⟨w.heap.size + 1, 0, none⟩) 1 F [⟨⟨0, [⟨1, 1, 0, 0, 7⟩, ⟨15, 1, 0, 0, 0⟩, ⟨17, 1, 0, 0, 0⟩]⟩, some ⟨w.heap.size, 0, none⟩, 3⟩] 9 0 f ((hrow.fr hF (fun _ _ h => h)).mono (fun b h => by have h : b < w.heap.size + 2 := h; have := hF.size; exact ⟨by omega, by omega⟩)) (hT.fr (hF0.trans hF) (fun h => h)) (by simp) (fun y hy => by rw [List.mem_singleton.1 hy]; simp) hf hpl)
  have HF0 := Lib.hid hF0
  have HS0 := Lib.hid hs0
  have HW0 := Lib.hid hW0
  clear hrow hF0 hT hW0 hs0
  go_enter Tryd.func16, Tryd.ntmps16
  go_upto_region 3 with (fail)
  generalize hW1 : World.alloc _ (.cells #[.int .i64 9, .int .i64 0] 43) = W1
  have hW1' : W0.alloc (.cells #[.int .i64 9, .int .i64 0] 43) = W1 := by rw [← hW1, ← HW0.out]; rfl
  have hL1 : Blk W1 (w.heap.size + 2) 43 #[.int .i64 9, .int .i64 0] := by rw [← hW1', ← HS0.out]; exact Blk.new _ _ _
  have HF1 : Hid (Fr None' W0 W1) := Lib.hid (by rw [← hW1']; exact (Fr.refl _ _).alloc _)
  have HL1 := Lib.hid hL1
  have hls := hL1.lt
  clear hW1 hW1' hL1 HW0
  go_wp2_with fail
  refine (new_at W1 0 none none [] [] 0 0 0 0 0 0 (fun _ => rfl) (fun h => absurd h (by decide)) (fun h => absurd h (by decide)) (by decide)).mono ?_
  rintro e w2 ⟨F, hFl, rfl, hf, hF2⟩
  have HFR : Hid (FrameAt w2 F (awkF 0 0 0)) := Lib.hid hf
  have hL2 := HL1.out.fr hF2 (fun h => h)
  have HF2 := Lib.hid (HF1.out.trans hF2)
  have HL := Lib.hid hL2
  have HF := HF2
  have HFR := HFR
  have hne : F ≠ w.heap.size + 2 := by omega
  have hFb : w.heap.size + 2 ≤ F := by omega
  have hs0 := HS0.out
  clear hf hF2 hL2 HF1 HL1 HF2 HS0
  have l0 : w2.cell? ⟨w.heap.size + 2, 0, none⟩ = some (.int .i64 9) := by rw [HL.out.cell]; rfl
  have l1 : w2.cell? ⟨w.heap.size + 2, 1, none⟩ = some (.int .i64 0) := by rw [HL.out.cell]; rfl
  go_wp2_with fail
  refine (HEX.out w2 F _ HF.out (by omega) (by decide) HFR.out).mono ?_
  rw [awk_1]
  rintro e w3 ⟨ea, ep, rfl, hE, hf, hF3⟩
  obtain ⟨⟨Aa1, ca1, rfl⟩, Ap1, cp1, rfl⟩ := hE.slices
  have HFR3 := Lib.hid hf
  have HL3 := Lib.hid (HL.out.fr hF3 (fun h => hne (Eq.symm h)))
  have HF3 : Hid (Fr None' W0 w3) := Lib.hid (HF.out.then hF3 (fun i hi => .inr (by have hi : i = F := hi; omega)))
  clear l0 l1 hf hE hF3 HFR HL HF 
  unfold efC
  go_upto_region 7 with (fail)
  generalize hW4 : World.alloc _ _ = X1
  have hE1 : Blk X1 w3.heap.size 36 (efC 1 0 0 0 0 0 (.slice Aa1 0 ca1) (.slice Ap1 0 cp1)) := by rw [← hW4]; exact Blk.new _ _ _
  have hF4 : Fr None' w3 X1 := by rw [← hW4]; exact (Fr.refl _ _).alloc _
  have hnf1 : w3.heap.size ≠ F := by have h := HFR3.out.blk; obtain ⟨_, _, hb, _⟩ := h; have := hb.lt; omega
  have HFR : Hid (FrameAt X1 F (awkF 1 1 7)) := Lib.hid (HFR3.out.fr hF4 (fun h => h) (fun _ _ _ h => h))
  have HL := Lib.hid (HL3.out.fr hF4 (fun h => h))
  have HF := Lib.hid (HF3.out.trans hF4)
  have HE1 := Lib.hid hE1
  clear hW4 hE1 hF4 HFR3 HL3 HF3 
  generalize w3.heap.size = B1 at *
  have l0 : X1.cell? ⟨w.heap.size + 2, 0, none⟩ = some (.int .i64 9) := by rw [HL.out.cell]; rfl
  have l1 : X1.cell? ⟨w.heap.size + 2, 1, none⟩ = some (.int .i64 0) := by rw [HL.out.cell]; rfl
  go_wp2_with fail
  refine (HEX.out X1 F _ HF.out (by omega) (by decide) HFR.out).mono ?_
  rw [awk_2]
  rintro e w4 ⟨ea, ep, rfl, hE, hf, hF3⟩
  obtain ⟨⟨Aa2, ca2, rfl⟩, Ap2, cp2, rfl⟩ := hE.slices
  have HFR3 := Lib.hid hf
  have HL3 := Lib.hid (HL.out.fr hF3 (fun h => hne (Eq.symm h)))
  have HF3 : Hid (Fr None' W0 w4) := Lib.hid (HF.out.then hF3 (fun i hi => .inr (by have hi : i = F := hi; omega)))
  have HE13 := Lib.hid (HE1.out.fr hF3 (fun h => hnf1 h))
  clear l0 l1 hf hE hF3 HFR HL HF HE1
  unfold efC
  go_upto_region 8 with (fail)
  generalize hW4 : World.alloc _ _ = X2
  have hE2 : Blk X2 w4.heap.size 36 (efC 2 7 0 0 0 0 (.slice Aa2 0 ca2) (.slice Ap2 0 cp2)) := by rw [← hW4]; exact Blk.new _ _ _
  have hF4 : Fr None' w4 X2 := by rw [← hW4]; exact (Fr.refl _ _).alloc _
  have hnf2 : w4.heap.size ≠ F := by have h := HFR3.out.blk; obtain ⟨_, _, hb, _⟩ := h; have := hb.lt; omega
  have HFR : Hid (FrameAt X2 F (awkF 2 2 7)) := Lib.hid (HFR3.out.fr hF4 (fun h => h) (fun _ _ _ h => h))
  have HL := Lib.hid (HL3.out.fr hF4 (fun h => h))
  have HF := Lib.hid (HF3.out.trans hF4)
  have HE1 := Lib.hid (HE13.out.fr hF4 (fun h => h))
  have HE2 := Lib.hid hE2
  clear hW4 hE2 hF4 HFR3 HL3 HF3 HE13
  generalize w4.heap.size = B2 at *
  have l0 : X2.cell? ⟨w.heap.size + 2, 0, none⟩ = some (.int .i64 9) := by rw [HL.out.cell]; rfl
  have l1 : X2.cell? ⟨w.heap.size + 2, 1, none⟩ = some (.int .i64 0) := by rw [HL.out.cell]; rfl
  go_wp2_with fail
  refine (HEX.out X2 F _ HF.out (by omega) (by decide) HFR.out).mono ?_
  rw [awk_3]
  rintro e w5 ⟨ea, ep, rfl, hE, hf, hF3⟩
  obtain ⟨⟨Aa3, ca3, rfl⟩, Ap3, cp3, rfl⟩ := hE.slices
  have HFR3 := Lib.hid hf
  have HL3 := Lib.hid (HL.out.fr hF3 (fun h => hne (Eq.symm h)))
  have HF3 : Hid (Fr None' W0 w5) := Lib.hid (HF.out.then hF3 (fun i hi => .inr (by have hi : i = F := hi; omega)))
  have HE13 := Lib.hid (HE1.out.fr hF3 (fun h => hnf1 h))
  have HE23 := Lib.hid (HE2.out.fr hF3 (fun h => hnf2 h))
  clear l0 l1 hf hE hF3 HFR HL HF HE1 HE2
  unfold efC
  go_upto_region 9 with (fail)
  generalize hW4 : World.alloc _ _ = X3
  have hE3 : Blk X3 w5.heap.size 36 (efC 7 0 1 0 0 0 (.slice Aa3 0 ca3) (.slice Ap3 0 cp3)) := by rw [← hW4]; exact Blk.new _ _ _
  have hF4 : Fr None' w5 X3 := by rw [← hW4]; exact (Fr.refl _ _).alloc _
  have hnf3 : w5.heap.size ≠ F := by have h := HFR3.out.blk; obtain ⟨_, _, hb, _⟩ := h; have := hb.lt; omega
  have HFR : Hid (FrameAt X3 F (awkF 3 3 7)) := Lib.hid (HFR3.out.fr hF4 (fun h => h) (fun _ _ _ h => h))
  have HL := Lib.hid (HL3.out.fr hF4 (fun h => h))
  have HF := Lib.hid (HF3.out.trans hF4)
  have HE1 := Lib.hid (HE13.out.fr hF4 (fun h => h))
  have HE2 := Lib.hid (HE23.out.fr hF4 (fun h => h))
  have HE3 := Lib.hid hE3
  clear hW4 hE3 hF4 HFR3 HL3 HF3 HE13 HE23
  generalize w5.heap.size = B3 at *
  obtain ⟨P, pc, hB, _, _, _⟩ := HFR.out.blk
  have f2 : X3.cell? ⟨F, 2, none⟩ = some (.int .i64 3) := by rw [hB.cell]; rfl
  have h1 := HE1.out
  have h2 := HE2.out
  have h3 := HE3.out
  have a1 : X3.cell? ⟨B1, 0, none⟩ = some (.int .i64 1) := by rw [h1.cell]; rfl
  have a2 : X3.cell? ⟨B2, 0, none⟩ = some (.int .i64 2) := by rw [h2.cell]; rfl
  have a3 : X3.cell? ⟨B2, 1, none⟩ = some (.int .i64 7) := by rw [h2.cell]; rfl
  have a4 : X3.cell? ⟨B3, 0, none⟩ = some (.int .i64 7) := by rw [h3.cell]; rfl
  have a5 : X3.cell? ⟨B3, 2, none⟩ = some (.int .i64 1) := by rw [h3.cell]; rfl
  clear hB h1 h2 h3 HE1 HE2 HE3 HFR HL HEX
  go_wp2_with fail
  go_ret
  exact ⟨rfl, HF0.out.trans HF.out⟩
end Go.Proofs.YtadcenaafoemmaaDoor
