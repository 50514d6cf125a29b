/-
  Spawn and future, given what begin comes to. No condition.
-/
import Derived.Test.YtadcenaafoemmaaDoorF17
namespace Go.Proofs.YtadcenaafoemmaaDoor
open Go.RowKit

set_option maxHeartbeats 8000000 in
set_option maxRecDepth 100000 in
theorem fspawn_any (w : World) (t F base : Nat) (htl : t < w.heap.size) (hFl : F < w.heap.size) (fn at0 st : Int) (pv : Value) (regs0 hands : List Int) (pg : Value) (bud dep : Int) (x : XO) (op a b c k : Int)
    (HBG : Hid (∀ W, Fr None' w W → Calls Tryd.prog 78 #[.pointer (some ⟨t, 0, none⟩), .agg #[.int .i64 op, .int .i64 a, .int .i64 b, .int .i64 c, .int .i64 k], .agg #[.int .i64 3, .int .i64 0, .int .i64 a, .int .i64 0, .int .i64 0, .int .i64 0, nilS, nilS]] W (DoPost W base t F fn at0 st pv regs0 hands pg bud dep x))) :
    Calls Tryd.prog 63 #[.pointer (some ⟨t, 0, none⟩), .agg #[.int .i64 op, .int .i64 a, .int .i64 b, .int .i64 c, .int .i64 k]] w (DoPost w base t F fn at0 st pv regs0 hands pg bud dep x) := by
  go_enter Tryd.func63, Tryd.ntmps63
  go_upto_region 1 with (fail)
  generalize hW : ((w.alloc (.cells _ 98)).alloc (.cells _ 36)) = W
  have hI : Blk W w.heap.size 98 #[.int .i64 op, .int .i64 a, .int .i64 b, .int .i64 c, .int .i64 k] := by rw [← hW]; exact (Blk.new _ _ _).alloc _
  have hB : Blk W (w.heap.size + 1) 36 efZ := by
    have h := Blk.new (w.alloc (.cells #[.int .i64 op, .int .i64 a, .int .i64 b, .int .i64 c, .int .i64 k] 98)) 36 efZ
    rw [show (w.alloc (.cells #[.int .i64 op, .int .i64 a, .int .i64 b, .int .i64 c, .int .i64 k] 98)).heap.size = w.heap.size + 1 by simp] at h
    rw [← hW]; exact h
  have hF : Fr None' w W := by rw [← hW]; exact ((Fr.refl _ _).alloc _).alloc _
  have HB := Lib.hid hB
  have HI := Lib.hid hI
  have HF := Lib.hid hF
  clear hI hB hF hW
  have i0 : W.cell? ⟨w.heap.size, 0, none⟩ = some (.int .i64 op) := by rw [HI.out.cell]; rfl
  have i1 : W.cell? ⟨w.heap.size, 1, none⟩ = some (.int .i64 a) := by rw [HI.out.cell]; rfl
  have i2 : W.cell? ⟨w.heap.size, 2, none⟩ = some (.int .i64 b) := by rw [HI.out.cell]; rfl
  have i3 : W.cell? ⟨w.heap.size, 3, none⟩ = some (.int .i64 c) := by rw [HI.out.cell]; rfl
  have i4 : W.cell? ⟨w.heap.size, 4, none⟩ = some (.int .i64 k) := by rw [HI.out.cell]; rfl
  go_wp2_with fail
  refine (HBG.out W HF.out).mono ?_
  rintro e w1 ⟨ea, ep, rfl, hEF, hT, hB, hF1⟩
  obtain ⟨⟨Aa, ca, rfl⟩, Ap, cp, rfl⟩ := hEF.slices
  have hE := HB.out.fr hF1 (by omega)
  have HE := Lib.hid hE
  have HEF := Lib.hid hEF
  have HT := Lib.hid hT
  have HFB := Lib.hid hB
  have HF1 : Hid (Fr (fun k => k = t ∨ k = F) w w1) := Lib.hid ((HF.out.mono (fun _ h => h.elim)).trans hF1)
  have e0 : w1.cell? ⟨(w.heap.size + 1), 0, none⟩ = some (.int .i64 0) := by rw [hE.cell]; rfl
  have y0 : w1.frozen? ⟨(w.heap.size + 1), 0, none⟩ = false := hE.frozen _
  have e1 : w1.cell? ⟨(w.heap.size + 1), 1, none⟩ = some (.int .i64 0) := by rw [hE.cell]; rfl
  have y1 : w1.frozen? ⟨(w.heap.size + 1), 1, none⟩ = false := hE.frozen _
  have e2 : w1.cell? ⟨(w.heap.size + 1), 2, none⟩ = some (.int .i64 0) := by rw [hE.cell]; rfl
  have y2 : w1.frozen? ⟨(w.heap.size + 1), 2, none⟩ = false := hE.frozen _
  have e3 : w1.cell? ⟨(w.heap.size + 1), 3, none⟩ = some (.int .i64 0) := by rw [hE.cell]; rfl
  have y3 : w1.frozen? ⟨(w.heap.size + 1), 3, none⟩ = false := hE.frozen _
  have e4 : w1.cell? ⟨(w.heap.size + 1), 4, none⟩ = some (.int .i64 0) := by rw [hE.cell]; rfl
  have y4 : w1.frozen? ⟨(w.heap.size + 1), 4, none⟩ = false := hE.frozen _
  have e5 : w1.cell? ⟨(w.heap.size + 1), 5, none⟩ = some (.int .i64 0) := by rw [hE.cell]; rfl
  have y5 : w1.frozen? ⟨(w.heap.size + 1), 5, none⟩ = false := hE.frozen _
  have e6 : w1.cell? ⟨(w.heap.size + 1), 6, none⟩ = some (nilS) := by rw [hE.cell]; rfl
  have y6 : w1.frozen? ⟨(w.heap.size + 1), 6, none⟩ = false := hE.frozen _
  have e7 : w1.cell? ⟨(w.heap.size + 1), 7, none⟩ = some (nilS) := by rw [hE.cell]; rfl
  have y7 : w1.frozen? ⟨(w.heap.size + 1), 7, none⟩ = false := hE.frozen _
  clear hE hEF hT hB hF1 HB HI HF HBG i0 i1 i2 i3 i4
  unfold efC
  go_wp2_with fail
  refine bodyPost_ret (results_cell_row rfl _ _ (w.heap.size + 1) 36 (efC x.ef.kind x.ef.value x.ef.reg x.ef.fn x.ef.hand x.ef.why _ _) (0, 0) _ rfl (ef_stored (HE.out) _ _ _ _ _ _ _ _) Tryd.underlying36 rfl (by kernel_rfl)) rfl ?_
  refine ⟨_, _, rfl, EfAt.fr HEF.out (ef_frame (Fr.refl (At (w.heap.size + 1)) _) (.inl rfl) _ _ _ _ _ _ _ _) (fun k t' cs hk ht' hg' => ?_), HT.out.fr (ef_frame (Fr.refl (At (w.heap.size + 1)) _) (.inl rfl) _ _ _ _ _ _ _ _) (by show ¬ t = _; omega), HFB.out.fr (ef_frame (Fr.refl (At (w.heap.size + 1)) _) (.inl rfl) _ _ _ _ _ _ _ _) (by show ¬ F = _; omega), ef_frame HF1.out (.inr (by omega)) _ _ _ _ _ _ _ _⟩
  have hg' : k = w.heap.size + 1 := hg'
  subst hg'
  rcases ht' with rfl | rfl
  · exact Blk.ne_ hk HE.out (by decide) rfl
  · exact Blk.ne_ hk HE.out (by decide) rfl

set_option maxHeartbeats 8000000 in
set_option maxRecDepth 100000 in
theorem ffuture_any (w : World) (t F base : Nat) (htl : t < w.heap.size) (hFl : F < w.heap.size) (fn at0 st : Int) (pv : Value) (regs0 hands : List Int) (pg : Value) (bud dep : Int) (x : XO) (op a b c k : Int)
    (HBG : Hid (∀ W, Fr None' w W → Calls Tryd.prog 78 #[.pointer (some ⟨t, 0, none⟩), .agg #[.int .i64 op, .int .i64 a, .int .i64 b, .int .i64 c, .int .i64 k], .agg #[.int .i64 4, .int .i64 0, .int .i64 0, .int .i64 0, .int .i64 a, .int .i64 0, nilS, nilS]] W (DoPost W base t F fn at0 st pv regs0 hands pg bud dep x))) :
    Calls Tryd.prog 65 #[.pointer (some ⟨t, 0, none⟩), .agg #[.int .i64 op, .int .i64 a, .int .i64 b, .int .i64 c, .int .i64 k]] w (DoPost w base t F fn at0 st pv regs0 hands pg bud dep x) := by
  go_enter Tryd.func65, Tryd.ntmps65
  go_upto_region 1 with (fail)
  generalize hW : ((w.alloc (.cells _ 98)).alloc (.cells _ 36)) = W
  have hI : Blk W w.heap.size 98 #[.int .i64 op, .int .i64 a, .int .i64 b, .int .i64 c, .int .i64 k] := by rw [← hW]; exact (Blk.new _ _ _).alloc _
  have hB : Blk W (w.heap.size + 1) 36 efZ := by
    have h := Blk.new (w.alloc (.cells #[.int .i64 op, .int .i64 a, .int .i64 b, .int .i64 c, .int .i64 k] 98)) 36 efZ
    rw [show (w.alloc (.cells #[.int .i64 op, .int .i64 a, .int .i64 b, .int .i64 c, .int .i64 k] 98)).heap.size = w.heap.size + 1 by simp] at h
    rw [← hW]; exact h
  have hF : Fr None' w W := by rw [← hW]; exact ((Fr.refl _ _).alloc _).alloc _
  have HB := Lib.hid hB
  have HI := Lib.hid hI
  have HF := Lib.hid hF
  clear hI hB hF hW
  have i0 : W.cell? ⟨w.heap.size, 0, none⟩ = some (.int .i64 op) := by rw [HI.out.cell]; rfl
  have i1 : W.cell? ⟨w.heap.size, 1, none⟩ = some (.int .i64 a) := by rw [HI.out.cell]; rfl
  have i2 : W.cell? ⟨w.heap.size, 2, none⟩ = some (.int .i64 b) := by rw [HI.out.cell]; rfl
  have i3 : W.cell? ⟨w.heap.size, 3, none⟩ = some (.int .i64 c) := by rw [HI.out.cell]; rfl
  have i4 : W.cell? ⟨w.heap.size, 4, none⟩ = some (.int .i64 k) := by rw [HI.out.cell]; rfl
  go_wp2_with fail
  refine (HBG.out W HF.out).mono ?_
  rintro e w1 ⟨ea, ep, rfl, hEF, hT, hB, hF1⟩
  obtain ⟨⟨Aa, ca, rfl⟩, Ap, cp, rfl⟩ := hEF.slices
  have hE := HB.out.fr hF1 (by omega)
  have HE := Lib.hid hE
  have HEF := Lib.hid hEF
  have HT := Lib.hid hT
  have HFB := Lib.hid hB
  have HF1 : Hid (Fr (fun k => k = t ∨ k = F) w w1) := Lib.hid ((HF.out.mono (fun _ h => h.elim)).trans hF1)
  have e0 : w1.cell? ⟨(w.heap.size + 1), 0, none⟩ = some (.int .i64 0) := by rw [hE.cell]; rfl
  have y0 : w1.frozen? ⟨(w.heap.size + 1), 0, none⟩ = false := hE.frozen _
  have e1 : w1.cell? ⟨(w.heap.size + 1), 1, none⟩ = some (.int .i64 0) := by rw [hE.cell]; rfl
  have y1 : w1.frozen? ⟨(w.heap.size + 1), 1, none⟩ = false := hE.frozen _
  have e2 : w1.cell? ⟨(w.heap.size + 1), 2, none⟩ = some (.int .i64 0) := by rw [hE.cell]; rfl
  have y2 : w1.frozen? ⟨(w.heap.size + 1), 2, none⟩ = false := hE.frozen _
  have e3 : w1.cell? ⟨(w.heap.size + 1), 3, none⟩ = some (.int .i64 0) := by rw [hE.cell]; rfl
  have y3 : w1.frozen? ⟨(w.heap.size + 1), 3, none⟩ = false := hE.frozen _
  have e4 : w1.cell? ⟨(w.heap.size + 1), 4, none⟩ = some (.int .i64 0) := by rw [hE.cell]; rfl
  have y4 : w1.frozen? ⟨(w.heap.size + 1), 4, none⟩ = false := hE.frozen _
  have e5 : w1.cell? ⟨(w.heap.size + 1), 5, none⟩ = some (.int .i64 0) := by rw [hE.cell]; rfl
  have y5 : w1.frozen? ⟨(w.heap.size + 1), 5, none⟩ = false := hE.frozen _
  have e6 : w1.cell? ⟨(w.heap.size + 1), 6, none⟩ = some (nilS) := by rw [hE.cell]; rfl
  have y6 : w1.frozen? ⟨(w.heap.size + 1), 6, none⟩ = false := hE.frozen _
  have e7 : w1.cell? ⟨(w.heap.size + 1), 7, none⟩ = some (nilS) := by rw [hE.cell]; rfl
  have y7 : w1.frozen? ⟨(w.heap.size + 1), 7, none⟩ = false := hE.frozen _
  clear hE hEF hT hB hF1 HB HI HF HBG i0 i1 i2 i3 i4
  unfold efC
  go_wp2_with fail
  refine bodyPost_ret (results_cell_row rfl _ _ (w.heap.size + 1) 36 (efC x.ef.kind x.ef.value x.ef.reg x.ef.fn x.ef.hand x.ef.why _ _) (0, 0) _ rfl (ef_stored (HE.out) _ _ _ _ _ _ _ _) Tryd.underlying36 rfl (by kernel_rfl)) rfl ?_
  refine ⟨_, _, rfl, EfAt.fr HEF.out (ef_frame (Fr.refl (At (w.heap.size + 1)) _) (.inl rfl) _ _ _ _ _ _ _ _) (fun k t' cs hk ht' hg' => ?_), HT.out.fr (ef_frame (Fr.refl (At (w.heap.size + 1)) _) (.inl rfl) _ _ _ _ _ _ _ _) (by show ¬ t = _; omega), HFB.out.fr (ef_frame (Fr.refl (At (w.heap.size + 1)) _) (.inl rfl) _ _ _ _ _ _ _ _) (by show ¬ F = _; omega), ef_frame HF1.out (.inr (by omega)) _ _ _ _ _ _ _ _⟩
  have hg' : k = w.heap.size + 1 := hg'
  subst hg'
  rcases ht' with rfl | rfl
  · exact Blk.ne_ hk HE.out (by decide) rfl
  · exact Blk.ne_ hk HE.out (by decide) rfl
end Go.Proofs.YtadcenaafoemmaaDoor
