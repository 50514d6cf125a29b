/-
  An operation that is not plain, as a turn does it. No condition.
-/
import Derived.Test.YtadcenaafoemmaaDoorF2A
namespace Go.Proofs.YtadcenaafoemmaaDoor
open Go.RowKit

set_option maxHeartbeats 8000000 in
set_option maxRecDepth 100000 in
theorem do_emit (w : World) (t F : Nat) (at_ : Int) (regs : List Int) (pg : Value) (bud dep : Int) (h8 : regs.length = 8) (hB : Blk w t 115 (tnL at_ regs F pg bud dep).toArray) (b c k : Int) (a : Nat) (x : Int) (hx : regs[a]? = some x) :
    Calls Tryd.prog 28 #[.pointer (some ⟨t, 0, none⟩), .agg #[.int .i64 15, .int .i64 (a : Int), .int .i64 b, .int .i64 c, .int .i64 k]] w fun e w' => e = .returned (.agg (efC (2) x 0 0 0 0 nilS nilS)) ∧ Fr None' w w' := by
  have HOP : Hid (∀ w, Blk w t 115 (tnL at_ regs F pg bud dep).toArray → Calls Tryd.prog 67 #[.pointer (some ⟨t, 0, none⟩), .agg #[.int .i64 15, .int .i64 (a : Int), .int .i64 b, .int .i64 c, .int .i64 k]] w fun e w' => e = .returned (.agg (efC (2) x 0 0 0 0 nilS nilS)) ∧ Fr None' w w') := Lib.hid (fun w hB => femit_any _ t F at_ regs pg bud dep h8 hB 15 b c k a x hx)
  have HB := Lib.hid hB
  have hlt := hB.lt
  clear hB hx
  go_enter Tryd.func28, Tryd.ntmps28
  go_upto_region 1 with (fail)
  generalize hW0 : ((w.alloc (.cells _ 98)).alloc (.cells _ 36)) = W0
  have hI : Blk W0 w.heap.size 98 #[.int .i64 15, .int .i64 (a : Int), .int .i64 b, .int .i64 c, .int .i64 k] := by rw [← hW0]; exact (Blk.new _ _ _).alloc _
  have hE : Blk W0 (w.heap.size + 1) 36 efZ := by
    have h := Blk.new (w.alloc (.cells #[.int .i64 15, .int .i64 (a : Int), .int .i64 b, .int .i64 c, .int .i64 k] 98)) 36 efZ
    rw [show (w.alloc (.cells #[.int .i64 15, .int .i64 (a : Int), .int .i64 b, .int .i64 c, .int .i64 k] 98)).heap.size = w.heap.size + 1 by simp] at h
    rw [← hW0]; exact h
  have hF : Fr None' w W0 := by rw [← hW0]; exact ((Fr.refl _ _).alloc _).alloc _
  have hsz : W0.drew.heap.size = w.heap.size + 2 := by rw [← hW0]; simp
  have i0 : W0.drew.cell? ⟨w.heap.size, 0, none⟩ = some (.int .i64 15) := by rw [hI.drew.cell]; rfl
  have HB1 := Lib.hid (HB.out.fr hF.drew (fun h => h))
  have HB2 := Lib.hid hI.drew
  have HB3 := Lib.hid hE.drew
  have HF0 := Lib.hid hF.drew
  clear hI hE hF HB hW0
  refine region_K 9 (fun w' : World => w'.cell? ⟨w.heap.size, 0, none⟩ = some (.int .i64 15)) (by kernel_rfl) ?_
  have HS : (fun w' : World => w'.cell? ⟨w.heap.size, 0, none⟩ = some (.int .i64 15)) W0.drew := i0
  generalize W0.drew = V at *
  refine AnyK.take (i := 1) rfl (by decide) (by kernel_rfl) (by kernel_rfl) (by kernel_rfl) (fun _ _ _ _ h => h) HS (fun K hK => ?_)
  go_simp
  refine hK.out _ ⟨_, by rfl, Or.inl ⟨by rfl, by intro w' hSw; (try dsimp only at hSw); go_simp⟩, ?_⟩
  clear hK K
  refine AnyK.take (i := 2) rfl (by decide) (by kernel_rfl) (by kernel_rfl) (by kernel_rfl) (fun _ _ _ _ h => h) HS (fun K hK => ?_)
  go_simp
  refine hK.out _ ⟨_, by rfl, Or.inl ⟨by rfl, by intro w' hSw; (try dsimp only at hSw); go_simp⟩, ?_⟩
  clear hK K
  refine AnyK.one (i := 0) rfl (by kernel_rfl) (fun K hK => ?_)
  go_simp
  refine (pl_any _).mono ?_
  rintro e w1 ⟨rfl, hw1⟩
  have hm : w1.heap[V.heap.size]? = some (.map plE 9) := by rw [hw1]; exact heap_alloc_new V _
  have hF1 : Fr None' V w1 := by rw [hw1]; exact (Fr.refl _ _).alloc _
  have HV1 := Lib.hid (HB1.out.fr hF1 (fun h => h))
  have HV2 := Lib.hid (HB2.out.fr hF1 (fun h => h))
  have HV3 := Lib.hid (HB3.out.fr hF1 (fun h => h))
  have HFV := Lib.hid (HF0.out.trans hF1)
  have hl : (Instr.lookup 128 (.map (some V.heap.size)) (.int .i64 15) true).run Tryd.prog w1 = .ok (.tuple #[.nilFunc, .bool false]) w1 := look_pl w1 _ hm 15 (by decide)
  have HS : (fun w' : World => w'.cell? ⟨w.heap.size, 0, none⟩ = some (.int .i64 15)) w1 := by show w1.cell? _ = _; rw [HV2.out.cell]; rfl
  generalize V.heap.size = mb at *
  clear hF1 hm hw1 HB1 HB2 HB3 HF0 hsz
  try dsimp only
  refine hK.out _ _ (fun _ => HS) ?_
  clear hK K
  refine AnyK.one (i := 3) rfl (by kernel_rfl) (fun K hK => ?_)
  go_simp
  refine hK.out _ _ (fun _ => HS) ?_
  clear hK K
  refine AnyK.take (i := 4) rfl (by decide) (by kernel_rfl) (by kernel_rfl) (by kernel_rfl) (fun _ _ _ _ h => h) HS (fun K hK => ?_)
  go_simp
  refine hK.out _ ⟨_, by rfl, Or.inl ⟨by rfl, by intro w' hSw; (try dsimp only at hSw); go_simp⟩, ?_⟩
  clear hK K
  refine AnyK.take (i := 5) rfl (by decide) (by kernel_rfl) (by kernel_rfl) (by kernel_rfl) (fun _ _ _ _ h => h) HS (fun K hK => ?_)
  go_simp
  refine hK.out _ ⟨_, by rfl, Or.inl ⟨by rfl, by intro w' hSw; (try dsimp only at hSw); go_simp⟩, ?_⟩
  clear hK K
  refine AnyK.take (i := 6) rfl (by decide) (by kernel_rfl) (by kernel_rfl) (by kernel_rfl) (fun _ _ _ _ h => h) HS (fun K hK => ?_)
  go_simp
  refine hK.out _ ⟨_, by rfl, Or.inl ⟨by rfl, by intro w' hSw; (try dsimp only at hSw); go_simp⟩, ?_⟩
  clear hK K
  refine AnyK.take (i := 7) rfl (by decide) (by kernel_rfl) (by kernel_rfl) (by kernel_rfl) (fun _ _ _ _ h => h) HS (fun K hK => ?_)
  go_simp
  refine hK.out _ ⟨_, by rfl, Or.inl ⟨by rfl, by intro w' hSw; (try dsimp only at hSw); go_simp⟩, ?_⟩
  clear hK K
  refine AnyK.take (i := 8) rfl (by decide) (by kernel_rfl) (by kernel_rfl) (by kernel_rfl) (fun _ _ _ _ h => h) HS (fun K hK => ?_)
  go_simp
  refine hK.out _ ⟨_, by rfl, Or.inl ⟨by rfl, by intro w' hSw; (try dsimp only at hSw); go_simp⟩, ?_⟩
  clear hK K
  refine AnyK.done (by kernel_rfl) ?_ _
  clear hl HS
  go_upto_region 5 with (fail)
  have SF : ∀ w' : World, Blk w' w.heap.size 98 #[.int .i64 15, .int .i64 (a : Int), .int .i64 b, .int .i64 c, .int .i64 k] → (fun w' : World => w'.cell? ⟨w.heap.size, 0, none⟩ = some (.int .i64 15) ∧ w'.cell? ⟨w.heap.size, 1, none⟩ = some (.int .i64 (a : Int)) ∧ w'.cell? ⟨w.heap.size, 2, none⟩ = some (.int .i64 b) ∧ w'.cell? ⟨w.heap.size, 3, none⟩ = some (.int .i64 c) ∧ w'.cell? ⟨w.heap.size, 4, none⟩ = some (.int .i64 k)) w' := fun w' hI => ⟨by rw [hI.cell]; rfl, by rw [hI.cell]; rfl, by rw [hI.cell]; rfl, by rw [hI.cell]; rfl, by rw [hI.cell]; rfl⟩
  have HSF := Lib.hid SF
  refine region_K 7 (fun w' : World => w'.cell? ⟨w.heap.size, 0, none⟩ = some (.int .i64 15) ∧ w'.cell? ⟨w.heap.size, 1, none⟩ = some (.int .i64 (a : Int)) ∧ w'.cell? ⟨w.heap.size, 2, none⟩ = some (.int .i64 b) ∧ w'.cell? ⟨w.heap.size, 3, none⟩ = some (.int .i64 c) ∧ w'.cell? ⟨w.heap.size, 4, none⟩ = some (.int .i64 k)) (by kernel_rfl) ?_
  have HU1 := Lib.hid HV1.out.drew
  have HU2 := Lib.hid HV2.out.drew
  have HU3 := Lib.hid HV3.out.drew
  have HFU := Lib.hid HFV.out.drew
  have HS : (fun w' : World => w'.cell? ⟨w.heap.size, 0, none⟩ = some (.int .i64 15) ∧ w'.cell? ⟨w.heap.size, 1, none⟩ = some (.int .i64 (a : Int)) ∧ w'.cell? ⟨w.heap.size, 2, none⟩ = some (.int .i64 b) ∧ w'.cell? ⟨w.heap.size, 3, none⟩ = some (.int .i64 c) ∧ w'.cell? ⟨w.heap.size, 4, none⟩ = some (.int .i64 k)) w1.drew := SF _ HU2.out
  clear SF HV1 HV2 HV3 HFV
  generalize w1.drew = V1 at *
  refine AnyK.take (i := 1) rfl (by decide) (by kernel_rfl) (by kernel_rfl) (by kernel_rfl) (fun _ _ _ _ h => h) HS (fun K hK => ?_)
  go_simp
  refine hK.out _ ⟨_, by rfl, Or.inl ⟨by rfl, by intro w' hSw; (try dsimp only at hSw); go_simp⟩, ?_⟩
  clear hK K
  refine AnyK.take (i := 2) rfl (by decide) (by kernel_rfl) (by kernel_rfl) (by kernel_rfl) (fun _ _ _ _ h => h) HS (fun K hK => ?_)
  go_simp
  refine hK.out _ ⟨_, by rfl, Or.inl ⟨by rfl, by intro w' hSw; (try dsimp only at hSw); go_simp⟩, ?_⟩
  clear hK K
  refine AnyK.take (i := 4) rfl (by decide) (by kernel_rfl) (by kernel_rfl) (by kernel_rfl) (fun _ _ _ _ h => h) HS (fun K hK => ?_)
  go_simp
  refine hK.out _ ⟨_, by rfl, Or.inl ⟨by rfl, by intro w' hSw; (try dsimp only at hSw); go_simp⟩, ?_⟩
  clear hK K
  refine AnyK.take (i := 5) rfl (by decide) (by kernel_rfl) (by kernel_rfl) (by kernel_rfl) (fun _ _ _ _ h => h) HS (fun K hK => ?_)
  go_simp
  refine hK.out _ ⟨_, by rfl, Or.inl ⟨by rfl, by intro w' hSw; (try dsimp only at hSw); go_simp⟩, ?_⟩
  clear hK K
  refine AnyK.one (i := 0) rfl (by kernel_rfl) (fun K hK => ?_)
  go_simp
  refine (fx_any _).mono ?_
  rintro e w2 ⟨rfl, hw2⟩
  have hm : w2.heap[V1.heap.size]? = some (.map fxE 8) := by rw [hw2]; exact heap_alloc_new V1 _
  have hF1 : Fr None' V1 w2 := by rw [hw2]; exact (Fr.refl _ _).alloc _
  have HV1 := Lib.hid (HU1.out.fr hF1 (fun h => h))
  have HV2 := Lib.hid (HU2.out.fr hF1 (fun h => h))
  have HV3 := Lib.hid (HU3.out.fr hF1 (fun h => h))
  have HFV := Lib.hid (HFU.out.trans hF1)
  have hl : (Instr.lookup 140 (.map (some V1.heap.size)) (.int .i64 15) false).run Tryd.prog w2 = .ok (.func (.func 67) #[] #[]) w2 := look_fx w2 _ hm 15 (by decide)
  have HS := HSF.out w2 HV2.out
  generalize V1.heap.size = mc at *
  clear hF1 hm hw2 HU1 HU2 HU3 HFU
  try dsimp only
  refine hK.out _ _ (fun _ => HS) ?_
  clear hK K
  refine AnyK.one (i := 3) rfl (by kernel_rfl) (fun K hK => ?_)
  go_simp
  refine hK.out _ _ (fun _ => HS) ?_
  clear hK K HS hl
  refine AnyK.one (i := 6) rfl (by kernel_rfl) (fun K hK => ?_)
  go_simp
  refine (HOP.out _ HV1.out).mono ?_
  rintro e w3 ⟨rfl, hF2⟩
  have HS := HSF.out w3 (HV2.out.fr hF2 (fun h => h))
  have hE := HV3.out.fr hF2 (fun h => h)
  have HE := Lib.hid hE
  have HF2 := Lib.hid (HFV.out.trans hF2)
  clear HV1 HV2 HV3 HFV hF2 HOP
  refine hK.out _ _ (fun _ => HS) ?_
  clear hK K HSF HS
  unfold efC
  have e0 : w3.cell? ⟨(w.heap.size + 1), 0, none⟩ = some (.int .i64 0) := by rw [hE.cell]; rfl
  have y0 : w3.frozen? ⟨(w.heap.size + 1), 0, none⟩ = false := hE.frozen _
  have e1 : w3.cell? ⟨(w.heap.size + 1), 1, none⟩ = some (.int .i64 0) := by rw [hE.cell]; rfl
  have y1 : w3.frozen? ⟨(w.heap.size + 1), 1, none⟩ = false := hE.frozen _
  have e2 : w3.cell? ⟨(w.heap.size + 1), 2, none⟩ = some (.int .i64 0) := by rw [hE.cell]; rfl
  have y2 : w3.frozen? ⟨(w.heap.size + 1), 2, none⟩ = false := hE.frozen _
  have e3 : w3.cell? ⟨(w.heap.size + 1), 3, none⟩ = some (.int .i64 0) := by rw [hE.cell]; rfl
  have y3 : w3.frozen? ⟨(w.heap.size + 1), 3, none⟩ = false := hE.frozen _
  have e4 : w3.cell? ⟨(w.heap.size + 1), 4, none⟩ = some (.int .i64 0) := by rw [hE.cell]; rfl
  have y4 : w3.frozen? ⟨(w.heap.size + 1), 4, none⟩ = false := hE.frozen _
  have e5 : w3.cell? ⟨(w.heap.size + 1), 5, none⟩ = some (.int .i64 0) := by rw [hE.cell]; rfl
  have y5 : w3.frozen? ⟨(w.heap.size + 1), 5, none⟩ = false := hE.frozen _
  have e6 : w3.cell? ⟨(w.heap.size + 1), 6, none⟩ = some (nilS) := by rw [hE.cell]; rfl
  have y6 : w3.frozen? ⟨(w.heap.size + 1), 6, none⟩ = false := hE.frozen _
  have e7 : w3.cell? ⟨(w.heap.size + 1), 7, none⟩ = some (nilS) := by rw [hE.cell]; rfl
  have y7 : w3.frozen? ⟨(w.heap.size + 1), 7, none⟩ = false := hE.frozen _
  clear hE
  refine AnyK.one (i := 7) rfl (by kernel_rfl) (fun K hK => ?_)
  go_simp
  refine hK.out _ _ (fun h => absurd (h.symm.trans (by kernel_rfl : _ = true)) (by decide)) ?_
  clear hK K
  refine AnyK.done (by kernel_rfl) ?_ _
  go_wp2_with fail
  refine bodyPost_ret (results_cell_row rfl _ _ (w.heap.size + 1) 36 (efC (2) x 0 0 0 0 nilS nilS) (0, 0) _ rfl (ef_stored (HE.out) _ _ _ _ _ _ _ _) Tryd.underlying36 rfl (by kernel_rfl)) rfl ?_
  exact ⟨rfl, ef_frame HF2.out (.inr (by omega)) _ _ _ _ _ _ _ _⟩
end Go.Proofs.YtadcenaafoemmaaDoor

/-
  An operation that is not plain, as a turn does it. No condition.
-/
namespace Go.Proofs.YtadcenaafoemmaaDoor
open Go.RowKit

set_option maxHeartbeats 8000000 in
set_option maxRecDepth 100000 in
theorem do_fail (w : World) (t F : Nat) (at_ : Int) (regs : List Int) (pg : Value) (bud dep : Int) (_h8 : regs.length = 8) (hB : Blk w t 115 (tnL at_ regs F pg bud dep).toArray) (a b c k : Int) :
    Calls Tryd.prog 28 #[.pointer (some ⟨t, 0, none⟩), .agg #[.int .i64 16, .int .i64 a, .int .i64 b, .int .i64 c, .int .i64 k]] w fun e w' => e = .returned (.agg (efC (8) 0 0 0 0 k nilS nilS)) ∧ Fr None' w w' := by
  have HOP : Hid (∀ w, Blk w t 115 (tnL at_ regs F pg bud dep).toArray → Calls Tryd.prog 68 #[.pointer (some ⟨t, 0, none⟩), .agg #[.int .i64 16, .int .i64 a, .int .i64 b, .int .i64 c, .int .i64 k]] w fun e w' => e = .returned (.agg (efC (8) 0 0 0 0 k nilS nilS)) ∧ Fr None' w w') := Lib.hid (fun w hB => ffail_any _ _ 16 a b c k)
  have HB := Lib.hid hB
  have hlt := hB.lt
  clear hB
  go_enter Tryd.func28, Tryd.ntmps28
  go_upto_region 1 with (fail)
  generalize hW0 : ((w.alloc (.cells _ 98)).alloc (.cells _ 36)) = W0
  have hI : Blk W0 w.heap.size 98 #[.int .i64 16, .int .i64 a, .int .i64 b, .int .i64 c, .int .i64 k] := by rw [← hW0]; exact (Blk.new _ _ _).alloc _
  have hE : Blk W0 (w.heap.size + 1) 36 efZ := by
    have h := Blk.new (w.alloc (.cells #[.int .i64 16, .int .i64 a, .int .i64 b, .int .i64 c, .int .i64 k] 98)) 36 efZ
    rw [show (w.alloc (.cells #[.int .i64 16, .int .i64 a, .int .i64 b, .int .i64 c, .int .i64 k] 98)).heap.size = w.heap.size + 1 by simp] at h
    rw [← hW0]; exact h
  have hF : Fr None' w W0 := by rw [← hW0]; exact ((Fr.refl _ _).alloc _).alloc _
  have hsz : W0.drew.heap.size = w.heap.size + 2 := by rw [← hW0]; simp
  have i0 : W0.drew.cell? ⟨w.heap.size, 0, none⟩ = some (.int .i64 16) := by rw [hI.drew.cell]; rfl
  have HB1 := Lib.hid (HB.out.fr hF.drew (fun h => h))
  have HB2 := Lib.hid hI.drew
  have HB3 := Lib.hid hE.drew
  have HF0 := Lib.hid hF.drew
  clear hI hE hF HB hW0
  refine region_K 9 (fun w' : World => w'.cell? ⟨w.heap.size, 0, none⟩ = some (.int .i64 16)) (by kernel_rfl) ?_
  have HS : (fun w' : World => w'.cell? ⟨w.heap.size, 0, none⟩ = some (.int .i64 16)) W0.drew := i0
  generalize W0.drew = V at *
  refine AnyK.take (i := 1) rfl (by decide) (by kernel_rfl) (by kernel_rfl) (by kernel_rfl) (fun _ _ _ _ h => h) HS (fun K hK => ?_)
  go_simp
  refine hK.out _ ⟨_, by rfl, Or.inl ⟨by rfl, by intro w' hSw; (try dsimp only at hSw); go_simp⟩, ?_⟩
  clear hK K
  refine AnyK.take (i := 2) rfl (by decide) (by kernel_rfl) (by kernel_rfl) (by kernel_rfl) (fun _ _ _ _ h => h) HS (fun K hK => ?_)
  go_simp
  refine hK.out _ ⟨_, by rfl, Or.inl ⟨by rfl, by intro w' hSw; (try dsimp only at hSw); go_simp⟩, ?_⟩
  clear hK K
  refine AnyK.one (i := 0) rfl (by kernel_rfl) (fun K hK => ?_)
  go_simp
  refine (pl_any _).mono ?_
  rintro e w1 ⟨rfl, hw1⟩
  have hm : w1.heap[V.heap.size]? = some (.map plE 9) := by rw [hw1]; exact heap_alloc_new V _
  have hF1 : Fr None' V w1 := by rw [hw1]; exact (Fr.refl _ _).alloc _
  have HV1 := Lib.hid (HB1.out.fr hF1 (fun h => h))
  have HV2 := Lib.hid (HB2.out.fr hF1 (fun h => h))
  have HV3 := Lib.hid (HB3.out.fr hF1 (fun h => h))
  have HFV := Lib.hid (HF0.out.trans hF1)
  have hl : (Instr.lookup 128 (.map (some V.heap.size)) (.int .i64 16) true).run Tryd.prog w1 = .ok (.tuple #[.nilFunc, .bool false]) w1 := look_pl w1 _ hm 16 (by decide)
  have HS : (fun w' : World => w'.cell? ⟨w.heap.size, 0, none⟩ = some (.int .i64 16)) w1 := by show w1.cell? _ = _; rw [HV2.out.cell]; rfl
  generalize V.heap.size = mb at *
  clear hF1 hm hw1 HB1 HB2 HB3 HF0 hsz
  try dsimp only
  refine hK.out _ _ (fun _ => HS) ?_
  clear hK K
  refine AnyK.one (i := 3) rfl (by kernel_rfl) (fun K hK => ?_)
  go_simp
  refine hK.out _ _ (fun _ => HS) ?_
  clear hK K
  refine AnyK.take (i := 4) rfl (by decide) (by kernel_rfl) (by kernel_rfl) (by kernel_rfl) (fun _ _ _ _ h => h) HS (fun K hK => ?_)
  go_simp
  refine hK.out _ ⟨_, by rfl, Or.inl ⟨by rfl, by intro w' hSw; (try dsimp only at hSw); go_simp⟩, ?_⟩
  clear hK K
  refine AnyK.take (i := 5) rfl (by decide) (by kernel_rfl) (by kernel_rfl) (by kernel_rfl) (fun _ _ _ _ h => h) HS (fun K hK => ?_)
  go_simp
  refine hK.out _ ⟨_, by rfl, Or.inl ⟨by rfl, by intro w' hSw; (try dsimp only at hSw); go_simp⟩, ?_⟩
  clear hK K
  refine AnyK.take (i := 6) rfl (by decide) (by kernel_rfl) (by kernel_rfl) (by kernel_rfl) (fun _ _ _ _ h => h) HS (fun K hK => ?_)
  go_simp
  refine hK.out _ ⟨_, by rfl, Or.inl ⟨by rfl, by intro w' hSw; (try dsimp only at hSw); go_simp⟩, ?_⟩
  clear hK K
  refine AnyK.take (i := 7) rfl (by decide) (by kernel_rfl) (by kernel_rfl) (by kernel_rfl) (fun _ _ _ _ h => h) HS (fun K hK => ?_)
  go_simp
  refine hK.out _ ⟨_, by rfl, Or.inl ⟨by rfl, by intro w' hSw; (try dsimp only at hSw); go_simp⟩, ?_⟩
  clear hK K
  refine AnyK.take (i := 8) rfl (by decide) (by kernel_rfl) (by kernel_rfl) (by kernel_rfl) (fun _ _ _ _ h => h) HS (fun K hK => ?_)
  go_simp
  refine hK.out _ ⟨_, by rfl, Or.inl ⟨by rfl, by intro w' hSw; (try dsimp only at hSw); go_simp⟩, ?_⟩
  clear hK K
  refine AnyK.done (by kernel_rfl) ?_ _
  clear hl HS
  go_upto_region 5 with (fail)
  have SF : ∀ w' : World, Blk w' w.heap.size 98 #[.int .i64 16, .int .i64 a, .int .i64 b, .int .i64 c, .int .i64 k] → (fun w' : World => w'.cell? ⟨w.heap.size, 0, none⟩ = some (.int .i64 16) ∧ w'.cell? ⟨w.heap.size, 1, none⟩ = some (.int .i64 a) ∧ w'.cell? ⟨w.heap.size, 2, none⟩ = some (.int .i64 b) ∧ w'.cell? ⟨w.heap.size, 3, none⟩ = some (.int .i64 c) ∧ w'.cell? ⟨w.heap.size, 4, none⟩ = some (.int .i64 k)) w' := fun w' hI => ⟨by rw [hI.cell]; rfl, by rw [hI.cell]; rfl, by rw [hI.cell]; rfl, by rw [hI.cell]; rfl, by rw [hI.cell]; rfl⟩
  have HSF := Lib.hid SF
  refine region_K 7 (fun w' : World => w'.cell? ⟨w.heap.size, 0, none⟩ = some (.int .i64 16) ∧ w'.cell? ⟨w.heap.size, 1, none⟩ = some (.int .i64 a) ∧ w'.cell? ⟨w.heap.size, 2, none⟩ = some (.int .i64 b) ∧ w'.cell? ⟨w.heap.size, 3, none⟩ = some (.int .i64 c) ∧ w'.cell? ⟨w.heap.size, 4, none⟩ = some (.int .i64 k)) (by kernel_rfl) ?_
  have HU1 := Lib.hid HV1.out.drew
  have HU2 := Lib.hid HV2.out.drew
  have HU3 := Lib.hid HV3.out.drew
  have HFU := Lib.hid HFV.out.drew
  have HS : (fun w' : World => w'.cell? ⟨w.heap.size, 0, none⟩ = some (.int .i64 16) ∧ w'.cell? ⟨w.heap.size, 1, none⟩ = some (.int .i64 a) ∧ w'.cell? ⟨w.heap.size, 2, none⟩ = some (.int .i64 b) ∧ w'.cell? ⟨w.heap.size, 3, none⟩ = some (.int .i64 c) ∧ w'.cell? ⟨w.heap.size, 4, none⟩ = some (.int .i64 k)) w1.drew := SF _ HU2.out
  clear SF HV1 HV2 HV3 HFV
  generalize w1.drew = V1 at *
  refine AnyK.take (i := 1) rfl (by decide) (by kernel_rfl) (by kernel_rfl) (by kernel_rfl) (fun _ _ _ _ h => h) HS (fun K hK => ?_)
  go_simp
  refine hK.out _ ⟨_, by rfl, Or.inl ⟨by rfl, by intro w' hSw; (try dsimp only at hSw); go_simp⟩, ?_⟩
  clear hK K
  refine AnyK.take (i := 2) rfl (by decide) (by kernel_rfl) (by kernel_rfl) (by kernel_rfl) (fun _ _ _ _ h => h) HS (fun K hK => ?_)
  go_simp
  refine hK.out _ ⟨_, by rfl, Or.inl ⟨by rfl, by intro w' hSw; (try dsimp only at hSw); go_simp⟩, ?_⟩
  clear hK K
  refine AnyK.take (i := 4) rfl (by decide) (by kernel_rfl) (by kernel_rfl) (by kernel_rfl) (fun _ _ _ _ h => h) HS (fun K hK => ?_)
  go_simp
  refine hK.out _ ⟨_, by rfl, Or.inl ⟨by rfl, by intro w' hSw; (try dsimp only at hSw); go_simp⟩, ?_⟩
  clear hK K
  refine AnyK.take (i := 5) rfl (by decide) (by kernel_rfl) (by kernel_rfl) (by kernel_rfl) (fun _ _ _ _ h => h) HS (fun K hK => ?_)
  go_simp
  refine hK.out _ ⟨_, by rfl, Or.inl ⟨by rfl, by intro w' hSw; (try dsimp only at hSw); go_simp⟩, ?_⟩
  clear hK K
  refine AnyK.one (i := 0) rfl (by kernel_rfl) (fun K hK => ?_)
  go_simp
  refine (fx_any _).mono ?_
  rintro e w2 ⟨rfl, hw2⟩
  have hm : w2.heap[V1.heap.size]? = some (.map fxE 8) := by rw [hw2]; exact heap_alloc_new V1 _
  have hF1 : Fr None' V1 w2 := by rw [hw2]; exact (Fr.refl _ _).alloc _
  have HV1 := Lib.hid (HU1.out.fr hF1 (fun h => h))
  have HV2 := Lib.hid (HU2.out.fr hF1 (fun h => h))
  have HV3 := Lib.hid (HU3.out.fr hF1 (fun h => h))
  have HFV := Lib.hid (HFU.out.trans hF1)
  have hl : (Instr.lookup 140 (.map (some V1.heap.size)) (.int .i64 16) false).run Tryd.prog w2 = .ok (.func (.func 68) #[] #[]) w2 := look_fx w2 _ hm 16 (by decide)
  have HS := HSF.out w2 HV2.out
  generalize V1.heap.size = mc at *
  clear hF1 hm hw2 HU1 HU2 HU3 HFU
  try dsimp only
  refine hK.out _ _ (fun _ => HS) ?_
  clear hK K
  refine AnyK.one (i := 3) rfl (by kernel_rfl) (fun K hK => ?_)
  go_simp
  refine hK.out _ _ (fun _ => HS) ?_
  clear hK K HS hl
  refine AnyK.one (i := 6) rfl (by kernel_rfl) (fun K hK => ?_)
  go_simp
  refine (HOP.out _ HV1.out).mono ?_
  rintro e w3 ⟨rfl, hF2⟩
  have HS := HSF.out w3 (HV2.out.fr hF2 (fun h => h))
  have hE := HV3.out.fr hF2 (fun h => h)
  have HE := Lib.hid hE
  have HF2 := Lib.hid (HFV.out.trans hF2)
  clear HV1 HV2 HV3 HFV hF2 HOP
  refine hK.out _ _ (fun _ => HS) ?_
  clear hK K HSF HS
  unfold efC
  have e0 : w3.cell? ⟨(w.heap.size + 1), 0, none⟩ = some (.int .i64 0) := by rw [hE.cell]; rfl
  have y0 : w3.frozen? ⟨(w.heap.size + 1), 0, none⟩ = false := hE.frozen _
  have e1 : w3.cell? ⟨(w.heap.size + 1), 1, none⟩ = some (.int .i64 0) := by rw [hE.cell]; rfl
  have y1 : w3.frozen? ⟨(w.heap.size + 1), 1, none⟩ = false := hE.frozen _
  have e2 : w3.cell? ⟨(w.heap.size + 1), 2, none⟩ = some (.int .i64 0) := by rw [hE.cell]; rfl
  have y2 : w3.frozen? ⟨(w.heap.size + 1), 2, none⟩ = false := hE.frozen _
  have e3 : w3.cell? ⟨(w.heap.size + 1), 3, none⟩ = some (.int .i64 0) := by rw [hE.cell]; rfl
  have y3 : w3.frozen? ⟨(w.heap.size + 1), 3, none⟩ = false := hE.frozen _
  have e4 : w3.cell? ⟨(w.heap.size + 1), 4, none⟩ = some (.int .i64 0) := by rw [hE.cell]; rfl
  have y4 : w3.frozen? ⟨(w.heap.size + 1), 4, none⟩ = false := hE.frozen _
  have e5 : w3.cell? ⟨(w.heap.size + 1), 5, none⟩ = some (.int .i64 0) := by rw [hE.cell]; rfl
  have y5 : w3.frozen? ⟨(w.heap.size + 1), 5, none⟩ = false := hE.frozen _
  have e6 : w3.cell? ⟨(w.heap.size + 1), 6, none⟩ = some (nilS) := by rw [hE.cell]; rfl
  have y6 : w3.frozen? ⟨(w.heap.size + 1), 6, none⟩ = false := hE.frozen _
  have e7 : w3.cell? ⟨(w.heap.size + 1), 7, none⟩ = some (nilS) := by rw [hE.cell]; rfl
  have y7 : w3.frozen? ⟨(w.heap.size + 1), 7, none⟩ = false := hE.frozen _
  clear hE
  refine AnyK.one (i := 7) rfl (by kernel_rfl) (fun K hK => ?_)
  go_simp
  refine hK.out _ _ (fun h => absurd (h.symm.trans (by kernel_rfl : _ = true)) (by decide)) ?_
  clear hK K
  refine AnyK.done (by kernel_rfl) ?_ _
  go_wp2_with fail
  refine bodyPost_ret (results_cell_row rfl _ _ (w.heap.size + 1) 36 (efC (8) 0 0 0 0 k nilS nilS) (0, 0) _ rfl (ef_stored (HE.out) _ _ _ _ _ _ _ _) Tryd.underlying36 rfl (by kernel_rfl)) rfl ?_
  exact ⟨rfl, ef_frame HF2.out (.inr (by omega)) _ _ _ _ _ _ _ _⟩
end Go.Proofs.YtadcenaafoemmaaDoor

/-
  An operation that is not plain, as a turn does it. No condition.
-/
namespace Go.Proofs.YtadcenaafoemmaaDoor
open Go.RowKit

set_option maxHeartbeats 8000000 in
set_option maxRecDepth 100000 in
theorem do_ret (w : World) (t F : Nat) (at_ : Int) (regs : List Int) (pg : Value) (bud dep : Int) (_h8 : regs.length = 8) (hB : Blk w t 115 (tnL at_ regs F pg bud dep).toArray) (a b c k : Int) :
    Calls Tryd.prog 28 #[.pointer (some ⟨t, 0, none⟩), .agg #[.int .i64 17, .int .i64 a, .int .i64 b, .int .i64 c, .int .i64 k]] w fun e w' => e = .returned (.agg (efC (7) 0 a 0 0 0 nilS nilS)) ∧ Fr None' w w' := by
  have HOP : Hid (∀ w, Blk w t 115 (tnL at_ regs F pg bud dep).toArray → Calls Tryd.prog 69 #[.pointer (some ⟨t, 0, none⟩), .agg #[.int .i64 17, .int .i64 a, .int .i64 b, .int .i64 c, .int .i64 k]] w fun e w' => e = .returned (.agg (efC (7) 0 a 0 0 0 nilS nilS)) ∧ Fr None' w w') := Lib.hid (fun w hB => fret_any _ _ 17 a b c k)
  have HB := Lib.hid hB
  have hlt := hB.lt
  clear hB
  go_enter Tryd.func28, Tryd.ntmps28
  go_upto_region 1 with (fail)
  generalize hW0 : ((w.alloc (.cells _ 98)).alloc (.cells _ 36)) = W0
  have hI : Blk W0 w.heap.size 98 #[.int .i64 17, .int .i64 a, .int .i64 b, .int .i64 c, .int .i64 k] := by rw [← hW0]; exact (Blk.new _ _ _).alloc _
  have hE : Blk W0 (w.heap.size + 1) 36 efZ := by
    have h := Blk.new (w.alloc (.cells #[.int .i64 17, .int .i64 a, .int .i64 b, .int .i64 c, .int .i64 k] 98)) 36 efZ
    rw [show (w.alloc (.cells #[.int .i64 17, .int .i64 a, .int .i64 b, .int .i64 c, .int .i64 k] 98)).heap.size = w.heap.size + 1 by simp] at h
    rw [← hW0]; exact h
  have hF : Fr None' w W0 := by rw [← hW0]; exact ((Fr.refl _ _).alloc _).alloc _
  have hsz : W0.drew.heap.size = w.heap.size + 2 := by rw [← hW0]; simp
  have i0 : W0.drew.cell? ⟨w.heap.size, 0, none⟩ = some (.int .i64 17) := by rw [hI.drew.cell]; rfl
  have HB1 := Lib.hid (HB.out.fr hF.drew (fun h => h))
  have HB2 := Lib.hid hI.drew
  have HB3 := Lib.hid hE.drew
  have HF0 := Lib.hid hF.drew
  clear hI hE hF HB hW0
  refine region_K 9 (fun w' : World => w'.cell? ⟨w.heap.size, 0, none⟩ = some (.int .i64 17)) (by kernel_rfl) ?_
  have HS : (fun w' : World => w'.cell? ⟨w.heap.size, 0, none⟩ = some (.int .i64 17)) W0.drew := i0
  generalize W0.drew = V at *
  refine AnyK.take (i := 1) rfl (by decide) (by kernel_rfl) (by kernel_rfl) (by kernel_rfl) (fun _ _ _ _ h => h) HS (fun K hK => ?_)
  go_simp
  refine hK.out _ ⟨_, by rfl, Or.inl ⟨by rfl, by intro w' hSw; (try dsimp only at hSw); go_simp⟩, ?_⟩
  clear hK K
  refine AnyK.take (i := 2) rfl (by decide) (by kernel_rfl) (by kernel_rfl) (by kernel_rfl) (fun _ _ _ _ h => h) HS (fun K hK => ?_)
  go_simp
  refine hK.out _ ⟨_, by rfl, Or.inl ⟨by rfl, by intro w' hSw; (try dsimp only at hSw); go_simp⟩, ?_⟩
  clear hK K
  refine AnyK.one (i := 0) rfl (by kernel_rfl) (fun K hK => ?_)
  go_simp
  refine (pl_any _).mono ?_
  rintro e w1 ⟨rfl, hw1⟩
  have hm : w1.heap[V.heap.size]? = some (.map plE 9) := by rw [hw1]; exact heap_alloc_new V _
  have hF1 : Fr None' V w1 := by rw [hw1]; exact (Fr.refl _ _).alloc _
  have HV1 := Lib.hid (HB1.out.fr hF1 (fun h => h))
  have HV2 := Lib.hid (HB2.out.fr hF1 (fun h => h))
  have HV3 := Lib.hid (HB3.out.fr hF1 (fun h => h))
  have HFV := Lib.hid (HF0.out.trans hF1)
  have hl : (Instr.lookup 128 (.map (some V.heap.size)) (.int .i64 17) true).run Tryd.prog w1 = .ok (.tuple #[.nilFunc, .bool false]) w1 := look_pl w1 _ hm 17 (by decide)
  have HS : (fun w' : World => w'.cell? ⟨w.heap.size, 0, none⟩ = some (.int .i64 17)) w1 := by show w1.cell? _ = _; rw [HV2.out.cell]; rfl
  generalize V.heap.size = mb at *
  clear hF1 hm hw1 HB1 HB2 HB3 HF0 hsz
  try dsimp only
  refine hK.out _ _ (fun _ => HS) ?_
  clear hK K
  refine AnyK.one (i := 3) rfl (by kernel_rfl) (fun K hK => ?_)
  go_simp
  refine hK.out _ _ (fun _ => HS) ?_
  clear hK K
  refine AnyK.take (i := 4) rfl (by decide) (by kernel_rfl) (by kernel_rfl) (by kernel_rfl) (fun _ _ _ _ h => h) HS (fun K hK => ?_)
  go_simp
  refine hK.out _ ⟨_, by rfl, Or.inl ⟨by rfl, by intro w' hSw; (try dsimp only at hSw); go_simp⟩, ?_⟩
  clear hK K
  refine AnyK.take (i := 5) rfl (by decide) (by kernel_rfl) (by kernel_rfl) (by kernel_rfl) (fun _ _ _ _ h => h) HS (fun K hK => ?_)
  go_simp
  refine hK.out _ ⟨_, by rfl, Or.inl ⟨by rfl, by intro w' hSw; (try dsimp only at hSw); go_simp⟩, ?_⟩
  clear hK K
  refine AnyK.take (i := 6) rfl (by decide) (by kernel_rfl) (by kernel_rfl) (by kernel_rfl) (fun _ _ _ _ h => h) HS (fun K hK => ?_)
  go_simp
  refine hK.out _ ⟨_, by rfl, Or.inl ⟨by rfl, by intro w' hSw; (try dsimp only at hSw); go_simp⟩, ?_⟩
  clear hK K
  refine AnyK.take (i := 7) rfl (by decide) (by kernel_rfl) (by kernel_rfl) (by kernel_rfl) (fun _ _ _ _ h => h) HS (fun K hK => ?_)
  go_simp
  refine hK.out _ ⟨_, by rfl, Or.inl ⟨by rfl, by intro w' hSw; (try dsimp only at hSw); go_simp⟩, ?_⟩
  clear hK K
  refine AnyK.take (i := 8) rfl (by decide) (by kernel_rfl) (by kernel_rfl) (by kernel_rfl) (fun _ _ _ _ h => h) HS (fun K hK => ?_)
  go_simp
  refine hK.out _ ⟨_, by rfl, Or.inl ⟨by rfl, by intro w' hSw; (try dsimp only at hSw); go_simp⟩, ?_⟩
  clear hK K
  refine AnyK.done (by kernel_rfl) ?_ _
  clear hl HS
  go_upto_region 5 with (fail)
  have SF : ∀ w' : World, Blk w' w.heap.size 98 #[.int .i64 17, .int .i64 a, .int .i64 b, .int .i64 c, .int .i64 k] → (fun w' : World => w'.cell? ⟨w.heap.size, 0, none⟩ = some (.int .i64 17) ∧ w'.cell? ⟨w.heap.size, 1, none⟩ = some (.int .i64 a) ∧ w'.cell? ⟨w.heap.size, 2, none⟩ = some (.int .i64 b) ∧ w'.cell? ⟨w.heap.size, 3, none⟩ = some (.int .i64 c) ∧ w'.cell? ⟨w.heap.size, 4, none⟩ = some (.int .i64 k)) w' := fun w' hI => ⟨by rw [hI.cell]; rfl, by rw [hI.cell]; rfl, by rw [hI.cell]; rfl, by rw [hI.cell]; rfl, by rw [hI.cell]; rfl⟩
  have HSF := Lib.hid SF
  refine region_K 7 (fun w' : World => w'.cell? ⟨w.heap.size, 0, none⟩ = some (.int .i64 17) ∧ w'.cell? ⟨w.heap.size, 1, none⟩ = some (.int .i64 a) ∧ w'.cell? ⟨w.heap.size, 2, none⟩ = some (.int .i64 b) ∧ w'.cell? ⟨w.heap.size, 3, none⟩ = some (.int .i64 c) ∧ w'.cell? ⟨w.heap.size, 4, none⟩ = some (.int .i64 k)) (by kernel_rfl) ?_
  have HU1 := Lib.hid HV1.out.drew
  have HU2 := Lib.hid HV2.out.drew
  have HU3 := Lib.hid HV3.out.drew
  have HFU := Lib.hid HFV.out.drew
  have HS : (fun w' : World => w'.cell? ⟨w.heap.size, 0, none⟩ = some (.int .i64 17) ∧ w'.cell? ⟨w.heap.size, 1, none⟩ = some (.int .i64 a) ∧ w'.cell? ⟨w.heap.size, 2, none⟩ = some (.int .i64 b) ∧ w'.cell? ⟨w.heap.size, 3, none⟩ = some (.int .i64 c) ∧ w'.cell? ⟨w.heap.size, 4, none⟩ = some (.int .i64 k)) w1.drew := SF _ HU2.out
  clear SF HV1 HV2 HV3 HFV
  generalize w1.drew = V1 at *
  refine AnyK.take (i := 1) rfl (by decide) (by kernel_rfl) (by kernel_rfl) (by kernel_rfl) (fun _ _ _ _ h => h) HS (fun K hK => ?_)
  go_simp
  refine hK.out _ ⟨_, by rfl, Or.inl ⟨by rfl, by intro w' hSw; (try dsimp only at hSw); go_simp⟩, ?_⟩
  clear hK K
  refine AnyK.take (i := 2) rfl (by decide) (by kernel_rfl) (by kernel_rfl) (by kernel_rfl) (fun _ _ _ _ h => h) HS (fun K hK => ?_)
  go_simp
  refine hK.out _ ⟨_, by rfl, Or.inl ⟨by rfl, by intro w' hSw; (try dsimp only at hSw); go_simp⟩, ?_⟩
  clear hK K
  refine AnyK.take (i := 4) rfl (by decide) (by kernel_rfl) (by kernel_rfl) (by kernel_rfl) (fun _ _ _ _ h => h) HS (fun K hK => ?_)
  go_simp
  refine hK.out _ ⟨_, by rfl, Or.inl ⟨by rfl, by intro w' hSw; (try dsimp only at hSw); go_simp⟩, ?_⟩
  clear hK K
  refine AnyK.take (i := 5) rfl (by decide) (by kernel_rfl) (by kernel_rfl) (by kernel_rfl) (fun _ _ _ _ h => h) HS (fun K hK => ?_)
  go_simp
  refine hK.out _ ⟨_, by rfl, Or.inl ⟨by rfl, by intro w' hSw; (try dsimp only at hSw); go_simp⟩, ?_⟩
  clear hK K
  refine AnyK.one (i := 0) rfl (by kernel_rfl) (fun K hK => ?_)
  go_simp
  refine (fx_any _).mono ?_
  rintro e w2 ⟨rfl, hw2⟩
  have hm : w2.heap[V1.heap.size]? = some (.map fxE 8) := by rw [hw2]; exact heap_alloc_new V1 _
  have hF1 : Fr None' V1 w2 := by rw [hw2]; exact (Fr.refl _ _).alloc _
  have HV1 := Lib.hid (HU1.out.fr hF1 (fun h => h))
  have HV2 := Lib.hid (HU2.out.fr hF1 (fun h => h))
  have HV3 := Lib.hid (HU3.out.fr hF1 (fun h => h))
  have HFV := Lib.hid (HFU.out.trans hF1)
  have hl : (Instr.lookup 140 (.map (some V1.heap.size)) (.int .i64 17) false).run Tryd.prog w2 = .ok (.func (.func 69) #[] #[]) w2 := look_fx w2 _ hm 17 (by decide)
  have HS := HSF.out w2 HV2.out
  generalize V1.heap.size = mc at *
  clear hF1 hm hw2 HU1 HU2 HU3 HFU
  try dsimp only
  refine hK.out _ _ (fun _ => HS) ?_
  clear hK K
  refine AnyK.one (i := 3) rfl (by kernel_rfl) (fun K hK => ?_)
  go_simp
  refine hK.out _ _ (fun _ => HS) ?_
  clear hK K HS hl
  refine AnyK.one (i := 6) rfl (by kernel_rfl) (fun K hK => ?_)
  go_simp
  refine (HOP.out _ HV1.out).mono ?_
  rintro e w3 ⟨rfl, hF2⟩
  have HS := HSF.out w3 (HV2.out.fr hF2 (fun h => h))
  have hE := HV3.out.fr hF2 (fun h => h)
  have HE := Lib.hid hE
  have HF2 := Lib.hid (HFV.out.trans hF2)
  clear HV1 HV2 HV3 HFV hF2 HOP
  refine hK.out _ _ (fun _ => HS) ?_
  clear hK K HSF HS
  unfold efC
  have e0 : w3.cell? ⟨(w.heap.size + 1), 0, none⟩ = some (.int .i64 0) := by rw [hE.cell]; rfl
  have y0 : w3.frozen? ⟨(w.heap.size + 1), 0, none⟩ = false := hE.frozen _
  have e1 : w3.cell? ⟨(w.heap.size + 1), 1, none⟩ = some (.int .i64 0) := by rw [hE.cell]; rfl
  have y1 : w3.frozen? ⟨(w.heap.size + 1), 1, none⟩ = false := hE.frozen _
  have e2 : w3.cell? ⟨(w.heap.size + 1), 2, none⟩ = some (.int .i64 0) := by rw [hE.cell]; rfl
  have y2 : w3.frozen? ⟨(w.heap.size + 1), 2, none⟩ = false := hE.frozen _
  have e3 : w3.cell? ⟨(w.heap.size + 1), 3, none⟩ = some (.int .i64 0) := by rw [hE.cell]; rfl
  have y3 : w3.frozen? ⟨(w.heap.size + 1), 3, none⟩ = false := hE.frozen _
  have e4 : w3.cell? ⟨(w.heap.size + 1), 4, none⟩ = some (.int .i64 0) := by rw [hE.cell]; rfl
  have y4 : w3.frozen? ⟨(w.heap.size + 1), 4, none⟩ = false := hE.frozen _
  have e5 : w3.cell? ⟨(w.heap.size + 1), 5, none⟩ = some (.int .i64 0) := by rw [hE.cell]; rfl
  have y5 : w3.frozen? ⟨(w.heap.size + 1), 5, none⟩ = false := hE.frozen _
  have e6 : w3.cell? ⟨(w.heap.size + 1), 6, none⟩ = some (nilS) := by rw [hE.cell]; rfl
  have y6 : w3.frozen? ⟨(w.heap.size + 1), 6, none⟩ = false := hE.frozen _
  have e7 : w3.cell? ⟨(w.heap.size + 1), 7, none⟩ = some (nilS) := by rw [hE.cell]; rfl
  have y7 : w3.frozen? ⟨(w.heap.size + 1), 7, none⟩ = false := hE.frozen _
  clear hE
  refine AnyK.one (i := 7) rfl (by kernel_rfl) (fun K hK => ?_)
  go_simp
  refine hK.out _ _ (fun h => absurd (h.symm.trans (by kernel_rfl : _ = true)) (by decide)) ?_
  clear hK K
  refine AnyK.done (by kernel_rfl) ?_ _
  go_wp2_with fail
  refine bodyPost_ret (results_cell_row rfl _ _ (w.heap.size + 1) 36 (efC (7) 0 a 0 0 0 nilS nilS) (0, 0) _ rfl (ef_stored (HE.out) _ _ _ _ _ _ _ _) Tryd.underlying36 rfl (by kernel_rfl)) rfl ?_
  exact ⟨rfl, ef_frame HF2.out (.inr (by omega)) _ _ _ _ _ _ _ _⟩
end Go.Proofs.YtadcenaafoemmaaDoor
