/-
  An operation that is not plain, as a turn does it, whatever it comes to. No condition.
-/
import Derived.Test.YtadcenaafoemmaaDoorF11p
namespace Go.Proofs.YtadcenaafoemmaaDoor
open Go.RowKit

set_option maxHeartbeats 8000000 in
set_option maxRecDepth 100000 in
theorem dox_future (w : World) (t F base : Nat) (htl : t < w.heap.size) (hFl : F < w.heap.size) (fn at0 st : Int) (pv : Value) (regs0 hands : List Int) (pg : Value) (bud dep : Int) (x : XO) (a b c k : Int)
    (HOP : Hid (∀ W, Fr None' w W → Calls Tryd.prog 65 #[.pointer (some ⟨t, 0, none⟩), .agg #[.int .i64 13, .int .i64 a, .int .i64 b, .int .i64 c, .int .i64 k]] W (DoPost W base t F fn at0 st pv regs0 hands pg bud dep x))) :
    Calls Tryd.prog 28 #[.pointer (some ⟨t, 0, none⟩), .agg #[.int .i64 13, .int .i64 a, .int .i64 b, .int .i64 c, .int .i64 k]] w (DoPost w base t F fn at0 st pv regs0 hands pg bud dep x) := by
  go_enter Tryd.func28, Tryd.ntmps28
  go_upto_region 1 with (fail)
  generalize hW0 : ((w.alloc (.cells _ 98)).alloc (.cells _ 36)) = W0
  have hI : Blk W0 w.heap.size 98 #[.int .i64 13, .int .i64 a, .int .i64 b, .int .i64 c, .int .i64 k] := by rw [← hW0]; exact (Blk.new _ _ _).alloc _
  have hE : Blk W0 (w.heap.size + 1) 36 efZ := by
    have h := Blk.new (w.alloc (.cells #[.int .i64 13, .int .i64 a, .int .i64 b, .int .i64 c, .int .i64 k] 98)) 36 efZ
    rw [show (w.alloc (.cells #[.int .i64 13, .int .i64 a, .int .i64 b, .int .i64 c, .int .i64 k] 98)).heap.size = w.heap.size + 1 by simp] at h
    rw [← hW0]; exact h
  have hF : Fr None' w W0 := by rw [← hW0]; exact ((Fr.refl _ _).alloc _).alloc _
  have i0 : W0.drew.cell? ⟨w.heap.size, 0, none⟩ = some (.int .i64 13) := by rw [hI.drew.cell]; rfl
  have HB2 := Lib.hid hI.drew
  have HB3 := Lib.hid hE.drew
  have HF0 := Lib.hid hF.drew
  clear hI hE hF hW0
  refine region_K 9 (fun w' : World => w'.cell? ⟨w.heap.size, 0, none⟩ = some (.int .i64 13)) (by kernel_rfl) ?_
  have HS : (fun w' : World => w'.cell? ⟨w.heap.size, 0, none⟩ = some (.int .i64 13)) W0.drew := i0
  generalize W0.drew = V at *
  refine AnyK.take (i := 1) rfl (by decide) (by kernel_rfl) (by kernel_rfl) (by kernel_rfl) (fun _ _ _ _ h => h) HS (fun K hK => ?_)
  go_simp
  refine hK.out _ ⟨_, by rfl, Or.inl ⟨by rfl, by intro w' hSw; (try dsimp only at hSw); go_simp⟩, ?_⟩
  clear hK K
  refine AnyK.take (i := 2) rfl (by decide) (by kernel_rfl) (by kernel_rfl) (by kernel_rfl) (fun _ _ _ _ h => h) HS (fun K hK => ?_)
  go_simp
  refine hK.out _ ⟨_, by rfl, Or.inl ⟨by rfl, by intro w' hSw; (try dsimp only at hSw); go_simp⟩, ?_⟩
  clear hK K
  refine AnyK.one (i := 0) rfl (by kernel_rfl) (fun K hK => ?_)
  go_simp
  refine (pl_any _).mono ?_
  rintro e w1 ⟨rfl, hw1⟩
  have hm : w1.heap[V.heap.size]? = some (.map plE 9) := by rw [hw1]; exact heap_alloc_new V _
  have hF1 : Fr None' V w1 := by rw [hw1]; exact (Fr.refl _ _).alloc _
  have HV2 := Lib.hid (HB2.out.fr hF1 (fun h => h))
  have HV3 := Lib.hid (HB3.out.fr hF1 (fun h => h))
  have HFV := Lib.hid (HF0.out.trans hF1)
  have hl : (Instr.lookup 128 (.map (some V.heap.size)) (.int .i64 13) true).run Tryd.prog w1 = .ok (.tuple #[.nilFunc, .bool false]) w1 := look_pl w1 _ hm 13 (by decide)
  have HS : (fun w' : World => w'.cell? ⟨w.heap.size, 0, none⟩ = some (.int .i64 13)) w1 := by show w1.cell? _ = _; rw [HV2.out.cell]; rfl
  generalize V.heap.size = mb at *
  clear hF1 hm hw1 HB2 HB3 HF0
  try dsimp only
  refine hK.out _ _ (fun _ => HS) ?_
  clear hK K
  refine AnyK.one (i := 3) rfl (by kernel_rfl) (fun K hK => ?_)
  go_simp
  refine hK.out _ _ (fun _ => HS) ?_
  clear hK K
  refine AnyK.take (i := 4) rfl (by decide) (by kernel_rfl) (by kernel_rfl) (by kernel_rfl) (fun _ _ _ _ h => h) HS (fun K hK => ?_)
  go_simp
  refine hK.out _ ⟨_, by rfl, Or.inl ⟨by rfl, by intro w' hSw; (try dsimp only at hSw); go_simp⟩, ?_⟩
  clear hK K
  refine AnyK.take (i := 5) rfl (by decide) (by kernel_rfl) (by kernel_rfl) (by kernel_rfl) (fun _ _ _ _ h => h) HS (fun K hK => ?_)
  go_simp
  refine hK.out _ ⟨_, by rfl, Or.inl ⟨by rfl, by intro w' hSw; (try dsimp only at hSw); go_simp⟩, ?_⟩
  clear hK K
  refine AnyK.take (i := 6) rfl (by decide) (by kernel_rfl) (by kernel_rfl) (by kernel_rfl) (fun _ _ _ _ h => h) HS (fun K hK => ?_)
  go_simp
  refine hK.out _ ⟨_, by rfl, Or.inl ⟨by rfl, by intro w' hSw; (try dsimp only at hSw); go_simp⟩, ?_⟩
  clear hK K
  refine AnyK.take (i := 7) rfl (by decide) (by kernel_rfl) (by kernel_rfl) (by kernel_rfl) (fun _ _ _ _ h => h) HS (fun K hK => ?_)
  go_simp
  refine hK.out _ ⟨_, by rfl, Or.inl ⟨by rfl, by intro w' hSw; (try dsimp only at hSw); go_simp⟩, ?_⟩
  clear hK K
  refine AnyK.take (i := 8) rfl (by decide) (by kernel_rfl) (by kernel_rfl) (by kernel_rfl) (fun _ _ _ _ h => h) HS (fun K hK => ?_)
  go_simp
  refine hK.out _ ⟨_, by rfl, Or.inl ⟨by rfl, by intro w' hSw; (try dsimp only at hSw); go_simp⟩, ?_⟩
  clear hK K
  refine AnyK.done (by kernel_rfl) ?_ _
  clear hl HS
  go_upto_region 5 with (fail)
  have SF : ∀ w' : World, Blk w' w.heap.size 98 #[.int .i64 13, .int .i64 a, .int .i64 b, .int .i64 c, .int .i64 k] → (fun w' : World => w'.cell? ⟨w.heap.size, 0, none⟩ = some (.int .i64 13) ∧ w'.cell? ⟨w.heap.size, 1, none⟩ = some (.int .i64 a) ∧ w'.cell? ⟨w.heap.size, 2, none⟩ = some (.int .i64 b) ∧ w'.cell? ⟨w.heap.size, 3, none⟩ = some (.int .i64 c) ∧ w'.cell? ⟨w.heap.size, 4, none⟩ = some (.int .i64 k)) w' := fun w' hI => ⟨by rw [hI.cell]; rfl, by rw [hI.cell]; rfl, by rw [hI.cell]; rfl, by rw [hI.cell]; rfl, by rw [hI.cell]; rfl⟩
  have HSF := Lib.hid SF
  refine region_K 7 (fun w' : World => w'.cell? ⟨w.heap.size, 0, none⟩ = some (.int .i64 13) ∧ w'.cell? ⟨w.heap.size, 1, none⟩ = some (.int .i64 a) ∧ w'.cell? ⟨w.heap.size, 2, none⟩ = some (.int .i64 b) ∧ w'.cell? ⟨w.heap.size, 3, none⟩ = some (.int .i64 c) ∧ w'.cell? ⟨w.heap.size, 4, none⟩ = some (.int .i64 k)) (by kernel_rfl) ?_
  have HU2 := Lib.hid HV2.out.drew
  have HU3 := Lib.hid HV3.out.drew
  have HFU := Lib.hid HFV.out.drew
  have HS : (fun w' : World => w'.cell? ⟨w.heap.size, 0, none⟩ = some (.int .i64 13) ∧ w'.cell? ⟨w.heap.size, 1, none⟩ = some (.int .i64 a) ∧ w'.cell? ⟨w.heap.size, 2, none⟩ = some (.int .i64 b) ∧ w'.cell? ⟨w.heap.size, 3, none⟩ = some (.int .i64 c) ∧ w'.cell? ⟨w.heap.size, 4, none⟩ = some (.int .i64 k)) w1.drew := SF _ HU2.out
  clear SF HV2 HV3 HFV
  generalize w1.drew = V1 at *
  refine AnyK.take (i := 1) rfl (by decide) (by kernel_rfl) (by kernel_rfl) (by kernel_rfl) (fun _ _ _ _ h => h) HS (fun K hK => ?_)
  go_simp
  refine hK.out _ ⟨_, by rfl, Or.inl ⟨by rfl, by intro w' hSw; (try dsimp only at hSw); go_simp⟩, ?_⟩
  clear hK K
  refine AnyK.take (i := 2) rfl (by decide) (by kernel_rfl) (by kernel_rfl) (by kernel_rfl) (fun _ _ _ _ h => h) HS (fun K hK => ?_)
  go_simp
  refine hK.out _ ⟨_, by rfl, Or.inl ⟨by rfl, by intro w' hSw; (try dsimp only at hSw); go_simp⟩, ?_⟩
  clear hK K
  refine AnyK.take (i := 4) rfl (by decide) (by kernel_rfl) (by kernel_rfl) (by kernel_rfl) (fun _ _ _ _ h => h) HS (fun K hK => ?_)
  go_simp
  refine hK.out _ ⟨_, by rfl, Or.inl ⟨by rfl, by intro w' hSw; (try dsimp only at hSw); go_simp⟩, ?_⟩
  clear hK K
  refine AnyK.take (i := 5) rfl (by decide) (by kernel_rfl) (by kernel_rfl) (by kernel_rfl) (fun _ _ _ _ h => h) HS (fun K hK => ?_)
  go_simp
  refine hK.out _ ⟨_, by rfl, Or.inl ⟨by rfl, by intro w' hSw; (try dsimp only at hSw); go_simp⟩, ?_⟩
  clear hK K
  refine AnyK.one (i := 0) rfl (by kernel_rfl) (fun K hK => ?_)
  go_simp
  refine (fx_any _).mono ?_
  rintro e w2 ⟨rfl, hw2⟩
  have hm : w2.heap[V1.heap.size]? = some (.map fxE 8) := by rw [hw2]; exact heap_alloc_new V1 _
  have hF1 : Fr None' V1 w2 := by rw [hw2]; exact (Fr.refl _ _).alloc _
  have HV2 := Lib.hid (HU2.out.fr hF1 (fun h => h))
  have HV3 := Lib.hid (HU3.out.fr hF1 (fun h => h))
  have HFV := Lib.hid (HFU.out.trans hF1)
  have hl : (Instr.lookup 140 (.map (some V1.heap.size)) (.int .i64 13) false).run Tryd.prog w2 = .ok (.func (.func 65) #[] #[]) w2 := look_fx w2 _ hm 13 (by decide)
  have HS := HSF.out w2 HV2.out
  generalize V1.heap.size = mc at *
  clear hF1 hm hw2 HU2 HU3 HFU
  try dsimp only
  refine hK.out _ _ (fun _ => HS) ?_
  clear hK K
  refine AnyK.one (i := 3) rfl (by kernel_rfl) (fun K hK => ?_)
  go_simp
  refine hK.out _ _ (fun _ => HS) ?_
  clear hK K HS hl
  refine AnyK.one (i := 6) rfl (by kernel_rfl) (fun K hK => ?_)
  go_simp
  refine (HOP.out _ HFV.out).mono ?_
  rintro e w3 ⟨ea, ep, rfl, hEF, hT, hFB, hF2⟩
  obtain ⟨⟨Aa, ca, rfl⟩, Ap, cp, rfl⟩ := hEF.slices
  have HS := HSF.out w3 (HV2.out.fr hF2 (by omega))
  have hE := HV3.out.fr hF2 (by omega)
  have HE := Lib.hid hE
  have HEF := Lib.hid hEF
  have HT := Lib.hid hT
  have HFB := Lib.hid hFB
  have HF2 : Hid (Fr (fun k => k = t ∨ k = F) w w3) := Lib.hid ((HFV.out.mono (fun _ h => h.elim)).trans hF2)
  clear HV2 HV3 HFV hF2 HOP hEF hT hFB
  refine hK.out _ _ (fun _ => HS) ?_
  clear hK K HSF HS
  unfold efC
  have e0 : w3.cell? ⟨(w.heap.size + 1), 0, none⟩ = some (.int .i64 0) := by rw [hE.cell]; rfl
  have y0 : w3.frozen? ⟨(w.heap.size + 1), 0, none⟩ = false := hE.frozen _
  have e1 : w3.cell? ⟨(w.heap.size + 1), 1, none⟩ = some (.int .i64 0) := by rw [hE.cell]; rfl
  have y1 : w3.frozen? ⟨(w.heap.size + 1), 1, none⟩ = false := hE.frozen _
  have e2 : w3.cell? ⟨(w.heap.size + 1), 2, none⟩ = some (.int .i64 0) := by rw [hE.cell]; rfl
  have y2 : w3.frozen? ⟨(w.heap.size + 1), 2, none⟩ = false := hE.frozen _
  have e3 : w3.cell? ⟨(w.heap.size + 1), 3, none⟩ = some (.int .i64 0) := by rw [hE.cell]; rfl
  have y3 : w3.frozen? ⟨(w.heap.size + 1), 3, none⟩ = false := hE.frozen _
  have e4 : w3.cell? ⟨(w.heap.size + 1), 4, none⟩ = some (.int .i64 0) := by rw [hE.cell]; rfl
  have y4 : w3.frozen? ⟨(w.heap.size + 1), 4, none⟩ = false := hE.frozen _
  have e5 : w3.cell? ⟨(w.heap.size + 1), 5, none⟩ = some (.int .i64 0) := by rw [hE.cell]; rfl
  have y5 : w3.frozen? ⟨(w.heap.size + 1), 5, none⟩ = false := hE.frozen _
  have e6 : w3.cell? ⟨(w.heap.size + 1), 6, none⟩ = some (nilS) := by rw [hE.cell]; rfl
  have y6 : w3.frozen? ⟨(w.heap.size + 1), 6, none⟩ = false := hE.frozen _
  have e7 : w3.cell? ⟨(w.heap.size + 1), 7, none⟩ = some (nilS) := by rw [hE.cell]; rfl
  have y7 : w3.frozen? ⟨(w.heap.size + 1), 7, none⟩ = false := hE.frozen _
  clear hE
  refine AnyK.one (i := 7) rfl (by kernel_rfl) (fun K hK => ?_)
  go_simp
  refine hK.out _ _ (fun h => absurd (h.symm.trans (by kernel_rfl : _ = true)) (by decide)) ?_
  clear hK K
  refine AnyK.done (by kernel_rfl) ?_ _
  go_wp2_with fail
  refine bodyPost_ret (results_cell_row rfl _ _ (w.heap.size + 1) 36 (efC x.ef.kind x.ef.value x.ef.reg x.ef.fn x.ef.hand x.ef.why _ _) (0, 0) _ rfl (ef_stored (HE.out) _ _ _ _ _ _ _ _) Tryd.underlying36 rfl (by kernel_rfl)) rfl ?_
  refine ⟨_, _, rfl, EfAt.fr HEF.out (ef_frame (Fr.refl (At (w.heap.size + 1)) _) (.inl rfl) _ _ _ _ _ _ _ _) (fun k t' cs hk ht' hg' => ?_), HT.out.fr (ef_frame (Fr.refl (At (w.heap.size + 1)) _) (.inl rfl) _ _ _ _ _ _ _ _) (by show ¬ t = _; omega), HFB.out.fr (ef_frame (Fr.refl (At (w.heap.size + 1)) _) (.inl rfl) _ _ _ _ _ _ _ _) (by show ¬ F = _; omega), ef_frame HF2.out (.inr (by omega)) _ _ _ _ _ _ _ _⟩
  have hg' : k = w.heap.size + 1 := hg'
  subst hg'
  rcases ht' with rfl | rfl
  · exact Blk.ne_ hk HE.out (by decide) rfl
  · exact Blk.ne_ hk HE.out (by decide) rfl
end Go.Proofs.YtadcenaafoemmaaDoor

/-
  An operation that is not plain, as a turn does it, whatever it comes to. No condition.
-/
namespace Go.Proofs.YtadcenaafoemmaaDoor
open Go.RowKit

set_option maxHeartbeats 8000000 in
set_option maxRecDepth 100000 in
theorem dox_touch (w : World) (t F base : Nat) (htl : t < w.heap.size) (hFl : F < w.heap.size) (fn at0 st : Int) (pv : Value) (regs0 hands : List Int) (pg : Value) (bud dep : Int) (x : XO) (a b c k : Int)
    (HOP : Hid (∀ W, Fr None' w W → Calls Tryd.prog 66 #[.pointer (some ⟨t, 0, none⟩), .agg #[.int .i64 14, .int .i64 a, .int .i64 b, .int .i64 c, .int .i64 k]] W (DoPost W base t F fn at0 st pv regs0 hands pg bud dep x))) :
    Calls Tryd.prog 28 #[.pointer (some ⟨t, 0, none⟩), .agg #[.int .i64 14, .int .i64 a, .int .i64 b, .int .i64 c, .int .i64 k]] w (DoPost w base t F fn at0 st pv regs0 hands pg bud dep x) := by
  go_enter Tryd.func28, Tryd.ntmps28
  go_upto_region 1 with (fail)
  generalize hW0 : ((w.alloc (.cells _ 98)).alloc (.cells _ 36)) = W0
  have hI : Blk W0 w.heap.size 98 #[.int .i64 14, .int .i64 a, .int .i64 b, .int .i64 c, .int .i64 k] := by rw [← hW0]; exact (Blk.new _ _ _).alloc _
  have hE : Blk W0 (w.heap.size + 1) 36 efZ := by
    have h := Blk.new (w.alloc (.cells #[.int .i64 14, .int .i64 a, .int .i64 b, .int .i64 c, .int .i64 k] 98)) 36 efZ
    rw [show (w.alloc (.cells #[.int .i64 14, .int .i64 a, .int .i64 b, .int .i64 c, .int .i64 k] 98)).heap.size = w.heap.size + 1 by simp] at h
    rw [← hW0]; exact h
  have hF : Fr None' w W0 := by rw [← hW0]; exact ((Fr.refl _ _).alloc _).alloc _
  have i0 : W0.drew.cell? ⟨w.heap.size, 0, none⟩ = some (.int .i64 14) := by rw [hI.drew.cell]; rfl
  have HB2 := Lib.hid hI.drew
  have HB3 := Lib.hid hE.drew
  have HF0 := Lib.hid hF.drew
  clear hI hE hF hW0
  refine region_K 9 (fun w' : World => w'.cell? ⟨w.heap.size, 0, none⟩ = some (.int .i64 14)) (by kernel_rfl) ?_
  have HS : (fun w' : World => w'.cell? ⟨w.heap.size, 0, none⟩ = some (.int .i64 14)) W0.drew := i0
  generalize W0.drew = V at *
  refine AnyK.take (i := 1) rfl (by decide) (by kernel_rfl) (by kernel_rfl) (by kernel_rfl) (fun _ _ _ _ h => h) HS (fun K hK => ?_)
  go_simp
  refine hK.out _ ⟨_, by rfl, Or.inl ⟨by rfl, by intro w' hSw; (try dsimp only at hSw); go_simp⟩, ?_⟩
  clear hK K
  refine AnyK.take (i := 2) rfl (by decide) (by kernel_rfl) (by kernel_rfl) (by kernel_rfl) (fun _ _ _ _ h => h) HS (fun K hK => ?_)
  go_simp
  refine hK.out _ ⟨_, by rfl, Or.inl ⟨by rfl, by intro w' hSw; (try dsimp only at hSw); go_simp⟩, ?_⟩
  clear hK K
  refine AnyK.one (i := 0) rfl (by kernel_rfl) (fun K hK => ?_)
  go_simp
  refine (pl_any _).mono ?_
  rintro e w1 ⟨rfl, hw1⟩
  have hm : w1.heap[V.heap.size]? = some (.map plE 9) := by rw [hw1]; exact heap_alloc_new V _
  have hF1 : Fr None' V w1 := by rw [hw1]; exact (Fr.refl _ _).alloc _
  have HV2 := Lib.hid (HB2.out.fr hF1 (fun h => h))
  have HV3 := Lib.hid (HB3.out.fr hF1 (fun h => h))
  have HFV := Lib.hid (HF0.out.trans hF1)
  have hl : (Instr.lookup 128 (.map (some V.heap.size)) (.int .i64 14) true).run Tryd.prog w1 = .ok (.tuple #[.nilFunc, .bool false]) w1 := look_pl w1 _ hm 14 (by decide)
  have HS : (fun w' : World => w'.cell? ⟨w.heap.size, 0, none⟩ = some (.int .i64 14)) w1 := by show w1.cell? _ = _; rw [HV2.out.cell]; rfl
  generalize V.heap.size = mb at *
  clear hF1 hm hw1 HB2 HB3 HF0
  try dsimp only
  refine hK.out _ _ (fun _ => HS) ?_
  clear hK K
  refine AnyK.one (i := 3) rfl (by kernel_rfl) (fun K hK => ?_)
  go_simp
  refine hK.out _ _ (fun _ => HS) ?_
  clear hK K
  refine AnyK.take (i := 4) rfl (by decide) (by kernel_rfl) (by kernel_rfl) (by kernel_rfl) (fun _ _ _ _ h => h) HS (fun K hK => ?_)
  go_simp
  refine hK.out _ ⟨_, by rfl, Or.inl ⟨by rfl, by intro w' hSw; (try dsimp only at hSw); go_simp⟩, ?_⟩
  clear hK K
  refine AnyK.take (i := 5) rfl (by decide) (by kernel_rfl) (by kernel_rfl) (by kernel_rfl) (fun _ _ _ _ h => h) HS (fun K hK => ?_)
  go_simp
  refine hK.out _ ⟨_, by rfl, Or.inl ⟨by rfl, by intro w' hSw; (try dsimp only at hSw); go_simp⟩, ?_⟩
  clear hK K
  refine AnyK.take (i := 6) rfl (by decide) (by kernel_rfl) (by kernel_rfl) (by kernel_rfl) (fun _ _ _ _ h => h) HS (fun K hK => ?_)
  go_simp
  refine hK.out _ ⟨_, by rfl, Or.inl ⟨by rfl, by intro w' hSw; (try dsimp only at hSw); go_simp⟩, ?_⟩
  clear hK K
  refine AnyK.take (i := 7) rfl (by decide) (by kernel_rfl) (by kernel_rfl) (by kernel_rfl) (fun _ _ _ _ h => h) HS (fun K hK => ?_)
  go_simp
  refine hK.out _ ⟨_, by rfl, Or.inl ⟨by rfl, by intro w' hSw; (try dsimp only at hSw); go_simp⟩, ?_⟩
  clear hK K
  refine AnyK.take (i := 8) rfl (by decide) (by kernel_rfl) (by kernel_rfl) (by kernel_rfl) (fun _ _ _ _ h => h) HS (fun K hK => ?_)
  go_simp
  refine hK.out _ ⟨_, by rfl, Or.inl ⟨by rfl, by intro w' hSw; (try dsimp only at hSw); go_simp⟩, ?_⟩
  clear hK K
  refine AnyK.done (by kernel_rfl) ?_ _
  clear hl HS
  go_upto_region 5 with (fail)
  have SF : ∀ w' : World, Blk w' w.heap.size 98 #[.int .i64 14, .int .i64 a, .int .i64 b, .int .i64 c, .int .i64 k] → (fun w' : World => w'.cell? ⟨w.heap.size, 0, none⟩ = some (.int .i64 14) ∧ w'.cell? ⟨w.heap.size, 1, none⟩ = some (.int .i64 a) ∧ w'.cell? ⟨w.heap.size, 2, none⟩ = some (.int .i64 b) ∧ w'.cell? ⟨w.heap.size, 3, none⟩ = some (.int .i64 c) ∧ w'.cell? ⟨w.heap.size, 4, none⟩ = some (.int .i64 k)) w' := fun w' hI => ⟨by rw [hI.cell]; rfl, by rw [hI.cell]; rfl, by rw [hI.cell]; rfl, by rw [hI.cell]; rfl, by rw [hI.cell]; rfl⟩
  have HSF := Lib.hid SF
  refine region_K 7 (fun w' : World => w'.cell? ⟨w.heap.size, 0, none⟩ = some (.int .i64 14) ∧ w'.cell? ⟨w.heap.size, 1, none⟩ = some (.int .i64 a) ∧ w'.cell? ⟨w.heap.size, 2, none⟩ = some (.int .i64 b) ∧ w'.cell? ⟨w.heap.size, 3, none⟩ = some (.int .i64 c) ∧ w'.cell? ⟨w.heap.size, 4, none⟩ = some (.int .i64 k)) (by kernel_rfl) ?_
  have HU2 := Lib.hid HV2.out.drew
  have HU3 := Lib.hid HV3.out.drew
  have HFU := Lib.hid HFV.out.drew
  have HS : (fun w' : World => w'.cell? ⟨w.heap.size, 0, none⟩ = some (.int .i64 14) ∧ w'.cell? ⟨w.heap.size, 1, none⟩ = some (.int .i64 a) ∧ w'.cell? ⟨w.heap.size, 2, none⟩ = some (.int .i64 b) ∧ w'.cell? ⟨w.heap.size, 3, none⟩ = some (.int .i64 c) ∧ w'.cell? ⟨w.heap.size, 4, none⟩ = some (.int .i64 k)) w1.drew := SF _ HU2.out
  clear SF HV2 HV3 HFV
  generalize w1.drew = V1 at *
  refine AnyK.take (i := 1) rfl (by decide) (by kernel_rfl) (by kernel_rfl) (by kernel_rfl) (fun _ _ _ _ h => h) HS (fun K hK => ?_)
  go_simp
  refine hK.out _ ⟨_, by rfl, Or.inl ⟨by rfl, by intro w' hSw; (try dsimp only at hSw); go_simp⟩, ?_⟩
  clear hK K
  refine AnyK.take (i := 2) rfl (by decide) (by kernel_rfl) (by kernel_rfl) (by kernel_rfl) (fun _ _ _ _ h => h) HS (fun K hK => ?_)
  go_simp
  refine hK.out _ ⟨_, by rfl, Or.inl ⟨by rfl, by intro w' hSw; (try dsimp only at hSw); go_simp⟩, ?_⟩
  clear hK K
  refine AnyK.take (i := 4) rfl (by decide) (by kernel_rfl) (by kernel_rfl) (by kernel_rfl) (fun _ _ _ _ h => h) HS (fun K hK => ?_)
  go_simp
  refine hK.out _ ⟨_, by rfl, Or.inl ⟨by rfl, by intro w' hSw; (try dsimp only at hSw); go_simp⟩, ?_⟩
  clear hK K
  refine AnyK.take (i := 5) rfl (by decide) (by kernel_rfl) (by kernel_rfl) (by kernel_rfl) (fun _ _ _ _ h => h) HS (fun K hK => ?_)
  go_simp
  refine hK.out _ ⟨_, by rfl, Or.inl ⟨by rfl, by intro w' hSw; (try dsimp only at hSw); go_simp⟩, ?_⟩
  clear hK K
  refine AnyK.one (i := 0) rfl (by kernel_rfl) (fun K hK => ?_)
  go_simp
  refine (fx_any _).mono ?_
  rintro e w2 ⟨rfl, hw2⟩
  have hm : w2.heap[V1.heap.size]? = some (.map fxE 8) := by rw [hw2]; exact heap_alloc_new V1 _
  have hF1 : Fr None' V1 w2 := by rw [hw2]; exact (Fr.refl _ _).alloc _
  have HV2 := Lib.hid (HU2.out.fr hF1 (fun h => h))
  have HV3 := Lib.hid (HU3.out.fr hF1 (fun h => h))
  have HFV := Lib.hid (HFU.out.trans hF1)
  have hl : (Instr.lookup 140 (.map (some V1.heap.size)) (.int .i64 14) false).run Tryd.prog w2 = .ok (.func (.func 66) #[] #[]) w2 := look_fx w2 _ hm 14 (by decide)
  have HS := HSF.out w2 HV2.out
  generalize V1.heap.size = mc at *
  clear hF1 hm hw2 HU2 HU3 HFU
  try dsimp only
  refine hK.out _ _ (fun _ => HS) ?_
  clear hK K
  refine AnyK.one (i := 3) rfl (by kernel_rfl) (fun K hK => ?_)
  go_simp
  refine hK.out _ _ (fun _ => HS) ?_
  clear hK K HS hl
  refine AnyK.one (i := 6) rfl (by kernel_rfl) (fun K hK => ?_)
  go_simp
  refine (HOP.out _ HFV.out).mono ?_
  rintro e w3 ⟨ea, ep, rfl, hEF, hT, hFB, hF2⟩
  obtain ⟨⟨Aa, ca, rfl⟩, Ap, cp, rfl⟩ := hEF.slices
  have HS := HSF.out w3 (HV2.out.fr hF2 (by omega))
  have hE := HV3.out.fr hF2 (by omega)
  have HE := Lib.hid hE
  have HEF := Lib.hid hEF
  have HT := Lib.hid hT
  have HFB := Lib.hid hFB
  have HF2 : Hid (Fr (fun k => k = t ∨ k = F) w w3) := Lib.hid ((HFV.out.mono (fun _ h => h.elim)).trans hF2)
  clear HV2 HV3 HFV hF2 HOP hEF hT hFB
  refine hK.out _ _ (fun _ => HS) ?_
  clear hK K HSF HS
  unfold efC
  have e0 : w3.cell? ⟨(w.heap.size + 1), 0, none⟩ = some (.int .i64 0) := by rw [hE.cell]; rfl
  have y0 : w3.frozen? ⟨(w.heap.size + 1), 0, none⟩ = false := hE.frozen _
  have e1 : w3.cell? ⟨(w.heap.size + 1), 1, none⟩ = some (.int .i64 0) := by rw [hE.cell]; rfl
  have y1 : w3.frozen? ⟨(w.heap.size + 1), 1, none⟩ = false := hE.frozen _
  have e2 : w3.cell? ⟨(w.heap.size + 1), 2, none⟩ = some (.int .i64 0) := by rw [hE.cell]; rfl
  have y2 : w3.frozen? ⟨(w.heap.size + 1), 2, none⟩ = false := hE.frozen _
  have e3 : w3.cell? ⟨(w.heap.size + 1), 3, none⟩ = some (.int .i64 0) := by rw [hE.cell]; rfl
  have y3 : w3.frozen? ⟨(w.heap.size + 1), 3, none⟩ = false := hE.frozen _
  have e4 : w3.cell? ⟨(w.heap.size + 1), 4, none⟩ = some (.int .i64 0) := by rw [hE.cell]; rfl
  have y4 : w3.frozen? ⟨(w.heap.size + 1), 4, none⟩ = false := hE.frozen _
  have e5 : w3.cell? ⟨(w.heap.size + 1), 5, none⟩ = some (.int .i64 0) := by rw [hE.cell]; rfl
  have y5 : w3.frozen? ⟨(w.heap.size + 1), 5, none⟩ = false := hE.frozen _
  have e6 : w3.cell? ⟨(w.heap.size + 1), 6, none⟩ = some (nilS) := by rw [hE.cell]; rfl
  have y6 : w3.frozen? ⟨(w.heap.size + 1), 6, none⟩ = false := hE.frozen _
  have e7 : w3.cell? ⟨(w.heap.size + 1), 7, none⟩ = some (nilS) := by rw [hE.cell]; rfl
  have y7 : w3.frozen? ⟨(w.heap.size + 1), 7, none⟩ = false := hE.frozen _
  clear hE
  refine AnyK.one (i := 7) rfl (by kernel_rfl) (fun K hK => ?_)
  go_simp
  refine hK.out _ _ (fun h => absurd (h.symm.trans (by kernel_rfl : _ = true)) (by decide)) ?_
  clear hK K
  refine AnyK.done (by kernel_rfl) ?_ _
  go_wp2_with fail
  refine bodyPost_ret (results_cell_row rfl _ _ (w.heap.size + 1) 36 (efC x.ef.kind x.ef.value x.ef.reg x.ef.fn x.ef.hand x.ef.why _ _) (0, 0) _ rfl (ef_stored (HE.out) _ _ _ _ _ _ _ _) Tryd.underlying36 rfl (by kernel_rfl)) rfl ?_
  refine ⟨_, _, rfl, EfAt.fr HEF.out (ef_frame (Fr.refl (At (w.heap.size + 1)) _) (.inl rfl) _ _ _ _ _ _ _ _) (fun k t' cs hk ht' hg' => ?_), HT.out.fr (ef_frame (Fr.refl (At (w.heap.size + 1)) _) (.inl rfl) _ _ _ _ _ _ _ _) (by show ¬ t = _; omega), HFB.out.fr (ef_frame (Fr.refl (At (w.heap.size + 1)) _) (.inl rfl) _ _ _ _ _ _ _ _) (by show ¬ F = _; omega), ef_frame HF2.out (.inr (by omega)) _ _ _ _ _ _ _ _⟩
  have hg' : k = w.heap.size + 1 := hg'
  subst hg'
  rcases ht' with rfl | rfl
  · exact Blk.ne_ hk HE.out (by decide) rfl
  · exact Blk.ne_ hk HE.out (by decide) rfl
end Go.Proofs.YtadcenaafoemmaaDoor

/-
  What each operation comes to, as plain data. No condition.
-/
namespace Go.Proofs.YtadcenaafoemmaaDoor
open Go.RowKit

def gE : EF := ⟨1, 0, 0, 0, 0, 0, [], []⟩
def failE (why : Int) : EF := ⟨8, 0, 0, 0, 0, why, [], []⟩
def bgE (op a c : Nat) (args path : List Int) : EF := if op = 11 then ⟨3, 0, a, c, 0, 0, args, path⟩ else ⟨4, 0, 0, c, a, 0, args, path⟩
/-- What an operation comes to. -/
def xstep (op a b c : Nat) (k : Int) (ar : Nat) (at_ kd dep : Int) (regs hands path : List Int) : XO :=
  match op with
  | 1 => ⟨gE, at_, regs.set a k, kd⟩
  | 2 => ⟨gE, at_, regs.set a (regs.getD b 0), kd⟩
  | 3 => ⟨gE, at_, regs.set a (wrap64 (regs.getD b 0 + regs.getD c 0)), kd⟩
  | 4 => ⟨gE, at_, regs.set a (wrap64 (regs.getD b 0 - regs.getD c 0)), kd⟩
  | 5 => ⟨gE, at_, regs.set a (wrap64 (regs.getD b 0 * regs.getD c 0)), kd⟩
  | 6 => if regs.getD c 0 = 0 then ⟨failE 1, at_, regs, kd⟩ else ⟨gE, at_, regs.set a (wrap64 ((regs.getD b 0).tdiv (regs.getD c 0))), kd⟩
  | 7 => ⟨gE, at_, regs.set a (boolI (decide (regs.getD b 0 < regs.getD c 0))), kd⟩
  | 8 => ⟨gE, at_, regs.set a (boolI (regs.getD b 0 == regs.getD c 0)), kd⟩
  | 9 => ⟨gE, k, regs, kd⟩
  | 10 => ⟨gE, zeroTo (regs.getD a 0) k at_, regs, kd⟩
  | 11 => if dep ≤ path.length then ⟨failE 4, at_, regs, kd⟩ else ⟨bgE 11 a c ((regs.drop b).take ar) (path ++ [kd]), at_, regs, wrap64 (kd + 1)⟩
  | 12 => ⟨⟨5, 0, 0, 0, 0, 0, [], []⟩, at_, regs, kd⟩
  | 13 => if dep ≤ path.length then ⟨failE 4, at_, regs, kd⟩ else ⟨bgE 13 a c ((regs.drop b).take ar) (path ++ [kd]), at_, regs, wrap64 (kd + 1)⟩
  | 14 => if hands.getD b 0 = 0 then ⟨failE 2, at_, regs, kd⟩ else ⟨⟨6, 0, a, 0, hands.getD b 0, 0, [], []⟩, at_, regs, kd⟩
  | 15 => ⟨⟨2, regs.getD a 0, 0, 0, 0, 0, [], []⟩, at_, regs, kd⟩
  | 16 => ⟨failE k, at_, regs, kd⟩
  | 17 => ⟨⟨7, 0, a, 0, 0, 0, [], []⟩, at_, regs, kd⟩
  | _ => ⟨gE, at_, regs, kd⟩
theorem getD_some {l : List Int} {i : Nat} {x : Int} (h : l[i]? = some x) : l.getD i 0 = x := by simp [List.getD, h]
theorem some_getD {l : List Int} {i : Nat} (h : i < l.length) : l[i]? = some (l.getD i 0) := by simp [List.getD, h]
end Go.Proofs.YtadcenaafoemmaaDoor
