/-
  A plain operation, as a turn does it. No condition.
-/
import Derived.Test.YtadcenaafoemmaaDoorF2A
namespace Go.Proofs.YtadcenaafoemmaaDoor
open Go.RowKit

set_option maxHeartbeats 8000000 in
set_option maxRecDepth 100000 in
theorem do_less (w : World) (t F : Nat) (at_ : Int) (regs : List Int) (pg : Value) (bud dep : Int) (h8 : regs.length = 8) (hB : Blk w t 115 (tnL at_ regs F pg bud dep).toArray) (k : Int) (a b c : Nat) (ha : a < 8) (x y : Int) (hx : regs[b]? = some x) (hy : regs[c]? = some y) :
    Calls Tryd.prog 28 #[.pointer (some ⟨t, 0, none⟩), .agg #[.int .i64 7, .int .i64 (a : Int), .int .i64 (b : Int), .int .i64 (c : Int), .int .i64 k]] w (Goes w t F at_ (regs.set a (boolI (decide (x < y)))) pg bud dep) := by
  have hb8 : b < 8 := by have := (List.getElem?_eq_some_iff.1 hx).1; omega
  have hc8 : c < 8 := by have := (List.getElem?_eq_some_iff.1 hy).1; omega
  obtain ⟨z, hz⟩ : ∃ z, regs[a]? = some z := ⟨_, List.getElem?_eq_getElem (by omega)⟩
  have HOP : Hid (∀ w, Blk w t 115 (tnL at_ regs F pg bud dep).toArray → Calls Tryd.prog 49 #[.pointer (some ⟨t, 0, none⟩), .agg #[.int .i64 7, .int .i64 (a : Int), .int .i64 (b : Int), .int .i64 (c : Int), .int .i64 k]] w (OpPost w t 115 (tnL at_ (regs.set a (boolI (decide (x < y)))) F pg bud dep).toArray)) := Lib.hid (fun w hB => by
    have h := less_op w t 115 _ hB 7 k a ha b hb8 c hc8 _ (tn_reg (at_ := at_) (F := F) (pg := pg) (bud := bud) (dep := dep) h8 hz) x (tn_reg (at_ := at_) (F := F) (pg := pg) (bud := bud) (dep := dep) h8 hx) y (tn_reg (at_ := at_) (F := F) (pg := pg) (bud := bud) (dep := dep) h8 hy)
    rw [tn_setR h8 ha] at h
    exact h)
  have HB := Lib.hid hB
  have hlt := hB.lt
  clear hB hz hx hy
  go_enter Tryd.func28, Tryd.ntmps28
  go_upto_region 1 with (fail)
  generalize hW0 : ((w.alloc (.cells _ 98)).alloc (.cells _ 36)) = W0
  have hI : Blk W0 w.heap.size 98 #[.int .i64 7, .int .i64 (a : Int), .int .i64 (b : Int), .int .i64 (c : Int), .int .i64 k] := by rw [← hW0]; exact (Blk.new _ _ _).alloc _
  have hE : Blk W0 (w.heap.size + 1) 36 efZ := by
    have h := Blk.new (w.alloc (.cells #[.int .i64 7, .int .i64 (a : Int), .int .i64 (b : Int), .int .i64 (c : Int), .int .i64 k] 98)) 36 efZ
    rw [show (w.alloc (.cells #[.int .i64 7, .int .i64 (a : Int), .int .i64 (b : Int), .int .i64 (c : Int), .int .i64 k] 98)).heap.size = w.heap.size + 1 by simp] at h
    rw [← hW0]; exact h
  have hF : Fr None' w W0 := by rw [← hW0]; exact ((Fr.refl _ _).alloc _).alloc _
  have hsz : W0.drew.heap.size = w.heap.size + 2 := by rw [← hW0]; simp
  have i0 : W0.drew.cell? ⟨w.heap.size, 0, none⟩ = some (.int .i64 7) := by rw [hI.drew.cell]; rfl
  have HB1 := Lib.hid (HB.out.fr hF.drew (fun h => h))
  have HB2 := Lib.hid hI.drew
  have HB3 := Lib.hid hE.drew
  have HF0 := Lib.hid hF.drew
  clear hI hE hF HB hW0
  refine region_K 9 (fun w' : World => w'.cell? ⟨w.heap.size, 0, none⟩ = some (.int .i64 7)) (by kernel_rfl) ?_
  have HS : (fun w' : World => w'.cell? ⟨w.heap.size, 0, none⟩ = some (.int .i64 7)) W0.drew := i0
  generalize W0.drew = V at *
  refine AnyK.take (i := 1) rfl (by decide) (by kernel_rfl) (by kernel_rfl) (by kernel_rfl) (fun _ _ _ _ h => h) HS (fun K hK => ?_)
  go_simp
  refine hK.out _ ⟨_, by rfl, Or.inl ⟨by rfl, by intro w' hSw; (try dsimp only at hSw); go_simp⟩, ?_⟩
  clear hK K
  refine AnyK.take (i := 2) rfl (by decide) (by kernel_rfl) (by kernel_rfl) (by kernel_rfl) (fun _ _ _ _ h => h) HS (fun K hK => ?_)
  go_simp
  refine hK.out _ ⟨_, by rfl, Or.inl ⟨by rfl, by intro w' hSw; (try dsimp only at hSw); go_simp⟩, ?_⟩
  clear hK K
  refine AnyK.one (i := 0) rfl (by kernel_rfl) (fun K hK => ?_)
  go_simp
  refine (pl_any _).mono ?_
  rintro e w1 ⟨rfl, hw1⟩
  have hm : w1.heap[V.heap.size]? = some (.map plE 9) := by rw [hw1]; exact heap_alloc_new V _
  have hF1 : Fr None' V w1 := by rw [hw1]; exact (Fr.refl _ _).alloc _
  have HV1 := Lib.hid (HB1.out.fr hF1 (fun h => h))
  have HV2 := Lib.hid (HB2.out.fr hF1 (fun h => h))
  have HV3 := Lib.hid (HB3.out.fr hF1 (fun h => h))
  have HFV := Lib.hid (HF0.out.trans hF1)
  have hl : (Instr.lookup 128 (.map (some V.heap.size)) (.int .i64 7) true).run Tryd.prog w1 = .ok (.tuple #[.func (.func 49) #[] #[], .bool true]) w1 := look_pl w1 _ hm 7 (by decide)
  have HS : (fun w' : World => w'.cell? ⟨w.heap.size, 0, none⟩ = some (.int .i64 7)) w1 := by show w1.cell? _ = _; rw [HV2.out.cell]; rfl
  generalize V.heap.size = mb at *
  clear hF1 hm hw1 HB1 HB2 HB3 HF0 hsz
  try dsimp only
  refine hK.out _ _ (fun _ => HS) ?_
  clear hK K
  refine AnyK.one (i := 3) rfl (by kernel_rfl) (fun K hK => ?_)
  go_simp
  refine hK.out _ _ (fun _ => HS) ?_
  clear hK K
  refine AnyK.take (i := 4) rfl (by decide) (by kernel_rfl) (by kernel_rfl) (by kernel_rfl) (fun _ _ _ _ h => h) HS (fun K hK => ?_)
  go_simp
  refine hK.out _ ⟨_, by rfl, Or.inl ⟨by rfl, by intro w' hSw; (try dsimp only at hSw); go_simp⟩, ?_⟩
  clear hK K
  refine AnyK.take (i := 5) rfl (by decide) (by kernel_rfl) (by kernel_rfl) (by kernel_rfl) (fun _ _ _ _ h => h) HS (fun K hK => ?_)
  go_simp
  refine hK.out _ ⟨_, by rfl, Or.inl ⟨by rfl, by intro w' hSw; (try dsimp only at hSw); go_simp⟩, ?_⟩
  clear hK K
  refine AnyK.take (i := 6) rfl (by decide) (by kernel_rfl) (by kernel_rfl) (by kernel_rfl) (fun _ _ _ _ h => h) HS (fun K hK => ?_)
  go_simp
  refine hK.out _ ⟨_, by rfl, Or.inl ⟨by rfl, by intro w' hSw; (try dsimp only at hSw); go_simp⟩, ?_⟩
  clear hK K
  refine AnyK.take (i := 7) rfl (by decide) (by kernel_rfl) (by kernel_rfl) (by kernel_rfl) (fun _ _ _ _ h => h) HS (fun K hK => ?_)
  go_simp
  refine hK.out _ ⟨_, by rfl, Or.inl ⟨by rfl, by intro w' hSw; (try dsimp only at hSw); go_simp⟩, ?_⟩
  clear hK K
  refine AnyK.take (i := 8) rfl (by decide) (by kernel_rfl) (by kernel_rfl) (by kernel_rfl) (fun _ _ _ _ h => h) HS (fun K hK => ?_)
  go_simp
  refine hK.out _ ⟨_, by rfl, Or.inl ⟨by rfl, by intro w' hSw; (try dsimp only at hSw); go_simp⟩, ?_⟩
  clear hK K
  refine AnyK.done (by kernel_rfl) ?_ _
  clear hl HS
  go_upto_region 3 with (fail)
  have SF : ∀ w' : World, Blk w' w.heap.size 98 #[.int .i64 7, .int .i64 (a : Int), .int .i64 (b : Int), .int .i64 (c : Int), .int .i64 k] → (fun w' : World => w'.cell? ⟨w.heap.size, 0, none⟩ = some (.int .i64 7) ∧ w'.cell? ⟨w.heap.size, 1, none⟩ = some (.int .i64 (a : Int)) ∧ w'.cell? ⟨w.heap.size, 2, none⟩ = some (.int .i64 (b : Int)) ∧ w'.cell? ⟨w.heap.size, 3, none⟩ = some (.int .i64 (c : Int)) ∧ w'.cell? ⟨w.heap.size, 4, none⟩ = some (.int .i64 k)) w' := fun w' hI => ⟨by rw [hI.cell]; rfl, by rw [hI.cell]; rfl, by rw [hI.cell]; rfl, by rw [hI.cell]; rfl, by rw [hI.cell]; rfl⟩
  have HSF := Lib.hid SF
  refine region_K 5 (fun w' : World => w'.cell? ⟨w.heap.size, 0, none⟩ = some (.int .i64 7) ∧ w'.cell? ⟨w.heap.size, 1, none⟩ = some (.int .i64 (a : Int)) ∧ w'.cell? ⟨w.heap.size, 2, none⟩ = some (.int .i64 (b : Int)) ∧ w'.cell? ⟨w.heap.size, 3, none⟩ = some (.int .i64 (c : Int)) ∧ w'.cell? ⟨w.heap.size, 4, none⟩ = some (.int .i64 k)) (by kernel_rfl) ?_
  have HU1 := Lib.hid HV1.out.drew
  have HU2 := Lib.hid HV2.out.drew
  have HU3 := Lib.hid HV3.out.drew
  have HFU := Lib.hid HFV.out.drew
  have HS : (fun w' : World => w'.cell? ⟨w.heap.size, 0, none⟩ = some (.int .i64 7) ∧ w'.cell? ⟨w.heap.size, 1, none⟩ = some (.int .i64 (a : Int)) ∧ w'.cell? ⟨w.heap.size, 2, none⟩ = some (.int .i64 (b : Int)) ∧ w'.cell? ⟨w.heap.size, 3, none⟩ = some (.int .i64 (c : Int)) ∧ w'.cell? ⟨w.heap.size, 4, none⟩ = some (.int .i64 k)) w1.drew := SF _ HU2.out
  clear SF HV1 HV2 HV3 HFV
  generalize w1.drew = V1 at *
  refine AnyK.take (i := 0) rfl (by decide) (by kernel_rfl) (by kernel_rfl) (by kernel_rfl) (fun _ _ _ _ h => h) HS (fun K hK => ?_)
  go_simp
  refine hK.out _ ⟨_, by rfl, Or.inl ⟨by rfl, by intro w' hSw; (try dsimp only at hSw); go_simp⟩, ?_⟩
  clear hK K
  refine AnyK.take (i := 1) rfl (by decide) (by kernel_rfl) (by kernel_rfl) (by kernel_rfl) (fun _ _ _ _ h => h) HS (fun K hK => ?_)
  go_simp
  refine hK.out _ ⟨_, by rfl, Or.inl ⟨by rfl, by intro w' hSw; (try dsimp only at hSw); go_simp⟩, ?_⟩
  clear hK K
  refine AnyK.take (i := 2) rfl (by decide) (by kernel_rfl) (by kernel_rfl) (by kernel_rfl) (fun _ _ _ _ h => h) HS (fun K hK => ?_)
  go_simp
  refine hK.out _ ⟨_, by rfl, Or.inl ⟨by rfl, by intro w' hSw; (try dsimp only at hSw); go_simp⟩, ?_⟩
  clear hK K
  refine AnyK.take (i := 3) rfl (by decide) (by kernel_rfl) (by kernel_rfl) (by kernel_rfl) (fun _ _ _ _ h => h) HS (fun K hK => ?_)
  go_simp
  refine hK.out _ ⟨_, by rfl, Or.inl ⟨by rfl, by intro w' hSw; (try dsimp only at hSw); go_simp⟩, ?_⟩
  clear hK K
  refine AnyK.take (i := 4) rfl (by decide) (by kernel_rfl) (by kernel_rfl) (by kernel_rfl) (fun _ _ _ _ h => h) HS (fun K hK => ?_)
  go_simp
  refine hK.out _ ⟨_, by rfl, Or.inl ⟨by rfl, by intro w' hSw; (try dsimp only at hSw); go_simp⟩, ?_⟩
  clear hK K
  refine AnyK.one (i := 5) rfl (by kernel_rfl) (fun K hK => ?_)
  go_simp
  refine (HOP.out _ HU1.out).mono ?_
  rintro e w2 ⟨rfl, hT2, hF2⟩
  have HS := HSF.out w2 (HU2.out.fr hF2 (fun h => by have h' : w.heap.size = t := h; omega))
  have hE := HU3.out.fr hF2 (fun h => by have h' : w.heap.size + 1 = t := h; omega)
  have HE := Lib.hid hE
  have HT := Lib.hid hT2
  have HF2 := Lib.hid ((HFU.out.mono (fun _ h => h.elim)).trans hF2)
  clear HU1 HU2 HU3 HFU hT2 hF2 HOP
  refine hK.out _ _ (fun _ => HS) ?_
  clear hK K HSF HS
  refine AnyK.done (by kernel_rfl) ?_ _
  have e0 : w2.cell? ⟨(w.heap.size + 1), 0, none⟩ = some (.int .i64 0) := by rw [hE.cell]; rfl
  have y0 : w2.frozen? ⟨(w.heap.size + 1), 0, none⟩ = false := hE.frozen _
  have e1 : w2.cell? ⟨(w.heap.size + 1), 1, none⟩ = some (.int .i64 0) := by rw [hE.cell]; rfl
  have y1 : w2.frozen? ⟨(w.heap.size + 1), 1, none⟩ = false := hE.frozen _
  have e2 : w2.cell? ⟨(w.heap.size + 1), 2, none⟩ = some (.int .i64 0) := by rw [hE.cell]; rfl
  have y2 : w2.frozen? ⟨(w.heap.size + 1), 2, none⟩ = false := hE.frozen _
  have e3 : w2.cell? ⟨(w.heap.size + 1), 3, none⟩ = some (.int .i64 0) := by rw [hE.cell]; rfl
  have y3 : w2.frozen? ⟨(w.heap.size + 1), 3, none⟩ = false := hE.frozen _
  have e4 : w2.cell? ⟨(w.heap.size + 1), 4, none⟩ = some (.int .i64 0) := by rw [hE.cell]; rfl
  have y4 : w2.frozen? ⟨(w.heap.size + 1), 4, none⟩ = false := hE.frozen _
  have e5 : w2.cell? ⟨(w.heap.size + 1), 5, none⟩ = some (.int .i64 0) := by rw [hE.cell]; rfl
  have y5 : w2.frozen? ⟨(w.heap.size + 1), 5, none⟩ = false := hE.frozen _
  have e6 : w2.cell? ⟨(w.heap.size + 1), 6, none⟩ = some (nilS) := by rw [hE.cell]; rfl
  have y6 : w2.frozen? ⟨(w.heap.size + 1), 6, none⟩ = false := hE.frozen _
  have e7 : w2.cell? ⟨(w.heap.size + 1), 7, none⟩ = some (nilS) := by rw [hE.cell]; rfl
  have y7 : w2.frozen? ⟨(w.heap.size + 1), 7, none⟩ = false := hE.frozen _
  clear hE
  go_wp2_with fail
  refine bodyPost_ret (results_cell_row rfl _ _ (w.heap.size + 1) 36 (efC 1 0 0 0 0 0 nilS nilS) (0, 0) _ rfl (ef_stored (HE.out) _ _ _ _ _ _ _ _) Tryd.underlying36 rfl (by kernel_rfl)) rfl ?_
  refine ⟨rfl, HT.out.fr (ef_frame (B := fun n => n = w.heap.size + 1) (Fr.refl _ _) (.inl rfl) _ _ _ _ _ _ _ _) (fun h => by have h' : t = w.heap.size + 1 := h; omega), ef_frame HF2.out (.inr (by omega)) _ _ _ _ _ _ _ _⟩
end Go.Proofs.YtadcenaafoemmaaDoor

/-
  A plain operation, as a turn does it. No condition.
-/
namespace Go.Proofs.YtadcenaafoemmaaDoor
open Go.RowKit

set_option maxHeartbeats 8000000 in
set_option maxRecDepth 100000 in
theorem do_same (w : World) (t F : Nat) (at_ : Int) (regs : List Int) (pg : Value) (bud dep : Int) (h8 : regs.length = 8) (hB : Blk w t 115 (tnL at_ regs F pg bud dep).toArray) (k : Int) (a b c : Nat) (ha : a < 8) (x y : Int) (hx : regs[b]? = some x) (hy : regs[c]? = some y) :
    Calls Tryd.prog 28 #[.pointer (some ⟨t, 0, none⟩), .agg #[.int .i64 8, .int .i64 (a : Int), .int .i64 (b : Int), .int .i64 (c : Int), .int .i64 k]] w (Goes w t F at_ (regs.set a (boolI (x == y))) pg bud dep) := by
  have hb8 : b < 8 := by have := (List.getElem?_eq_some_iff.1 hx).1; omega
  have hc8 : c < 8 := by have := (List.getElem?_eq_some_iff.1 hy).1; omega
  obtain ⟨z, hz⟩ : ∃ z, regs[a]? = some z := ⟨_, List.getElem?_eq_getElem (by omega)⟩
  have HOP : Hid (∀ w, Blk w t 115 (tnL at_ regs F pg bud dep).toArray → Calls Tryd.prog 50 #[.pointer (some ⟨t, 0, none⟩), .agg #[.int .i64 8, .int .i64 (a : Int), .int .i64 (b : Int), .int .i64 (c : Int), .int .i64 k]] w (OpPost w t 115 (tnL at_ (regs.set a (boolI (x == y))) F pg bud dep).toArray)) := Lib.hid (fun w hB => by
    have h := same_op w t 115 _ hB 8 k a ha b hb8 c hc8 _ (tn_reg (at_ := at_) (F := F) (pg := pg) (bud := bud) (dep := dep) h8 hz) x (tn_reg (at_ := at_) (F := F) (pg := pg) (bud := bud) (dep := dep) h8 hx) y (tn_reg (at_ := at_) (F := F) (pg := pg) (bud := bud) (dep := dep) h8 hy)
    rw [tn_setR h8 ha] at h
    exact h)
  have HB := Lib.hid hB
  have hlt := hB.lt
  clear hB hz hx hy
  go_enter Tryd.func28, Tryd.ntmps28
  go_upto_region 1 with (fail)
  generalize hW0 : ((w.alloc (.cells _ 98)).alloc (.cells _ 36)) = W0
  have hI : Blk W0 w.heap.size 98 #[.int .i64 8, .int .i64 (a : Int), .int .i64 (b : Int), .int .i64 (c : Int), .int .i64 k] := by rw [← hW0]; exact (Blk.new _ _ _).alloc _
  have hE : Blk W0 (w.heap.size + 1) 36 efZ := by
    have h := Blk.new (w.alloc (.cells #[.int .i64 8, .int .i64 (a : Int), .int .i64 (b : Int), .int .i64 (c : Int), .int .i64 k] 98)) 36 efZ
    rw [show (w.alloc (.cells #[.int .i64 8, .int .i64 (a : Int), .int .i64 (b : Int), .int .i64 (c : Int), .int .i64 k] 98)).heap.size = w.heap.size + 1 by simp] at h
    rw [← hW0]; exact h
  have hF : Fr None' w W0 := by rw [← hW0]; exact ((Fr.refl _ _).alloc _).alloc _
  have hsz : W0.drew.heap.size = w.heap.size + 2 := by rw [← hW0]; simp
  have i0 : W0.drew.cell? ⟨w.heap.size, 0, none⟩ = some (.int .i64 8) := by rw [hI.drew.cell]; rfl
  have HB1 := Lib.hid (HB.out.fr hF.drew (fun h => h))
  have HB2 := Lib.hid hI.drew
  have HB3 := Lib.hid hE.drew
  have HF0 := Lib.hid hF.drew
  clear hI hE hF HB hW0
  refine region_K 9 (fun w' : World => w'.cell? ⟨w.heap.size, 0, none⟩ = some (.int .i64 8)) (by kernel_rfl) ?_
  have HS : (fun w' : World => w'.cell? ⟨w.heap.size, 0, none⟩ = some (.int .i64 8)) W0.drew := i0
  generalize W0.drew = V at *
  refine AnyK.take (i := 1) rfl (by decide) (by kernel_rfl) (by kernel_rfl) (by kernel_rfl) (fun _ _ _ _ h => h) HS (fun K hK => ?_)
  go_simp
  refine hK.out _ ⟨_, by rfl, Or.inl ⟨by rfl, by intro w' hSw; (try dsimp only at hSw); go_simp⟩, ?_⟩
  clear hK K
  refine AnyK.take (i := 2) rfl (by decide) (by kernel_rfl) (by kernel_rfl) (by kernel_rfl) (fun _ _ _ _ h => h) HS (fun K hK => ?_)
  go_simp
  refine hK.out _ ⟨_, by rfl, Or.inl ⟨by rfl, by intro w' hSw; (try dsimp only at hSw); go_simp⟩, ?_⟩
  clear hK K
  refine AnyK.one (i := 0) rfl (by kernel_rfl) (fun K hK => ?_)
  go_simp
  refine (pl_any _).mono ?_
  rintro e w1 ⟨rfl, hw1⟩
  have hm : w1.heap[V.heap.size]? = some (.map plE 9) := by rw [hw1]; exact heap_alloc_new V _
  have hF1 : Fr None' V w1 := by rw [hw1]; exact (Fr.refl _ _).alloc _
  have HV1 := Lib.hid (HB1.out.fr hF1 (fun h => h))
  have HV2 := Lib.hid (HB2.out.fr hF1 (fun h => h))
  have HV3 := Lib.hid (HB3.out.fr hF1 (fun h => h))
  have HFV := Lib.hid (HF0.out.trans hF1)
  have hl : (Instr.lookup 128 (.map (some V.heap.size)) (.int .i64 8) true).run Tryd.prog w1 = .ok (.tuple #[.func (.func 50) #[] #[], .bool true]) w1 := look_pl w1 _ hm 8 (by decide)
  have HS : (fun w' : World => w'.cell? ⟨w.heap.size, 0, none⟩ = some (.int .i64 8)) w1 := by show w1.cell? _ = _; rw [HV2.out.cell]; rfl
  generalize V.heap.size = mb at *
  clear hF1 hm hw1 HB1 HB2 HB3 HF0 hsz
  try dsimp only
  refine hK.out _ _ (fun _ => HS) ?_
  clear hK K
  refine AnyK.one (i := 3) rfl (by kernel_rfl) (fun K hK => ?_)
  go_simp
  refine hK.out _ _ (fun _ => HS) ?_
  clear hK K
  refine AnyK.take (i := 4) rfl (by decide) (by kernel_rfl) (by kernel_rfl) (by kernel_rfl) (fun _ _ _ _ h => h) HS (fun K hK => ?_)
  go_simp
  refine hK.out _ ⟨_, by rfl, Or.inl ⟨by rfl, by intro w' hSw; (try dsimp only at hSw); go_simp⟩, ?_⟩
  clear hK K
  refine AnyK.take (i := 5) rfl (by decide) (by kernel_rfl) (by kernel_rfl) (by kernel_rfl) (fun _ _ _ _ h => h) HS (fun K hK => ?_)
  go_simp
  refine hK.out _ ⟨_, by rfl, Or.inl ⟨by rfl, by intro w' hSw; (try dsimp only at hSw); go_simp⟩, ?_⟩
  clear hK K
  refine AnyK.take (i := 6) rfl (by decide) (by kernel_rfl) (by kernel_rfl) (by kernel_rfl) (fun _ _ _ _ h => h) HS (fun K hK => ?_)
  go_simp
  refine hK.out _ ⟨_, by rfl, Or.inl ⟨by rfl, by intro w' hSw; (try dsimp only at hSw); go_simp⟩, ?_⟩
  clear hK K
  refine AnyK.take (i := 7) rfl (by decide) (by kernel_rfl) (by kernel_rfl) (by kernel_rfl) (fun _ _ _ _ h => h) HS (fun K hK => ?_)
  go_simp
  refine hK.out _ ⟨_, by rfl, Or.inl ⟨by rfl, by intro w' hSw; (try dsimp only at hSw); go_simp⟩, ?_⟩
  clear hK K
  refine AnyK.take (i := 8) rfl (by decide) (by kernel_rfl) (by kernel_rfl) (by kernel_rfl) (fun _ _ _ _ h => h) HS (fun K hK => ?_)
  go_simp
  refine hK.out _ ⟨_, by rfl, Or.inl ⟨by rfl, by intro w' hSw; (try dsimp only at hSw); go_simp⟩, ?_⟩
  clear hK K
  refine AnyK.done (by kernel_rfl) ?_ _
  clear hl HS
  go_upto_region 3 with (fail)
  have SF : ∀ w' : World, Blk w' w.heap.size 98 #[.int .i64 8, .int .i64 (a : Int), .int .i64 (b : Int), .int .i64 (c : Int), .int .i64 k] → (fun w' : World => w'.cell? ⟨w.heap.size, 0, none⟩ = some (.int .i64 8) ∧ w'.cell? ⟨w.heap.size, 1, none⟩ = some (.int .i64 (a : Int)) ∧ w'.cell? ⟨w.heap.size, 2, none⟩ = some (.int .i64 (b : Int)) ∧ w'.cell? ⟨w.heap.size, 3, none⟩ = some (.int .i64 (c : Int)) ∧ w'.cell? ⟨w.heap.size, 4, none⟩ = some (.int .i64 k)) w' := fun w' hI => ⟨by rw [hI.cell]; rfl, by rw [hI.cell]; rfl, by rw [hI.cell]; rfl, by rw [hI.cell]; rfl, by rw [hI.cell]; rfl⟩
  have HSF := Lib.hid SF
  refine region_K 5 (fun w' : World => w'.cell? ⟨w.heap.size, 0, none⟩ = some (.int .i64 8) ∧ w'.cell? ⟨w.heap.size, 1, none⟩ = some (.int .i64 (a : Int)) ∧ w'.cell? ⟨w.heap.size, 2, none⟩ = some (.int .i64 (b : Int)) ∧ w'.cell? ⟨w.heap.size, 3, none⟩ = some (.int .i64 (c : Int)) ∧ w'.cell? ⟨w.heap.size, 4, none⟩ = some (.int .i64 k)) (by kernel_rfl) ?_
  have HU1 := Lib.hid HV1.out.drew
  have HU2 := Lib.hid HV2.out.drew
  have HU3 := Lib.hid HV3.out.drew
  have HFU := Lib.hid HFV.out.drew
  have HS : (fun w' : World => w'.cell? ⟨w.heap.size, 0, none⟩ = some (.int .i64 8) ∧ w'.cell? ⟨w.heap.size, 1, none⟩ = some (.int .i64 (a : Int)) ∧ w'.cell? ⟨w.heap.size, 2, none⟩ = some (.int .i64 (b : Int)) ∧ w'.cell? ⟨w.heap.size, 3, none⟩ = some (.int .i64 (c : Int)) ∧ w'.cell? ⟨w.heap.size, 4, none⟩ = some (.int .i64 k)) w1.drew := SF _ HU2.out
  clear SF HV1 HV2 HV3 HFV
  generalize w1.drew = V1 at *
  refine AnyK.take (i := 0) rfl (by decide) (by kernel_rfl) (by kernel_rfl) (by kernel_rfl) (fun _ _ _ _ h => h) HS (fun K hK => ?_)
  go_simp
  refine hK.out _ ⟨_, by rfl, Or.inl ⟨by rfl, by intro w' hSw; (try dsimp only at hSw); go_simp⟩, ?_⟩
  clear hK K
  refine AnyK.take (i := 1) rfl (by decide) (by kernel_rfl) (by kernel_rfl) (by kernel_rfl) (fun _ _ _ _ h => h) HS (fun K hK => ?_)
  go_simp
  refine hK.out _ ⟨_, by rfl, Or.inl ⟨by rfl, by intro w' hSw; (try dsimp only at hSw); go_simp⟩, ?_⟩
  clear hK K
  refine AnyK.take (i := 2) rfl (by decide) (by kernel_rfl) (by kernel_rfl) (by kernel_rfl) (fun _ _ _ _ h => h) HS (fun K hK => ?_)
  go_simp
  refine hK.out _ ⟨_, by rfl, Or.inl ⟨by rfl, by intro w' hSw; (try dsimp only at hSw); go_simp⟩, ?_⟩
  clear hK K
  refine AnyK.take (i := 3) rfl (by decide) (by kernel_rfl) (by kernel_rfl) (by kernel_rfl) (fun _ _ _ _ h => h) HS (fun K hK => ?_)
  go_simp
  refine hK.out _ ⟨_, by rfl, Or.inl ⟨by rfl, by intro w' hSw; (try dsimp only at hSw); go_simp⟩, ?_⟩
  clear hK K
  refine AnyK.take (i := 4) rfl (by decide) (by kernel_rfl) (by kernel_rfl) (by kernel_rfl) (fun _ _ _ _ h => h) HS (fun K hK => ?_)
  go_simp
  refine hK.out _ ⟨_, by rfl, Or.inl ⟨by rfl, by intro w' hSw; (try dsimp only at hSw); go_simp⟩, ?_⟩
  clear hK K
  refine AnyK.one (i := 5) rfl (by kernel_rfl) (fun K hK => ?_)
  go_simp
  refine (HOP.out _ HU1.out).mono ?_
  rintro e w2 ⟨rfl, hT2, hF2⟩
  have HS := HSF.out w2 (HU2.out.fr hF2 (fun h => by have h' : w.heap.size = t := h; omega))
  have hE := HU3.out.fr hF2 (fun h => by have h' : w.heap.size + 1 = t := h; omega)
  have HE := Lib.hid hE
  have HT := Lib.hid hT2
  have HF2 := Lib.hid ((HFU.out.mono (fun _ h => h.elim)).trans hF2)
  clear HU1 HU2 HU3 HFU hT2 hF2 HOP
  refine hK.out _ _ (fun _ => HS) ?_
  clear hK K HSF HS
  refine AnyK.done (by kernel_rfl) ?_ _
  have e0 : w2.cell? ⟨(w.heap.size + 1), 0, none⟩ = some (.int .i64 0) := by rw [hE.cell]; rfl
  have y0 : w2.frozen? ⟨(w.heap.size + 1), 0, none⟩ = false := hE.frozen _
  have e1 : w2.cell? ⟨(w.heap.size + 1), 1, none⟩ = some (.int .i64 0) := by rw [hE.cell]; rfl
  have y1 : w2.frozen? ⟨(w.heap.size + 1), 1, none⟩ = false := hE.frozen _
  have e2 : w2.cell? ⟨(w.heap.size + 1), 2, none⟩ = some (.int .i64 0) := by rw [hE.cell]; rfl
  have y2 : w2.frozen? ⟨(w.heap.size + 1), 2, none⟩ = false := hE.frozen _
  have e3 : w2.cell? ⟨(w.heap.size + 1), 3, none⟩ = some (.int .i64 0) := by rw [hE.cell]; rfl
  have y3 : w2.frozen? ⟨(w.heap.size + 1), 3, none⟩ = false := hE.frozen _
  have e4 : w2.cell? ⟨(w.heap.size + 1), 4, none⟩ = some (.int .i64 0) := by rw [hE.cell]; rfl
  have y4 : w2.frozen? ⟨(w.heap.size + 1), 4, none⟩ = false := hE.frozen _
  have e5 : w2.cell? ⟨(w.heap.size + 1), 5, none⟩ = some (.int .i64 0) := by rw [hE.cell]; rfl
  have y5 : w2.frozen? ⟨(w.heap.size + 1), 5, none⟩ = false := hE.frozen _
  have e6 : w2.cell? ⟨(w.heap.size + 1), 6, none⟩ = some (nilS) := by rw [hE.cell]; rfl
  have y6 : w2.frozen? ⟨(w.heap.size + 1), 6, none⟩ = false := hE.frozen _
  have e7 : w2.cell? ⟨(w.heap.size + 1), 7, none⟩ = some (nilS) := by rw [hE.cell]; rfl
  have y7 : w2.frozen? ⟨(w.heap.size + 1), 7, none⟩ = false := hE.frozen _
  clear hE
  go_wp2_with fail
  refine bodyPost_ret (results_cell_row rfl _ _ (w.heap.size + 1) 36 (efC 1 0 0 0 0 0 nilS nilS) (0, 0) _ rfl (ef_stored (HE.out) _ _ _ _ _ _ _ _) Tryd.underlying36 rfl (by kernel_rfl)) rfl ?_
  refine ⟨rfl, HT.out.fr (ef_frame (B := fun n => n = w.heap.size + 1) (Fr.refl _ _) (.inl rfl) _ _ _ _ _ _ _ _) (fun h => by have h' : t = w.heap.size + 1 := h; omega), ef_frame HF2.out (.inr (by omega)) _ _ _ _ _ _ _ _⟩
end Go.Proofs.YtadcenaafoemmaaDoor

/-
  A plain operation, as a turn does it. No condition.
-/
namespace Go.Proofs.YtadcenaafoemmaaDoor
open Go.RowKit

set_option maxHeartbeats 8000000 in
set_option maxRecDepth 100000 in
theorem do_jump (w : World) (t F : Nat) (at_ : Int) (regs : List Int) (pg : Value) (bud dep : Int) (h8 : regs.length = 8) (hB : Blk w t 115 (tnL at_ regs F pg bud dep).toArray) (k a b c : Int)  :
    Calls Tryd.prog 28 #[.pointer (some ⟨t, 0, none⟩), .agg #[.int .i64 9, .int .i64 a, .int .i64 b, .int .i64 c, .int .i64 k]] w (Goes w t F k regs pg bud dep) := by
  have HOP : Hid (∀ w, Blk w t 115 (tnL at_ regs F pg bud dep).toArray → Calls Tryd.prog 51 #[.pointer (some ⟨t, 0, none⟩), .agg #[.int .i64 9, .int .i64 a, .int .i64 b, .int .i64 c, .int .i64 k]] w (OpPost w t 115 (tnL k regs F pg bud dep).toArray)) := Lib.hid (fun w hB => by
    have h := jump_op w t 115 _ hB 9 k a b c _ (tn_rest (at_ := at_) (F := F) (pg := pg) (bud := bud) (dep := dep) h8).1
    rw [tn_setA] at h
    exact h)
  have HB := Lib.hid hB
  have hlt := hB.lt
  clear hB
  go_enter Tryd.func28, Tryd.ntmps28
  go_upto_region 1 with (fail)
  generalize hW0 : ((w.alloc (.cells _ 98)).alloc (.cells _ 36)) = W0
  have hI : Blk W0 w.heap.size 98 #[.int .i64 9, .int .i64 a, .int .i64 b, .int .i64 c, .int .i64 k] := by rw [← hW0]; exact (Blk.new _ _ _).alloc _
  have hE : Blk W0 (w.heap.size + 1) 36 efZ := by
    have h := Blk.new (w.alloc (.cells #[.int .i64 9, .int .i64 a, .int .i64 b, .int .i64 c, .int .i64 k] 98)) 36 efZ
    rw [show (w.alloc (.cells #[.int .i64 9, .int .i64 a, .int .i64 b, .int .i64 c, .int .i64 k] 98)).heap.size = w.heap.size + 1 by simp] at h
    rw [← hW0]; exact h
  have hF : Fr None' w W0 := by rw [← hW0]; exact ((Fr.refl _ _).alloc _).alloc _
  have hsz : W0.drew.heap.size = w.heap.size + 2 := by rw [← hW0]; simp
  have i0 : W0.drew.cell? ⟨w.heap.size, 0, none⟩ = some (.int .i64 9) := by rw [hI.drew.cell]; rfl
  have HB1 := Lib.hid (HB.out.fr hF.drew (fun h => h))
  have HB2 := Lib.hid hI.drew
  have HB3 := Lib.hid hE.drew
  have HF0 := Lib.hid hF.drew
  clear hI hE hF HB hW0
  refine region_K 9 (fun w' : World => w'.cell? ⟨w.heap.size, 0, none⟩ = some (.int .i64 9)) (by kernel_rfl) ?_
  have HS : (fun w' : World => w'.cell? ⟨w.heap.size, 0, none⟩ = some (.int .i64 9)) W0.drew := i0
  generalize W0.drew = V at *
  refine AnyK.take (i := 1) rfl (by decide) (by kernel_rfl) (by kernel_rfl) (by kernel_rfl) (fun _ _ _ _ h => h) HS (fun K hK => ?_)
  go_simp
  refine hK.out _ ⟨_, by rfl, Or.inl ⟨by rfl, by intro w' hSw; (try dsimp only at hSw); go_simp⟩, ?_⟩
  clear hK K
  refine AnyK.take (i := 2) rfl (by decide) (by kernel_rfl) (by kernel_rfl) (by kernel_rfl) (fun _ _ _ _ h => h) HS (fun K hK => ?_)
  go_simp
  refine hK.out _ ⟨_, by rfl, Or.inl ⟨by rfl, by intro w' hSw; (try dsimp only at hSw); go_simp⟩, ?_⟩
  clear hK K
  refine AnyK.one (i := 0) rfl (by kernel_rfl) (fun K hK => ?_)
  go_simp
  refine (pl_any _).mono ?_
  rintro e w1 ⟨rfl, hw1⟩
  have hm : w1.heap[V.heap.size]? = some (.map plE 9) := by rw [hw1]; exact heap_alloc_new V _
  have hF1 : Fr None' V w1 := by rw [hw1]; exact (Fr.refl _ _).alloc _
  have HV1 := Lib.hid (HB1.out.fr hF1 (fun h => h))
  have HV2 := Lib.hid (HB2.out.fr hF1 (fun h => h))
  have HV3 := Lib.hid (HB3.out.fr hF1 (fun h => h))
  have HFV := Lib.hid (HF0.out.trans hF1)
  have hl : (Instr.lookup 128 (.map (some V.heap.size)) (.int .i64 9) true).run Tryd.prog w1 = .ok (.tuple #[.func (.func 51) #[] #[], .bool true]) w1 := look_pl w1 _ hm 9 (by decide)
  have HS : (fun w' : World => w'.cell? ⟨w.heap.size, 0, none⟩ = some (.int .i64 9)) w1 := by show w1.cell? _ = _; rw [HV2.out.cell]; rfl
  generalize V.heap.size = mb at *
  clear hF1 hm hw1 HB1 HB2 HB3 HF0 hsz
  try dsimp only
  refine hK.out _ _ (fun _ => HS) ?_
  clear hK K
  refine AnyK.one (i := 3) rfl (by kernel_rfl) (fun K hK => ?_)
  go_simp
  refine hK.out _ _ (fun _ => HS) ?_
  clear hK K
  refine AnyK.take (i := 4) rfl (by decide) (by kernel_rfl) (by kernel_rfl) (by kernel_rfl) (fun _ _ _ _ h => h) HS (fun K hK => ?_)
  go_simp
  refine hK.out _ ⟨_, by rfl, Or.inl ⟨by rfl, by intro w' hSw; (try dsimp only at hSw); go_simp⟩, ?_⟩
  clear hK K
  refine AnyK.take (i := 5) rfl (by decide) (by kernel_rfl) (by kernel_rfl) (by kernel_rfl) (fun _ _ _ _ h => h) HS (fun K hK => ?_)
  go_simp
  refine hK.out _ ⟨_, by rfl, Or.inl ⟨by rfl, by intro w' hSw; (try dsimp only at hSw); go_simp⟩, ?_⟩
  clear hK K
  refine AnyK.take (i := 6) rfl (by decide) (by kernel_rfl) (by kernel_rfl) (by kernel_rfl) (fun _ _ _ _ h => h) HS (fun K hK => ?_)
  go_simp
  refine hK.out _ ⟨_, by rfl, Or.inl ⟨by rfl, by intro w' hSw; (try dsimp only at hSw); go_simp⟩, ?_⟩
  clear hK K
  refine AnyK.take (i := 7) rfl (by decide) (by kernel_rfl) (by kernel_rfl) (by kernel_rfl) (fun _ _ _ _ h => h) HS (fun K hK => ?_)
  go_simp
  refine hK.out _ ⟨_, by rfl, Or.inl ⟨by rfl, by intro w' hSw; (try dsimp only at hSw); go_simp⟩, ?_⟩
  clear hK K
  refine AnyK.take (i := 8) rfl (by decide) (by kernel_rfl) (by kernel_rfl) (by kernel_rfl) (fun _ _ _ _ h => h) HS (fun K hK => ?_)
  go_simp
  refine hK.out _ ⟨_, by rfl, Or.inl ⟨by rfl, by intro w' hSw; (try dsimp only at hSw); go_simp⟩, ?_⟩
  clear hK K
  refine AnyK.done (by kernel_rfl) ?_ _
  clear hl HS
  go_upto_region 3 with (fail)
  have SF : ∀ w' : World, Blk w' w.heap.size 98 #[.int .i64 9, .int .i64 a, .int .i64 b, .int .i64 c, .int .i64 k] → (fun w' : World => w'.cell? ⟨w.heap.size, 0, none⟩ = some (.int .i64 9) ∧ w'.cell? ⟨w.heap.size, 1, none⟩ = some (.int .i64 a) ∧ w'.cell? ⟨w.heap.size, 2, none⟩ = some (.int .i64 b) ∧ w'.cell? ⟨w.heap.size, 3, none⟩ = some (.int .i64 c) ∧ w'.cell? ⟨w.heap.size, 4, none⟩ = some (.int .i64 k)) w' := fun w' hI => ⟨by rw [hI.cell]; rfl, by rw [hI.cell]; rfl, by rw [hI.cell]; rfl, by rw [hI.cell]; rfl, by rw [hI.cell]; rfl⟩
  have HSF := Lib.hid SF
  refine region_K 5 (fun w' : World => w'.cell? ⟨w.heap.size, 0, none⟩ = some (.int .i64 9) ∧ w'.cell? ⟨w.heap.size, 1, none⟩ = some (.int .i64 a) ∧ w'.cell? ⟨w.heap.size, 2, none⟩ = some (.int .i64 b) ∧ w'.cell? ⟨w.heap.size, 3, none⟩ = some (.int .i64 c) ∧ w'.cell? ⟨w.heap.size, 4, none⟩ = some (.int .i64 k)) (by kernel_rfl) ?_
  have HU1 := Lib.hid HV1.out.drew
  have HU2 := Lib.hid HV2.out.drew
  have HU3 := Lib.hid HV3.out.drew
  have HFU := Lib.hid HFV.out.drew
  have HS : (fun w' : World => w'.cell? ⟨w.heap.size, 0, none⟩ = some (.int .i64 9) ∧ w'.cell? ⟨w.heap.size, 1, none⟩ = some (.int .i64 a) ∧ w'.cell? ⟨w.heap.size, 2, none⟩ = some (.int .i64 b) ∧ w'.cell? ⟨w.heap.size, 3, none⟩ = some (.int .i64 c) ∧ w'.cell? ⟨w.heap.size, 4, none⟩ = some (.int .i64 k)) w1.drew := SF _ HU2.out
  clear SF HV1 HV2 HV3 HFV
  generalize w1.drew = V1 at *
  refine AnyK.take (i := 0) rfl (by decide) (by kernel_rfl) (by kernel_rfl) (by kernel_rfl) (fun _ _ _ _ h => h) HS (fun K hK => ?_)
  go_simp
  refine hK.out _ ⟨_, by rfl, Or.inl ⟨by rfl, by intro w' hSw; (try dsimp only at hSw); go_simp⟩, ?_⟩
  clear hK K
  refine AnyK.take (i := 1) rfl (by decide) (by kernel_rfl) (by kernel_rfl) (by kernel_rfl) (fun _ _ _ _ h => h) HS (fun K hK => ?_)
  go_simp
  refine hK.out _ ⟨_, by rfl, Or.inl ⟨by rfl, by intro w' hSw; (try dsimp only at hSw); go_simp⟩, ?_⟩
  clear hK K
  refine AnyK.take (i := 2) rfl (by decide) (by kernel_rfl) (by kernel_rfl) (by kernel_rfl) (fun _ _ _ _ h => h) HS (fun K hK => ?_)
  go_simp
  refine hK.out _ ⟨_, by rfl, Or.inl ⟨by rfl, by intro w' hSw; (try dsimp only at hSw); go_simp⟩, ?_⟩
  clear hK K
  refine AnyK.take (i := 3) rfl (by decide) (by kernel_rfl) (by kernel_rfl) (by kernel_rfl) (fun _ _ _ _ h => h) HS (fun K hK => ?_)
  go_simp
  refine hK.out _ ⟨_, by rfl, Or.inl ⟨by rfl, by intro w' hSw; (try dsimp only at hSw); go_simp⟩, ?_⟩
  clear hK K
  refine AnyK.take (i := 4) rfl (by decide) (by kernel_rfl) (by kernel_rfl) (by kernel_rfl) (fun _ _ _ _ h => h) HS (fun K hK => ?_)
  go_simp
  refine hK.out _ ⟨_, by rfl, Or.inl ⟨by rfl, by intro w' hSw; (try dsimp only at hSw); go_simp⟩, ?_⟩
  clear hK K
  refine AnyK.one (i := 5) rfl (by kernel_rfl) (fun K hK => ?_)
  go_simp
  refine (HOP.out _ HU1.out).mono ?_
  rintro e w2 ⟨rfl, hT2, hF2⟩
  have HS := HSF.out w2 (HU2.out.fr hF2 (fun h => by have h' : w.heap.size = t := h; omega))
  have hE := HU3.out.fr hF2 (fun h => by have h' : w.heap.size + 1 = t := h; omega)
  have HE := Lib.hid hE
  have HT := Lib.hid hT2
  have HF2 := Lib.hid ((HFU.out.mono (fun _ h => h.elim)).trans hF2)
  clear HU1 HU2 HU3 HFU hT2 hF2 HOP
  refine hK.out _ _ (fun _ => HS) ?_
  clear hK K HSF HS
  refine AnyK.done (by kernel_rfl) ?_ _
  have e0 : w2.cell? ⟨(w.heap.size + 1), 0, none⟩ = some (.int .i64 0) := by rw [hE.cell]; rfl
  have y0 : w2.frozen? ⟨(w.heap.size + 1), 0, none⟩ = false := hE.frozen _
  have e1 : w2.cell? ⟨(w.heap.size + 1), 1, none⟩ = some (.int .i64 0) := by rw [hE.cell]; rfl
  have y1 : w2.frozen? ⟨(w.heap.size + 1), 1, none⟩ = false := hE.frozen _
  have e2 : w2.cell? ⟨(w.heap.size + 1), 2, none⟩ = some (.int .i64 0) := by rw [hE.cell]; rfl
  have y2 : w2.frozen? ⟨(w.heap.size + 1), 2, none⟩ = false := hE.frozen _
  have e3 : w2.cell? ⟨(w.heap.size + 1), 3, none⟩ = some (.int .i64 0) := by rw [hE.cell]; rfl
  have y3 : w2.frozen? ⟨(w.heap.size + 1), 3, none⟩ = false := hE.frozen _
  have e4 : w2.cell? ⟨(w.heap.size + 1), 4, none⟩ = some (.int .i64 0) := by rw [hE.cell]; rfl
  have y4 : w2.frozen? ⟨(w.heap.size + 1), 4, none⟩ = false := hE.frozen _
  have e5 : w2.cell? ⟨(w.heap.size + 1), 5, none⟩ = some (.int .i64 0) := by rw [hE.cell]; rfl
  have y5 : w2.frozen? ⟨(w.heap.size + 1), 5, none⟩ = false := hE.frozen _
  have e6 : w2.cell? ⟨(w.heap.size + 1), 6, none⟩ = some (nilS) := by rw [hE.cell]; rfl
  have y6 : w2.frozen? ⟨(w.heap.size + 1), 6, none⟩ = false := hE.frozen _
  have e7 : w2.cell? ⟨(w.heap.size + 1), 7, none⟩ = some (nilS) := by rw [hE.cell]; rfl
  have y7 : w2.frozen? ⟨(w.heap.size + 1), 7, none⟩ = false := hE.frozen _
  clear hE
  go_wp2_with fail
  refine bodyPost_ret (results_cell_row rfl _ _ (w.heap.size + 1) 36 (efC 1 0 0 0 0 0 nilS nilS) (0, 0) _ rfl (ef_stored (HE.out) _ _ _ _ _ _ _ _) Tryd.underlying36 rfl (by kernel_rfl)) rfl ?_
  refine ⟨rfl, HT.out.fr (ef_frame (B := fun n => n = w.heap.size + 1) (Fr.refl _ _) (.inl rfl) _ _ _ _ _ _ _ _) (fun h => by have h' : t = w.heap.size + 1 := h; omega), ef_frame HF2.out (.inr (by omega)) _ _ _ _ _ _ _ _⟩
end Go.Proofs.YtadcenaafoemmaaDoor

/-
  A plain operation, as a turn does it. No condition.
-/
namespace Go.Proofs.YtadcenaafoemmaaDoor
open Go.RowKit

set_option maxHeartbeats 8000000 in
set_option maxRecDepth 100000 in
theorem do_zero (w : World) (t F : Nat) (at_ : Int) (regs : List Int) (pg : Value) (bud dep : Int) (h8 : regs.length = 8) (hB : Blk w t 115 (tnL at_ regs F pg bud dep).toArray) (k b c : Int) (a : Nat) (x : Int) (hx : regs[a]? = some x) :
    Calls Tryd.prog 28 #[.pointer (some ⟨t, 0, none⟩), .agg #[.int .i64 10, .int .i64 (a : Int), .int .i64 b, .int .i64 c, .int .i64 k]] w (Goes w t F (zeroTo x k at_) regs pg bud dep) := by
  have ha : a < 8 := by have := (List.getElem?_eq_some_iff.1 hx).1; omega
  have HOP : Hid (∀ w, Blk w t 115 (tnL at_ regs F pg bud dep).toArray → Calls Tryd.prog 52 #[.pointer (some ⟨t, 0, none⟩), .agg #[.int .i64 10, .int .i64 (a : Int), .int .i64 b, .int .i64 c, .int .i64 k]] w (OpPost w t 115 (tnL (zeroTo x k at_) regs F pg bud dep).toArray)) := Lib.hid (fun w hB => by
    have h := zero_op w t 115 _ hB 10 k a ha b c x (tn_reg (at_ := at_) (F := F) (pg := pg) (bud := bud) (dep := dep) h8 hx) at_ (tn_rest (at_ := at_) (F := F) (pg := pg) (bud := bud) (dep := dep) h8).1
    rw [tn_setA] at h
    exact h)
  have HB := Lib.hid hB
  have hlt := hB.lt
  clear hB hx
  go_enter Tryd.func28, Tryd.ntmps28
  go_upto_region 1 with (fail)
  generalize hW0 : ((w.alloc (.cells _ 98)).alloc (.cells _ 36)) = W0
  have hI : Blk W0 w.heap.size 98 #[.int .i64 10, .int .i64 (a : Int), .int .i64 b, .int .i64 c, .int .i64 k] := by rw [← hW0]; exact (Blk.new _ _ _).alloc _
  have hE : Blk W0 (w.heap.size + 1) 36 efZ := by
    have h := Blk.new (w.alloc (.cells #[.int .i64 10, .int .i64 (a : Int), .int .i64 b, .int .i64 c, .int .i64 k] 98)) 36 efZ
    rw [show (w.alloc (.cells #[.int .i64 10, .int .i64 (a : Int), .int .i64 b, .int .i64 c, .int .i64 k] 98)).heap.size = w.heap.size + 1 by simp] at h
    rw [← hW0]; exact h
  have hF : Fr None' w W0 := by rw [← hW0]; exact ((Fr.refl _ _).alloc _).alloc _
  have hsz : W0.drew.heap.size = w.heap.size + 2 := by rw [← hW0]; simp
  have i0 : W0.drew.cell? ⟨w.heap.size, 0, none⟩ = some (.int .i64 10) := by rw [hI.drew.cell]; rfl
  have HB1 := Lib.hid (HB.out.fr hF.drew (fun h => h))
  have HB2 := Lib.hid hI.drew
  have HB3 := Lib.hid hE.drew
  have HF0 := Lib.hid hF.drew
  clear hI hE hF HB hW0
  refine region_K 9 (fun w' : World => w'.cell? ⟨w.heap.size, 0, none⟩ = some (.int .i64 10)) (by kernel_rfl) ?_
  have HS : (fun w' : World => w'.cell? ⟨w.heap.size, 0, none⟩ = some (.int .i64 10)) W0.drew := i0
  generalize W0.drew = V at *
  refine AnyK.take (i := 1) rfl (by decide) (by kernel_rfl) (by kernel_rfl) (by kernel_rfl) (fun _ _ _ _ h => h) HS (fun K hK => ?_)
  go_simp
  refine hK.out _ ⟨_, by rfl, Or.inl ⟨by rfl, by intro w' hSw; (try dsimp only at hSw); go_simp⟩, ?_⟩
  clear hK K
  refine AnyK.take (i := 2) rfl (by decide) (by kernel_rfl) (by kernel_rfl) (by kernel_rfl) (fun _ _ _ _ h => h) HS (fun K hK => ?_)
  go_simp
  refine hK.out _ ⟨_, by rfl, Or.inl ⟨by rfl, by intro w' hSw; (try dsimp only at hSw); go_simp⟩, ?_⟩
  clear hK K
  refine AnyK.one (i := 0) rfl (by kernel_rfl) (fun K hK => ?_)
  go_simp
  refine (pl_any _).mono ?_
  rintro e w1 ⟨rfl, hw1⟩
  have hm : w1.heap[V.heap.size]? = some (.map plE 9) := by rw [hw1]; exact heap_alloc_new V _
  have hF1 : Fr None' V w1 := by rw [hw1]; exact (Fr.refl _ _).alloc _
  have HV1 := Lib.hid (HB1.out.fr hF1 (fun h => h))
  have HV2 := Lib.hid (HB2.out.fr hF1 (fun h => h))
  have HV3 := Lib.hid (HB3.out.fr hF1 (fun h => h))
  have HFV := Lib.hid (HF0.out.trans hF1)
  have hl : (Instr.lookup 128 (.map (some V.heap.size)) (.int .i64 10) true).run Tryd.prog w1 = .ok (.tuple #[.func (.func 52) #[] #[], .bool true]) w1 := look_pl w1 _ hm 10 (by decide)
  have HS : (fun w' : World => w'.cell? ⟨w.heap.size, 0, none⟩ = some (.int .i64 10)) w1 := by show w1.cell? _ = _; rw [HV2.out.cell]; rfl
  generalize V.heap.size = mb at *
  clear hF1 hm hw1 HB1 HB2 HB3 HF0 hsz
  try dsimp only
  refine hK.out _ _ (fun _ => HS) ?_
  clear hK K
  refine AnyK.one (i := 3) rfl (by kernel_rfl) (fun K hK => ?_)
  go_simp
  refine hK.out _ _ (fun _ => HS) ?_
  clear hK K
  refine AnyK.take (i := 4) rfl (by decide) (by kernel_rfl) (by kernel_rfl) (by kernel_rfl) (fun _ _ _ _ h => h) HS (fun K hK => ?_)
  go_simp
  refine hK.out _ ⟨_, by rfl, Or.inl ⟨by rfl, by intro w' hSw; (try dsimp only at hSw); go_simp⟩, ?_⟩
  clear hK K
  refine AnyK.take (i := 5) rfl (by decide) (by kernel_rfl) (by kernel_rfl) (by kernel_rfl) (fun _ _ _ _ h => h) HS (fun K hK => ?_)
  go_simp
  refine hK.out _ ⟨_, by rfl, Or.inl ⟨by rfl, by intro w' hSw; (try dsimp only at hSw); go_simp⟩, ?_⟩
  clear hK K
  refine AnyK.take (i := 6) rfl (by decide) (by kernel_rfl) (by kernel_rfl) (by kernel_rfl) (fun _ _ _ _ h => h) HS (fun K hK => ?_)
  go_simp
  refine hK.out _ ⟨_, by rfl, Or.inl ⟨by rfl, by intro w' hSw; (try dsimp only at hSw); go_simp⟩, ?_⟩
  clear hK K
  refine AnyK.take (i := 7) rfl (by decide) (by kernel_rfl) (by kernel_rfl) (by kernel_rfl) (fun _ _ _ _ h => h) HS (fun K hK => ?_)
  go_simp
  refine hK.out _ ⟨_, by rfl, Or.inl ⟨by rfl, by intro w' hSw; (try dsimp only at hSw); go_simp⟩, ?_⟩
  clear hK K
  refine AnyK.take (i := 8) rfl (by decide) (by kernel_rfl) (by kernel_rfl) (by kernel_rfl) (fun _ _ _ _ h => h) HS (fun K hK => ?_)
  go_simp
  refine hK.out _ ⟨_, by rfl, Or.inl ⟨by rfl, by intro w' hSw; (try dsimp only at hSw); go_simp⟩, ?_⟩
  clear hK K
  refine AnyK.done (by kernel_rfl) ?_ _
  clear hl HS
  go_upto_region 3 with (fail)
  have SF : ∀ w' : World, Blk w' w.heap.size 98 #[.int .i64 10, .int .i64 (a : Int), .int .i64 b, .int .i64 c, .int .i64 k] → (fun w' : World => w'.cell? ⟨w.heap.size, 0, none⟩ = some (.int .i64 10) ∧ w'.cell? ⟨w.heap.size, 1, none⟩ = some (.int .i64 (a : Int)) ∧ w'.cell? ⟨w.heap.size, 2, none⟩ = some (.int .i64 b) ∧ w'.cell? ⟨w.heap.size, 3, none⟩ = some (.int .i64 c) ∧ w'.cell? ⟨w.heap.size, 4, none⟩ = some (.int .i64 k)) w' := fun w' hI => ⟨by rw [hI.cell]; rfl, by rw [hI.cell]; rfl, by rw [hI.cell]; rfl, by rw [hI.cell]; rfl, by rw [hI.cell]; rfl⟩
  have HSF := Lib.hid SF
  refine region_K 5 (fun w' : World => w'.cell? ⟨w.heap.size, 0, none⟩ = some (.int .i64 10) ∧ w'.cell? ⟨w.heap.size, 1, none⟩ = some (.int .i64 (a : Int)) ∧ w'.cell? ⟨w.heap.size, 2, none⟩ = some (.int .i64 b) ∧ w'.cell? ⟨w.heap.size, 3, none⟩ = some (.int .i64 c) ∧ w'.cell? ⟨w.heap.size, 4, none⟩ = some (.int .i64 k)) (by kernel_rfl) ?_
  have HU1 := Lib.hid HV1.out.drew
  have HU2 := Lib.hid HV2.out.drew
  have HU3 := Lib.hid HV3.out.drew
  have HFU := Lib.hid HFV.out.drew
  have HS : (fun w' : World => w'.cell? ⟨w.heap.size, 0, none⟩ = some (.int .i64 10) ∧ w'.cell? ⟨w.heap.size, 1, none⟩ = some (.int .i64 (a : Int)) ∧ w'.cell? ⟨w.heap.size, 2, none⟩ = some (.int .i64 b) ∧ w'.cell? ⟨w.heap.size, 3, none⟩ = some (.int .i64 c) ∧ w'.cell? ⟨w.heap.size, 4, none⟩ = some (.int .i64 k)) w1.drew := SF _ HU2.out
  clear SF HV1 HV2 HV3 HFV
  generalize w1.drew = V1 at *
  refine AnyK.take (i := 0) rfl (by decide) (by kernel_rfl) (by kernel_rfl) (by kernel_rfl) (fun _ _ _ _ h => h) HS (fun K hK => ?_)
  go_simp
  refine hK.out _ ⟨_, by rfl, Or.inl ⟨by rfl, by intro w' hSw; (try dsimp only at hSw); go_simp⟩, ?_⟩
  clear hK K
  refine AnyK.take (i := 1) rfl (by decide) (by kernel_rfl) (by kernel_rfl) (by kernel_rfl) (fun _ _ _ _ h => h) HS (fun K hK => ?_)
  go_simp
  refine hK.out _ ⟨_, by rfl, Or.inl ⟨by rfl, by intro w' hSw; (try dsimp only at hSw); go_simp⟩, ?_⟩
  clear hK K
  refine AnyK.take (i := 2) rfl (by decide) (by kernel_rfl) (by kernel_rfl) (by kernel_rfl) (fun _ _ _ _ h => h) HS (fun K hK => ?_)
  go_simp
  refine hK.out _ ⟨_, by rfl, Or.inl ⟨by rfl, by intro w' hSw; (try dsimp only at hSw); go_simp⟩, ?_⟩
  clear hK K
  refine AnyK.take (i := 3) rfl (by decide) (by kernel_rfl) (by kernel_rfl) (by kernel_rfl) (fun _ _ _ _ h => h) HS (fun K hK => ?_)
  go_simp
  refine hK.out _ ⟨_, by rfl, Or.inl ⟨by rfl, by intro w' hSw; (try dsimp only at hSw); go_simp⟩, ?_⟩
  clear hK K
  refine AnyK.take (i := 4) rfl (by decide) (by kernel_rfl) (by kernel_rfl) (by kernel_rfl) (fun _ _ _ _ h => h) HS (fun K hK => ?_)
  go_simp
  refine hK.out _ ⟨_, by rfl, Or.inl ⟨by rfl, by intro w' hSw; (try dsimp only at hSw); go_simp⟩, ?_⟩
  clear hK K
  refine AnyK.one (i := 5) rfl (by kernel_rfl) (fun K hK => ?_)
  go_simp
  refine (HOP.out _ HU1.out).mono ?_
  rintro e w2 ⟨rfl, hT2, hF2⟩
  have HS := HSF.out w2 (HU2.out.fr hF2 (fun h => by have h' : w.heap.size = t := h; omega))
  have hE := HU3.out.fr hF2 (fun h => by have h' : w.heap.size + 1 = t := h; omega)
  have HE := Lib.hid hE
  have HT := Lib.hid hT2
  have HF2 := Lib.hid ((HFU.out.mono (fun _ h => h.elim)).trans hF2)
  clear HU1 HU2 HU3 HFU hT2 hF2 HOP
  refine hK.out _ _ (fun _ => HS) ?_
  clear hK K HSF HS
  refine AnyK.done (by kernel_rfl) ?_ _
  have e0 : w2.cell? ⟨(w.heap.size + 1), 0, none⟩ = some (.int .i64 0) := by rw [hE.cell]; rfl
  have y0 : w2.frozen? ⟨(w.heap.size + 1), 0, none⟩ = false := hE.frozen _
  have e1 : w2.cell? ⟨(w.heap.size + 1), 1, none⟩ = some (.int .i64 0) := by rw [hE.cell]; rfl
  have y1 : w2.frozen? ⟨(w.heap.size + 1), 1, none⟩ = false := hE.frozen _
  have e2 : w2.cell? ⟨(w.heap.size + 1), 2, none⟩ = some (.int .i64 0) := by rw [hE.cell]; rfl
  have y2 : w2.frozen? ⟨(w.heap.size + 1), 2, none⟩ = false := hE.frozen _
  have e3 : w2.cell? ⟨(w.heap.size + 1), 3, none⟩ = some (.int .i64 0) := by rw [hE.cell]; rfl
  have y3 : w2.frozen? ⟨(w.heap.size + 1), 3, none⟩ = false := hE.frozen _
  have e4 : w2.cell? ⟨(w.heap.size + 1), 4, none⟩ = some (.int .i64 0) := by rw [hE.cell]; rfl
  have y4 : w2.frozen? ⟨(w.heap.size + 1), 4, none⟩ = false := hE.frozen _
  have e5 : w2.cell? ⟨(w.heap.size + 1), 5, none⟩ = some (.int .i64 0) := by rw [hE.cell]; rfl
  have y5 : w2.frozen? ⟨(w.heap.size + 1), 5, none⟩ = false := hE.frozen _
  have e6 : w2.cell? ⟨(w.heap.size + 1), 6, none⟩ = some (nilS) := by rw [hE.cell]; rfl
  have y6 : w2.frozen? ⟨(w.heap.size + 1), 6, none⟩ = false := hE.frozen _
  have e7 : w2.cell? ⟨(w.heap.size + 1), 7, none⟩ = some (nilS) := by rw [hE.cell]; rfl
  have y7 : w2.frozen? ⟨(w.heap.size + 1), 7, none⟩ = false := hE.frozen _
  clear hE
  go_wp2_with fail
  refine bodyPost_ret (results_cell_row rfl _ _ (w.heap.size + 1) 36 (efC 1 0 0 0 0 0 nilS nilS) (0, 0) _ rfl (ef_stored (HE.out) _ _ _ _ _ _ _ _) Tryd.underlying36 rfl (by kernel_rfl)) rfl ?_
  refine ⟨rfl, HT.out.fr (ef_frame (B := fun n => n = w.heap.size + 1) (Fr.refl _ _) (.inl rfl) _ _ _ _ _ _ _ _) (fun h => by have h' : t = w.heap.size + 1 := h; omega), ef_frame HF2.out (.inr (by omega)) _ _ _ _ _ _ _ _⟩
end Go.Proofs.YtadcenaafoemmaaDoor
