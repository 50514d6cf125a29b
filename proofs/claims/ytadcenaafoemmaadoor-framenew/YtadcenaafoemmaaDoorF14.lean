/-
  Sync, touch, div: what they come to. No condition.
-/
import Derived.Test.YtadcenaafoemmaaDoorF13
namespace Go.Proofs.YtadcenaafoemmaaDoor
open Go.RowKit

set_option maxHeartbeats 4000000 in
set_option maxRecDepth 100000 in
theorem fsync_any (w : World) (v : Value) (op a b c k : Int) : Calls Tryd.prog 64 #[v, .agg #[.int .i64 op, .int .i64 a, .int .i64 b, .int .i64 c, .int .i64 k]] w fun e w' => e = .returned (.agg (efC 5 0 0 0 0 0 nilS nilS)) ∧ Fr None' w w' := by
  go_enter Tryd.func64, Tryd.ntmps64
  go_upto_region 1 with (fail)
  generalize hW : ((w.alloc (.cells _ 98)).alloc (.cells _ 36)) = W
  have hI : Blk W w.heap.size 98 #[.int .i64 op, .int .i64 a, .int .i64 b, .int .i64 c, .int .i64 k] := by rw [← hW]; exact (Blk.new _ _ _).alloc _
  have hB : Blk W (w.heap.size + 1) 36 efZ := by
    have h := Blk.new (w.alloc (.cells #[.int .i64 op, .int .i64 a, .int .i64 b, .int .i64 c, .int .i64 k] 98)) 36 efZ
    rw [show (w.alloc (.cells #[.int .i64 op, .int .i64 a, .int .i64 b, .int .i64 c, .int .i64 k] 98)).heap.size = w.heap.size + 1 by simp] at h
    rw [← hW]; exact h
  have hF : Fr None' w W := by rw [← hW]; exact ((Fr.refl _ _).alloc _).alloc _
  have HB := Lib.hid hB
  have HI := Lib.hid hI
  have HF := Lib.hid hF
  clear hI hB hF hW
  have hB := HB.out
  have e0 : W.cell? ⟨(w.heap.size + 1), 0, none⟩ = some (.int .i64 0) := by rw [hB.cell]; rfl
  have y0 : W.frozen? ⟨(w.heap.size + 1), 0, none⟩ = false := hB.frozen _
  have e1 : W.cell? ⟨(w.heap.size + 1), 1, none⟩ = some (.int .i64 0) := by rw [hB.cell]; rfl
  have y1 : W.frozen? ⟨(w.heap.size + 1), 1, none⟩ = false := hB.frozen _
  have e2 : W.cell? ⟨(w.heap.size + 1), 2, none⟩ = some (.int .i64 0) := by rw [hB.cell]; rfl
  have y2 : W.frozen? ⟨(w.heap.size + 1), 2, none⟩ = false := hB.frozen _
  have e3 : W.cell? ⟨(w.heap.size + 1), 3, none⟩ = some (.int .i64 0) := by rw [hB.cell]; rfl
  have y3 : W.frozen? ⟨(w.heap.size + 1), 3, none⟩ = false := hB.frozen _
  have e4 : W.cell? ⟨(w.heap.size + 1), 4, none⟩ = some (.int .i64 0) := by rw [hB.cell]; rfl
  have y4 : W.frozen? ⟨(w.heap.size + 1), 4, none⟩ = false := hB.frozen _
  have e5 : W.cell? ⟨(w.heap.size + 1), 5, none⟩ = some (.int .i64 0) := by rw [hB.cell]; rfl
  have y5 : W.frozen? ⟨(w.heap.size + 1), 5, none⟩ = false := hB.frozen _
  have e6 : W.cell? ⟨(w.heap.size + 1), 6, none⟩ = some (nilS) := by rw [hB.cell]; rfl
  have y6 : W.frozen? ⟨(w.heap.size + 1), 6, none⟩ = false := hB.frozen _
  have e7 : W.cell? ⟨(w.heap.size + 1), 7, none⟩ = some (nilS) := by rw [hB.cell]; rfl
  have y7 : W.frozen? ⟨(w.heap.size + 1), 7, none⟩ = false := hB.frozen _
  clear hB
  go_wp2_with fail
  refine bodyPost_ret (results_cell_row rfl _ _ (w.heap.size + 1) 36 (efC 5 0 0 0 0 0 nilS nilS) (0, 0) _ rfl (ef_stored (HB.out) _ _ _ _ _ _ _ _) Tryd.underlying36 rfl (by kernel_rfl)) rfl ?_
  exact ⟨rfl, ef_frame HF.out (.inr (by omega)) _ _ _ _ _ _ _ _⟩

/-- What a touch comes to. -/
def touE (x a : Int) : Array Value := if x = 0 then efC 8 0 0 0 0 2 nilS nilS else efC 6 0 a 0 x 0 nilS nilS
theorem touE_no (a : Int) : touE 0 a = efC 8 0 0 0 0 2 nilS nilS := if_pos rfl
theorem touE_yes {x : Int} (a : Int) (h : x ≠ 0) : touE x a = efC 6 0 a 0 x 0 nilS nilS := if_neg h

set_option maxHeartbeats 8000000 in
set_option maxRecDepth 100000 in
theorem ftouch_any (w : World) (t F : Nat) (tc fc : Array Value) (hT : Blk w t 115 tc) (hB0 : Blk w F 95 fc) (h9 : tc[9]? = some (.pointer (some ⟨F, 0, none⟩))) (op a c k : Int) (b : Nat) (x : Int) (hb : b < 4) (hx : fc[13 + b]? = some (.int .i64 x)) :
    Calls Tryd.prog 66 #[.pointer (some ⟨t, 0, none⟩), .agg #[.int .i64 op, .int .i64 a, .int .i64 (b : Int), .int .i64 c, .int .i64 k]] w fun e w' => e = .returned (.agg (touE x a)) ∧ Fr None' w w' := by
  have HT := Lib.hid hT
  have HB0 := Lib.hid hB0
  have H9 := Lib.hid h9
  have HX := Lib.hid hx
  have g1 : (0 : Int) ≤ (b : Int) := by omega
  have g2 : (b : Int) < 4 := by omega
  clear hT hB0 h9 hx
  go_enter Tryd.func66, Tryd.ntmps66
  go_upto_region 1 with (fail)
  generalize hW : ((w.alloc (.cells _ 98)).alloc (.cells _ 36)) = W
  have hI : Blk W w.heap.size 98 #[.int .i64 op, .int .i64 a, .int .i64 (b : Int), .int .i64 c, .int .i64 k] := by rw [← hW]; exact (Blk.new _ _ _).alloc _
  have hB : Blk W (w.heap.size + 1) 36 efZ := by
    have h := Blk.new (w.alloc (.cells #[.int .i64 op, .int .i64 a, .int .i64 (b : Int), .int .i64 c, .int .i64 k] 98)) 36 efZ
    rw [show (w.alloc (.cells #[.int .i64 op, .int .i64 a, .int .i64 (b : Int), .int .i64 c, .int .i64 k] 98)).heap.size = w.heap.size + 1 by simp] at h
    rw [← hW]; exact h
  have hF : Fr None' w W := by rw [← hW]; exact ((Fr.refl _ _).alloc _).alloc _
  have HB := Lib.hid hB
  have HI := Lib.hid hI
  have HF := Lib.hid hF
  clear hI hB hF hW
  have HS : (fun w' : World => w'.cell? ⟨t, 9, none⟩ = some (.pointer (some ⟨F, 0, none⟩)) ∧ w'.cell? ⟨w.heap.size, 2, none⟩ = some (.int .i64 (b : Int)) ∧ w'.cell? ⟨F, 13 + b, none⟩ = some (.int .i64 x)) W.drew := ⟨by show W.cell? _ = _; rw [(HT.out.fr HF.out (fun h => h)).cell]; exact H9.out, by show W.cell? _ = _; rw [HI.out.cell]; rfl, by show W.cell? _ = _; rw [(HB0.out.fr HF.out (fun h => h)).cell]; exact HX.out⟩
  refine region_K 11 (fun w' : World => w'.cell? ⟨t, 9, none⟩ = some (.pointer (some ⟨F, 0, none⟩)) ∧ w'.cell? ⟨w.heap.size, 2, none⟩ = some (.int .i64 (b : Int)) ∧ w'.cell? ⟨F, 13 + b, none⟩ = some (.int .i64 x)) (by kernel_rfl) ?_
  have HBd := Lib.hid HB.out.drew
  have HId := Lib.hid HI.out.drew
  have HFd := Lib.hid HF.out.drew
  clear HB HI HF HT HB0
  generalize W.drew = V at *
  refine AnyK.take (i := 0) rfl (by decide) (by kernel_rfl) (by kernel_rfl) (by kernel_rfl) (fun _ _ _ _ h => h) HS (fun K hK => ?_)
  go_simp
  refine hK.out _ ⟨_, by rfl, Or.inl ⟨by rfl, by intro w' hSw; (try dsimp only at hSw); go_simp⟩, ?_⟩
  clear hK K
  refine AnyK.take (i := 1) rfl (by decide) (by kernel_rfl) (by kernel_rfl) (by kernel_rfl) (fun _ _ _ _ h => h) HS (fun K hK => ?_)
  go_simp
  refine hK.out _ ⟨_, by rfl, Or.inl ⟨by rfl, by intro w' hSw; (try dsimp only at hSw); go_simp⟩, ?_⟩
  clear hK K
  refine AnyK.take (i := 2) rfl (by decide) (by kernel_rfl) (by kernel_rfl) (by kernel_rfl) (fun _ _ _ _ h => h) HS (fun K hK => ?_)
  go_simp
  refine hK.out _ ⟨_, by rfl, Or.inl ⟨by rfl, by intro w' hSw; (try dsimp only at hSw); go_simp⟩, ?_⟩
  clear hK K
  refine AnyK.take (i := 3) rfl (by decide) (by kernel_rfl) (by kernel_rfl) (by kernel_rfl) (fun _ _ _ _ h => h) HS (fun K hK => ?_)
  go_simp
  refine hK.out _ ⟨_, by rfl, Or.inl ⟨by rfl, by intro w' hSw; (try dsimp only at hSw); go_simp⟩, ?_⟩
  clear hK K
  refine AnyK.take (i := 4) rfl (by decide) (by kernel_rfl) (by kernel_rfl) (by kernel_rfl) (fun _ _ _ _ h => h) HS (fun K hK => ?_)
  go_simp
  refine hK.out _ ⟨_, by rfl, Or.inl ⟨by rfl, by intro w' hSw; (try dsimp only at hSw); go_simp⟩, ?_⟩
  clear hK K
  refine AnyK.take (i := 5) rfl (by decide) (by kernel_rfl) (by kernel_rfl) (by kernel_rfl) (fun _ _ _ _ h => h) HS (fun K hK => ?_)
  go_simp
  refine hK.out _ ⟨_, by rfl, Or.inl ⟨by rfl, by intro w' hSw; (try dsimp only at hSw); go_simp⟩, ?_⟩
  clear hK K
  refine AnyK.take (i := 6) rfl (by decide) (by kernel_rfl) (by kernel_rfl) (by kernel_rfl) (fun _ _ _ _ h => h) HS (fun K hK => ?_)
  go_simp
  refine hK.out _ ⟨_, by rfl, Or.inl ⟨by rfl, by intro w' hSw; (try dsimp only at hSw); go_simp⟩, ?_⟩
  clear hK K
  refine AnyK.take (i := 7) rfl (by decide) (by kernel_rfl) (by kernel_rfl) (by kernel_rfl) (fun _ _ _ _ h => h) HS (fun K hK => ?_)
  go_simp
  refine hK.out _ ⟨_, by rfl, Or.inl ⟨by rfl, by intro w' hSw; (try dsimp only at hSw); go_simp⟩, ?_⟩
  clear hK K
  refine AnyK.take (i := 8) rfl (by decide) (by kernel_rfl) (by kernel_rfl) (by kernel_rfl) (fun _ _ _ _ h => h) HS (fun K hK => ?_)
  go_simp
  refine hK.out _ ⟨_, by rfl, Or.inl ⟨by rfl, by intro w' hSw; (try dsimp only at hSw); go_simp⟩, ?_⟩
  clear hK K
  refine AnyK.take (i := 9) rfl (by decide) (by kernel_rfl) (by kernel_rfl) (by kernel_rfl) (fun _ _ _ _ h => h) HS (fun K hK => ?_)
  go_simp
  refine hK.out _ ⟨_, by rfl, Or.inl ⟨by rfl, by intro w' hSw; (try dsimp only at hSw); go_simp⟩, ?_⟩
  clear hK K
  refine AnyK.one (i := 10) rfl (by kernel_rfl) (fun K hK => ?_)
  go_simp
  refine hK.out _ _ (fun _ => HS) ?_
  clear hK K
  refine AnyK.done (by kernel_rfl) ?_ _
  clear HS
  have i1 : V.cell? ⟨w.heap.size, 1, none⟩ = some (.int .i64 a) := by rw [HId.out.cell]; rfl
  by_cases h0 : x = 0
  · subst h0
    go_wp2_with fail
    refine (ffails_any _ 2).mono ?_
    rintro e w1 ⟨rfl, hF1⟩
    have hB := HBd.out.fr hF1 (fun h => h)
    have HB := Lib.hid hB
    have HF1 := Lib.hid (HFd.out.trans hF1)
    have e0 : w1.cell? ⟨(w.heap.size + 1), 0, none⟩ = some (.int .i64 0) := by rw [hB.cell]; rfl
    have y0 : w1.frozen? ⟨(w.heap.size + 1), 0, none⟩ = false := hB.frozen _
    have e1 : w1.cell? ⟨(w.heap.size + 1), 1, none⟩ = some (.int .i64 0) := by rw [hB.cell]; rfl
    have y1 : w1.frozen? ⟨(w.heap.size + 1), 1, none⟩ = false := hB.frozen _
    have e2 : w1.cell? ⟨(w.heap.size + 1), 2, none⟩ = some (.int .i64 0) := by rw [hB.cell]; rfl
    have y2 : w1.frozen? ⟨(w.heap.size + 1), 2, none⟩ = false := hB.frozen _
    have e3 : w1.cell? ⟨(w.heap.size + 1), 3, none⟩ = some (.int .i64 0) := by rw [hB.cell]; rfl
    have y3 : w1.frozen? ⟨(w.heap.size + 1), 3, none⟩ = false := hB.frozen _
    have e4 : w1.cell? ⟨(w.heap.size + 1), 4, none⟩ = some (.int .i64 0) := by rw [hB.cell]; rfl
    have y4 : w1.frozen? ⟨(w.heap.size + 1), 4, none⟩ = false := hB.frozen _
    have e5 : w1.cell? ⟨(w.heap.size + 1), 5, none⟩ = some (.int .i64 0) := by rw [hB.cell]; rfl
    have y5 : w1.frozen? ⟨(w.heap.size + 1), 5, none⟩ = false := hB.frozen _
    have e6 : w1.cell? ⟨(w.heap.size + 1), 6, none⟩ = some (nilS) := by rw [hB.cell]; rfl
    have y6 : w1.frozen? ⟨(w.heap.size + 1), 6, none⟩ = false := hB.frozen _
    have e7 : w1.cell? ⟨(w.heap.size + 1), 7, none⟩ = some (nilS) := by rw [hB.cell]; rfl
    have y7 : w1.frozen? ⟨(w.heap.size + 1), 7, none⟩ = false := hB.frozen _
    clear hB hF1 i1
    unfold efC
    go_wp2_with fail
    refine bodyPost_ret (results_cell_row rfl _ _ (w.heap.size + 1) 36 (efC 8 0 0 0 0 2 nilS nilS) (0, 0) _ rfl (ef_stored (HB.out) _ _ _ _ _ _ _ _) Tryd.underlying36 rfl (by kernel_rfl)) rfl ?_
    exact ⟨by rw [touE_no], ef_frame HF1.out (.inr (by omega)) _ _ _ _ _ _ _ _⟩
  · have hq : (x == 0) = false := by simpa using h0
    have hB := HBd.out
    have e0 : V.cell? ⟨(w.heap.size + 1), 0, none⟩ = some (.int .i64 0) := by rw [hB.cell]; rfl
    have y0 : V.frozen? ⟨(w.heap.size + 1), 0, none⟩ = false := hB.frozen _
    have e1 : V.cell? ⟨(w.heap.size + 1), 1, none⟩ = some (.int .i64 0) := by rw [hB.cell]; rfl
    have y1 : V.frozen? ⟨(w.heap.size + 1), 1, none⟩ = false := hB.frozen _
    have e2 : V.cell? ⟨(w.heap.size + 1), 2, none⟩ = some (.int .i64 0) := by rw [hB.cell]; rfl
    have y2 : V.frozen? ⟨(w.heap.size + 1), 2, none⟩ = false := hB.frozen _
    have e3 : V.cell? ⟨(w.heap.size + 1), 3, none⟩ = some (.int .i64 0) := by rw [hB.cell]; rfl
    have y3 : V.frozen? ⟨(w.heap.size + 1), 3, none⟩ = false := hB.frozen _
    have e4 : V.cell? ⟨(w.heap.size + 1), 4, none⟩ = some (.int .i64 0) := by rw [hB.cell]; rfl
    have y4 : V.frozen? ⟨(w.heap.size + 1), 4, none⟩ = false := hB.frozen _
    have e5 : V.cell? ⟨(w.heap.size + 1), 5, none⟩ = some (.int .i64 0) := by rw [hB.cell]; rfl
    have y5 : V.frozen? ⟨(w.heap.size + 1), 5, none⟩ = false := hB.frozen _
    have e6 : V.cell? ⟨(w.heap.size + 1), 6, none⟩ = some (nilS) := by rw [hB.cell]; rfl
    have y6 : V.frozen? ⟨(w.heap.size + 1), 6, none⟩ = false := hB.frozen _
    have e7 : V.cell? ⟨(w.heap.size + 1), 7, none⟩ = some (nilS) := by rw [hB.cell]; rfl
    have y7 : V.frozen? ⟨(w.heap.size + 1), 7, none⟩ = false := hB.frozen _
    clear hB
    go_wp2_with fail
    refine bodyPost_ret (results_cell_row rfl _ _ (w.heap.size + 1) 36 (efC 6 0 a 0 x 0 nilS nilS) (0, 0) _ rfl (ef_stored (HBd.out) _ _ _ _ _ _ _ _) Tryd.underlying36 rfl (by kernel_rfl)) rfl ?_
    exact ⟨by rw [touE_yes a h0], ef_frame HFd.out (.inr (by omega)) _ _ _ _ _ _ _ _⟩

set_option maxHeartbeats 8000000 in
set_option maxRecDepth 100000 in
theorem fdiv_yes (w : World) (t : Nat) (tc : Array Value) (hT : Blk w t 115 tc) (op k : Int) (a b c : Nat) (ha : a < 8) (hb : b < 8) (hc : c < 8) (z : Value) (ra : tc[1 + a]? = some z) (x y : Int) (hy : y ≠ 0) (rb : tc[1 + b]? = some (.int .i64 x)) (rc : tc[1 + c]? = some (.int .i64 y)) :
    Calls Tryd.prog 62 #[.pointer (some ⟨t, 0, none⟩), .agg #[.int .i64 op, .int .i64 (a : Int), .int .i64 (b : Int), .int .i64 (c : Int), .int .i64 k]] w fun e w' => e = .returned (.agg (efC 1 0 0 0 0 0 nilS nilS)) ∧ Blk w' t 115 (tc.setIfInBounds (1 + a) (.int .i64 (wrap64 (x.tdiv y)))) ∧ Fr (At t) w w' := by
  have HD : Hid (∀ W, Blk W t 115 tc → Calls Tryd.prog 74 #[.pointer (some ⟨t, 0, none⟩), .agg #[.int .i64 op, .int .i64 (a : Int), .int .i64 (b : Int), .int .i64 (c : Int), .int .i64 k]] W (DivPost W t 115 true (tc.setIfInBounds (1 + a) (.int .i64 (wrap64 (x.tdiv y)))))) := Lib.hid (fun W hW => div_yes W t _ tc hW op k a b c ha hb hc z ra x y hy rb rc)
  have HT := Lib.hid hT
  have htl := hT.lt
  clear hT ra rb rc hy ha hb hc
  go_enter Tryd.func62, Tryd.ntmps62
  go_upto_region 1 with (fail)
  generalize hW : ((w.alloc (.cells _ 98)).alloc (.cells _ 36)) = W
  have hI : Blk W w.heap.size 98 #[.int .i64 op, .int .i64 (a : Int), .int .i64 (b : Int), .int .i64 (c : Int), .int .i64 k] := by rw [← hW]; exact (Blk.new _ _ _).alloc _
  have hB : Blk W (w.heap.size + 1) 36 efZ := by
    have h := Blk.new (w.alloc (.cells #[.int .i64 op, .int .i64 (a : Int), .int .i64 (b : Int), .int .i64 (c : Int), .int .i64 k] 98)) 36 efZ
    rw [show (w.alloc (.cells #[.int .i64 op, .int .i64 (a : Int), .int .i64 (b : Int), .int .i64 (c : Int), .int .i64 k] 98)).heap.size = w.heap.size + 1 by simp] at h
    rw [← hW]; exact h
  have hF : Fr None' w W := by rw [← hW]; exact ((Fr.refl _ _).alloc _).alloc _
  have HB := Lib.hid hB
  have HI := Lib.hid hI
  have HF := Lib.hid hF
  clear hI hB hF hW
  have HS : (fun w' : World => w'.cell? ⟨w.heap.size, 0, none⟩ = some (.int .i64 op) ∧ w'.cell? ⟨w.heap.size, 1, none⟩ = some (.int .i64 (a : Int)) ∧ w'.cell? ⟨w.heap.size, 2, none⟩ = some (.int .i64 (b : Int)) ∧ w'.cell? ⟨w.heap.size, 3, none⟩ = some (.int .i64 (c : Int)) ∧ w'.cell? ⟨w.heap.size, 4, none⟩ = some (.int .i64 k)) W.drew := ⟨by show W.cell? _ = _; rw [HI.out.cell]; rfl, by show W.cell? _ = _; rw [HI.out.cell]; rfl, by show W.cell? _ = _; rw [HI.out.cell]; rfl, by show W.cell? _ = _; rw [HI.out.cell]; rfl, by show W.cell? _ = _; rw [HI.out.cell]; rfl⟩
  refine region_K 6 (fun w' : World => w'.cell? ⟨w.heap.size, 0, none⟩ = some (.int .i64 op) ∧ w'.cell? ⟨w.heap.size, 1, none⟩ = some (.int .i64 (a : Int)) ∧ w'.cell? ⟨w.heap.size, 2, none⟩ = some (.int .i64 (b : Int)) ∧ w'.cell? ⟨w.heap.size, 3, none⟩ = some (.int .i64 (c : Int)) ∧ w'.cell? ⟨w.heap.size, 4, none⟩ = some (.int .i64 k)) (by kernel_rfl) ?_
  have HTd := Lib.hid (HT.out.fr HF.out (fun h => h)).drew
  have HBd := Lib.hid HB.out.drew
  have HId := Lib.hid HI.out.drew
  have HFd := Lib.hid HF.out.drew
  clear HB HI HF HT
  generalize W.drew = V at *
  refine AnyK.take (i := 0) rfl (by decide) (by kernel_rfl) (by kernel_rfl) (by kernel_rfl) (fun _ _ _ _ h => h) HS (fun K hK => ?_)
  go_simp
  refine hK.out _ ⟨_, by rfl, Or.inl ⟨by rfl, by intro w' hSw; (try dsimp only at hSw); go_simp⟩, ?_⟩
  clear hK K
  refine AnyK.take (i := 1) rfl (by decide) (by kernel_rfl) (by kernel_rfl) (by kernel_rfl) (fun _ _ _ _ h => h) HS (fun K hK => ?_)
  go_simp
  refine hK.out _ ⟨_, by rfl, Or.inl ⟨by rfl, by intro w' hSw; (try dsimp only at hSw); go_simp⟩, ?_⟩
  clear hK K
  refine AnyK.take (i := 2) rfl (by decide) (by kernel_rfl) (by kernel_rfl) (by kernel_rfl) (fun _ _ _ _ h => h) HS (fun K hK => ?_)
  go_simp
  refine hK.out _ ⟨_, by rfl, Or.inl ⟨by rfl, by intro w' hSw; (try dsimp only at hSw); go_simp⟩, ?_⟩
  clear hK K
  refine AnyK.take (i := 3) rfl (by decide) (by kernel_rfl) (by kernel_rfl) (by kernel_rfl) (fun _ _ _ _ h => h) HS (fun K hK => ?_)
  go_simp
  refine hK.out _ ⟨_, by rfl, Or.inl ⟨by rfl, by intro w' hSw; (try dsimp only at hSw); go_simp⟩, ?_⟩
  clear hK K
  refine AnyK.one (i := 4) rfl (by kernel_rfl) (fun K hK => ?_)
  go_simp
  refine (HD.out V HTd.out).mono ?_
  rintro e w1 ⟨rfl, hT1, hF1⟩
  have HT1 := Lib.hid hT1
  have HB1 := Lib.hid (HBd.out.fr hF1 (by show ¬ _ = t; omega))
  have hI1 := HId.out.fr hF1 (by show ¬ _ = t; omega)
  have HF1 : Hid (Fr (At t) w w1) := Lib.hid ((HFd.out.mono (fun _ h => h.elim)).trans hF1)
  have HS : (fun w' : World => w'.cell? ⟨w.heap.size, 0, none⟩ = some (.int .i64 op) ∧ w'.cell? ⟨w.heap.size, 1, none⟩ = some (.int .i64 (a : Int)) ∧ w'.cell? ⟨w.heap.size, 2, none⟩ = some (.int .i64 (b : Int)) ∧ w'.cell? ⟨w.heap.size, 3, none⟩ = some (.int .i64 (c : Int)) ∧ w'.cell? ⟨w.heap.size, 4, none⟩ = some (.int .i64 k)) w1 := ⟨by rw [hI1.cell]; rfl, by rw [hI1.cell]; rfl, by rw [hI1.cell]; rfl, by rw [hI1.cell]; rfl, by rw [hI1.cell]; rfl⟩
  clear hT1 hF1 hI1 HTd HBd HId HFd HD
  refine hK.out _ _ (fun _ => HS) ?_
  clear hK K
  refine AnyK.one (i := 5) rfl (by kernel_rfl) (fun K hK => ?_)
  go_simp
  refine hK.out _ _ (fun _ => HS) ?_
  clear hK K HS
  refine AnyK.done (by kernel_rfl) ?_ _
  have hB := HB1.out
  have e0 : w1.cell? ⟨(w.heap.size + 1), 0, none⟩ = some (.int .i64 0) := by rw [hB.cell]; rfl
  have y0 : w1.frozen? ⟨(w.heap.size + 1), 0, none⟩ = false := hB.frozen _
  have e1 : w1.cell? ⟨(w.heap.size + 1), 1, none⟩ = some (.int .i64 0) := by rw [hB.cell]; rfl
  have y1 : w1.frozen? ⟨(w.heap.size + 1), 1, none⟩ = false := hB.frozen _
  have e2 : w1.cell? ⟨(w.heap.size + 1), 2, none⟩ = some (.int .i64 0) := by rw [hB.cell]; rfl
  have y2 : w1.frozen? ⟨(w.heap.size + 1), 2, none⟩ = false := hB.frozen _
  have e3 : w1.cell? ⟨(w.heap.size + 1), 3, none⟩ = some (.int .i64 0) := by rw [hB.cell]; rfl
  have y3 : w1.frozen? ⟨(w.heap.size + 1), 3, none⟩ = false := hB.frozen _
  have e4 : w1.cell? ⟨(w.heap.size + 1), 4, none⟩ = some (.int .i64 0) := by rw [hB.cell]; rfl
  have y4 : w1.frozen? ⟨(w.heap.size + 1), 4, none⟩ = false := hB.frozen _
  have e5 : w1.cell? ⟨(w.heap.size + 1), 5, none⟩ = some (.int .i64 0) := by rw [hB.cell]; rfl
  have y5 : w1.frozen? ⟨(w.heap.size + 1), 5, none⟩ = false := hB.frozen _
  have e6 : w1.cell? ⟨(w.heap.size + 1), 6, none⟩ = some (nilS) := by rw [hB.cell]; rfl
  have y6 : w1.frozen? ⟨(w.heap.size + 1), 6, none⟩ = false := hB.frozen _
  have e7 : w1.cell? ⟨(w.heap.size + 1), 7, none⟩ = some (nilS) := by rw [hB.cell]; rfl
  have y7 : w1.frozen? ⟨(w.heap.size + 1), 7, none⟩ = false := hB.frozen _
  clear hB
  go_wp2_with fail
  refine bodyPost_ret (results_cell_row rfl _ _ (w.heap.size + 1) 36 (efC 1 0 0 0 0 0 nilS nilS) (0, 0) _ rfl (ef_stored (HB1.out) _ _ _ _ _ _ _ _) Tryd.underlying36 rfl (by kernel_rfl)) rfl ?_
  exact ⟨rfl, HT1.out.fr (ef_frame (Fr.refl (At (w.heap.size + 1)) _) (.inl rfl) _ _ _ _ _ _ _ _) (by show ¬ t = _; omega), ef_frame HF1.out (.inr (by omega)) _ _ _ _ _ _ _ _⟩

set_option maxHeartbeats 8000000 in
set_option maxRecDepth 100000 in
theorem fdiv_no (w : World) (t : Nat) (tc : Array Value) (hT : Blk w t 115 tc) (op k : Int) (a b c : Nat) (hc : c < 8) (rc : tc[1 + c]? = some (.int .i64 0)) :
    Calls Tryd.prog 62 #[.pointer (some ⟨t, 0, none⟩), .agg #[.int .i64 op, .int .i64 (a : Int), .int .i64 (b : Int), .int .i64 (c : Int), .int .i64 k]] w fun e w' => e = .returned (.agg (efC 8 0 0 0 0 1 nilS nilS)) ∧ Blk w' t 115 (tc) ∧ Fr (At t) w w' := by
  have HD : Hid (∀ W, Blk W t 115 tc → Calls Tryd.prog 74 #[.pointer (some ⟨t, 0, none⟩), .agg #[.int .i64 op, .int .i64 (a : Int), .int .i64 (b : Int), .int .i64 (c : Int), .int .i64 k]] W (DivPost W t 115 false tc)) := Lib.hid (fun W hW => div_no W t _ tc hW op k a b c hc rc)
  have HT := Lib.hid hT
  have htl := hT.lt
  clear hT rc hc
  go_enter Tryd.func62, Tryd.ntmps62
  go_upto_region 1 with (fail)
  generalize hW : ((w.alloc (.cells _ 98)).alloc (.cells _ 36)) = W
  have hI : Blk W w.heap.size 98 #[.int .i64 op, .int .i64 (a : Int), .int .i64 (b : Int), .int .i64 (c : Int), .int .i64 k] := by rw [← hW]; exact (Blk.new _ _ _).alloc _
  have hB : Blk W (w.heap.size + 1) 36 efZ := by
    have h := Blk.new (w.alloc (.cells #[.int .i64 op, .int .i64 (a : Int), .int .i64 (b : Int), .int .i64 (c : Int), .int .i64 k] 98)) 36 efZ
    rw [show (w.alloc (.cells #[.int .i64 op, .int .i64 (a : Int), .int .i64 (b : Int), .int .i64 (c : Int), .int .i64 k] 98)).heap.size = w.heap.size + 1 by simp] at h
    rw [← hW]; exact h
  have hF : Fr None' w W := by rw [← hW]; exact ((Fr.refl _ _).alloc _).alloc _
  have HB := Lib.hid hB
  have HI := Lib.hid hI
  have HF := Lib.hid hF
  clear hI hB hF hW
  have HS : (fun w' : World => w'.cell? ⟨w.heap.size, 0, none⟩ = some (.int .i64 op) ∧ w'.cell? ⟨w.heap.size, 1, none⟩ = some (.int .i64 (a : Int)) ∧ w'.cell? ⟨w.heap.size, 2, none⟩ = some (.int .i64 (b : Int)) ∧ w'.cell? ⟨w.heap.size, 3, none⟩ = some (.int .i64 (c : Int)) ∧ w'.cell? ⟨w.heap.size, 4, none⟩ = some (.int .i64 k)) W.drew := ⟨by show W.cell? _ = _; rw [HI.out.cell]; rfl, by show W.cell? _ = _; rw [HI.out.cell]; rfl, by show W.cell? _ = _; rw [HI.out.cell]; rfl, by show W.cell? _ = _; rw [HI.out.cell]; rfl, by show W.cell? _ = _; rw [HI.out.cell]; rfl⟩
  refine region_K 6 (fun w' : World => w'.cell? ⟨w.heap.size, 0, none⟩ = some (.int .i64 op) ∧ w'.cell? ⟨w.heap.size, 1, none⟩ = some (.int .i64 (a : Int)) ∧ w'.cell? ⟨w.heap.size, 2, none⟩ = some (.int .i64 (b : Int)) ∧ w'.cell? ⟨w.heap.size, 3, none⟩ = some (.int .i64 (c : Int)) ∧ w'.cell? ⟨w.heap.size, 4, none⟩ = some (.int .i64 k)) (by kernel_rfl) ?_
  have HTd := Lib.hid (HT.out.fr HF.out (fun h => h)).drew
  have HBd := Lib.hid HB.out.drew
  have HId := Lib.hid HI.out.drew
  have HFd := Lib.hid HF.out.drew
  clear HB HI HF HT
  generalize W.drew = V at *
  refine AnyK.take (i := 0) rfl (by decide) (by kernel_rfl) (by kernel_rfl) (by kernel_rfl) (fun _ _ _ _ h => h) HS (fun K hK => ?_)
  go_simp
  refine hK.out _ ⟨_, by rfl, Or.inl ⟨by rfl, by intro w' hSw; (try dsimp only at hSw); go_simp⟩, ?_⟩
  clear hK K
  refine AnyK.take (i := 1) rfl (by decide) (by kernel_rfl) (by kernel_rfl) (by kernel_rfl) (fun _ _ _ _ h => h) HS (fun K hK => ?_)
  go_simp
  refine hK.out _ ⟨_, by rfl, Or.inl ⟨by rfl, by intro w' hSw; (try dsimp only at hSw); go_simp⟩, ?_⟩
  clear hK K
  refine AnyK.take (i := 2) rfl (by decide) (by kernel_rfl) (by kernel_rfl) (by kernel_rfl) (fun _ _ _ _ h => h) HS (fun K hK => ?_)
  go_simp
  refine hK.out _ ⟨_, by rfl, Or.inl ⟨by rfl, by intro w' hSw; (try dsimp only at hSw); go_simp⟩, ?_⟩
  clear hK K
  refine AnyK.take (i := 3) rfl (by decide) (by kernel_rfl) (by kernel_rfl) (by kernel_rfl) (fun _ _ _ _ h => h) HS (fun K hK => ?_)
  go_simp
  refine hK.out _ ⟨_, by rfl, Or.inl ⟨by rfl, by intro w' hSw; (try dsimp only at hSw); go_simp⟩, ?_⟩
  clear hK K
  refine AnyK.one (i := 4) rfl (by kernel_rfl) (fun K hK => ?_)
  go_simp
  refine (HD.out V HTd.out).mono ?_
  rintro e w1 ⟨rfl, hT1, hF1⟩
  have HT1 := Lib.hid hT1
  have HB1 := Lib.hid (HBd.out.fr hF1 (by show ¬ _ = t; omega))
  have hI1 := HId.out.fr hF1 (by show ¬ _ = t; omega)
  have HF1 : Hid (Fr (At t) w w1) := Lib.hid ((HFd.out.mono (fun _ h => h.elim)).trans hF1)
  have HS : (fun w' : World => w'.cell? ⟨w.heap.size, 0, none⟩ = some (.int .i64 op) ∧ w'.cell? ⟨w.heap.size, 1, none⟩ = some (.int .i64 (a : Int)) ∧ w'.cell? ⟨w.heap.size, 2, none⟩ = some (.int .i64 (b : Int)) ∧ w'.cell? ⟨w.heap.size, 3, none⟩ = some (.int .i64 (c : Int)) ∧ w'.cell? ⟨w.heap.size, 4, none⟩ = some (.int .i64 k)) w1 := ⟨by rw [hI1.cell]; rfl, by rw [hI1.cell]; rfl, by rw [hI1.cell]; rfl, by rw [hI1.cell]; rfl, by rw [hI1.cell]; rfl⟩
  clear hT1 hF1 hI1 HTd HBd HId HFd HD
  refine hK.out _ _ (fun _ => HS) ?_
  clear hK K
  refine AnyK.one (i := 5) rfl (by kernel_rfl) (fun K hK => ?_)
  go_simp
  refine hK.out _ _ (fun _ => HS) ?_
  clear hK K HS
  refine AnyK.done (by kernel_rfl) ?_ _
  go_wp2_with fail
  refine (ffails_any _ 1).mono ?_
  rintro e w2 ⟨rfl, hF2⟩
  have hB := HB1.out.fr hF2 (fun h => h)
  have HB := Lib.hid hB
  have HT2 := Lib.hid (HT1.out.fr hF2 (fun h => h))
  have HF2 : Hid (Fr (At t) w w2) := Lib.hid (HF1.out.trans (hF2.mono (fun _ h => h.elim)))
  have e0 : w2.cell? ⟨(w.heap.size + 1), 0, none⟩ = some (.int .i64 0) := by rw [hB.cell]; rfl
  have y0 : w2.frozen? ⟨(w.heap.size + 1), 0, none⟩ = false := hB.frozen _
  have e1 : w2.cell? ⟨(w.heap.size + 1), 1, none⟩ = some (.int .i64 0) := by rw [hB.cell]; rfl
  have y1 : w2.frozen? ⟨(w.heap.size + 1), 1, none⟩ = false := hB.frozen _
  have e2 : w2.cell? ⟨(w.heap.size + 1), 2, none⟩ = some (.int .i64 0) := by rw [hB.cell]; rfl
  have y2 : w2.frozen? ⟨(w.heap.size + 1), 2, none⟩ = false := hB.frozen _
  have e3 : w2.cell? ⟨(w.heap.size + 1), 3, none⟩ = some (.int .i64 0) := by rw [hB.cell]; rfl
  have y3 : w2.frozen? ⟨(w.heap.size + 1), 3, none⟩ = false := hB.frozen _
  have e4 : w2.cell? ⟨(w.heap.size + 1), 4, none⟩ = some (.int .i64 0) := by rw [hB.cell]; rfl
  have y4 : w2.frozen? ⟨(w.heap.size + 1), 4, none⟩ = false := hB.frozen _
  have e5 : w2.cell? ⟨(w.heap.size + 1), 5, none⟩ = some (.int .i64 0) := by rw [hB.cell]; rfl
  have y5 : w2.frozen? ⟨(w.heap.size + 1), 5, none⟩ = false := hB.frozen _
  have e6 : w2.cell? ⟨(w.heap.size + 1), 6, none⟩ = some (nilS) := by rw [hB.cell]; rfl
  have y6 : w2.frozen? ⟨(w.heap.size + 1), 6, none⟩ = false := hB.frozen _
  have e7 : w2.cell? ⟨(w.heap.size + 1), 7, none⟩ = some (nilS) := by rw [hB.cell]; rfl
  have y7 : w2.frozen? ⟨(w.heap.size + 1), 7, none⟩ = false := hB.frozen _
  clear hB hF2
  unfold efC
  go_wp2_with fail
  refine bodyPost_ret (results_cell_row rfl _ _ (w.heap.size + 1) 36 (efC 8 0 0 0 0 1 nilS nilS) (0, 0) _ rfl (ef_stored (HB.out) _ _ _ _ _ _ _ _) Tryd.underlying36 rfl (by kernel_rfl)) rfl ?_
  exact ⟨rfl, HT2.out.fr (ef_frame (Fr.refl (At (w.heap.size + 1)) _) (.inl rfl) _ _ _ _ _ _ _ _) (by show ¬ t = _; omega), ef_frame HF2.out (.inr (by omega)) _ _ _ _ _ _ _ _⟩
end Go.Proofs.YtadcenaafoemmaaDoor
