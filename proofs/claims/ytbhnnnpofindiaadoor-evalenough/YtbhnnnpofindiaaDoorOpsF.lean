/-
  div, touch, fail, ret.
-/
import Derived.Test.YtbhnnnpofindiaaDoorEmi
namespace Go.Proofs.YtbhnnnpofindiaaDoor
open Go.RowKit

theorem fail_any (w : World) (p : Addr) (op a b cc k : Int) :
    Calls Tryd.prog 45 #[.pointer (some p), .agg #[.int .i64 op, .int .i64 a, .int .i64 b, .int .i64 cc, .int .i64 k]] w fun e w' => e = failE k ∧ Fr None' w w' := by
  go_enter Tryd.func45, Tryd.ntmps45
  go_wp2_with fail
  exact ⟨rfl, rfl, (Fr.refl _ _).alloc _⟩

/-- What an operation comes to that fails, or turns the task alone. -/
def OwnOr (c : Cx) (i : Ti) (w : World) (sv : Value) (ov : Bool) (v : Int) (r : Int ⊕ Tk) (e : Ending) (w' : World) : Prop := match r with
  | .inl k => e = failE k ∧ Fr (At i.g) w w'
  | .inr t' => OwnPost c i w t' sv ov v e w'

set_option maxHeartbeats 8000000 in
set_option maxRecDepth 100000 in
theorem div_any (c : Cx) (i : Ti) (w : World) (t : Tk) (sv : Value) (ov : Bool) (v : Int) (hT : TkAt c i w t sv ov v) (op k : Int) (a b cc : Nat) (ha : a < 8) (hb : b < 8) (hc : cc < 8) :
    Calls Tryd.prog 39 #[.pointer (some ⟨i.g, 0, none⟩), .agg #[.int .i64 op, .int .i64 a, .int .i64 b, .int .i64 cc, .int .i64 k]] w
      (OwnOr c i w sv ov v (if reg t cc = 0 then .inl 1 else .inr (setR t a (wrap64 ((reg t b).tdiv (reg t cc)))))) := by
  obtain ⟨g, hg⟩ : ∃ g, g = i.g := ⟨_, rfl⟩
  have HG := Lib.hid hg
  have HT := Lib.hid hT
  have hB := hT.blk
  rw [← hg] at hB ⊢
  by_cases h0 : reg t cc = 0
  · rw [if_pos h0]
    have hD := fun W (hW : Blk W g 106 _) => div_no W g 106 (tkL c.W (.slice i.CA i.code.length i.cc) (.slice i.pA i.path.length i.pc) i.me t sv ov v).toArray hW op k a b cc hc (by rw [tk_reg hT.r8 cc hc, h0])
    have HD := Lib.hid hD
    have HB := Lib.hid hB
    clear hD hB hT hg h0
    go_enter Tryd.func39, Tryd.ntmps39
    go_wp2_with fail
    generalize hW : w.alloc (.cells _ 55) = W
    obtain ⟨B1, B2, hF, hgl, hlt⟩ := boxed w g _ _ HB.out _ W hW
    have d0 : W.cell? ⟨w.heap.size, 0, none⟩ = some (.int .i64 op) := by rw [B2.cell]; rfl
    have d1 : W.cell? ⟨w.heap.size, 1, none⟩ = some (.int .i64 a) := by rw [B2.cell]; rfl
    have d2 : W.cell? ⟨w.heap.size, 2, none⟩ = some (.int .i64 b) := by rw [B2.cell]; rfl
    have d3 : W.cell? ⟨w.heap.size, 3, none⟩ = some (.int .i64 cc) := by rw [B2.cell]; rfl
    have d4 : W.cell? ⟨w.heap.size, 4, none⟩ = some (.int .i64 k) := by rw [B2.cell]; rfl
    have HF := Lib.hid hF
    have HB1 := Lib.hid B1
    clear hW B1 B2 hF
    go_still_tail 4, (by kernel_rfl)
    change wpList _ _ _ _ _ (World.drew _)
    go_wp2_with fail
    refine (HD.out _ HB1.out.drew).mono ?_
    rintro e w1 ⟨rfl, _, hF1⟩
    have HF1 := Lib.hid (HF.out.drew.trans hF1)
    clear hF1
    go_wp2_with fail
    refine ⟨rfl, rfl, ?_⟩
    rw [← HG.out]
    exact HF1.out
  · rw [if_neg h0]
    have hD := fun W (hW : Blk W g 106 _) => div_yes W g 106 (tkL c.W (.slice i.CA i.code.length i.cc) (.slice i.pA i.path.length i.pc) i.me t sv ov v).toArray hW op k a b cc ha hb hc _ (tk_reg hT.r8 a ha) (reg t b) (reg t cc) h0 (tk_reg hT.r8 b hb) (tk_reg hT.r8 cc hc)
    rw [tk_setR hT.r8 a ha] at hD
    obtain ⟨t', ht'⟩ : ∃ t', setR t a (wrap64 ((reg t b).tdiv (reg t cc))) = t' := ⟨_, rfl⟩
    have HL : Hid (t'.regs.length = 8 ∧ t'.futs.length = 4 ∧ t'.spw = t.spw) := Lib.hid (by rw [← ht']; exact ⟨by rw [setR_len]; exact hT.r8, hT.f4, rfl⟩)
    rw [ht'] at hD ⊢
    have HD := Lib.hid hD
    have HB := Lib.hid hB
    clear hD hB hT hg h0 ht'
    go_enter Tryd.func39, Tryd.ntmps39
    go_wp2_with fail
    generalize hW : w.alloc (.cells _ 55) = W
    obtain ⟨B1, B2, hF, hgl, hlt⟩ := boxed w g _ _ HB.out _ W hW
    have d0 : W.cell? ⟨w.heap.size, 0, none⟩ = some (.int .i64 op) := by rw [B2.cell]; rfl
    have d1 : W.cell? ⟨w.heap.size, 1, none⟩ = some (.int .i64 a) := by rw [B2.cell]; rfl
    have d2 : W.cell? ⟨w.heap.size, 2, none⟩ = some (.int .i64 b) := by rw [B2.cell]; rfl
    have d3 : W.cell? ⟨w.heap.size, 3, none⟩ = some (.int .i64 cc) := by rw [B2.cell]; rfl
    have d4 : W.cell? ⟨w.heap.size, 4, none⟩ = some (.int .i64 k) := by rw [B2.cell]; rfl
    have HF := Lib.hid hF
    have HB1 := Lib.hid B1
    clear hW B1 B2 hF
    go_still_tail 4, (by kernel_rfl)
    change wpList _ _ _ _ _ (World.drew _)
    go_wp2_with fail
    refine (HD.out _ HB1.out.drew).mono ?_
    rintro e w1 ⟨rfl, hB2, hF1⟩
    have HB2 := Lib.hid hB2
    have HF1 := Lib.hid (HF.out.drew.trans hF1)
    clear hF1 hB2
    go_wp2_with fail
    go_end0
    have hF : Fr (At i.g) w w1 := by rw [← HG.out]; exact HF1.out
    exact ⟨rfl, HT.out.turn hF (by rw [← HG.out]; exact HB2.out) HL.out.1 HL.out.2.1 HL.out.2.2, hF⟩

set_option maxHeartbeats 8000000 in
set_option maxRecDepth 100000 in
theorem touch_any (c : Cx) (i : Ti) (w : World) (t : Tk) (sv : Value) (ov : Bool) (v : Int) (hT : TkAt c i w t sv ov v) (op k cc : Int) (a b : Nat) (ha : a < 8) (hb : b < 4) :
    Calls Tryd.prog 43 #[.pointer (some ⟨i.g, 0, none⟩), .agg #[.int .i64 op, .int .i64 a, .int .i64 b, .int .i64 cc, .int .i64 k]] w
      (OwnOr c i w sv ov v (if (t.futs.getD b (false, 0)).1 then .inr (setR t a (t.futs.getD b (false, 0)).2) else .inl 2)) := by
  obtain ⟨g, hg⟩ : ∃ g, g = i.g := ⟨_, rfl⟩
  have HG := Lib.hid hg
  have HT := Lib.hid hT
  have hB := hT.blk
  rw [← hg] at hB ⊢
  obtain ⟨fb, fv, hfb⟩ : ∃ fb fv, t.futs.getD b (false, 0) = (fb, fv) := ⟨_, _, rfl⟩
  have hcf := tk_fut (W := c.W) (cd := .slice i.CA i.code.length i.cc) (pa := .slice i.pA i.path.length i.pc) (me := i.me) (sv := sv) (ov := ov) (v := v) hT.r8 hT.f4 b hb
  rw [hfb] at hcf ⊢
  have HSET := Lib.hid (tk_setR (W := c.W) (cd := .slice i.CA i.code.length i.cc) (pa := .slice i.pA i.path.length i.pc) (me := i.me) (sv := sv) (ov := ov) (v := v) hT.r8 a ha fv)
  have HRA := Lib.hid (tk_reg (W := c.W) (cd := .slice i.CA i.code.length i.cc) (pa := .slice i.pA i.path.length i.pc) (me := i.me) (sv := sv) (ov := ov) (v := v) hT.r8 a ha)
  have HCF := Lib.hid hcf
  have HB := Lib.hid hB
  clear hcf hB hT hg hfb
  have hpost : (if (fb, fv).1 = true then (.inr (setR t a (fb, fv).2) : Int ⊕ Tk) else .inl 2) = (match fb with | true => .inr (setR t a fv) | false => .inl 2) := by cases fb <;> rfl
  rw [hpost]
  clear hpost
  go_enter Tryd.func43, Tryd.ntmps43
  go_wp2_with fail
  generalize hW : w.alloc (.cells _ 55) = W
  obtain ⟨B1, B2, hF, hgl, hlt⟩ := boxed w g _ _ HB.out _ W hW
  have g1 : W.cell? ⟨g, 14 + b * 2, none⟩ = some (.bool fb) := by rw [B1.cell]; exact HCF.out.1
  have g2 : W.cell? ⟨g, 14 + b * 2 + 1, none⟩ = some (.int .i64 fv) := by rw [B1.cell]; exact HCF.out.2
  have g3 : W.cell? ⟨g, 1 + a, none⟩ = some (.int .i64 (reg t a)) := by rw [B1.cell]; exact HRA.out
  have d1 : W.cell? ⟨w.heap.size, 1, none⟩ = some (.int .i64 a) := by rw [B2.cell]; rfl
  have d2 : W.cell? ⟨w.heap.size, 2, none⟩ = some (.int .i64 b) := by rw [B2.cell]; rfl
  have HF := Lib.hid hF
  have HB1 := Lib.hid B1
  have hgW : g < W.heap.size := B1.lt
  clear hW B1 B2 hF
  have ib : (0 : Int) ≤ (b : Int) := by omega
  have jb : (b : Int) < 4 := by omega
  have ia : (0 : Int) ≤ (a : Int) := by omega
  have ja : (a : Int) < 8 := by omega
  refine region_K 7 (fun w' => w'.cell? ⟨g, 14 + b * 2, none⟩ = some (.bool fb) ∧ w'.cell? ⟨g, 14 + b * 2 + 1, none⟩ = some (.int .i64 fv) ∧ w'.cell? ⟨w.heap.size, 2, none⟩ = some (.int .i64 b)) (by kernel_rfl) ?_
  have HS : (fun w' : World => w'.cell? ⟨g, 14 + b * 2, none⟩ = some (.bool fb) ∧ w'.cell? ⟨g, 14 + b * 2 + 1, none⟩ = some (.int .i64 fv) ∧ w'.cell? ⟨w.heap.size, 2, none⟩ = some (.int .i64 b)) W.drew := ⟨g1, g2, d2⟩
  refine AnyK.take (i := 0) rfl (by decide) (by kernel_rfl) (by kernel_rfl) (by kernel_rfl) (fun _ _ _ _ h => h) HS (fun K hK => ?_)
  go_simp
  refine hK.out _ ⟨_, by rfl, Or.inl ⟨by rfl, by intro w hSw; (try dsimp only at hSw); go_simp⟩, ?_⟩
  clear hK K
  refine AnyK.take (i := 1) rfl (by decide) (by kernel_rfl) (by kernel_rfl) (by kernel_rfl) (fun _ _ _ _ h => h) HS (fun K hK => ?_)
  go_simp
  refine hK.out _ ⟨_, by rfl, Or.inl ⟨by rfl, by intro w hSw; (try dsimp only at hSw); go_simp⟩, ?_⟩
  clear hK K
  refine AnyK.take (i := 2) rfl (by decide) (by kernel_rfl) (by kernel_rfl) (by kernel_rfl) (fun _ _ _ _ h => h) HS (fun K hK => ?_)
  go_simp
  refine hK.out _ ⟨_, by rfl, Or.inl ⟨by rfl, by intro w hSw; (try dsimp only at hSw); go_simp⟩, ?_⟩
  clear hK K
  refine AnyK.take (i := 3) rfl (by decide) (by kernel_rfl) (by kernel_rfl) (by kernel_rfl) (fun _ _ _ _ h => h) HS (fun K hK => ?_)
  go_simp
  refine hK.out _ ⟨_, by rfl, Or.inl ⟨by rfl, by intro w hSw; (try dsimp only at hSw); go_simp⟩, ?_⟩
  clear hK K
  refine AnyK.take (i := 4) rfl (by decide) (by kernel_rfl) (by kernel_rfl) (by kernel_rfl) (fun _ _ _ _ h => h) HS (fun K hK => ?_)
  go_simp
  refine hK.out _ ⟨_, by rfl, Or.inl ⟨by rfl, by intro w hSw; (try dsimp only at hSw); go_simp⟩, ?_⟩
  clear hK K
  refine AnyK.take (i := 5) rfl (by decide) (by kernel_rfl) (by kernel_rfl) (by kernel_rfl) (fun _ _ _ _ h => h) HS (fun K hK => ?_)
  go_simp
  refine hK.out _ ⟨_, by rfl, Or.inl ⟨by rfl, by intro w hSw; (try dsimp only at hSw); go_simp⟩, ?_⟩
  clear hK K
  refine AnyK.take (i := 6) rfl (by decide) (by kernel_rfl) (by kernel_rfl) (by kernel_rfl) (fun _ _ _ _ h => h) HS (fun K hK => ?_)
  go_simp
  refine hK.out _ ⟨_, by rfl, Or.inl ⟨by rfl, by intro w hSw; (try dsimp only at hSw); go_simp⟩, ?_⟩
  clear hK K
  refine AnyK.one (i := 7) rfl (by kernel_rfl) (fun K hK => ?_)
  go_simp
  have HS7 : (fun w' : World => w'.cell? ⟨g, 14 + b * 2, none⟩ = some (.bool fb) ∧ w'.cell? ⟨g, 14 + b * 2 + 1, none⟩ = some (.int .i64 fv) ∧ w'.cell? ⟨w.heap.size, 2, none⟩ = some (.int .i64 b)) (W.alloc (.cells #[.bool false, .int .i64 0] 81)).drew := by
    have hF7 : Fr None' W (W.alloc (.cells #[.bool false, .int .i64 0] 81)).drew := ((Fr.refl _ _).alloc _).drew
    exact ⟨hF7.held g1 (fun h => h), hF7.held g2 (fun h => h), hF7.held d2 (fun h => h)⟩
  refine hK.out _ _ (fun _ => HS7) ?_
  clear hK K
  refine AnyK.one (i := 8) rfl (by kernel_rfl) (fun K hK => ?_)
  go_simp
  refine hK.out _ _ (fun h => absurd (h.symm.trans (by kernel_rfl : _ = true)) (by decide)) ?_
  clear hK K
  refine AnyK.done (by kernel_rfl) ?_ _
  clear HS HS7 g1 g2
  cases fb with
  | false =>
    go_wp2_with fail
    refine ⟨rfl, rfl, ?_⟩
    rw [← HG.out]
    exact (HF.out.alloc _).drew
  | true =>
    go_wp2_with fail
    generalize hW2 : World.drew _ = W2
    have hF2 : Fr (At g) W W2 := by rw [← hW2]; exact ((Fr.refl _ _).alloc _).drew
    have hB2 : Blk W2 W.heap.size 81 #[.bool true, .int .i64 fv] := by rw [← hW2]; exact (Blk.new _ _ _).drew
    have HB3 : Hid (Blk W2 g 106 _) := Lib.hid (by rw [← hW2]; exact (HB1.out.alloc _).drew)
    have e3 : W2.cell? ⟨g, 1 + a, none⟩ = some (.int .i64 (reg t a)) := by rw [HB3.out.cell]; exact HRA.out
    have f4 := HB3.out.frozen (1 + a)
    have e1 : W2.cell? ⟨w.heap.size, 1, none⟩ = some (.int .i64 a) := hF2.held d1 (fun h => by have : w.heap.size = g := h; omega)
    have e2 : W2.cell? ⟨W.heap.size, 1, none⟩ = some (.int .i64 fv) := by rw [hB2.cell]; rfl
    have HF2 := Lib.hid (HF.out.trans hF2)
    clear hW2 hF2 hB2 g3 d1 d2
    go_still_tail 9, (by kernel_rfl)
    change wpList _ _ _ _ _ (World.drew _)
    go_wp2_with fail
    go_end0
    have hset := HB3.out.set_ (1 + a) (.int .i64 fv)
    rw [HSET.out] at hset
    have hF : Fr (At i.g) w (W2.setCell ⟨g, 1 + a, none⟩ (.int .i64 fv)).drew := by rw [← HG.out]; exact (HF2.out.setCell (p := ⟨g, 1 + a, none⟩) (.inl rfl) _).drew
    exact ⟨rfl, HT.out.turn hF (by rw [← HG.out]; exact hset.drew) (by rw [setR_len]; exact HT.out.r8) HT.out.f4 rfl, hF⟩

set_option maxHeartbeats 8000000 in
set_option maxRecDepth 100000 in
theorem ret_any (c : Cx) (i : Ti) (w : World) (t : Tk) (sv : Value) (v : Int) (hT : TkAt c i w t sv false v) (hn : t.spw.length ≤ 1000000) (op b cc k : Int) (a : Nat) (ha : a < 8) :
    Calls Tryd.prog 46 #[.pointer (some ⟨i.g, 0, none⟩), .agg #[.int .i64 op, .int .i64 a, .int .i64 b, .int .i64 cc, .int .i64 k]] w
      (OwnPost c i w (flush t) (.slice none 0 0) true (reg (flush t) a)) := by
  obtain ⟨g, hg⟩ : ∃ g, g = i.g := ⟨_, rfl⟩
  have HG := Lib.hid hg
  have HT := Lib.hid hT
  have hgl := hT.blk.lt
  rw [← hg] at hgl ⊢
  clear hT hg
  obtain ⟨y, hy⟩ : ∃ y, reg (flush t) a = y := ⟨_, rfl⟩
  rw [hy]
  have HY := Lib.hid hy
  clear hy
  go_enter Tryd.func46, Tryd.ntmps46
  go_wp2_with fail
  have hS := sync_any c i (w.alloc (.cells #[.int .i64 op, .int .i64 a, .int .i64 b, .int .i64 cc, .int .i64 k] 55)) t sv false v (HT.out.keep ((Fr.refl (fun _ => False) w).alloc _) (fun _ h => h.elim)) hn #[.int .i64 op, .int .i64 a, .int .i64 b, .int .i64 cc, .int .i64 k]
  rw [← HG.out] at hS
  refine hS.mono ?_
  rintro e W ⟨rfl, hTW, hFW⟩
  have B2 : Blk W w.heap.size 55 #[.int .i64 op, .int .i64 a, .int .i64 b, .int .i64 cc, .int .i64 k] := (Blk.new w _ _).fr hFW (fun h => by have h' : w.heap.size = i.g := h; rw [← HG.out] at h'; omega)
  have hFw : Fr (At i.g) w W := ((Fr.refl (At i.g) w).alloc _).trans hFW
  have BT := hTW.blk
  rw [← HG.out] at BT
  have HB := Lib.hid BT
  have HTW := Lib.hid hTW
  have HFw := Lib.hid hFw
  have d1 : W.cell? ⟨w.heap.size, 1, none⟩ = some (.int .i64 a) := by rw [B2.cell]; rfl
  have cr : W.cell? ⟨g, 1 + a, none⟩ = some (.int .i64 y) := by rw [BT.cell, ← HY.out]; exact tk_reg hTW.r8 a ha
  have c23 : W.cell? ⟨g, 23, none⟩ = some (.bool false) := by rw [BT.cell]; exact (tk_at hTW.r8 hTW.f4).2.2.2.2.2.2.1
  have c24 : W.cell? ⟨g, 24, none⟩ = some (.int .i64 v) := by rw [BT.cell]; exact (tk_at hTW.r8 hTW.f4).2.2.2.2.2.2.2
  have f23 := BT.frozen 23
  have f24 := BT.frozen 24
  have ia : (0 : Int) ≤ (a : Int) := by omega
  have ja : (a : Int) < 8 := by omega
  have hgW : g < W.heap.size := BT.lt
  have hne : (⟨w.heap.size, 1, none⟩ : Addr).block ≠ g := by show w.heap.size ≠ g; omega
  clear hS hTW hFW hFw BT B2
  go_wp2_with fail
  refine region_K 10 (fun w' => w'.cell? ⟨g, 1 + a, none⟩ = some (.int .i64 y) ∧ w'.cell? ⟨w.heap.size, 1, none⟩ = some (.int .i64 a)) (by kernel_rfl) ?_
  have HS : (fun w' : World => w'.cell? ⟨g, 1 + a, none⟩ = some (.int .i64 y) ∧ w'.cell? ⟨w.heap.size, 1, none⟩ = some (.int .i64 a)) W.drew := ⟨cr, d1⟩
  refine AnyK.take (i := 0) rfl (by decide) (by kernel_rfl) (by kernel_rfl) (by kernel_rfl) (fun _ _ _ _ h => h) HS (fun K hK => ?_)
  go_simp
  refine hK.out _ ⟨_, by rfl, Or.inl ⟨by rfl, by intro w hSw; (try dsimp only at hSw); go_simp⟩, ?_⟩
  clear hK K
  refine AnyK.take (i := 1) rfl (by decide) (by kernel_rfl) (by kernel_rfl) (by kernel_rfl) (fun _ _ _ _ h => h) HS (fun K hK => ?_)
  go_simp
  refine hK.out _ ⟨_, by rfl, Or.inl ⟨by rfl, by intro w hSw; (try dsimp only at hSw); go_simp⟩, ?_⟩
  clear hK K
  refine AnyK.take (i := 2) rfl (by decide) (by kernel_rfl) (by kernel_rfl) (by kernel_rfl) (fun _ _ _ _ h => h) HS (fun K hK => ?_)
  go_simp
  refine hK.out _ ⟨_, by rfl, Or.inl ⟨by rfl, by intro w hSw; (try dsimp only at hSw); go_simp⟩, ?_⟩
  clear hK K
  refine AnyK.take (i := 3) rfl (by decide) (by kernel_rfl) (by kernel_rfl) (by kernel_rfl) (fun _ _ _ _ h => h) HS (fun K hK => ?_)
  go_simp
  refine hK.out _ ⟨_, by rfl, Or.inl ⟨by rfl, by intro w hSw; (try dsimp only at hSw); go_simp⟩, ?_⟩
  clear hK K
  refine AnyK.take (i := 4) rfl (by decide) (by kernel_rfl) (by kernel_rfl) (by kernel_rfl) (fun _ _ _ _ h => h) HS (fun K hK => ?_)
  go_simp
  refine hK.out _ ⟨_, by rfl, Or.inl ⟨by rfl, by intro w hSw; (try dsimp only at hSw); go_simp⟩, ?_⟩
  clear hK K
  refine AnyK.take (i := 5) rfl (by decide) (by kernel_rfl) (by kernel_rfl) (by kernel_rfl) (fun _ _ _ _ h => h) HS (fun K hK => ?_)
  go_simp
  refine hK.out _ ⟨_, by rfl, Or.inl ⟨by rfl, by intro w hSw; (try dsimp only at hSw); go_simp⟩, ?_⟩
  clear hK K
  refine AnyK.take (i := 6) rfl (by decide) (by kernel_rfl) (by kernel_rfl) (by kernel_rfl) (fun _ _ _ _ h => h) HS (fun K hK => ?_)
  go_simp
  refine hK.out _ ⟨_, by rfl, Or.inl ⟨by rfl, by intro w hSw; (try dsimp only at hSw); go_simp⟩, ?_⟩
  clear hK K
  refine AnyK.take (i := 7) rfl (by decide) (by kernel_rfl) (by kernel_rfl) (by kernel_rfl) (fun _ _ _ _ h => h) HS (fun K hK => ?_)
  go_simp
  refine hK.out _ ⟨_, by rfl, Or.inl ⟨by rfl, by intro w hSw; (try dsimp only at hSw); go_simp⟩, ?_⟩
  clear hK K
  refine AnyK.take (i := 8) rfl (by decide) (by kernel_rfl) (by kernel_rfl) (by kernel_rfl) (fun _ _ _ _ h => h) HS (fun K hK => ?_)
  go_simp
  refine hK.out _ ⟨_, by rfl, Or.inl ⟨by rfl, by intro w hSw; (try dsimp only at hSw); go_simp⟩, ?_⟩
  clear hK K
  refine AnyK.take (i := 9) rfl (by decide) (by kernel_rfl) (by kernel_rfl) (by kernel_rfl) (fun _ _ _ _ h => h) HS (fun K hK => ?_)
  go_simp
  refine hK.out _ ⟨_, by rfl, Or.inl ⟨by rfl, by intro w hSw; (try dsimp only at hSw); go_simp⟩, ?_⟩
  clear hK K
  refine AnyK.one (i := 10) rfl (by kernel_rfl) (fun K hK => ?_)
  go_simp
  refine hK.out _ _ (fun _ => HS) ?_
  clear hK K
  refine AnyK.one (i := 11) rfl (by kernel_rfl) (fun K hK => ?_)
  go_simp
  refine hK.out _ _ (fun _ => HS) ?_
  clear hK K
  refine AnyK.one (i := 12) rfl (by kernel_rfl) (fun K hK => ?_)
  go_simp
  have HB3 := Lib.hid (HB.out.drew.set_ 23 (.bool true))
  have HS3 : (fun w' : World => w'.cell? ⟨g, 1 + a, none⟩ = some (.int .i64 y) ∧ w'.cell? ⟨w.heap.size, 1, none⟩ = some (.int .i64 a)) (W.drew.setCell ⟨g, 23, none⟩ (.bool true)) := by
    have hF := (Fr.refl (At g) W.drew).setCell (p := ⟨g, 23, none⟩) (.inl rfl) (.bool true)
    refine ⟨?_, hF.held d1 (fun h => hne h)⟩
    rw [HB3.out.cell, Array.getElem?_setIfInBounds_ne (by omega), ← HB.out.cell]
    exact cr
  refine hK.out _ _ (fun _ => HS3) ?_
  clear hK K
  have c24' : (W.drew.setCell ⟨g, 23, none⟩ (.bool true)).cell? ⟨g, 24, none⟩ = some (.int .i64 v) := by
    rw [HB3.out.cell, Array.getElem?_setIfInBounds_ne (by omega), ← HB.out.cell]
    exact c24
  have f24' := HB3.out.frozen 24
  refine AnyK.one (i := 13) rfl (by kernel_rfl) (fun K hK => ?_)
  go_simp
  refine hK.out _ _ (fun _ => HS3) ?_
  clear hK K
  refine AnyK.one (i := 14) rfl (by kernel_rfl) (fun K hK => ?_)
  go_simp
  refine hK.out _ _ (fun _ => HS3) ?_
  clear hK K
  refine AnyK.one (i := 15) rfl (by kernel_rfl) (fun K hK => ?_)
  go_simp
  refine hK.out _ _ (fun h => absurd (h.symm.trans (by kernel_rfl : _ = true)) (by decide)) ?_
  clear hK K
  refine AnyK.done (by kernel_rfl) ?_ _
  go_wp2_with fail
  go_end0
  have hset := HB3.out.set_ 24 (.int .i64 y)
  rw [tk_setEnd HTW.out.r8 HTW.out.f4] at hset
  have hF : Fr (At g) W ((W.setCell ⟨g, 23, none⟩ (.bool true)).setCell ⟨g, 24, none⟩ (.int .i64 y)).drew := ((((Fr.refl (At g) W)).setCell (p := ⟨g, 23, none⟩) (.inl rfl) _).setCell (p := ⟨g, 24, none⟩) (.inl rfl) _).drew
  have hF' : Fr (At i.g) W ((W.setCell ⟨g, 23, none⟩ (.bool true)).setCell ⟨g, 24, none⟩ (.int .i64 y)).drew := by rw [← HG.out]; exact hF
  exact ⟨rfl, HTW.out.turn hF' (by rw [← HG.out]; exact hset.drew) HTW.out.r8 HTW.out.f4 rfl, HFw.out.trans hF'⟩
end Go.Proofs.YtbhnnnpofindiaaDoor
