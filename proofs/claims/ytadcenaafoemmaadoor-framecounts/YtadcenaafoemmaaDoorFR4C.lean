/-
  A region of FrameCounts: the program's Exec of the case's program. No condition.
-/
import Derived.Test.YtadcenaafoemmaaDoorF27
namespace Go.Proofs.YtadcenaafoemmaaDoor
open Go.RowKit

/-- A region of a function's code. -/
def regOfr4c (n : Nat) : Code → Option Code
  | .region id ops dr => if id == n then some (.region id ops dr) else none
  | .seq a b => match regOfr4c n a with
    | some c => some c
    | none => regOfr4c n b
  | .block _ c => regOfr4c n c
  | .scope c => regOfr4c n c
  | .loop c => regOfr4c n c
  | .cond _ a b => match regOfr4c n a with
    | some c => some c
    | none => regOfr4c n b
  | _ => none
noncomputable def regr4c : Code := ((Tryd.f6.body.bind (regOfr4c 4)).getD .skip)

set_option maxHeartbeats 64000000 in
set_option maxRecDepth 100000 in
theorem r4c_any (w W : World) (PA : Option Addr) (L : List LFn) (c : Nat) (bud dep : Int) (zs : List Value) (HZ0 : Hid (zs.toArray[0]? = some (.slice PA L.length c))) (HZ1 : Hid (zs.toArray[1]? = some (.int .i64 bud))) (HZ2 : Hid (zs.toArray[2]? = some (.int .i64 dep)))
    (HZ : Hid (Blk W w.heap.size 29 zs.toArray)) (HW : Hid (Fr None' w W)) (F : Nat) (f : FR) (r : EF × Int × FR) (hFl : w.heap.size < F) (HFR : Hid (FrameAt W F f)) (HEX : Hid (∀ (W : World) (v : Value) (base : Nat) (L' : List LFn), fns L' = fns L → Made W base v L' → F < base → FrameAt W F f → Fr None' w W → Calls Tryd.prog 11 #[v, .agg #[.int .i64 bud, .int .i64 dep], .pointer (some ⟨F, 0, none⟩)] W (ExecPost W F r)))
    (HOF : Hid (∀ W, Fr None' w W → Calls Tryd.prog 12 #[.slice PA L.length c] W fun e w' => ∃ v L', e = .returned v ∧ fns L' = fns L ∧ Made w' W.heap.size v L' ∧ Fr None' W w'))
    (u0 u2 u4 u5 u6 u7 u8 u9 u10 u11 u12 u13 u14 u15 u16 u17 u18 u19 u20 u21 u22 u23 u24 u25 u26 u27 u28 u29 u30 u31 u32 u33 u34 u35 u36 u37 u38 u39 u40 u41 u42 u43 u44 u45 u46 u47 u48 u49 u50 u51 u52 u53 u54 u55 u56 u57 u58 u59 u60 u61 u62 u63 u64 u65 u66 u67 u68 u69 u70 u71 u72 u73 u74 u75 u76 u77 u78 u79 u80 u81 u82 u83 u84 u85 u86 u87 u88 u89 u90 u91 u92 u93 u94 u95 u96 u97 u98 u99 u100 u101 u102 u103 u104 u105 u106 u107 u108 u109 u110 u111 u112 u113 u114 u115 u116 u117 u118 u119 u120 u121 u122 u123 u124 u125 u126 u127 u128 u129 u130 u131 u132 u133 u134 u135 u136 u137 u138 u139 u140 u141 u142 u143 u144 u145 u146 u147 u148 u149 u150 u151 u152 u153 u154 u155 u156 u157 u158 u159 : Value) (Q : Exit → Act → World → Prop) (hPan : ∀ c (a : Act) (d : Option Tmp) (v : Value) (w : World), Q (.panic c) (a.put d v) w → Q (.panic c) a w)
    (hQ : ∀ (v v' : Value) (wx : World) (x22 x23 x24 x25 x26 x27 x28 x29 x30 x31 x32 x33 x34 : Value), (∃ E ea ep, v = .pointer (some ⟨E, 0, none⟩) ∧ v' = .int .i64 r.2.1 ∧ w.heap.size < E ∧ E ≠ F ∧ Blk wx E 36 (efC r.1.kind r.1.value r.1.reg r.1.fn r.1.hand r.1.why ea ep) ∧ EfAt wx w.heap.size r.1 ea ep ∧ FrameAt wx F r.2.2 ∧ Blk wx w.heap.size 29 zs.toArray ∧ Fr None' w wx) → Q .normal ⟨#[u0, .pointer (some ⟨w.heap.size, 0, none⟩), u2, .pointer (some ⟨F, 0, none⟩), v, v', u6, u7, u8, u9, u10, u11, u12, u13, u14, u15, u16, u17, u18, u19, u20, u21, x22, x23, x24, x25, x26, x27, x28, x29, x30, x31, x32, x33, x34, u35, u36, u37, u38, u39, u40, u41, u42, u43, u44, u45, u46, u47, u48, u49, u50, u51, u52, u53, u54, u55, u56, u57, u58, u59, u60, u61, u62, u63, u64, u65, u66, u67, u68, u69, u70, u71, u72, u73, u74, u75, u76, u77, u78, u79, u80, u81, u82, u83, u84, u85, u86, u87, u88, u89, u90, u91, u92, u93, u94, u95, u96, u97, u98, u99, u100, u101, u102, u103, u104, u105, u106, u107, u108, u109, u110, u111, u112, u113, u114, u115, u116, u117, u118, u119, u120, u121, u122, u123, u124, u125, u126, u127, u128, u129, u130, u131, u132, u133, u134, u135, u136, u137, u138, u139, u140, u141, u142, u143, u144, u145, u146, u147, u148, u149, u150, u151, u152, u153, u154, u155, u156, u157, u158, u159], []⟩ wx) :
    Code.wp Tryd.prog regr4c Q ⟨#[u0, .pointer (some ⟨w.heap.size, 0, none⟩), u2, .pointer (some ⟨F, 0, none⟩), u4, u5, u6, u7, u8, u9, u10, u11, u12, u13, u14, u15, u16, u17, u18, u19, u20, u21, u22, u23, u24, u25, u26, u27, u28, u29, u30, u31, u32, u33, u34, u35, u36, u37, u38, u39, u40, u41, u42, u43, u44, u45, u46, u47, u48, u49, u50, u51, u52, u53, u54, u55, u56, u57, u58, u59, u60, u61, u62, u63, u64, u65, u66, u67, u68, u69, u70, u71, u72, u73, u74, u75, u76, u77, u78, u79, u80, u81, u82, u83, u84, u85, u86, u87, u88, u89, u90, u91, u92, u93, u94, u95, u96, u97, u98, u99, u100, u101, u102, u103, u104, u105, u106, u107, u108, u109, u110, u111, u112, u113, u114, u115, u116, u117, u118, u119, u120, u121, u122, u123, u124, u125, u126, u127, u128, u129, u130, u131, u132, u133, u134, u135, u136, u137, u138, u139, u140, u141, u142, u143, u144, u145, u146, u147, u148, u149, u150, u151, u152, u153, u154, u155, u156, u157, u158, u159], []⟩ W := by
  conv => arg 2; whnf
  have HS : (fun w' : World => w'.cell? ⟨w.heap.size, 0, none⟩ = some (.slice PA L.length c) ∧ w'.cell? ⟨w.heap.size, 1, none⟩ = some (.int .i64 bud) ∧ w'.cell? ⟨w.heap.size, 2, none⟩ = some (.int .i64 dep)) W.drew := ⟨by show W.cell? _ = _; rw [HZ.out.cell]; exact HZ0.out, by show W.cell? _ = _; rw [HZ.out.cell]; exact HZ1.out, by show W.cell? _ = _; rw [HZ.out.cell]; exact HZ2.out⟩
  refine region_K 15 (fun w' : World => w'.cell? ⟨w.heap.size, 0, none⟩ = some (.slice PA L.length c) ∧ w'.cell? ⟨w.heap.size, 1, none⟩ = some (.int .i64 bud) ∧ w'.cell? ⟨w.heap.size, 2, none⟩ = some (.int .i64 dep)) (by kernel_rfl) ?_
  have HZ := Lib.hid HZ.out.drew
  have HW := Lib.hid HW.out.drew
  have HFR : Hid (FrameAt W.drew F f) := Lib.hid (HFR.out.fr (Fr.refl None' W).drew (fun h => h) (fun _ _ _ h => h))
  generalize W.drew = V at *
  refine AnyK.take (i := 0) rfl (by decide) (by kernel_rfl) (by kernel_rfl) (by kernel_rfl) (fun v c a w h => hPan c a _ v w h) HS (fun K hK => ?_)
  go_simp
  refine hK.out _ ⟨_, by rfl, Or.inl ⟨by rfl, by intro w' hSw; (try dsimp only at hSw); go_simp⟩, ?_⟩
  clear hK K
  refine AnyK.take (i := 1) rfl (by decide) (by kernel_rfl) (by kernel_rfl) (by kernel_rfl) (fun v c a w h => hPan c a _ v w h) HS (fun K hK => ?_)
  go_simp
  refine hK.out _ ⟨_, by rfl, Or.inl ⟨by rfl, by intro w' hSw; (try dsimp only at hSw); go_simp⟩, ?_⟩
  clear hK K
  refine AnyK.take (i := 3) rfl (by decide) (by kernel_rfl) (by kernel_rfl) (by kernel_rfl) (fun v c a w h => hPan c a _ v w h) HS (fun K hK => ?_)
  go_simp
  refine hK.out _ ⟨_, by rfl, Or.inl ⟨by rfl, by intro w' hSw; (try dsimp only at hSw); go_simp⟩, ?_⟩
  clear hK K
  refine AnyK.take (i := 4) rfl (by decide) (by kernel_rfl) (by kernel_rfl) (by kernel_rfl) (fun v c a w h => hPan c a _ v w h) HS (fun K hK => ?_)
  go_simp
  refine hK.out _ ⟨_, by rfl, Or.inl ⟨by rfl, by intro w' hSw; (try dsimp only at hSw); go_simp⟩, ?_⟩
  clear hK K
  refine AnyK.take (i := 5) rfl (by decide) (by kernel_rfl) (by kernel_rfl) (by kernel_rfl) (fun v c a w h => hPan c a _ v w h) HS (fun K hK => ?_)
  go_simp
  refine hK.out _ ⟨_, by rfl, Or.inl ⟨by rfl, by intro w' hSw; (try dsimp only at hSw); go_simp⟩, ?_⟩
  clear hK K
  refine AnyK.take (i := 6) rfl (by decide) (by kernel_rfl) (by kernel_rfl) (by kernel_rfl) (fun v c a w h => hPan c a _ v w h) HS (fun K hK => ?_)
  go_simp
  refine hK.out _ ⟨_, by rfl, Or.inl ⟨by rfl, by intro w' hSw; (try dsimp only at hSw); go_simp⟩, ?_⟩
  clear hK K
  refine AnyK.take (i := 7) rfl (by decide) (by kernel_rfl) (by kernel_rfl) (by kernel_rfl) (fun v c a w h => hPan c a _ v w h) HS (fun K hK => ?_)
  go_simp
  refine hK.out _ ⟨_, by rfl, Or.inl ⟨by rfl, by intro w' hSw; (try dsimp only at hSw); go_simp⟩, ?_⟩
  clear hK K
  refine AnyK.take (i := 8) rfl (by decide) (by kernel_rfl) (by kernel_rfl) (by kernel_rfl) (fun v c a w h => hPan c a _ v w h) HS (fun K hK => ?_)
  go_simp
  refine hK.out _ ⟨_, by rfl, Or.inl ⟨by rfl, by intro w' hSw; (try dsimp only at hSw); go_simp⟩, ?_⟩
  clear hK K
  refine AnyK.two (i := 2) (j := 13) rfl rfl (by kernel_rfl) (fun K hK => ?_) (fun K hK => ?_)
  · go_simp
    refine (HOF.out V HW.out).mono ?_
    rintro e w1 ⟨v_w1, L', rfl, hfns, hmade, hF_w1⟩
    obtain ⟨A_w1, c_w1, hv⟩ := own_slice hmade.1
    subst hv
    have HM_w1 := Lib.hid (And.intro hfns hmade)
    have HZ_w1 := Lib.hid (HZ.out.fr hF_w1 (fun h => h))
    have HW_w1 := Lib.hid (HW.out.trans hF_w1)
    have hsz_w1 := hF_w1.size
    have HFR_w1 := Lib.hid (HFR.out.fr hF_w1 (fun h => h) (fun _ _ _ h => h))
    have hFo_w1 : F < V.heap.size := by obtain ⟨_, _, hb, _⟩ := HFR.out.blk; exact hb.lt
    have HS : (fun w' : World => w'.cell? ⟨w.heap.size, 0, none⟩ = some (.slice PA L.length c) ∧ w'.cell? ⟨w.heap.size, 1, none⟩ = some (.int .i64 bud) ∧ w'.cell? ⟨w.heap.size, 2, none⟩ = some (.int .i64 dep)) w1 := ⟨by rw [HZ_w1.out.cell]; exact HZ0.out, by rw [HZ_w1.out.cell]; exact HZ1.out, by rw [HZ_w1.out.cell]; exact HZ2.out⟩
    clear hfns hmade hF_w1
    refine hK.out _ _ (fun _ => HS) ?_
    clear hK K
    refine AnyK.two (i := 9) (j := 13) rfl rfl (by kernel_rfl) (fun K hK => ?_) (fun K hK => ?_)
    · go_simp
      refine (HEX.out w1 _ _ L' HM_w1.out.1 HM_w1.out.2 (by omega) HFR_w1.out HW_w1.out).mono ?_
      rintro e w2 ⟨ea, ep, rfl, hE, hf, hF_w2⟩
      obtain ⟨⟨Aa, ca, rfl⟩, Ap, cp, rfl⟩ := hE.slices
      have HE_w2 := Lib.hid hE
      have HFR_w2 := Lib.hid hf
      have HZ_w2 := Lib.hid (HZ_w1.out.fr hF_w2 (by show ¬ w.heap.size = F; omega))
      have HW_w2 : Hid (Fr None' w w2) := Lib.hid (HW_w1.out.then hF_w2 (fun i hi => .inr (by have hi : i = F := hi; omega)))
      have hsz_w2 := hF_w2.size
      have HS : (fun w' : World => w'.cell? ⟨w.heap.size, 0, none⟩ = some (.slice PA L.length c) ∧ w'.cell? ⟨w.heap.size, 1, none⟩ = some (.int .i64 bud) ∧ w'.cell? ⟨w.heap.size, 2, none⟩ = some (.int .i64 dep)) w2 := ⟨by rw [HZ_w2.out.cell]; exact HZ0.out, by rw [HZ_w2.out.cell]; exact HZ1.out, by rw [HZ_w2.out.cell]; exact HZ2.out⟩
      clear hE hf hF_w2
      try dsimp only
      refine hK.out _ _ (fun _ => HS) ?_
      clear hK K
      refine AnyK.take (i := 10) rfl (by decide) (by kernel_rfl) (by kernel_rfl) (by kernel_rfl) (fun v c a w h => hPan c a _ v w h) HS (fun K hK => ?_)
      go_simp
      refine hK.out _ ⟨_, by rfl, Or.inl ⟨by rfl, by intro w' hSw; (try dsimp only at hSw); go_simp⟩, ?_⟩
      clear hK K
      refine AnyK.take (i := 11) rfl (by decide) (by kernel_rfl) (by kernel_rfl) (by kernel_rfl) (fun v c a w h => hPan c a _ v w h) HS (fun K hK => ?_)
      go_simp
      refine hK.out _ ⟨_, by rfl, Or.inl ⟨by rfl, by intro w' hSw; (try dsimp only at hSw); go_simp⟩, ?_⟩
      clear hK K
      refine AnyK.take (i := 12) rfl (by decide) (by kernel_rfl) (by kernel_rfl) (by kernel_rfl) (fun v c a w h => hPan c a _ v w h) HS (fun K hK => ?_)
      go_simp
      refine hK.out _ ⟨_, by rfl, Or.inl ⟨by rfl, by intro w' hSw; (try dsimp only at hSw); go_simp⟩, ?_⟩
      clear hK K
      refine AnyK.one (i := 13) rfl (by kernel_rfl) (fun K hK => ?_)
      go_simp
      generalize hA : World.alloc w2 _ = w3
      have hF_w3 : Fr None' w2 w3 := by rw [← hA]; exact (Fr.refl _ _).alloc _
      have hG_w3 : Blk w3 w2.heap.size 36 efZ := by rw [← hA]; exact Blk.new _ _ _
      have HG_w3 := Lib.hid hG_w3
      have HZ_w3 := Lib.hid (HZ_w2.out.fr hF_w3 (fun h => h))
      have hzl_w3 := HZ_w2.out.lt
      have HW_w3 := Lib.hid (HW_w2.out.trans hF_w3)
      have hsz_w3 : w2.heap.size < w3.heap.size := hG_w3.lt
      have HFR_w3 := Lib.hid (HFR_w2.out.fr hF_w3 (fun h => h) (fun _ _ _ h => h))
      have hFl_w3 : F < w2.heap.size := by obtain ⟨_, _, hb, _⟩ := HFR_w2.out.blk; exact hb.lt
      have HE_w3 := Lib.hid (HE_w2.out.fr hF_w3 (fun _ _ _ _ _ h => h))
      have HS : (fun w' : World => w'.cell? ⟨w.heap.size, 0, none⟩ = some (.slice PA L.length c) ∧ w'.cell? ⟨w.heap.size, 1, none⟩ = some (.int .i64 bud) ∧ w'.cell? ⟨w.heap.size, 2, none⟩ = some (.int .i64 dep)) w3 := ⟨by rw [HZ_w3.out.cell]; exact HZ0.out, by rw [HZ_w3.out.cell]; exact HZ1.out, by rw [HZ_w3.out.cell]; exact HZ2.out⟩
      clear hA hF_w3 hG_w3
      refine hK.out _ _ (fun _ => HS) ?_
      clear hK K
      have hG := HG_w3.out
      have hgF := hG.lt
      have e0 : w3.cell? ⟨w2.heap.size, 0, none⟩ = some (.int .i64 0) := by rw [hG.cell]; rfl
      have y0 : w3.frozen? ⟨w2.heap.size, 0, none⟩ = false := hG.frozen _
      have e1 : w3.cell? ⟨w2.heap.size, 1, none⟩ = some (.int .i64 0) := by rw [hG.cell]; rfl
      have y1 : w3.frozen? ⟨w2.heap.size, 1, none⟩ = false := hG.frozen _
      have e2 : w3.cell? ⟨w2.heap.size, 2, none⟩ = some (.int .i64 0) := by rw [hG.cell]; rfl
      have y2 : w3.frozen? ⟨w2.heap.size, 2, none⟩ = false := hG.frozen _
      have e3 : w3.cell? ⟨w2.heap.size, 3, none⟩ = some (.int .i64 0) := by rw [hG.cell]; rfl
      have y3 : w3.frozen? ⟨w2.heap.size, 3, none⟩ = false := hG.frozen _
      have e4 : w3.cell? ⟨w2.heap.size, 4, none⟩ = some (.int .i64 0) := by rw [hG.cell]; rfl
      have y4 : w3.frozen? ⟨w2.heap.size, 4, none⟩ = false := hG.frozen _
      have e5 : w3.cell? ⟨w2.heap.size, 5, none⟩ = some (.int .i64 0) := by rw [hG.cell]; rfl
      have y5 : w3.frozen? ⟨w2.heap.size, 5, none⟩ = false := hG.frozen _
      have e6 : w3.cell? ⟨w2.heap.size, 6, none⟩ = some (nilS) := by rw [hG.cell]; rfl
      have y6 : w3.frozen? ⟨w2.heap.size, 6, none⟩ = false := hG.frozen _
      have e7 : w3.cell? ⟨w2.heap.size, 7, none⟩ = some (nilS) := by rw [hG.cell]; rfl
      have y7 : w3.frozen? ⟨w2.heap.size, 7, none⟩ = false := hG.frozen _
      clear hG
      unfold efC
      refine AnyK.one (i := 14) rfl (by kernel_rfl) (fun K hK => ?_)
      go_simp
      have hst : ∃ V, V = w3 := ⟨_, rfl⟩
      clear hst
      generalize hX : (((((((w3.setCell ⟨w2.heap.size, 0, none⟩ (.int .i64 r.1.kind)).setCell ⟨w2.heap.size, 1, none⟩ (.int .i64 r.1.value)).setCell ⟨w2.heap.size, 2, none⟩ (.int .i64 r.1.reg)).setCell ⟨w2.heap.size, 3, none⟩ (.int .i64 r.1.fn)).setCell ⟨w2.heap.size, 4, none⟩ (.int .i64 r.1.hand)).setCell ⟨w2.heap.size, 5, none⟩ (.int .i64 r.1.why)).setCell ⟨w2.heap.size, 6, none⟩ (.slice Aa r.1.args.length ca)).setCell ⟨w2.heap.size, 7, none⟩ (.slice Ap r.1.path.length cp) = X
      have hFX : Fr (At (w2.heap.size)) w3 X := by rw [← hX]; exact ef_frame (Fr.refl (At (w2.heap.size)) w3) (.inl rfl) _ _ _ _ _ _ _ _
      have hGX : Blk X (w2.heap.size) 36 (efC r.1.kind r.1.value r.1.reg r.1.fn r.1.hand r.1.why (.slice Aa r.1.args.length ca) (.slice Ap r.1.path.length cp)) := by rw [← hX]; exact ef_stored HG_w3.out _ _ _ _ _ _ _ _
      have hZX := HZ_w3.out.fr hFX (by show ¬ w.heap.size = _; omega)
      have HZX := Lib.hid hZX
      have hWX : Fr None' w X := HW_w3.out.then hFX (fun i hi => .inr (by have hi : i = w2.heap.size := hi; omega))
      have HS : (fun w' : World => w'.cell? ⟨w.heap.size, 0, none⟩ = some (.slice PA L.length c) ∧ w'.cell? ⟨w.heap.size, 1, none⟩ = some (.int .i64 bud) ∧ w'.cell? ⟨w.heap.size, 2, none⟩ = some (.int .i64 dep)) X := ⟨by rw [HZX.out.cell]; exact HZ0.out, by rw [HZX.out.cell]; exact HZ1.out, by rw [HZX.out.cell]; exact HZ2.out⟩
      have hnt : ∀ k t' cs, Blk w3 k t' cs → (t' = 2 ∨ t' = 3) → ¬ At (w2.heap.size) k := fun k t' cs hk ht' hg' => by
        have hg' : k = w2.heap.size := hg'
        subst hg'
        rcases ht' with rfl | rfl
        · exact Blk.ne_ hk HG_w3.out (by decide) rfl
        · exact Blk.ne_ hk HG_w3.out (by decide) rfl
      have hEX := HE_w3.out.fr hFX hnt
      have hRX := HFR_w3.out.fr hFX (by show ¬ F = _; omega) (fun k cs hk => hnt k _ cs hk (.inr rfl))
      have HEX2 := Lib.hid hEX
      have HRX := Lib.hid hRX
      clear hnt hEX hRX
      have HGX := Lib.hid hGX
      have HWX := Lib.hid hWX
      clear hX hFX hGX hZX hWX e0 e1 e2 e3 e4 e5 e6 e7 y0 y1 y2 y3 y4 y5 y6 y7
      refine hK.out _ _ (fun _ => HS) ?_
      clear hK K
      refine AnyK.one (i := 15) rfl (by kernel_rfl) (fun K hK => ?_)
      go_simp
      refine hK.out _ _ (fun h => absurd (h.symm.trans (by kernel_rfl : _ = true)) (by decide)) ?_
      clear hK K HS
      refine AnyK.done (by kernel_rfl) ?_ _
      refine hQ _ _ _ _ _ _ _ _ _ _ _ _ _ _ _ _ ?_
      exact ⟨_, _, _, rfl, rfl, by omega, by omega, HGX.out, HEX2.out.down (by omega), HRX.out, HZX.out, HWX.out⟩
    · go_simp
      generalize hA : World.alloc w1 _ = w3
      have hF_w3 : Fr None' w1 w3 := by rw [← hA]; exact (Fr.refl _ _).alloc _
      have hG_w3 : Blk w3 w1.heap.size 36 efZ := by rw [← hA]; exact Blk.new _ _ _
      have HG_w3 := Lib.hid hG_w3
      have HZ_w3 := Lib.hid (HZ_w1.out.fr hF_w3 (fun h => h))
      have hzl_w3 := HZ_w1.out.lt
      have HW_w3 := Lib.hid (HW_w1.out.trans hF_w3)
      have hsz_w3 : w1.heap.size < w3.heap.size := hG_w3.lt
      have HFR_w3 := Lib.hid (HFR_w1.out.fr hF_w3 (fun h => h) (fun _ _ _ h => h))
      have hFl_w3 : F < w1.heap.size := by obtain ⟨_, _, hb, _⟩ := HFR_w1.out.blk; exact hb.lt
      have HM_w3 := Lib.hid (And.intro HM_w1.out.1 (HM_w1.out.2.fr hF_w3))
      have HS : (fun w' : World => w'.cell? ⟨w.heap.size, 0, none⟩ = some (.slice PA L.length c) ∧ w'.cell? ⟨w.heap.size, 1, none⟩ = some (.int .i64 bud) ∧ w'.cell? ⟨w.heap.size, 2, none⟩ = some (.int .i64 dep)) w3 := ⟨by rw [HZ_w3.out.cell]; exact HZ0.out, by rw [HZ_w3.out.cell]; exact HZ1.out, by rw [HZ_w3.out.cell]; exact HZ2.out⟩
      clear hA hF_w3 hG_w3
      refine hK.out _ _ (fun _ => HS) ?_
      clear hK K
      refine AnyK.one (i := 9) rfl (by kernel_rfl) (fun K hK => ?_)
      go_simp
      refine (HEX.out w3 _ _ L' HM_w3.out.1 HM_w3.out.2 (by omega) HFR_w3.out HW_w3.out).mono ?_
      rintro e w2 ⟨ea, ep, rfl, hE, hf, hF_w2⟩
      obtain ⟨⟨Aa, ca, rfl⟩, Ap, cp, rfl⟩ := hE.slices
      have HE_w2 := Lib.hid hE
      have HFR_w2 := Lib.hid hf
      have HZ_w2 := Lib.hid (HZ_w3.out.fr hF_w2 (by show ¬ w.heap.size = F; omega))
      have HW_w2 : Hid (Fr None' w w2) := Lib.hid (HW_w3.out.then hF_w2 (fun i hi => .inr (by have hi : i = F := hi; omega)))
      have hsz_w2 := hF_w2.size
      have HG_w2 := Lib.hid (HG_w3.out.fr hF_w2 (by show ¬ _ = F; omega))
      have HS : (fun w' : World => w'.cell? ⟨w.heap.size, 0, none⟩ = some (.slice PA L.length c) ∧ w'.cell? ⟨w.heap.size, 1, none⟩ = some (.int .i64 bud) ∧ w'.cell? ⟨w.heap.size, 2, none⟩ = some (.int .i64 dep)) w2 := ⟨by rw [HZ_w2.out.cell]; exact HZ0.out, by rw [HZ_w2.out.cell]; exact HZ1.out, by rw [HZ_w2.out.cell]; exact HZ2.out⟩
      clear hE hf hF_w2
      try dsimp only
      refine hK.out _ _ (fun _ => HS) ?_
      clear hK K
      refine AnyK.take (i := 10) rfl (by decide) (by kernel_rfl) (by kernel_rfl) (by kernel_rfl) (fun v c a w h => hPan c a _ v w h) HS (fun K hK => ?_)
      go_simp
      refine hK.out _ ⟨_, by rfl, Or.inl ⟨by rfl, by intro w' hSw; (try dsimp only at hSw); go_simp⟩, ?_⟩
      clear hK K
      refine AnyK.take (i := 11) rfl (by decide) (by kernel_rfl) (by kernel_rfl) (by kernel_rfl) (fun v c a w h => hPan c a _ v w h) HS (fun K hK => ?_)
      go_simp
      refine hK.out _ ⟨_, by rfl, Or.inl ⟨by rfl, by intro w' hSw; (try dsimp only at hSw); go_simp⟩, ?_⟩
      clear hK K
      refine AnyK.take (i := 12) rfl (by decide) (by kernel_rfl) (by kernel_rfl) (by kernel_rfl) (fun v c a w h => hPan c a _ v w h) HS (fun K hK => ?_)
      go_simp
      refine hK.out _ ⟨_, by rfl, Or.inl ⟨by rfl, by intro w' hSw; (try dsimp only at hSw); go_simp⟩, ?_⟩
      clear hK K
      have hG := HG_w2.out
      have hgF := hG.lt
      have e0 : w2.cell? ⟨w1.heap.size, 0, none⟩ = some (.int .i64 0) := by rw [hG.cell]; rfl
      have y0 : w2.frozen? ⟨w1.heap.size, 0, none⟩ = false := hG.frozen _
      have e1 : w2.cell? ⟨w1.heap.size, 1, none⟩ = some (.int .i64 0) := by rw [hG.cell]; rfl
      have y1 : w2.frozen? ⟨w1.heap.size, 1, none⟩ = false := hG.frozen _
      have e2 : w2.cell? ⟨w1.heap.size, 2, none⟩ = some (.int .i64 0) := by rw [hG.cell]; rfl
      have y2 : w2.frozen? ⟨w1.heap.size, 2, none⟩ = false := hG.frozen _
      have e3 : w2.cell? ⟨w1.heap.size, 3, none⟩ = some (.int .i64 0) := by rw [hG.cell]; rfl
      have y3 : w2.frozen? ⟨w1.heap.size, 3, none⟩ = false := hG.frozen _
      have e4 : w2.cell? ⟨w1.heap.size, 4, none⟩ = some (.int .i64 0) := by rw [hG.cell]; rfl
      have y4 : w2.frozen? ⟨w1.heap.size, 4, none⟩ = false := hG.frozen _
      have e5 : w2.cell? ⟨w1.heap.size, 5, none⟩ = some (.int .i64 0) := by rw [hG.cell]; rfl
      have y5 : w2.frozen? ⟨w1.heap.size, 5, none⟩ = false := hG.frozen _
      have e6 : w2.cell? ⟨w1.heap.size, 6, none⟩ = some (nilS) := by rw [hG.cell]; rfl
      have y6 : w2.frozen? ⟨w1.heap.size, 6, none⟩ = false := hG.frozen _
      have e7 : w2.cell? ⟨w1.heap.size, 7, none⟩ = some (nilS) := by rw [hG.cell]; rfl
      have y7 : w2.frozen? ⟨w1.heap.size, 7, none⟩ = false := hG.frozen _
      clear hG
      unfold efC
      refine AnyK.one (i := 14) rfl (by kernel_rfl) (fun K hK => ?_)
      go_simp
      have hst : ∃ V, V = w2 := ⟨_, rfl⟩
      clear hst
      generalize hX : (((((((w2.setCell ⟨w1.heap.size, 0, none⟩ (.int .i64 r.1.kind)).setCell ⟨w1.heap.size, 1, none⟩ (.int .i64 r.1.value)).setCell ⟨w1.heap.size, 2, none⟩ (.int .i64 r.1.reg)).setCell ⟨w1.heap.size, 3, none⟩ (.int .i64 r.1.fn)).setCell ⟨w1.heap.size, 4, none⟩ (.int .i64 r.1.hand)).setCell ⟨w1.heap.size, 5, none⟩ (.int .i64 r.1.why)).setCell ⟨w1.heap.size, 6, none⟩ (.slice Aa r.1.args.length ca)).setCell ⟨w1.heap.size, 7, none⟩ (.slice Ap r.1.path.length cp) = X
      have hFX : Fr (At (w1.heap.size)) w2 X := by rw [← hX]; exact ef_frame (Fr.refl (At (w1.heap.size)) w2) (.inl rfl) _ _ _ _ _ _ _ _
      have hGX : Blk X (w1.heap.size) 36 (efC r.1.kind r.1.value r.1.reg r.1.fn r.1.hand r.1.why (.slice Aa r.1.args.length ca) (.slice Ap r.1.path.length cp)) := by rw [← hX]; exact ef_stored HG_w2.out _ _ _ _ _ _ _ _
      have hZX := HZ_w2.out.fr hFX (by show ¬ w.heap.size = _; omega)
      have HZX := Lib.hid hZX
      have hWX : Fr None' w X := HW_w2.out.then hFX (fun i hi => .inr (by have hi : i = w1.heap.size := hi; omega))
      have HS : (fun w' : World => w'.cell? ⟨w.heap.size, 0, none⟩ = some (.slice PA L.length c) ∧ w'.cell? ⟨w.heap.size, 1, none⟩ = some (.int .i64 bud) ∧ w'.cell? ⟨w.heap.size, 2, none⟩ = some (.int .i64 dep)) X := ⟨by rw [HZX.out.cell]; exact HZ0.out, by rw [HZX.out.cell]; exact HZ1.out, by rw [HZX.out.cell]; exact HZ2.out⟩
      have hnt : ∀ k t' cs, Blk w2 k t' cs → (t' = 2 ∨ t' = 3) → ¬ At (w1.heap.size) k := fun k t' cs hk ht' hg' => by
        have hg' : k = w1.heap.size := hg'
        subst hg'
        rcases ht' with rfl | rfl
        · exact Blk.ne_ hk HG_w2.out (by decide) rfl
        · exact Blk.ne_ hk HG_w2.out (by decide) rfl
      have hEX := HE_w2.out.fr hFX hnt
      have hRX := HFR_w2.out.fr hFX (by show ¬ F = _; omega) (fun k cs hk => hnt k _ cs hk (.inr rfl))
      have HEX2 := Lib.hid hEX
      have HRX := Lib.hid hRX
      clear hnt hEX hRX
      have HGX := Lib.hid hGX
      have HWX := Lib.hid hWX
      clear hX hFX hGX hZX hWX e0 e1 e2 e3 e4 e5 e6 e7 y0 y1 y2 y3 y4 y5 y6 y7
      refine hK.out _ _ (fun _ => HS) ?_
      clear hK K
      refine AnyK.one (i := 15) rfl (by kernel_rfl) (fun K hK => ?_)
      go_simp
      refine hK.out _ _ (fun h => absurd (h.symm.trans (by kernel_rfl : _ = true)) (by decide)) ?_
      clear hK K HS
      refine AnyK.done (by kernel_rfl) ?_ _
      refine hQ _ _ _ _ _ _ _ _ _ _ _ _ _ _ _ _ ?_
      exact ⟨_, _, _, rfl, rfl, by omega, by omega, HGX.out, HEX2.out.down (by omega), HRX.out, HZX.out, HWX.out⟩
  · go_simp
    generalize hA : World.alloc V _ = w3
    have hF_w3 : Fr None' V w3 := by rw [← hA]; exact (Fr.refl _ _).alloc _
    have hG_w3 : Blk w3 V.heap.size 36 efZ := by rw [← hA]; exact Blk.new _ _ _
    have HG_w3 := Lib.hid hG_w3
    have HZ_w3 := Lib.hid (HZ.out.fr hF_w3 (fun h => h))
    have hzl_w3 := HZ.out.lt
    have HW_w3 := Lib.hid (HW.out.trans hF_w3)
    have hsz_w3 : V.heap.size < w3.heap.size := hG_w3.lt
    have HFR_w3 := Lib.hid (HFR.out.fr hF_w3 (fun h => h) (fun _ _ _ h => h))
    have hFl_w3 : F < V.heap.size := by obtain ⟨_, _, hb, _⟩ := HFR.out.blk; exact hb.lt
    have HS : (fun w' : World => w'.cell? ⟨w.heap.size, 0, none⟩ = some (.slice PA L.length c) ∧ w'.cell? ⟨w.heap.size, 1, none⟩ = some (.int .i64 bud) ∧ w'.cell? ⟨w.heap.size, 2, none⟩ = some (.int .i64 dep)) w3 := ⟨by rw [HZ_w3.out.cell]; exact HZ0.out, by rw [HZ_w3.out.cell]; exact HZ1.out, by rw [HZ_w3.out.cell]; exact HZ2.out⟩
    clear hA hF_w3 hG_w3
    refine hK.out _ _ (fun _ => HS) ?_
    clear hK K
    refine AnyK.one (i := 2) rfl (by kernel_rfl) (fun K hK => ?_)
    go_simp
    refine (HOF.out w3 HW_w3.out).mono ?_
    rintro e w1 ⟨v_w1, L', rfl, hfns, hmade, hF_w1⟩
    obtain ⟨A_w1, c_w1, hv⟩ := own_slice hmade.1
    subst hv
    have HM_w1 := Lib.hid (And.intro hfns hmade)
    have HZ_w1 := Lib.hid (HZ_w3.out.fr hF_w1 (fun h => h))
    have HW_w1 := Lib.hid (HW_w3.out.trans hF_w1)
    have hsz_w1 := hF_w1.size
    have HFR_w1 := Lib.hid (HFR_w3.out.fr hF_w1 (fun h => h) (fun _ _ _ h => h))
    have hFo_w1 : F < w3.heap.size := by obtain ⟨_, _, hb, _⟩ := HFR_w3.out.blk; exact hb.lt
    have HG_w1 := Lib.hid (HG_w3.out.fr hF_w1 (fun h => h))
    have HS : (fun w' : World => w'.cell? ⟨w.heap.size, 0, none⟩ = some (.slice PA L.length c) ∧ w'.cell? ⟨w.heap.size, 1, none⟩ = some (.int .i64 bud) ∧ w'.cell? ⟨w.heap.size, 2, none⟩ = some (.int .i64 dep)) w1 := ⟨by rw [HZ_w1.out.cell]; exact HZ0.out, by rw [HZ_w1.out.cell]; exact HZ1.out, by rw [HZ_w1.out.cell]; exact HZ2.out⟩
    clear hfns hmade hF_w1
    refine hK.out _ _ (fun _ => HS) ?_
    clear hK K
    refine AnyK.one (i := 9) rfl (by kernel_rfl) (fun K hK => ?_)
    go_simp
    refine (HEX.out w1 _ _ L' HM_w1.out.1 HM_w1.out.2 (by omega) HFR_w1.out HW_w1.out).mono ?_
    rintro e w2 ⟨ea, ep, rfl, hE, hf, hF_w2⟩
    obtain ⟨⟨Aa, ca, rfl⟩, Ap, cp, rfl⟩ := hE.slices
    have HE_w2 := Lib.hid hE
    have HFR_w2 := Lib.hid hf
    have HZ_w2 := Lib.hid (HZ_w1.out.fr hF_w2 (by show ¬ w.heap.size = F; omega))
    have HW_w2 : Hid (Fr None' w w2) := Lib.hid (HW_w1.out.then hF_w2 (fun i hi => .inr (by have hi : i = F := hi; omega)))
    have hsz_w2 := hF_w2.size
    have HG_w2 := Lib.hid (HG_w1.out.fr hF_w2 (by show ¬ _ = F; omega))
    have HS : (fun w' : World => w'.cell? ⟨w.heap.size, 0, none⟩ = some (.slice PA L.length c) ∧ w'.cell? ⟨w.heap.size, 1, none⟩ = some (.int .i64 bud) ∧ w'.cell? ⟨w.heap.size, 2, none⟩ = some (.int .i64 dep)) w2 := ⟨by rw [HZ_w2.out.cell]; exact HZ0.out, by rw [HZ_w2.out.cell]; exact HZ1.out, by rw [HZ_w2.out.cell]; exact HZ2.out⟩
    clear hE hf hF_w2
    try dsimp only
    refine hK.out _ _ (fun _ => HS) ?_
    clear hK K
    refine AnyK.take (i := 10) rfl (by decide) (by kernel_rfl) (by kernel_rfl) (by kernel_rfl) (fun v c a w h => hPan c a _ v w h) HS (fun K hK => ?_)
    go_simp
    refine hK.out _ ⟨_, by rfl, Or.inl ⟨by rfl, by intro w' hSw; (try dsimp only at hSw); go_simp⟩, ?_⟩
    clear hK K
    refine AnyK.take (i := 11) rfl (by decide) (by kernel_rfl) (by kernel_rfl) (by kernel_rfl) (fun v c a w h => hPan c a _ v w h) HS (fun K hK => ?_)
    go_simp
    refine hK.out _ ⟨_, by rfl, Or.inl ⟨by rfl, by intro w' hSw; (try dsimp only at hSw); go_simp⟩, ?_⟩
    clear hK K
    refine AnyK.take (i := 12) rfl (by decide) (by kernel_rfl) (by kernel_rfl) (by kernel_rfl) (fun v c a w h => hPan c a _ v w h) HS (fun K hK => ?_)
    go_simp
    refine hK.out _ ⟨_, by rfl, Or.inl ⟨by rfl, by intro w' hSw; (try dsimp only at hSw); go_simp⟩, ?_⟩
    clear hK K
    have hG := HG_w2.out
    have hgF := hG.lt
    have e0 : w2.cell? ⟨V.heap.size, 0, none⟩ = some (.int .i64 0) := by rw [hG.cell]; rfl
    have y0 : w2.frozen? ⟨V.heap.size, 0, none⟩ = false := hG.frozen _
    have e1 : w2.cell? ⟨V.heap.size, 1, none⟩ = some (.int .i64 0) := by rw [hG.cell]; rfl
    have y1 : w2.frozen? ⟨V.heap.size, 1, none⟩ = false := hG.frozen _
    have e2 : w2.cell? ⟨V.heap.size, 2, none⟩ = some (.int .i64 0) := by rw [hG.cell]; rfl
    have y2 : w2.frozen? ⟨V.heap.size, 2, none⟩ = false := hG.frozen _
    have e3 : w2.cell? ⟨V.heap.size, 3, none⟩ = some (.int .i64 0) := by rw [hG.cell]; rfl
    have y3 : w2.frozen? ⟨V.heap.size, 3, none⟩ = false := hG.frozen _
    have e4 : w2.cell? ⟨V.heap.size, 4, none⟩ = some (.int .i64 0) := by rw [hG.cell]; rfl
    have y4 : w2.frozen? ⟨V.heap.size, 4, none⟩ = false := hG.frozen _
    have e5 : w2.cell? ⟨V.heap.size, 5, none⟩ = some (.int .i64 0) := by rw [hG.cell]; rfl
    have y5 : w2.frozen? ⟨V.heap.size, 5, none⟩ = false := hG.frozen _
    have e6 : w2.cell? ⟨V.heap.size, 6, none⟩ = some (nilS) := by rw [hG.cell]; rfl
    have y6 : w2.frozen? ⟨V.heap.size, 6, none⟩ = false := hG.frozen _
    have e7 : w2.cell? ⟨V.heap.size, 7, none⟩ = some (nilS) := by rw [hG.cell]; rfl
    have y7 : w2.frozen? ⟨V.heap.size, 7, none⟩ = false := hG.frozen _
    clear hG
    unfold efC
    refine AnyK.one (i := 14) rfl (by kernel_rfl) (fun K hK => ?_)
    go_simp
    have hst : ∃ V, V = w2 := ⟨_, rfl⟩
    clear hst
    generalize hX : (((((((w2.setCell ⟨V.heap.size, 0, none⟩ (.int .i64 r.1.kind)).setCell ⟨V.heap.size, 1, none⟩ (.int .i64 r.1.value)).setCell ⟨V.heap.size, 2, none⟩ (.int .i64 r.1.reg)).setCell ⟨V.heap.size, 3, none⟩ (.int .i64 r.1.fn)).setCell ⟨V.heap.size, 4, none⟩ (.int .i64 r.1.hand)).setCell ⟨V.heap.size, 5, none⟩ (.int .i64 r.1.why)).setCell ⟨V.heap.size, 6, none⟩ (.slice Aa r.1.args.length ca)).setCell ⟨V.heap.size, 7, none⟩ (.slice Ap r.1.path.length cp) = X
    have hFX : Fr (At (V.heap.size)) w2 X := by rw [← hX]; exact ef_frame (Fr.refl (At (V.heap.size)) w2) (.inl rfl) _ _ _ _ _ _ _ _
    have hGX : Blk X (V.heap.size) 36 (efC r.1.kind r.1.value r.1.reg r.1.fn r.1.hand r.1.why (.slice Aa r.1.args.length ca) (.slice Ap r.1.path.length cp)) := by rw [← hX]; exact ef_stored HG_w2.out _ _ _ _ _ _ _ _
    have hZX := HZ_w2.out.fr hFX (by show ¬ w.heap.size = _; omega)
    have HZX := Lib.hid hZX
    have hWX : Fr None' w X := HW_w2.out.then hFX (fun i hi => .inr (by have hi : i = V.heap.size := hi; omega))
    have HS : (fun w' : World => w'.cell? ⟨w.heap.size, 0, none⟩ = some (.slice PA L.length c) ∧ w'.cell? ⟨w.heap.size, 1, none⟩ = some (.int .i64 bud) ∧ w'.cell? ⟨w.heap.size, 2, none⟩ = some (.int .i64 dep)) X := ⟨by rw [HZX.out.cell]; exact HZ0.out, by rw [HZX.out.cell]; exact HZ1.out, by rw [HZX.out.cell]; exact HZ2.out⟩
    have hnt : ∀ k t' cs, Blk w2 k t' cs → (t' = 2 ∨ t' = 3) → ¬ At (V.heap.size) k := fun k t' cs hk ht' hg' => by
      have hg' : k = V.heap.size := hg'
      subst hg'
      rcases ht' with rfl | rfl
      · exact Blk.ne_ hk HG_w2.out (by decide) rfl
      · exact Blk.ne_ hk HG_w2.out (by decide) rfl
    have hEX := HE_w2.out.fr hFX hnt
    have hRX := HFR_w2.out.fr hFX (by show ¬ F = _; omega) (fun k cs hk => hnt k _ cs hk (.inr rfl))
    have HEX2 := Lib.hid hEX
    have HRX := Lib.hid hRX
    clear hnt hEX hRX
    have HGX := Lib.hid hGX
    have HWX := Lib.hid hWX
    clear hX hFX hGX hZX hWX e0 e1 e2 e3 e4 e5 e6 e7 y0 y1 y2 y3 y4 y5 y6 y7
    refine hK.out _ _ (fun _ => HS) ?_
    clear hK K
    refine AnyK.one (i := 15) rfl (by kernel_rfl) (fun K hK => ?_)
    go_simp
    refine hK.out _ _ (fun h => absurd (h.symm.trans (by kernel_rfl : _ = true)) (by decide)) ?_
    clear hK K HS
    refine AnyK.done (by kernel_rfl) ?_ _
    refine hQ _ _ _ _ _ _ _ _ _ _ _ _ _ _ _ _ ?_
    exact ⟨_, _, _, rfl, rfl, by omega, by omega, HGX.out, HEX2.out.down (by omega), HRX.out, HZX.out, HWX.out⟩
end Go.Proofs.YtadcenaafoemmaaDoor
