/-
  Regions of FrameCounts: the instruction is read; the end. No condition.
-/
import Derived.Test.YtadcenaafoemmaaDoorFR4C
import Derived.StillTailTactics
namespace Go.Proofs.YtadcenaafoemmaaDoor
open Go.RowKit

/-- What follows a region. -/
def restOf (n : Nat) : Code → Option Code
  | .seq (.region id _ _) b => if id == n then some b else restOf n b
  | .seq a b => match restOf n a with
    | some c => some c
    | none => restOf n b
  | _ => none
noncomputable def r7c : Code := ((Tryd.f6.body.bind (regOfr4c 7)).getD .skip)
noncomputable def r13c : Code := ((Tryd.f6.body.bind (regOfr4c 13)).getD .skip)
noncomputable def rest4c : Code := ((Tryd.f6.body.bind (restOf 4)).getD .skip)
noncomputable def rest7c : Code := ((Tryd.f6.body.bind (restOf 7)).getD .skip)

set_option maxHeartbeats 64000000 in
set_option maxRecDepth 100000 in
theorem r7c_any (w W : World) (b off n c fn at_ ib io cn yc : Nat) (io0 ia ibb ic ik : Int) (HS0 : Hid ((fun w' : World => w'.cell? ⟨w.heap.size, 0, none⟩ = some (.slice (some ⟨b, off, none⟩) n c) ∧ w'.cell? ⟨w.heap.size, 3, none⟩ = some (.int .i64 (fn : Int)) ∧ w'.cell? ⟨w.heap.size, 4, none⟩ = some (.int .i64 (at_ : Int)) ∧ w'.cell? ⟨b, off + fn * 2 + 1, none⟩ = some (.slice (some ⟨ib, io, none⟩) cn yc) ∧ w'.cell? ⟨ib, io + at_ * 5, none⟩ = some (.int .i64 io0) ∧ w'.cell? ⟨ib, io + at_ * 5 + 1, none⟩ = some (.int .i64 ia) ∧ w'.cell? ⟨ib, io + at_ * 5 + 2, none⟩ = some (.int .i64 ibb) ∧ w'.cell? ⟨ib, io + at_ * 5 + 3, none⟩ = some (.int .i64 ic) ∧ w'.cell? ⟨ib, io + at_ * 5 + 4, none⟩ = some (.int .i64 ik)) W)) (h1 : fn < n) (h2 : at_ < cn)
    (u0 u2 u3 u4 u5 u6 u7 u8 u9 u10 u11 u12 u13 u14 u15 u16 u17 u18 u19 u20 u21 u22 u23 u24 u25 u26 u27 u28 u29 u30 u31 u32 u33 u34 u35 u36 u37 u38 u39 u40 u41 u42 u43 u44 u45 u46 u47 u48 u49 u50 u51 u52 u53 u54 u55 u56 u57 u58 u59 u60 u61 u62 u63 u64 u65 u66 u67 u68 u69 u70 u71 u72 u73 u74 u75 u76 u77 u78 u79 u80 u81 u82 u83 u84 u85 u86 u87 u88 u89 u90 u91 u92 u93 u94 u95 u96 u97 u98 u99 u100 u101 u102 u103 u104 u105 u106 u107 u108 u109 u110 u111 u112 u113 u114 u115 u116 u117 u118 u119 u120 u121 u122 u123 u124 u125 u126 u127 u128 u129 u130 u131 u132 u133 u134 u135 u136 u137 u138 u139 u140 u141 u142 u143 u144 u145 u146 u147 u148 u149 u150 u151 u152 u153 u154 u155 u156 u157 u158 u159 : Value) (Q : Exit → Act → World → Prop) (hPan : ∀ c (a : Act) (d : Option Tmp) (v : Value) (w : World), Q (.panic c) (a.put d v) w → Q (.panic c) a w)
    (hQ : ∀ (X : Nat) (wx : World) (x62 x63 x64 x65 x66 x67 x68 x69 x70 x71 x72 x73 x74 : Value), W.heap.size ≤ X → Blk wx X 94 #[.int .i64 io0, .int .i64 ia, .int .i64 ibb, .int .i64 ic, .int .i64 ik] → Fr None' W wx → Q .normal ⟨#[u0, .pointer (some ⟨w.heap.size, 0, none⟩), u2, u3, u4, u5, .pointer (some ⟨X, 0, none⟩), u7, u8, u9, u10, u11, u12, u13, u14, u15, u16, u17, u18, u19, u20, u21, u22, u23, u24, u25, u26, u27, u28, u29, u30, u31, u32, u33, u34, u35, u36, u37, u38, u39, u40, u41, u42, u43, u44, u45, u46, u47, u48, u49, u50, u51, u52, u53, u54, u55, u56, u57, u58, u59, u60, u61, x62, x63, x64, x65, x66, x67, x68, x69, x70, x71, x72, x73, x74, u75, u76, u77, u78, u79, u80, u81, u82, u83, u84, u85, u86, u87, u88, u89, u90, u91, u92, u93, u94, u95, u96, u97, u98, u99, u100, u101, u102, u103, u104, u105, u106, u107, u108, u109, u110, u111, u112, u113, u114, u115, u116, u117, u118, u119, u120, u121, u122, u123, u124, u125, u126, u127, u128, u129, u130, u131, u132, u133, u134, u135, u136, u137, u138, u139, u140, u141, u142, u143, u144, u145, u146, u147, u148, u149, u150, u151, u152, u153, u154, u155, u156, u157, u158, u159], []⟩ wx) :
    Code.wp Tryd.prog r7c Q ⟨#[u0, .pointer (some ⟨w.heap.size, 0, none⟩), u2, u3, u4, u5, u6, u7, u8, u9, u10, u11, u12, u13, u14, u15, u16, u17, u18, u19, u20, u21, u22, u23, u24, u25, u26, u27, u28, u29, u30, u31, u32, u33, u34, u35, u36, u37, u38, u39, u40, u41, u42, u43, u44, u45, u46, u47, u48, u49, u50, u51, u52, u53, u54, u55, u56, u57, u58, u59, u60, u61, u62, u63, u64, u65, u66, u67, u68, u69, u70, u71, u72, u73, u74, u75, u76, u77, u78, u79, u80, u81, u82, u83, u84, u85, u86, u87, u88, u89, u90, u91, u92, u93, u94, u95, u96, u97, u98, u99, u100, u101, u102, u103, u104, u105, u106, u107, u108, u109, u110, u111, u112, u113, u114, u115, u116, u117, u118, u119, u120, u121, u122, u123, u124, u125, u126, u127, u128, u129, u130, u131, u132, u133, u134, u135, u136, u137, u138, u139, u140, u141, u142, u143, u144, u145, u146, u147, u148, u149, u150, u151, u152, u153, u154, u155, u156, u157, u158, u159], []⟩ W := by
  have g1 : (fn : Int) < (n : Int) := by omega
  have g2 : (at_ : Int) < (cn : Int) := by omega
  conv => arg 2; whnf
  have HS : (fun w' : World => w'.cell? ⟨w.heap.size, 0, none⟩ = some (.slice (some ⟨b, off, none⟩) n c) ∧ w'.cell? ⟨w.heap.size, 3, none⟩ = some (.int .i64 (fn : Int)) ∧ w'.cell? ⟨w.heap.size, 4, none⟩ = some (.int .i64 (at_ : Int)) ∧ w'.cell? ⟨b, off + fn * 2 + 1, none⟩ = some (.slice (some ⟨ib, io, none⟩) cn yc) ∧ w'.cell? ⟨ib, io + at_ * 5, none⟩ = some (.int .i64 io0) ∧ w'.cell? ⟨ib, io + at_ * 5 + 1, none⟩ = some (.int .i64 ia) ∧ w'.cell? ⟨ib, io + at_ * 5 + 2, none⟩ = some (.int .i64 ibb) ∧ w'.cell? ⟨ib, io + at_ * 5 + 3, none⟩ = some (.int .i64 ic) ∧ w'.cell? ⟨ib, io + at_ * 5 + 4, none⟩ = some (.int .i64 ik)) W.drew := HS0.out
  refine region_K 14 (fun w' : World => w'.cell? ⟨w.heap.size, 0, none⟩ = some (.slice (some ⟨b, off, none⟩) n c) ∧ w'.cell? ⟨w.heap.size, 3, none⟩ = some (.int .i64 (fn : Int)) ∧ w'.cell? ⟨w.heap.size, 4, none⟩ = some (.int .i64 (at_ : Int)) ∧ w'.cell? ⟨b, off + fn * 2 + 1, none⟩ = some (.slice (some ⟨ib, io, none⟩) cn yc) ∧ w'.cell? ⟨ib, io + at_ * 5, none⟩ = some (.int .i64 io0) ∧ w'.cell? ⟨ib, io + at_ * 5 + 1, none⟩ = some (.int .i64 ia) ∧ w'.cell? ⟨ib, io + at_ * 5 + 2, none⟩ = some (.int .i64 ibb) ∧ w'.cell? ⟨ib, io + at_ * 5 + 3, none⟩ = some (.int .i64 ic) ∧ w'.cell? ⟨ib, io + at_ * 5 + 4, none⟩ = some (.int .i64 ik)) (by kernel_rfl) ?_
  clear HS0
  have hFd : Fr None' W W.drew := (Fr.refl None' W).drew
  have HFd := Lib.hid hFd
  have hsz : W.heap.size ≤ W.drew.heap.size := Nat.le_refl _
  generalize W.drew = V at *
  refine AnyK.take (i := 0) rfl (by decide) (by kernel_rfl) (by kernel_rfl) (by kernel_rfl) (fun v c a w h => hPan c a _ v w h) HS (fun K hK => ?_)
  go_simp
  refine hK.out _ ⟨_, by rfl, Or.inl ⟨by rfl, by intro w' hSw; (try dsimp only at hSw); go_simp⟩, ?_⟩
  clear hK K
  refine AnyK.take (i := 1) rfl (by decide) (by kernel_rfl) (by kernel_rfl) (by kernel_rfl) (fun v c a w h => hPan c a _ v w h) HS (fun K hK => ?_)
  go_simp
  refine hK.out _ ⟨_, by rfl, Or.inl ⟨by rfl, by intro w' hSw; (try dsimp only at hSw); go_simp⟩, ?_⟩
  clear hK K
  refine AnyK.take (i := 2) rfl (by decide) (by kernel_rfl) (by kernel_rfl) (by kernel_rfl) (fun v c a w h => hPan c a _ v w h) HS (fun K hK => ?_)
  go_simp
  refine hK.out _ ⟨_, by rfl, Or.inl ⟨by rfl, by intro w' hSw; (try dsimp only at hSw); go_simp⟩, ?_⟩
  clear hK K
  refine AnyK.take (i := 3) rfl (by decide) (by kernel_rfl) (by kernel_rfl) (by kernel_rfl) (fun v c a w h => hPan c a _ v w h) HS (fun K hK => ?_)
  go_simp
  refine hK.out _ ⟨_, by rfl, Or.inl ⟨by rfl, by intro w' hSw; (try dsimp only at hSw); go_simp⟩, ?_⟩
  clear hK K
  refine AnyK.take (i := 4) rfl (by decide) (by kernel_rfl) (by kernel_rfl) (by kernel_rfl) (fun v c a w h => hPan c a _ v w h) HS (fun K hK => ?_)
  go_simp
  refine hK.out _ ⟨_, by rfl, Or.inl ⟨by rfl, by intro w' hSw; (try dsimp only at hSw); go_simp⟩, ?_⟩
  clear hK K
  refine AnyK.take (i := 5) rfl (by decide) (by kernel_rfl) (by kernel_rfl) (by kernel_rfl) (fun v c a w h => hPan c a _ v w h) HS (fun K hK => ?_)
  go_simp
  refine hK.out _ ⟨_, by rfl, Or.inl ⟨by rfl, by intro w' hSw; (try dsimp only at hSw); go_simp⟩, ?_⟩
  clear hK K
  refine AnyK.take (i := 6) rfl (by decide) (by kernel_rfl) (by kernel_rfl) (by kernel_rfl) (fun v c a w h => hPan c a _ v w h) HS (fun K hK => ?_)
  go_simp
  refine hK.out _ ⟨_, by rfl, Or.inl ⟨by rfl, by intro w' hSw; (try dsimp only at hSw); go_simp⟩, ?_⟩
  clear hK K
  refine AnyK.take (i := 7) rfl (by decide) (by kernel_rfl) (by kernel_rfl) (by kernel_rfl) (fun v c a w h => hPan c a _ v w h) HS (fun K hK => ?_)
  go_simp
  refine hK.out _ ⟨_, by rfl, Or.inl ⟨by rfl, by intro w' hSw; (try dsimp only at hSw); go_simp⟩, ?_⟩
  clear hK K
  refine AnyK.take (i := 8) rfl (by decide) (by kernel_rfl) (by kernel_rfl) (by kernel_rfl) (fun v c a w h => hPan c a _ v w h) HS (fun K hK => ?_)
  go_simp
  refine hK.out _ ⟨_, by rfl, Or.inl ⟨by rfl, by intro w' hSw; (try dsimp only at hSw); go_simp⟩, ?_⟩
  clear hK K
  refine AnyK.take (i := 9) rfl (by decide) (by kernel_rfl) (by kernel_rfl) (by kernel_rfl) (fun v c a w h => hPan c a _ v w h) HS (fun K hK => ?_)
  go_simp
  refine hK.out _ ⟨_, by rfl, Or.inl ⟨by rfl, by intro w' hSw; (try dsimp only at hSw); go_simp⟩, ?_⟩
  clear hK K
  refine AnyK.take (i := 10) rfl (by decide) (by kernel_rfl) (by kernel_rfl) (by kernel_rfl) (fun v c a w h => hPan c a _ v w h) HS (fun K hK => ?_)
  go_simp
  refine hK.out _ ⟨_, by rfl, Or.inl ⟨by rfl, by intro w' hSw; (try dsimp only at hSw); go_simp⟩, ?_⟩
  clear hK K
  refine AnyK.take (i := 11) rfl (by decide) (by kernel_rfl) (by kernel_rfl) (by kernel_rfl) (fun v c a w h => hPan c a _ v w h) HS (fun K hK => ?_)
  go_simp
  refine hK.out _ ⟨_, by rfl, Or.inl ⟨by rfl, by intro w' hSw; (try dsimp only at hSw); go_simp⟩, ?_⟩
  clear hK K
  refine AnyK.take (i := 12) rfl (by decide) (by kernel_rfl) (by kernel_rfl) (by kernel_rfl) (fun v c a w h => hPan c a _ v w h) HS (fun K hK => ?_)
  go_simp
  refine hK.out _ ⟨_, by rfl, Or.inl ⟨by rfl, by intro w' hSw; (try dsimp only at hSw); go_simp⟩, ?_⟩
  clear hK K
  refine AnyK.one (i := 13) rfl (by kernel_rfl) (fun K hK => ?_)
  go_simp
  generalize hW2 : World.alloc V _ = V2
  have hF : Fr None' V V2 := by rw [← hW2]; exact (Fr.refl _ _).alloc _
  have hB : Blk V2 V.heap.size 94 #[.int .i64 0, .int .i64 0, .int .i64 0, .int .i64 0, .int .i64 0] := by rw [← hW2]; exact Blk.new _ _ _
  have HB := Lib.hid hB
  have HF := Lib.hid (HFd.out.trans hF)
  have hge : W.heap.size ≤ V.heap.size := by omega
  have HS : (fun w' : World => w'.cell? ⟨w.heap.size, 0, none⟩ = some (.slice (some ⟨b, off, none⟩) n c) ∧ w'.cell? ⟨w.heap.size, 3, none⟩ = some (.int .i64 (fn : Int)) ∧ w'.cell? ⟨w.heap.size, 4, none⟩ = some (.int .i64 (at_ : Int)) ∧ w'.cell? ⟨b, off + fn * 2 + 1, none⟩ = some (.slice (some ⟨ib, io, none⟩) cn yc) ∧ w'.cell? ⟨ib, io + at_ * 5, none⟩ = some (.int .i64 io0) ∧ w'.cell? ⟨ib, io + at_ * 5 + 1, none⟩ = some (.int .i64 ia) ∧ w'.cell? ⟨ib, io + at_ * 5 + 2, none⟩ = some (.int .i64 ibb) ∧ w'.cell? ⟨ib, io + at_ * 5 + 3, none⟩ = some (.int .i64 ic) ∧ w'.cell? ⟨ib, io + at_ * 5 + 4, none⟩ = some (.int .i64 ik)) V2 := ⟨hF.held HS.1 (fun h => h), hF.held HS.2.1 (fun h => h), hF.held HS.2.2.1 (fun h => h), hF.held HS.2.2.2.1 (fun h => h), hF.held HS.2.2.2.2.1 (fun h => h), hF.held HS.2.2.2.2.2.1 (fun h => h), hF.held HS.2.2.2.2.2.2.1 (fun h => h), hF.held HS.2.2.2.2.2.2.2.1 (fun h => h), hF.held HS.2.2.2.2.2.2.2.2 (fun h => h)⟩
  clear hW2 hF hB hFd HFd hsz
  generalize V.heap.size = X at *
  refine hK.out _ _ (fun _ => HS) ?_
  clear hK K
  have e0 : V2.cell? ⟨X, 0, none⟩ = some (.int .i64 0) := by rw [HB.out.cell]; rfl
  have e1 : V2.cell? ⟨X, 1, none⟩ = some (.int .i64 0) := by rw [HB.out.cell]; rfl
  have e2 : V2.cell? ⟨X, 2, none⟩ = some (.int .i64 0) := by rw [HB.out.cell]; rfl
  have e3 : V2.cell? ⟨X, 3, none⟩ = some (.int .i64 0) := by rw [HB.out.cell]; rfl
  have e4 : V2.cell? ⟨X, 4, none⟩ = some (.int .i64 0) := by rw [HB.out.cell]; rfl
  have y0 := HB.out.frozen 0
  have y1 := HB.out.frozen 1
  have y2 := HB.out.frozen 2
  have y3 := HB.out.frozen 3
  have y4 := HB.out.frozen 4
  refine AnyK.one (i := 14) rfl (by kernel_rfl) (fun K hK => ?_)
  go_simp
  have hX : Blk (((((V2.setCell ⟨X, 0, none⟩ (.int .i64 io0)).setCell ⟨X, 1, none⟩ (.int .i64 ia)).setCell ⟨X, 2, none⟩ (.int .i64 ibb)).setCell ⟨X, 3, none⟩ (.int .i64 ic)).setCell ⟨X, 4, none⟩ (.int .i64 ik)) X 94 #[.int .i64 io0, .int .i64 ia, .int .i64 ibb, .int .i64 ic, .int .i64 ik] := ((((HB.out.set_ 0 _).set_ 1 _).set_ 2 _).set_ 3 _).set_ 4 _
  have hFX : Fr None' W (((((V2.setCell ⟨X, 0, none⟩ (.int .i64 io0)).setCell ⟨X, 1, none⟩ (.int .i64 ia)).setCell ⟨X, 2, none⟩ (.int .i64 ibb)).setCell ⟨X, 3, none⟩ (.int .i64 ic)).setCell ⟨X, 4, none⟩ (.int .i64 ik)) := ((((HF.out.setCell (p := ⟨X, 0, none⟩) (.inr hge) _).setCell (p := ⟨X, 1, none⟩) (.inr hge) _).setCell (p := ⟨X, 2, none⟩) (.inr hge) _).setCell (p := ⟨X, 3, none⟩) (.inr hge) _).setCell (p := ⟨X, 4, none⟩) (.inr hge) _
  refine hK.out _ _ (fun h => absurd (h.symm.trans (by kernel_rfl : _ = true)) (by decide)) ?_
  clear hK K HS
  refine AnyK.done (by kernel_rfl) ?_ _
  exact hQ _ _ _ _ _ _ _ _ _ _ _ _ _ _ _ hge hX hFX

set_option maxHeartbeats 64000000 in
set_option maxRecDepth 100000 in
theorem r13s_any (w W : World) (F E : Nat) (fn st kd : Int) (q0 q1 q2 q3 : Int) (f3 : W.cell? ⟨F, 3, none⟩ = some (.int .i64 kd)) (hst1 : -9223372036854775808 ≤ st) (hst2 : st ≤ 1000000)
    (z3 : W.cell? ⟨w.heap.size, 3, none⟩ = some (.int .i64 fn)) (z5 : W.cell? ⟨w.heap.size, 5, none⟩ = some (.int .i64 st)) (z6 : W.cell? ⟨w.heap.size, 6, none⟩ = some (.int .i64 kd))
    (z16 : W.cell? ⟨w.heap.size, 16, none⟩ = some (.int .i64 q0)) (z17 : W.cell? ⟨w.heap.size, 17, none⟩ = some (.int .i64 q1)) (z18 : W.cell? ⟨w.heap.size, 18, none⟩ = some (.int .i64 q2)) (z19 : W.cell? ⟨w.heap.size, 19, none⟩ = some (.int .i64 q3))
    (f0 : W.cell? ⟨F, 0, none⟩ = some (.int .i64 fn)) (f2 : W.cell? ⟨F, 2, none⟩ = some (.int .i64 (st + 1)))
    (f13 : W.cell? ⟨F, 13, none⟩ = some (.int .i64 q0)) (f14 : W.cell? ⟨F, 14, none⟩ = some (.int .i64 q1)) (f15 : W.cell? ⟨F, 15, none⟩ = some (.int .i64 q2)) (f16 : W.cell? ⟨F, 16, none⟩ = some (.int .i64 q3))
    (HW : Hid (Fr None' w W)) (HAW : Hid (∀ W, Fr None' w W → Calls Tryd.prog 16 #[] W fun e w' => e = .returned (.bool true) ∧ Fr None' W w'))
    (u0 u2 u5 u6 u7 u8 u9 u10 u11 u12 u13 u14 u15 u16 u17 u18 u19 u20 u21 u22 u23 u24 u25 u26 u27 u28 u29 u30 u31 u32 u33 u34 u35 u36 u37 u38 u39 u40 u41 u42 u43 u44 u45 u46 u47 u48 u49 u50 u51 u52 u53 u54 u55 u56 u57 u58 u59 u60 u61 u62 u63 u64 u65 u66 u67 u68 u69 u70 u71 u72 u73 u74 u75 u76 u77 u78 u79 u80 u81 u82 u83 u84 u85 u86 u87 u88 u89 u90 u91 u92 u93 u94 u95 u96 u97 u98 u99 u100 u101 u102 u103 u104 u105 u106 u107 u108 u109 u110 u111 u112 u113 u114 u115 u116 u117 u118 u119 u120 u121 u122 u123 u124 u125 u126 u127 u128 u129 u130 u131 u132 u133 u134 u135 u136 u137 u138 u139 u140 u141 u142 u143 u144 u145 u146 u147 u148 u149 u150 u151 u152 u153 u154 u155 u156 u157 u158 u159 : Value) (Q : Exit → Act → World → Prop) (hPan : ∀ c (a : Act) (d : Option Tmp) (v : Value) (w : World), Q (.panic c) (a.put d v) w → Q (.panic c) a w)
    (hQ : ∀ (wx : World) (x97 x98 x99 x100 x101 x102 x103 x104 x105 x106 x107 x108 x109 x110 x111 x112 x113 x114 x115 x116 x117 x118 x119 x120 x121 x122 x123 x124 x125 x126 x127 x128 x129 x130 x131 x132 x133 x134 x135 x136 x137 x138 x139 x140 x141 x142 x143 x144 x145 x146 x147 x148 x149 x150 x151 x152 x153 x154 x155 x156 x157 x158 x159 : Value), Fr None' w wx → Q .normal ⟨#[u0, .pointer (some ⟨w.heap.size, 0, none⟩), .bool true, .pointer (some ⟨F, 0, none⟩), .pointer (some ⟨E, 0, none⟩), u5, u6, u7, u8, u9, u10, u11, u12, u13, u14, u15, u16, u17, u18, u19, u20, u21, u22, u23, u24, u25, u26, u27, u28, u29, u30, u31, u32, u33, u34, u35, u36, u37, u38, u39, u40, u41, u42, u43, u44, u45, u46, u47, u48, u49, u50, u51, u52, u53, u54, u55, u56, u57, u58, u59, u60, u61, u62, u63, u64, u65, u66, u67, u68, u69, u70, u71, u72, u73, u74, u75, u76, u77, u78, u79, u80, u81, u82, u83, u84, u85, u86, u87, u88, u89, u90, u91, u92, u93, u94, u95, u96, x97, x98, x99, x100, x101, x102, x103, x104, x105, x106, x107, x108, x109, x110, x111, x112, x113, x114, x115, x116, x117, x118, x119, x120, x121, x122, x123, x124, x125, x126, x127, x128, x129, x130, x131, x132, x133, x134, x135, x136, x137, x138, x139, x140, x141, x142, x143, x144, x145, x146, x147, x148, x149, x150, x151, x152, x153, x154, x155, x156, x157, x158, x159], []⟩ wx) :
    Code.wp Tryd.prog r13c Q ⟨#[u0, .pointer (some ⟨w.heap.size, 0, none⟩), u2, .pointer (some ⟨F, 0, none⟩), .pointer (some ⟨E, 0, none⟩), u5, u6, u7, u8, u9, u10, u11, u12, u13, u14, u15, u16, u17, u18, u19, u20, u21, u22, u23, u24, u25, u26, u27, u28, u29, u30, u31, u32, u33, u34, u35, u36, u37, u38, u39, u40, u41, u42, u43, u44, u45, u46, u47, u48, u49, u50, u51, u52, u53, u54, u55, u56, u57, u58, u59, u60, u61, u62, u63, u64, u65, u66, u67, u68, u69, u70, u71, u72, u73, u74, u75, u76, u77, u78, u79, u80, u81, u82, u83, u84, u85, u86, u87, u88, u89, u90, u91, u92, u93, u94, u95, u96, u97, u98, u99, u100, u101, u102, u103, u104, u105, u106, u107, u108, u109, u110, u111, u112, u113, u114, u115, u116, u117, u118, u119, u120, u121, u122, u123, u124, u125, u126, u127, u128, u129, u130, u131, u132, u133, u134, u135, u136, u137, u138, u139, u140, u141, u142, u143, u144, u145, u146, u147, u148, u149, u150, u151, u152, u153, u154, u155, u156, u157, u158, u159], []⟩ W := by
  have HPan := Lib.hid hPan
  have hq4 := fun W' => eq4 W' q0 q1 q2 q3
  have hws : IntKind.i64.wrap (st + 1) = st + 1 := IntWalk.i64_in _ (by omega)
  conv => arg 2; whnf
  have HS : (fun w' : World => w'.cell? ⟨w.heap.size, 3, none⟩ = some (.int .i64 fn) ∧ w'.cell? ⟨w.heap.size, 5, none⟩ = some (.int .i64 st) ∧ w'.cell? ⟨w.heap.size, 6, none⟩ = some (.int .i64 kd) ∧ w'.cell? ⟨w.heap.size, 16, none⟩ = some (.int .i64 q0) ∧ w'.cell? ⟨w.heap.size, 17, none⟩ = some (.int .i64 q1) ∧ w'.cell? ⟨w.heap.size, 18, none⟩ = some (.int .i64 q2) ∧ w'.cell? ⟨w.heap.size, 19, none⟩ = some (.int .i64 q3) ∧ w'.cell? ⟨F, 0, none⟩ = some (.int .i64 fn) ∧ w'.cell? ⟨F, 2, none⟩ = some (.int .i64 (st + 1)) ∧ w'.cell? ⟨F, 13, none⟩ = some (.int .i64 q0) ∧ w'.cell? ⟨F, 14, none⟩ = some (.int .i64 q1) ∧ w'.cell? ⟨F, 15, none⟩ = some (.int .i64 q2) ∧ w'.cell? ⟨F, 16, none⟩ = some (.int .i64 q3) ∧ w'.cell? ⟨F, 3, none⟩ = some (.int .i64 kd)) W.drew := ⟨z3, z5, z6, z16, z17, z18, z19, f0, f2, f13, f14, f15, f16, f3⟩
  refine region_K 63 (fun w' : World => w'.cell? ⟨w.heap.size, 3, none⟩ = some (.int .i64 fn) ∧ w'.cell? ⟨w.heap.size, 5, none⟩ = some (.int .i64 st) ∧ w'.cell? ⟨w.heap.size, 6, none⟩ = some (.int .i64 kd) ∧ w'.cell? ⟨w.heap.size, 16, none⟩ = some (.int .i64 q0) ∧ w'.cell? ⟨w.heap.size, 17, none⟩ = some (.int .i64 q1) ∧ w'.cell? ⟨w.heap.size, 18, none⟩ = some (.int .i64 q2) ∧ w'.cell? ⟨w.heap.size, 19, none⟩ = some (.int .i64 q3) ∧ w'.cell? ⟨F, 0, none⟩ = some (.int .i64 fn) ∧ w'.cell? ⟨F, 2, none⟩ = some (.int .i64 (st + 1)) ∧ w'.cell? ⟨F, 13, none⟩ = some (.int .i64 q0) ∧ w'.cell? ⟨F, 14, none⟩ = some (.int .i64 q1) ∧ w'.cell? ⟨F, 15, none⟩ = some (.int .i64 q2) ∧ w'.cell? ⟨F, 16, none⟩ = some (.int .i64 q3) ∧ w'.cell? ⟨F, 3, none⟩ = some (.int .i64 kd)) (by kernel_rfl) ?_
  clear z3 z5 z6 z16 z17 z18 z19 f0 f2 f13 f14 f15 f16 f3
  have HW := Lib.hid HW.out.drew
  generalize W.drew = V at *
  refine AnyK.take (i := 0) rfl (by decide) (by kernel_rfl) (by kernel_rfl) (by kernel_rfl) (fun v c a w h => hPan c a _ v w h) HS (fun K hK => ?_)
  go_simp
  refine hK.out _ ⟨_, by rfl, Or.inl ⟨by rfl, by intro w' hSw; (try dsimp only at hSw); go_simp⟩, ?_⟩
  clear hK K
  refine AnyK.take (i := 1) rfl (by decide) (by kernel_rfl) (by kernel_rfl) (by kernel_rfl) (fun v c a w h => hPan c a _ v w h) HS (fun K hK => ?_)
  go_simp
  refine hK.out _ ⟨_, by rfl, Or.inl ⟨by rfl, by intro w' hSw; (try dsimp only at hSw); go_simp⟩, ?_⟩
  clear hK K
  refine AnyK.take (i := 2) rfl (by decide) (by kernel_rfl) (by kernel_rfl) (by kernel_rfl) (fun v c a w h => hPan c a _ v w h) HS (fun K hK => ?_)
  go_simp
  refine hK.out _ ⟨_, by rfl, Or.inl ⟨by rfl, by intro w' hSw; (try dsimp only at hSw); go_simp⟩, ?_⟩
  clear hK K
  refine AnyK.take (i := 3) rfl (by decide) (by kernel_rfl) (by kernel_rfl) (by kernel_rfl) (fun v c a w h => hPan c a _ v w h) HS (fun K hK => ?_)
  go_simp
  refine hK.out _ ⟨_, by rfl, Or.inl ⟨by rfl, by intro w' hSw; (try dsimp only at hSw); go_simp⟩, ?_⟩
  clear hK K
  refine AnyK.take (i := 4) rfl (by decide) (by kernel_rfl) (by kernel_rfl) (by kernel_rfl) (fun v c a w h => hPan c a _ v w h) HS (fun K hK => ?_)
  go_simp
  refine hK.out _ ⟨_, by rfl, Or.inl ⟨by rfl, by intro w' hSw; (try dsimp only at hSw); go_simp⟩, ?_⟩
  clear hK K
  refine AnyK.take (i := 5) rfl (by decide) (by kernel_rfl) (by kernel_rfl) (by kernel_rfl) (fun v c a w h => hPan c a _ v w h) HS (fun K hK => ?_)
  go_simp
  refine hK.out _ ⟨_, by rfl, Or.inl ⟨by rfl, by intro w' hSw; (try dsimp only at hSw); go_simp⟩, ?_⟩
  clear hK K
  refine AnyK.take (i := 6) rfl (by decide) (by kernel_rfl) (by kernel_rfl) (by kernel_rfl) (fun v c a w h => hPan c a _ v w h) HS (fun K hK => ?_)
  go_simp
  refine hK.out _ ⟨_, by rfl, Or.inl ⟨by rfl, by intro w' hSw; (try dsimp only at hSw); go_simp⟩, ?_⟩
  clear hK K
  refine AnyK.take (i := 7) rfl (by decide) (by kernel_rfl) (by kernel_rfl) (by kernel_rfl) (fun v c a w h => hPan c a _ v w h) HS (fun K hK => ?_)
  go_simp
  refine hK.out _ ⟨_, by rfl, Or.inl ⟨by rfl, by intro w' hSw; (try dsimp only at hSw); go_simp⟩, ?_⟩
  clear hK K
  refine AnyK.take (i := 8) rfl (by decide) (by kernel_rfl) (by kernel_rfl) (by kernel_rfl) (fun v c a w h => hPan c a _ v w h) HS (fun K hK => ?_)
  go_simp
  refine hK.out _ ⟨_, by rfl, Or.inl ⟨by rfl, by intro w' hSw; (try dsimp only at hSw); go_simp⟩, ?_⟩
  clear hK K
  refine AnyK.take (i := 9) rfl (by decide) (by kernel_rfl) (by kernel_rfl) (by kernel_rfl) (fun v c a w h => hPan c a _ v w h) HS (fun K hK => ?_)
  go_simp
  refine hK.out _ ⟨_, by rfl, Or.inl ⟨by rfl, by intro w' hSw; (try dsimp only at hSw); go_simp⟩, ?_⟩
  clear hK K
  refine AnyK.take (i := 10) rfl (by decide) (by kernel_rfl) (by kernel_rfl) (by kernel_rfl) (fun v c a w h => hPan c a _ v w h) HS (fun K hK => ?_)
  go_simp
  refine hK.out _ ⟨_, by rfl, Or.inl ⟨by rfl, by intro w' hSw; (try dsimp only at hSw); go_simp⟩, ?_⟩
  clear hK K
  refine AnyK.take (i := 11) rfl (by decide) (by kernel_rfl) (by kernel_rfl) (by kernel_rfl) (fun v c a w h => hPan c a _ v w h) HS (fun K hK => ?_)
  go_simp
  refine hK.out _ ⟨_, by rfl, Or.inl ⟨by rfl, by intro w' hSw; (try dsimp only at hSw); go_simp⟩, ?_⟩
  clear hK K
  refine AnyK.take (i := 12) rfl (by decide) (by kernel_rfl) (by kernel_rfl) (by kernel_rfl) (fun v c a w h => hPan c a _ v w h) HS (fun K hK => ?_)
  go_simp
  refine hK.out _ ⟨_, by rfl, Or.inl ⟨by rfl, by intro w' hSw; (try dsimp only at hSw); go_simp⟩, ?_⟩
  clear hK K
  refine AnyK.take (i := 13) rfl (by decide) (by kernel_rfl) (by kernel_rfl) (by kernel_rfl) (fun v c a w h => hPan c a _ v w h) HS (fun K hK => ?_)
  go_simp
  refine hK.out _ ⟨_, by rfl, Or.inl ⟨by rfl, by intro w' hSw; (try dsimp only at hSw); go_simp⟩, ?_⟩
  clear hK K
  refine AnyK.take (i := 14) rfl (by decide) (by kernel_rfl) (by kernel_rfl) (by kernel_rfl) (fun v c a w h => hPan c a _ v w h) HS (fun K hK => ?_)
  go_simp
  refine hK.out _ ⟨_, by rfl, Or.inl ⟨by rfl, by intro w' hSw; (try dsimp only at hSw); go_simp⟩, ?_⟩
  clear hK K
  refine AnyK.take (i := 15) rfl (by decide) (by kernel_rfl) (by kernel_rfl) (by kernel_rfl) (fun v c a w h => hPan c a _ v w h) HS (fun K hK => ?_)
  go_simp
  refine hK.out _ ⟨_, by rfl, Or.inl ⟨by rfl, by intro w' hSw; (try dsimp only at hSw); go_simp⟩, ?_⟩
  clear hK K
  refine AnyK.take (i := 16) rfl (by decide) (by kernel_rfl) (by kernel_rfl) (by kernel_rfl) (fun v c a w h => hPan c a _ v w h) HS (fun K hK => ?_)
  go_simp
  refine hK.out _ ⟨_, by rfl, Or.inl ⟨by rfl, by intro w' hSw; (try dsimp only at hSw); go_simp⟩, ?_⟩
  clear hK K
  refine AnyK.take (i := 17) rfl (by decide) (by kernel_rfl) (by kernel_rfl) (by kernel_rfl) (fun v c a w h => hPan c a _ v w h) HS (fun K hK => ?_)
  go_simp
  refine hK.out _ ⟨_, by rfl, Or.inl ⟨by rfl, by intro w' hSw; (try dsimp only at hSw); go_simp⟩, ?_⟩
  clear hK K
  refine AnyK.take (i := 18) rfl (by decide) (by kernel_rfl) (by kernel_rfl) (by kernel_rfl) (fun v c a w h => hPan c a _ v w h) HS (fun K hK => ?_)
  go_simp
  refine hK.out _ ⟨_, by rfl, Or.inl ⟨by rfl, by intro w' hSw; (try dsimp only at hSw); go_simp⟩, ?_⟩
  clear hK K
  refine AnyK.take (i := 19) rfl (by decide) (by kernel_rfl) (by kernel_rfl) (by kernel_rfl) (fun v c a w h => hPan c a _ v w h) HS (fun K hK => ?_)
  go_simp
  refine hK.out _ ⟨_, by rfl, Or.inl ⟨by rfl, by intro w' hSw; (try dsimp only at hSw); go_simp⟩, ?_⟩
  clear hK K
  refine AnyK.take (i := 20) rfl (by decide) (by kernel_rfl) (by kernel_rfl) (by kernel_rfl) (fun v c a w h => hPan c a _ v w h) HS (fun K hK => ?_)
  go_simp
  refine hK.out _ ⟨_, by rfl, Or.inl ⟨by rfl, by intro w' hSw; (try dsimp only at hSw); go_simp⟩, ?_⟩
  clear hK K
  refine AnyK.take (i := 21) rfl (by decide) (by kernel_rfl) (by kernel_rfl) (by kernel_rfl) (fun v c a w h => hPan c a _ v w h) HS (fun K hK => ?_)
  go_simp
  refine hK.out _ ⟨_, by rfl, Or.inl ⟨by rfl, by intro w' hSw; (try dsimp only at hSw); go_simp⟩, ?_⟩
  clear hK K
  refine AnyK.take (i := 22) rfl (by decide) (by kernel_rfl) (by kernel_rfl) (by kernel_rfl) (fun v c a w h => hPan c a _ v w h) HS (fun K hK => ?_)
  go_simp
  refine hK.out _ ⟨_, by rfl, Or.inl ⟨by rfl, by intro w' hSw; (try dsimp only at hSw); go_simp⟩, ?_⟩
  clear hK K
  refine AnyK.take (i := 23) rfl (by decide) (by kernel_rfl) (by kernel_rfl) (by kernel_rfl) (fun v c a w h => hPan c a _ v w h) HS (fun K hK => ?_)
  go_simp
  refine hK.out _ ⟨_, by rfl, Or.inl ⟨by rfl, by intro w' hSw; (try dsimp only at hSw); go_simp⟩, ?_⟩
  clear hK K
  refine AnyK.take (i := 24) rfl (by decide) (by kernel_rfl) (by kernel_rfl) (by kernel_rfl) (fun v c a w h => hPan c a _ v w h) HS (fun K hK => ?_)
  go_simp
  refine hK.out _ ⟨_, by rfl, Or.inl ⟨by rfl, by intro w' hSw; (try dsimp only at hSw); go_simp⟩, ?_⟩
  clear hK K
  refine AnyK.take (i := 25) rfl (by decide) (by kernel_rfl) (by kernel_rfl) (by kernel_rfl) (fun v c a w h => hPan c a _ v w h) HS (fun K hK => ?_)
  go_simp
  refine hK.out _ ⟨_, by rfl, Or.inl ⟨by rfl, by intro w' hSw; (try dsimp only at hSw); go_simp⟩, ?_⟩
  clear hK K
  refine AnyK.take (i := 26) rfl (by decide) (by kernel_rfl) (by kernel_rfl) (by kernel_rfl) (fun v c a w h => hPan c a _ v w h) HS (fun K hK => ?_)
  go_simp
  refine hK.out _ ⟨_, by rfl, Or.inl ⟨by rfl, by intro w' hSw; (try dsimp only at hSw); go_simp⟩, ?_⟩
  clear hK K
  refine AnyK.take (i := 27) rfl (by decide) (by kernel_rfl) (by kernel_rfl) (by kernel_rfl) (fun v c a w h => hPan c a _ v w h) HS (fun K hK => ?_)
  go_simp
  refine hK.out _ ⟨_, by rfl, Or.inl ⟨by rfl, by intro w' hSw; (try dsimp only at hSw); go_simp⟩, ?_⟩
  clear hK K
  refine AnyK.take (i := 28) rfl (by decide) (by kernel_rfl) (by kernel_rfl) (by kernel_rfl) (fun v c a w h => hPan c a _ v w h) HS (fun K hK => ?_)
  go_simp
  refine hK.out _ ⟨_, by rfl, Or.inl ⟨by rfl, by intro w' hSw; (try dsimp only at hSw); go_simp⟩, ?_⟩
  clear hK K
  refine AnyK.take (i := 29) rfl (by decide) (by kernel_rfl) (by kernel_rfl) (by kernel_rfl) (fun v c a w h => hPan c a _ v w h) HS (fun K hK => ?_)
  go_simp
  refine hK.out _ ⟨_, by rfl, Or.inl ⟨by rfl, by intro w' hSw; (try dsimp only at hSw); go_simp⟩, ?_⟩
  clear hK K
  refine AnyK.take (i := 30) rfl (by decide) (by kernel_rfl) (by kernel_rfl) (by kernel_rfl) (fun v c a w h => hPan c a _ v w h) HS (fun K hK => ?_)
  go_simp
  refine hK.out _ ⟨_, by rfl, Or.inl ⟨by rfl, by intro w' hSw; (try dsimp only at hSw); go_simp⟩, ?_⟩
  clear hK K
  refine AnyK.take (i := 31) rfl (by decide) (by kernel_rfl) (by kernel_rfl) (by kernel_rfl) (fun v c a w h => hPan c a _ v w h) HS (fun K hK => ?_)
  go_simp
  refine hK.out _ ⟨_, by rfl, Or.inl ⟨by rfl, by intro w' hSw; (try dsimp only at hSw); go_simp⟩, ?_⟩
  clear hK K
  refine AnyK.take (i := 32) rfl (by decide) (by kernel_rfl) (by kernel_rfl) (by kernel_rfl) (fun v c a w h => hPan c a _ v w h) HS (fun K hK => ?_)
  go_simp
  refine hK.out _ ⟨_, by rfl, Or.inl ⟨by rfl, by intro w' hSw; (try dsimp only at hSw); go_simp⟩, ?_⟩
  clear hK K
  refine AnyK.take (i := 33) rfl (by decide) (by kernel_rfl) (by kernel_rfl) (by kernel_rfl) (fun v c a w h => hPan c a _ v w h) HS (fun K hK => ?_)
  go_simp
  refine hK.out _ ⟨_, by rfl, Or.inl ⟨by rfl, by intro w' hSw; (try dsimp only at hSw); go_simp⟩, ?_⟩
  clear hK K
  refine AnyK.take (i := 34) rfl (by decide) (by kernel_rfl) (by kernel_rfl) (by kernel_rfl) (fun v c a w h => hPan c a _ v w h) HS (fun K hK => ?_)
  go_simp
  refine hK.out _ ⟨_, by rfl, Or.inl ⟨by rfl, by intro w' hSw; (try dsimp only at hSw); go_simp⟩, ?_⟩
  clear hK K
  refine AnyK.take (i := 35) rfl (by decide) (by kernel_rfl) (by kernel_rfl) (by kernel_rfl) (fun v c a w h => hPan c a _ v w h) HS (fun K hK => ?_)
  go_simp
  refine hK.out _ ⟨_, by rfl, Or.inl ⟨by rfl, by intro w' hSw; (try dsimp only at hSw); go_simp⟩, ?_⟩
  clear hK K
  refine AnyK.take (i := 36) rfl (by decide) (by kernel_rfl) (by kernel_rfl) (by kernel_rfl) (fun v c a w h => hPan c a _ v w h) HS (fun K hK => ?_)
  go_simp
  refine hK.out _ ⟨_, by rfl, Or.inl ⟨by rfl, by intro w' hSw; (try dsimp only at hSw); go_simp⟩, ?_⟩
  clear hK K
  refine AnyK.take (i := 37) rfl (by decide) (by kernel_rfl) (by kernel_rfl) (by kernel_rfl) (fun v c a w h => hPan c a _ v w h) HS (fun K hK => ?_)
  go_simp
  refine hK.out _ ⟨_, by rfl, Or.inl ⟨by rfl, by intro w' hSw; (try dsimp only at hSw); go_simp⟩, ?_⟩
  clear hK K
  refine AnyK.take (i := 38) rfl (by decide) (by kernel_rfl) (by kernel_rfl) (by kernel_rfl) (fun v c a w h => hPan c a _ v w h) HS (fun K hK => ?_)
  go_simp
  refine hK.out _ ⟨_, by rfl, Or.inl ⟨by rfl, by intro w' hSw; (try dsimp only at hSw); go_simp⟩, ?_⟩
  clear hK K
  refine AnyK.skip (i := 39) rfl (by decide) (by kernel_rfl) (by kernel_rfl) (by kernel_rfl) (fun v c a w h => hPan c a _ v w h) HS (by rfl) (fun K hK => ?_)
  go_simp
  refine hK.out _ ⟨by rfl, ?_⟩
  clear hK K
  refine AnyK.skip (i := 40) rfl (by decide) (by kernel_rfl) (by kernel_rfl) (by kernel_rfl) (fun v c a w h => hPan c a _ v w h) HS (by rfl) (fun K hK => ?_)
  go_simp
  refine hK.out _ ⟨by rfl, ?_⟩
  clear hK K
  refine AnyK.skip (i := 41) rfl (by decide) (by kernel_rfl) (by kernel_rfl) (by kernel_rfl) (fun v c a w h => hPan c a _ v w h) HS (by rfl) (fun K hK => ?_)
  go_simp
  refine hK.out _ ⟨by rfl, ?_⟩
  clear hK K
  refine AnyK.skip (i := 42) rfl (by decide) (by kernel_rfl) (by kernel_rfl) (by kernel_rfl) (fun v c a w h => hPan c a _ v w h) HS (by rfl) (fun K hK => ?_)
  go_simp
  refine hK.out _ ⟨by rfl, ?_⟩
  clear hK K
  refine AnyK.skip (i := 43) rfl (by decide) (by kernel_rfl) (by kernel_rfl) (by kernel_rfl) (fun v c a w h => hPan c a _ v w h) HS (by rfl) (fun K hK => ?_)
  go_simp
  refine hK.out _ ⟨by rfl, ?_⟩
  clear hK K
  refine AnyK.skip (i := 44) rfl (by decide) (by kernel_rfl) (by kernel_rfl) (by kernel_rfl) (fun v c a w h => hPan c a _ v w h) HS (by rfl) (fun K hK => ?_)
  go_simp
  refine hK.out _ ⟨by rfl, ?_⟩
  clear hK K
  refine AnyK.skip (i := 45) rfl (by decide) (by kernel_rfl) (by kernel_rfl) (by kernel_rfl) (fun v c a w h => hPan c a _ v w h) HS (by rfl) (fun K hK => ?_)
  go_simp
  refine hK.out _ ⟨by rfl, ?_⟩
  clear hK K
  refine AnyK.skip (i := 46) rfl (by decide) (by kernel_rfl) (by kernel_rfl) (by kernel_rfl) (fun v c a w h => hPan c a _ v w h) HS (by rfl) (fun K hK => ?_)
  go_simp
  refine hK.out _ ⟨by rfl, ?_⟩
  clear hK K
  refine AnyK.skip (i := 47) rfl (by decide) (by kernel_rfl) (by kernel_rfl) (by kernel_rfl) (fun v c a w h => hPan c a _ v w h) HS (by rfl) (fun K hK => ?_)
  go_simp
  refine hK.out _ ⟨by rfl, ?_⟩
  clear hK K
  refine AnyK.skip (i := 48) rfl (by decide) (by kernel_rfl) (by kernel_rfl) (by kernel_rfl) (fun v c a w h => hPan c a _ v w h) HS (by rfl) (fun K hK => ?_)
  go_simp
  refine hK.out _ ⟨by rfl, ?_⟩
  clear hK K
  refine AnyK.skip (i := 49) rfl (by decide) (by kernel_rfl) (by kernel_rfl) (by kernel_rfl) (fun v c a w h => hPan c a _ v w h) HS (by rfl) (fun K hK => ?_)
  go_simp
  refine hK.out _ ⟨by rfl, ?_⟩
  clear hK K
  refine AnyK.skip (i := 50) rfl (by decide) (by kernel_rfl) (by kernel_rfl) (by kernel_rfl) (fun v c a w h => hPan c a _ v w h) HS (by rfl) (fun K hK => ?_)
  go_simp
  refine hK.out _ ⟨by rfl, ?_⟩
  clear hK K
  refine AnyK.skip (i := 51) rfl (by decide) (by kernel_rfl) (by kernel_rfl) (by kernel_rfl) (fun v c a w h => hPan c a _ v w h) HS (by rfl) (fun K hK => ?_)
  go_simp
  refine hK.out _ ⟨by rfl, ?_⟩
  clear hK K
  refine AnyK.skip (i := 52) rfl (by decide) (by kernel_rfl) (by kernel_rfl) (by kernel_rfl) (fun v c a w h => hPan c a _ v w h) HS (by rfl) (fun K hK => ?_)
  go_simp
  refine hK.out _ ⟨by rfl, ?_⟩
  clear hK K
  refine AnyK.skip (i := 53) rfl (by decide) (by kernel_rfl) (by kernel_rfl) (by kernel_rfl) (fun v c a w h => hPan c a _ v w h) HS (by rfl) (fun K hK => ?_)
  go_simp
  refine hK.out _ ⟨by rfl, ?_⟩
  clear hK K
  refine AnyK.skip (i := 54) rfl (by decide) (by kernel_rfl) (by kernel_rfl) (by kernel_rfl) (fun v c a w h => hPan c a _ v w h) HS (by rfl) (fun K hK => ?_)
  go_simp
  refine hK.out _ ⟨by rfl, ?_⟩
  clear hK K
  refine AnyK.skip (i := 55) rfl (by decide) (by kernel_rfl) (by kernel_rfl) (by kernel_rfl) (fun v c a w h => hPan c a _ v w h) HS (by rfl) (fun K hK => ?_)
  go_simp
  refine hK.out _ ⟨by rfl, ?_⟩
  clear hK K
  refine AnyK.skip (i := 56) rfl (by decide) (by kernel_rfl) (by kernel_rfl) (by kernel_rfl) (fun v c a w h => hPan c a _ v w h) HS (by rfl) (fun K hK => ?_)
  go_simp
  refine hK.out _ ⟨by rfl, ?_⟩
  clear hK K
  refine AnyK.skip (i := 57) rfl (by decide) (by kernel_rfl) (by kernel_rfl) (by kernel_rfl) (fun v c a w h => hPan c a _ v w h) HS (by rfl) (fun K hK => ?_)
  go_simp
  refine hK.out _ ⟨by rfl, ?_⟩
  clear hK K
  refine AnyK.take (i := 58) rfl (by decide) (by kernel_rfl) (by kernel_rfl) (by kernel_rfl) (fun v c a w h => hPan c a _ v w h) HS (fun K hK => ?_)
  go_simp
  refine hK.out _ ⟨_, by rfl, Or.inl ⟨by rfl, by intro w' hSw; (try dsimp only at hSw); go_simp⟩, ?_⟩
  clear hK K
  refine AnyK.take (i := 59) rfl (by decide) (by kernel_rfl) (by kernel_rfl) (by kernel_rfl) (fun v c a w h => hPan c a _ v w h) HS (fun K hK => ?_)
  go_simp
  refine hK.out _ ⟨_, by rfl, Or.inl ⟨by rfl, by intro w' hSw; (try dsimp only at hSw); go_simp⟩, ?_⟩
  clear hK K
  refine AnyK.take (i := 60) rfl (by decide) (by kernel_rfl) (by kernel_rfl) (by kernel_rfl) (fun v c a w h => hPan c a _ v w h) HS (fun K hK => ?_)
  go_simp
  refine hK.out _ ⟨_, by rfl, Or.inl ⟨by rfl, by intro w' hSw; (try dsimp only at hSw); go_simp⟩, ?_⟩
  clear hK K
  clear hq4
  refine AnyK.one (i := 61) rfl (by kernel_rfl) (fun K hK => ?_)
  go_simp
  refine (HAW.out _ HW.out).mono ?_
  rintro e w3 ⟨rfl, hF3⟩
  have HF3 := Lib.hid (HW.out.trans hF3)
  have HS : (fun w' : World => w'.cell? ⟨w.heap.size, 3, none⟩ = some (.int .i64 fn) ∧ w'.cell? ⟨w.heap.size, 5, none⟩ = some (.int .i64 st) ∧ w'.cell? ⟨w.heap.size, 6, none⟩ = some (.int .i64 kd) ∧ w'.cell? ⟨w.heap.size, 16, none⟩ = some (.int .i64 q0) ∧ w'.cell? ⟨w.heap.size, 17, none⟩ = some (.int .i64 q1) ∧ w'.cell? ⟨w.heap.size, 18, none⟩ = some (.int .i64 q2) ∧ w'.cell? ⟨w.heap.size, 19, none⟩ = some (.int .i64 q3) ∧ w'.cell? ⟨F, 0, none⟩ = some (.int .i64 fn) ∧ w'.cell? ⟨F, 2, none⟩ = some (.int .i64 (st + 1)) ∧ w'.cell? ⟨F, 13, none⟩ = some (.int .i64 q0) ∧ w'.cell? ⟨F, 14, none⟩ = some (.int .i64 q1) ∧ w'.cell? ⟨F, 15, none⟩ = some (.int .i64 q2) ∧ w'.cell? ⟨F, 16, none⟩ = some (.int .i64 q3) ∧ w'.cell? ⟨F, 3, none⟩ = some (.int .i64 kd)) w3 := ⟨hF3.held HS.1 (fun h => h), hF3.held HS.2.1 (fun h => h), hF3.held HS.2.2.1 (fun h => h), hF3.held HS.2.2.2.1 (fun h => h), hF3.held HS.2.2.2.2.1 (fun h => h), hF3.held HS.2.2.2.2.2.1 (fun h => h), hF3.held HS.2.2.2.2.2.2.1 (fun h => h), hF3.held HS.2.2.2.2.2.2.2.1 (fun h => h), hF3.held HS.2.2.2.2.2.2.2.2.1 (fun h => h), hF3.held HS.2.2.2.2.2.2.2.2.2.1 (fun h => h), hF3.held HS.2.2.2.2.2.2.2.2.2.2.1 (fun h => h), hF3.held HS.2.2.2.2.2.2.2.2.2.2.2.1 (fun h => h), hF3.held HS.2.2.2.2.2.2.2.2.2.2.2.2.1 (fun h => h), hF3.held HS.2.2.2.2.2.2.2.2.2.2.2.2.2 (fun h => h)⟩
  clear hF3
  refine hK.out _ _ (fun _ => HS) ?_
  clear hK K
  refine AnyK.one (i := 62) rfl (by kernel_rfl) (fun K hK => ?_)
  go_simp
  refine hK.out _ _ (fun _ => HS) ?_
  clear hK K
  refine AnyK.one (i := 63) rfl (by kernel_rfl) (fun K hK => ?_)
  go_simp
  refine hK.out _ _ (fun h => absurd (h.symm.trans (by kernel_rfl : _ = true)) (by decide)) ?_
  clear hK K HS
  refine AnyK.done (by kernel_rfl) ?_ _
  exact hQ _ _ _ _ _ _ _ _ _ _ _ _ _ _ _ _ _ _ _ _ _ _ _ _ _ _ _ _ _ _ _ _ _ _ _ _ _ _ _ _ _ _ _ _ _ _ _ _ _ _ _ _ _ _ _ _ _ _ _ _ _ _ _ _ HF3.out

set_option maxHeartbeats 64000000 in
set_option maxRecDepth 100000 in
theorem r13b_any (w W : World) (F E : Nat) (fn st kd : Int) (q0 q1 q2 q3 : Int) (kd2 : Int) (f3 : W.cell? ⟨F, 3, none⟩ = some (.int .i64 kd2)) (hk2 : kd2 = wrap64 (kd + 1)) (hne : kd2 ≠ kd) (e0 : W.cell? ⟨E, 0, none⟩ = some (.int .i64 3)) (hst1 : -9223372036854775808 ≤ st) (hst2 : st ≤ 1000000)
    (z3 : W.cell? ⟨w.heap.size, 3, none⟩ = some (.int .i64 fn)) (z5 : W.cell? ⟨w.heap.size, 5, none⟩ = some (.int .i64 st)) (z6 : W.cell? ⟨w.heap.size, 6, none⟩ = some (.int .i64 kd))
    (z16 : W.cell? ⟨w.heap.size, 16, none⟩ = some (.int .i64 q0)) (z17 : W.cell? ⟨w.heap.size, 17, none⟩ = some (.int .i64 q1)) (z18 : W.cell? ⟨w.heap.size, 18, none⟩ = some (.int .i64 q2)) (z19 : W.cell? ⟨w.heap.size, 19, none⟩ = some (.int .i64 q3))
    (f0 : W.cell? ⟨F, 0, none⟩ = some (.int .i64 fn)) (f2 : W.cell? ⟨F, 2, none⟩ = some (.int .i64 (st + 1)))
    (f13 : W.cell? ⟨F, 13, none⟩ = some (.int .i64 q0)) (f14 : W.cell? ⟨F, 14, none⟩ = some (.int .i64 q1)) (f15 : W.cell? ⟨F, 15, none⟩ = some (.int .i64 q2)) (f16 : W.cell? ⟨F, 16, none⟩ = some (.int .i64 q3))
    (HW : Hid (Fr None' w W)) (HAW : Hid (∀ W, Fr None' w W → Calls Tryd.prog 16 #[] W fun e w' => e = .returned (.bool true) ∧ Fr None' W w'))
    (u0 u2 u5 u6 u7 u8 u9 u10 u11 u12 u13 u14 u15 u16 u17 u18 u19 u20 u21 u22 u23 u24 u25 u26 u27 u28 u29 u30 u31 u32 u33 u34 u35 u36 u37 u38 u39 u40 u41 u42 u43 u44 u45 u46 u47 u48 u49 u50 u51 u52 u53 u54 u55 u56 u57 u58 u59 u60 u61 u62 u63 u64 u65 u66 u67 u68 u69 u70 u71 u72 u73 u74 u75 u76 u77 u78 u79 u80 u81 u82 u83 u84 u85 u86 u87 u88 u89 u90 u91 u92 u93 u94 u95 u96 u97 u98 u99 u100 u101 u102 u103 u104 u105 u106 u107 u108 u109 u110 u111 u112 u113 u114 u115 u116 u117 u118 u119 u120 u121 u122 u123 u124 u125 u126 u127 u128 u129 u130 u131 u132 u133 u134 u135 u136 u137 u138 u139 u140 u141 u142 u143 u144 u145 u146 u147 u148 u149 u150 u151 u152 u153 u154 u155 u156 u157 u158 u159 : Value) (Q : Exit → Act → World → Prop) (hPan : ∀ c (a : Act) (d : Option Tmp) (v : Value) (w : World), Q (.panic c) (a.put d v) w → Q (.panic c) a w)
    (hQ : ∀ (wx : World) (x97 x98 x99 x100 x101 x102 x103 x104 x105 x106 x107 x108 x109 x110 x111 x112 x113 x114 x115 x116 x117 x118 x119 x120 x121 x122 x123 x124 x125 x126 x127 x128 x129 x130 x131 x132 x133 x134 x135 x136 x137 x138 x139 x140 x141 x142 x143 x144 x145 x146 x147 x148 x149 x150 x151 x152 x153 x154 x155 x156 x157 x158 x159 : Value), Fr None' w wx → Q .normal ⟨#[u0, .pointer (some ⟨w.heap.size, 0, none⟩), .bool true, .pointer (some ⟨F, 0, none⟩), .pointer (some ⟨E, 0, none⟩), u5, u6, u7, u8, u9, u10, u11, u12, u13, u14, u15, u16, u17, u18, u19, u20, u21, u22, u23, u24, u25, u26, u27, u28, u29, u30, u31, u32, u33, u34, u35, u36, u37, u38, u39, u40, u41, u42, u43, u44, u45, u46, u47, u48, u49, u50, u51, u52, u53, u54, u55, u56, u57, u58, u59, u60, u61, u62, u63, u64, u65, u66, u67, u68, u69, u70, u71, u72, u73, u74, u75, u76, u77, u78, u79, u80, u81, u82, u83, u84, u85, u86, u87, u88, u89, u90, u91, u92, u93, u94, u95, u96, x97, x98, x99, x100, x101, x102, x103, x104, x105, x106, x107, x108, x109, x110, x111, x112, x113, x114, x115, x116, x117, x118, x119, x120, x121, x122, x123, x124, x125, x126, x127, x128, x129, x130, x131, x132, x133, x134, x135, x136, x137, x138, x139, x140, x141, x142, x143, x144, x145, x146, x147, x148, x149, x150, x151, x152, x153, x154, x155, x156, x157, x158, x159], []⟩ wx) :
    Code.wp Tryd.prog r13c Q ⟨#[u0, .pointer (some ⟨w.heap.size, 0, none⟩), u2, .pointer (some ⟨F, 0, none⟩), .pointer (some ⟨E, 0, none⟩), u5, u6, u7, u8, u9, u10, u11, u12, u13, u14, u15, u16, u17, u18, u19, u20, u21, u22, u23, u24, u25, u26, u27, u28, u29, u30, u31, u32, u33, u34, u35, u36, u37, u38, u39, u40, u41, u42, u43, u44, u45, u46, u47, u48, u49, u50, u51, u52, u53, u54, u55, u56, u57, u58, u59, u60, u61, u62, u63, u64, u65, u66, u67, u68, u69, u70, u71, u72, u73, u74, u75, u76, u77, u78, u79, u80, u81, u82, u83, u84, u85, u86, u87, u88, u89, u90, u91, u92, u93, u94, u95, u96, u97, u98, u99, u100, u101, u102, u103, u104, u105, u106, u107, u108, u109, u110, u111, u112, u113, u114, u115, u116, u117, u118, u119, u120, u121, u122, u123, u124, u125, u126, u127, u128, u129, u130, u131, u132, u133, u134, u135, u136, u137, u138, u139, u140, u141, u142, u143, u144, u145, u146, u147, u148, u149, u150, u151, u152, u153, u154, u155, u156, u157, u158, u159], []⟩ W := by
  have HPan := Lib.hid hPan
  have hq4 := fun W' => eq4 W' q0 q1 q2 q3
  have hws : IntKind.i64.wrap (st + 1) = st + 1 := IntWalk.i64_in _ (by omega)
  conv => arg 2; whnf
  have hn1 : (kd2 == kd) = false := by simpa using hne
  have hn2 : IntKind.i64.wrap (kd + 1) = kd2 := (IntWalk.i64_left _).trans hk2.symm
  have hn3 : (kd2 == kd2) = true := by simp
  clear hk2
  have HS : (fun w' : World => w'.cell? ⟨w.heap.size, 3, none⟩ = some (.int .i64 fn) ∧ w'.cell? ⟨w.heap.size, 5, none⟩ = some (.int .i64 st) ∧ w'.cell? ⟨w.heap.size, 6, none⟩ = some (.int .i64 kd) ∧ w'.cell? ⟨w.heap.size, 16, none⟩ = some (.int .i64 q0) ∧ w'.cell? ⟨w.heap.size, 17, none⟩ = some (.int .i64 q1) ∧ w'.cell? ⟨w.heap.size, 18, none⟩ = some (.int .i64 q2) ∧ w'.cell? ⟨w.heap.size, 19, none⟩ = some (.int .i64 q3) ∧ w'.cell? ⟨F, 0, none⟩ = some (.int .i64 fn) ∧ w'.cell? ⟨F, 2, none⟩ = some (.int .i64 (st + 1)) ∧ w'.cell? ⟨F, 13, none⟩ = some (.int .i64 q0) ∧ w'.cell? ⟨F, 14, none⟩ = some (.int .i64 q1) ∧ w'.cell? ⟨F, 15, none⟩ = some (.int .i64 q2) ∧ w'.cell? ⟨F, 16, none⟩ = some (.int .i64 q3) ∧ w'.cell? ⟨F, 3, none⟩ = some (.int .i64 kd2) ∧ w'.cell? ⟨E, 0, none⟩ = some (.int .i64 3)) W.drew := ⟨z3, z5, z6, z16, z17, z18, z19, f0, f2, f13, f14, f15, f16, f3, e0⟩
  refine region_K 63 (fun w' : World => w'.cell? ⟨w.heap.size, 3, none⟩ = some (.int .i64 fn) ∧ w'.cell? ⟨w.heap.size, 5, none⟩ = some (.int .i64 st) ∧ w'.cell? ⟨w.heap.size, 6, none⟩ = some (.int .i64 kd) ∧ w'.cell? ⟨w.heap.size, 16, none⟩ = some (.int .i64 q0) ∧ w'.cell? ⟨w.heap.size, 17, none⟩ = some (.int .i64 q1) ∧ w'.cell? ⟨w.heap.size, 18, none⟩ = some (.int .i64 q2) ∧ w'.cell? ⟨w.heap.size, 19, none⟩ = some (.int .i64 q3) ∧ w'.cell? ⟨F, 0, none⟩ = some (.int .i64 fn) ∧ w'.cell? ⟨F, 2, none⟩ = some (.int .i64 (st + 1)) ∧ w'.cell? ⟨F, 13, none⟩ = some (.int .i64 q0) ∧ w'.cell? ⟨F, 14, none⟩ = some (.int .i64 q1) ∧ w'.cell? ⟨F, 15, none⟩ = some (.int .i64 q2) ∧ w'.cell? ⟨F, 16, none⟩ = some (.int .i64 q3) ∧ w'.cell? ⟨F, 3, none⟩ = some (.int .i64 kd2) ∧ w'.cell? ⟨E, 0, none⟩ = some (.int .i64 3)) (by kernel_rfl) ?_
  clear z3 z5 z6 z16 z17 z18 z19 f0 f2 f13 f14 f15 f16 f3 e0
  have HW := Lib.hid HW.out.drew
  generalize W.drew = V at *
  refine AnyK.take (i := 0) rfl (by decide) (by kernel_rfl) (by kernel_rfl) (by kernel_rfl) (fun v c a w h => hPan c a _ v w h) HS (fun K hK => ?_)
  go_simp
  refine hK.out _ ⟨_, by rfl, Or.inl ⟨by rfl, by intro w' hSw; (try dsimp only at hSw); go_simp⟩, ?_⟩
  clear hK K
  refine AnyK.take (i := 1) rfl (by decide) (by kernel_rfl) (by kernel_rfl) (by kernel_rfl) (fun v c a w h => hPan c a _ v w h) HS (fun K hK => ?_)
  go_simp
  refine hK.out _ ⟨_, by rfl, Or.inl ⟨by rfl, by intro w' hSw; (try dsimp only at hSw); go_simp⟩, ?_⟩
  clear hK K
  refine AnyK.take (i := 2) rfl (by decide) (by kernel_rfl) (by kernel_rfl) (by kernel_rfl) (fun v c a w h => hPan c a _ v w h) HS (fun K hK => ?_)
  go_simp
  refine hK.out _ ⟨_, by rfl, Or.inl ⟨by rfl, by intro w' hSw; (try dsimp only at hSw); go_simp⟩, ?_⟩
  clear hK K
  refine AnyK.take (i := 3) rfl (by decide) (by kernel_rfl) (by kernel_rfl) (by kernel_rfl) (fun v c a w h => hPan c a _ v w h) HS (fun K hK => ?_)
  go_simp
  refine hK.out _ ⟨_, by rfl, Or.inl ⟨by rfl, by intro w' hSw; (try dsimp only at hSw); go_simp⟩, ?_⟩
  clear hK K
  refine AnyK.take (i := 4) rfl (by decide) (by kernel_rfl) (by kernel_rfl) (by kernel_rfl) (fun v c a w h => hPan c a _ v w h) HS (fun K hK => ?_)
  go_simp
  refine hK.out _ ⟨_, by rfl, Or.inl ⟨by rfl, by intro w' hSw; (try dsimp only at hSw); go_simp⟩, ?_⟩
  clear hK K
  refine AnyK.take (i := 5) rfl (by decide) (by kernel_rfl) (by kernel_rfl) (by kernel_rfl) (fun v c a w h => hPan c a _ v w h) HS (fun K hK => ?_)
  go_simp
  refine hK.out _ ⟨_, by rfl, Or.inl ⟨by rfl, by intro w' hSw; (try dsimp only at hSw); go_simp⟩, ?_⟩
  clear hK K
  refine AnyK.take (i := 6) rfl (by decide) (by kernel_rfl) (by kernel_rfl) (by kernel_rfl) (fun v c a w h => hPan c a _ v w h) HS (fun K hK => ?_)
  go_simp
  refine hK.out _ ⟨_, by rfl, Or.inl ⟨by rfl, by intro w' hSw; (try dsimp only at hSw); go_simp⟩, ?_⟩
  clear hK K
  refine AnyK.take (i := 7) rfl (by decide) (by kernel_rfl) (by kernel_rfl) (by kernel_rfl) (fun v c a w h => hPan c a _ v w h) HS (fun K hK => ?_)
  go_simp
  refine hK.out _ ⟨_, by rfl, Or.inl ⟨by rfl, by intro w' hSw; (try dsimp only at hSw); go_simp⟩, ?_⟩
  clear hK K
  refine AnyK.take (i := 8) rfl (by decide) (by kernel_rfl) (by kernel_rfl) (by kernel_rfl) (fun v c a w h => hPan c a _ v w h) HS (fun K hK => ?_)
  go_simp
  refine hK.out _ ⟨_, by rfl, Or.inl ⟨by rfl, by intro w' hSw; (try dsimp only at hSw); go_simp⟩, ?_⟩
  clear hK K
  refine AnyK.take (i := 9) rfl (by decide) (by kernel_rfl) (by kernel_rfl) (by kernel_rfl) (fun v c a w h => hPan c a _ v w h) HS (fun K hK => ?_)
  go_simp
  refine hK.out _ ⟨_, by rfl, Or.inl ⟨by rfl, by intro w' hSw; (try dsimp only at hSw); go_simp⟩, ?_⟩
  clear hK K
  refine AnyK.take (i := 10) rfl (by decide) (by kernel_rfl) (by kernel_rfl) (by kernel_rfl) (fun v c a w h => hPan c a _ v w h) HS (fun K hK => ?_)
  go_simp
  refine hK.out _ ⟨_, by rfl, Or.inl ⟨by rfl, by intro w' hSw; (try dsimp only at hSw); go_simp⟩, ?_⟩
  clear hK K
  refine AnyK.take (i := 11) rfl (by decide) (by kernel_rfl) (by kernel_rfl) (by kernel_rfl) (fun v c a w h => hPan c a _ v w h) HS (fun K hK => ?_)
  go_simp
  refine hK.out _ ⟨_, by rfl, Or.inl ⟨by rfl, by intro w' hSw; (try dsimp only at hSw); go_simp⟩, ?_⟩
  clear hK K
  refine AnyK.take (i := 12) rfl (by decide) (by kernel_rfl) (by kernel_rfl) (by kernel_rfl) (fun v c a w h => hPan c a _ v w h) HS (fun K hK => ?_)
  go_simp
  refine hK.out _ ⟨_, by rfl, Or.inl ⟨by rfl, by intro w' hSw; (try dsimp only at hSw); go_simp⟩, ?_⟩
  clear hK K
  refine AnyK.take (i := 13) rfl (by decide) (by kernel_rfl) (by kernel_rfl) (by kernel_rfl) (fun v c a w h => hPan c a _ v w h) HS (fun K hK => ?_)
  go_simp
  refine hK.out _ ⟨_, by rfl, Or.inl ⟨by rfl, by intro w' hSw; (try dsimp only at hSw); go_simp⟩, ?_⟩
  clear hK K
  refine AnyK.take (i := 14) rfl (by decide) (by kernel_rfl) (by kernel_rfl) (by kernel_rfl) (fun v c a w h => hPan c a _ v w h) HS (fun K hK => ?_)
  go_simp
  refine hK.out _ ⟨_, by rfl, Or.inl ⟨by rfl, by intro w' hSw; (try dsimp only at hSw); go_simp⟩, ?_⟩
  clear hK K
  refine AnyK.take (i := 15) rfl (by decide) (by kernel_rfl) (by kernel_rfl) (by kernel_rfl) (fun v c a w h => hPan c a _ v w h) HS (fun K hK => ?_)
  go_simp
  refine hK.out _ ⟨_, by rfl, Or.inl ⟨by rfl, by intro w' hSw; (try dsimp only at hSw); go_simp⟩, ?_⟩
  clear hK K
  refine AnyK.take (i := 16) rfl (by decide) (by kernel_rfl) (by kernel_rfl) (by kernel_rfl) (fun v c a w h => hPan c a _ v w h) HS (fun K hK => ?_)
  go_simp
  refine hK.out _ ⟨_, by rfl, Or.inl ⟨by rfl, by intro w' hSw; (try dsimp only at hSw); go_simp⟩, ?_⟩
  clear hK K
  refine AnyK.take (i := 17) rfl (by decide) (by kernel_rfl) (by kernel_rfl) (by kernel_rfl) (fun v c a w h => hPan c a _ v w h) HS (fun K hK => ?_)
  go_simp
  refine hK.out _ ⟨_, by rfl, Or.inl ⟨by rfl, by intro w' hSw; (try dsimp only at hSw); go_simp⟩, ?_⟩
  clear hK K
  refine AnyK.take (i := 18) rfl (by decide) (by kernel_rfl) (by kernel_rfl) (by kernel_rfl) (fun v c a w h => hPan c a _ v w h) HS (fun K hK => ?_)
  go_simp
  refine hK.out _ ⟨_, by rfl, Or.inl ⟨by rfl, by intro w' hSw; (try dsimp only at hSw); go_simp⟩, ?_⟩
  clear hK K
  refine AnyK.take (i := 19) rfl (by decide) (by kernel_rfl) (by kernel_rfl) (by kernel_rfl) (fun v c a w h => hPan c a _ v w h) HS (fun K hK => ?_)
  go_simp
  refine hK.out _ ⟨_, by rfl, Or.inl ⟨by rfl, by intro w' hSw; (try dsimp only at hSw); go_simp⟩, ?_⟩
  clear hK K
  refine AnyK.take (i := 20) rfl (by decide) (by kernel_rfl) (by kernel_rfl) (by kernel_rfl) (fun v c a w h => hPan c a _ v w h) HS (fun K hK => ?_)
  go_simp
  refine hK.out _ ⟨_, by rfl, Or.inl ⟨by rfl, by intro w' hSw; (try dsimp only at hSw); go_simp⟩, ?_⟩
  clear hK K
  refine AnyK.take (i := 21) rfl (by decide) (by kernel_rfl) (by kernel_rfl) (by kernel_rfl) (fun v c a w h => hPan c a _ v w h) HS (fun K hK => ?_)
  go_simp
  refine hK.out _ ⟨_, by rfl, Or.inl ⟨by rfl, by intro w' hSw; (try dsimp only at hSw); go_simp⟩, ?_⟩
  clear hK K
  refine AnyK.take (i := 22) rfl (by decide) (by kernel_rfl) (by kernel_rfl) (by kernel_rfl) (fun v c a w h => hPan c a _ v w h) HS (fun K hK => ?_)
  go_simp
  refine hK.out _ ⟨_, by rfl, Or.inl ⟨by rfl, by intro w' hSw; (try dsimp only at hSw); go_simp⟩, ?_⟩
  clear hK K
  refine AnyK.take (i := 23) rfl (by decide) (by kernel_rfl) (by kernel_rfl) (by kernel_rfl) (fun v c a w h => hPan c a _ v w h) HS (fun K hK => ?_)
  go_simp
  refine hK.out _ ⟨_, by rfl, Or.inl ⟨by rfl, by intro w' hSw; (try dsimp only at hSw); go_simp⟩, ?_⟩
  clear hK K
  refine AnyK.take (i := 24) rfl (by decide) (by kernel_rfl) (by kernel_rfl) (by kernel_rfl) (fun v c a w h => hPan c a _ v w h) HS (fun K hK => ?_)
  go_simp
  refine hK.out _ ⟨_, by rfl, Or.inl ⟨by rfl, by intro w' hSw; (try dsimp only at hSw); go_simp⟩, ?_⟩
  clear hK K
  refine AnyK.take (i := 25) rfl (by decide) (by kernel_rfl) (by kernel_rfl) (by kernel_rfl) (fun v c a w h => hPan c a _ v w h) HS (fun K hK => ?_)
  go_simp
  refine hK.out _ ⟨_, by rfl, Or.inl ⟨by rfl, by intro w' hSw; (try dsimp only at hSw); go_simp⟩, ?_⟩
  clear hK K
  refine AnyK.take (i := 26) rfl (by decide) (by kernel_rfl) (by kernel_rfl) (by kernel_rfl) (fun v c a w h => hPan c a _ v w h) HS (fun K hK => ?_)
  go_simp
  refine hK.out _ ⟨_, by rfl, Or.inl ⟨by rfl, by intro w' hSw; (try dsimp only at hSw); go_simp⟩, ?_⟩
  clear hK K
  refine AnyK.take (i := 27) rfl (by decide) (by kernel_rfl) (by kernel_rfl) (by kernel_rfl) (fun v c a w h => hPan c a _ v w h) HS (fun K hK => ?_)
  go_simp
  refine hK.out _ ⟨_, by rfl, Or.inl ⟨by rfl, by intro w' hSw; (try dsimp only at hSw); go_simp⟩, ?_⟩
  clear hK K
  refine AnyK.take (i := 28) rfl (by decide) (by kernel_rfl) (by kernel_rfl) (by kernel_rfl) (fun v c a w h => hPan c a _ v w h) HS (fun K hK => ?_)
  go_simp
  refine hK.out _ ⟨_, by rfl, Or.inl ⟨by rfl, by intro w' hSw; (try dsimp only at hSw); go_simp⟩, ?_⟩
  clear hK K
  refine AnyK.take (i := 29) rfl (by decide) (by kernel_rfl) (by kernel_rfl) (by kernel_rfl) (fun v c a w h => hPan c a _ v w h) HS (fun K hK => ?_)
  go_simp
  refine hK.out _ ⟨_, by rfl, Or.inl ⟨by rfl, by intro w' hSw; (try dsimp only at hSw); go_simp⟩, ?_⟩
  clear hK K
  refine AnyK.take (i := 30) rfl (by decide) (by kernel_rfl) (by kernel_rfl) (by kernel_rfl) (fun v c a w h => hPan c a _ v w h) HS (fun K hK => ?_)
  go_simp
  refine hK.out _ ⟨_, by rfl, Or.inl ⟨by rfl, by intro w' hSw; (try dsimp only at hSw); go_simp⟩, ?_⟩
  clear hK K
  refine AnyK.take (i := 31) rfl (by decide) (by kernel_rfl) (by kernel_rfl) (by kernel_rfl) (fun v c a w h => hPan c a _ v w h) HS (fun K hK => ?_)
  go_simp
  refine hK.out _ ⟨_, by rfl, Or.inl ⟨by rfl, by intro w' hSw; (try dsimp only at hSw); go_simp⟩, ?_⟩
  clear hK K
  refine AnyK.take (i := 32) rfl (by decide) (by kernel_rfl) (by kernel_rfl) (by kernel_rfl) (fun v c a w h => hPan c a _ v w h) HS (fun K hK => ?_)
  go_simp
  refine hK.out _ ⟨_, by rfl, Or.inl ⟨by rfl, by intro w' hSw; (try dsimp only at hSw); go_simp⟩, ?_⟩
  clear hK K
  refine AnyK.take (i := 33) rfl (by decide) (by kernel_rfl) (by kernel_rfl) (by kernel_rfl) (fun v c a w h => hPan c a _ v w h) HS (fun K hK => ?_)
  go_simp
  refine hK.out _ ⟨_, by rfl, Or.inl ⟨by rfl, by intro w' hSw; (try dsimp only at hSw); go_simp⟩, ?_⟩
  clear hK K
  refine AnyK.take (i := 34) rfl (by decide) (by kernel_rfl) (by kernel_rfl) (by kernel_rfl) (fun v c a w h => hPan c a _ v w h) HS (fun K hK => ?_)
  go_simp
  refine hK.out _ ⟨_, by rfl, Or.inl ⟨by rfl, by intro w' hSw; (try dsimp only at hSw); go_simp⟩, ?_⟩
  clear hK K
  refine AnyK.take (i := 35) rfl (by decide) (by kernel_rfl) (by kernel_rfl) (by kernel_rfl) (fun v c a w h => hPan c a _ v w h) HS (fun K hK => ?_)
  go_simp
  refine hK.out _ ⟨_, by rfl, Or.inl ⟨by rfl, by intro w' hSw; (try dsimp only at hSw); go_simp⟩, ?_⟩
  clear hK K
  refine AnyK.take (i := 36) rfl (by decide) (by kernel_rfl) (by kernel_rfl) (by kernel_rfl) (fun v c a w h => hPan c a _ v w h) HS (fun K hK => ?_)
  go_simp
  refine hK.out _ ⟨_, by rfl, Or.inl ⟨by rfl, by intro w' hSw; (try dsimp only at hSw); go_simp⟩, ?_⟩
  clear hK K
  refine AnyK.take (i := 37) rfl (by decide) (by kernel_rfl) (by kernel_rfl) (by kernel_rfl) (fun v c a w h => hPan c a _ v w h) HS (fun K hK => ?_)
  go_simp
  refine hK.out _ ⟨_, by rfl, Or.inl ⟨by rfl, by intro w' hSw; (try dsimp only at hSw); go_simp⟩, ?_⟩
  clear hK K
  refine AnyK.take (i := 38) rfl (by decide) (by kernel_rfl) (by kernel_rfl) (by kernel_rfl) (fun v c a w h => hPan c a _ v w h) HS (fun K hK => ?_)
  go_simp
  refine hK.out _ ⟨_, by rfl, Or.inl ⟨by rfl, by intro w' hSw; (try dsimp only at hSw); go_simp⟩, ?_⟩
  clear hK K
  refine AnyK.take (i := 39) rfl (by decide) (by kernel_rfl) (by kernel_rfl) (by kernel_rfl) (fun v c a w h => hPan c a _ v w h) HS (fun K hK => ?_)
  go_simp
  refine hK.out _ ⟨_, by rfl, Or.inl ⟨by rfl, by intro w' hSw; (try dsimp only at hSw); go_simp⟩, ?_⟩
  clear hK K
  refine AnyK.take (i := 40) rfl (by decide) (by kernel_rfl) (by kernel_rfl) (by kernel_rfl) (fun v c a w h => hPan c a _ v w h) HS (fun K hK => ?_)
  go_simp
  refine hK.out _ ⟨_, by rfl, Or.inl ⟨by rfl, by intro w' hSw; (try dsimp only at hSw); go_simp⟩, ?_⟩
  clear hK K
  refine AnyK.take (i := 41) rfl (by decide) (by kernel_rfl) (by kernel_rfl) (by kernel_rfl) (fun v c a w h => hPan c a _ v w h) HS (fun K hK => ?_)
  go_simp
  refine hK.out _ ⟨_, by rfl, Or.inl ⟨by rfl, by intro w' hSw; (try dsimp only at hSw); go_simp⟩, ?_⟩
  clear hK K
  refine AnyK.take (i := 42) rfl (by decide) (by kernel_rfl) (by kernel_rfl) (by kernel_rfl) (fun v c a w h => hPan c a _ v w h) HS (fun K hK => ?_)
  go_simp
  refine hK.out _ ⟨_, by rfl, Or.inl ⟨by rfl, by intro w' hSw; (try dsimp only at hSw); go_simp⟩, ?_⟩
  clear hK K
  refine AnyK.take (i := 43) rfl (by decide) (by kernel_rfl) (by kernel_rfl) (by kernel_rfl) (fun v c a w h => hPan c a _ v w h) HS (fun K hK => ?_)
  go_simp
  refine hK.out _ ⟨_, by rfl, Or.inl ⟨by rfl, by intro w' hSw; (try dsimp only at hSw); go_simp⟩, ?_⟩
  clear hK K
  refine AnyK.take (i := 44) rfl (by decide) (by kernel_rfl) (by kernel_rfl) (by kernel_rfl) (fun v c a w h => hPan c a _ v w h) HS (fun K hK => ?_)
  go_simp
  refine hK.out _ ⟨_, by rfl, Or.inl ⟨by rfl, by intro w' hSw; (try dsimp only at hSw); go_simp⟩, ?_⟩
  clear hK K
  refine AnyK.take (i := 45) rfl (by decide) (by kernel_rfl) (by kernel_rfl) (by kernel_rfl) (fun v c a w h => hPan c a _ v w h) HS (fun K hK => ?_)
  go_simp
  refine hK.out _ ⟨_, by rfl, Or.inl ⟨by rfl, by intro w' hSw; (try dsimp only at hSw); go_simp⟩, ?_⟩
  clear hK K
  refine AnyK.take (i := 46) rfl (by decide) (by kernel_rfl) (by kernel_rfl) (by kernel_rfl) (fun v c a w h => hPan c a _ v w h) HS (fun K hK => ?_)
  go_simp
  refine hK.out _ ⟨_, by rfl, Or.inl ⟨by rfl, by intro w' hSw; (try dsimp only at hSw); go_simp⟩, ?_⟩
  clear hK K
  refine AnyK.take (i := 47) rfl (by decide) (by kernel_rfl) (by kernel_rfl) (by kernel_rfl) (fun v c a w h => hPan c a _ v w h) HS (fun K hK => ?_)
  go_simp
  refine hK.out _ ⟨_, by rfl, Or.inl ⟨by rfl, by intro w' hSw; (try dsimp only at hSw); go_simp⟩, ?_⟩
  clear hK K
  refine AnyK.take (i := 48) rfl (by decide) (by kernel_rfl) (by kernel_rfl) (by kernel_rfl) (fun v c a w h => hPan c a _ v w h) HS (fun K hK => ?_)
  go_simp
  refine hK.out _ ⟨_, by rfl, Or.inl ⟨by rfl, by intro w' hSw; (try dsimp only at hSw); go_simp⟩, ?_⟩
  clear hK K
  refine AnyK.take (i := 49) rfl (by decide) (by kernel_rfl) (by kernel_rfl) (by kernel_rfl) (fun v c a w h => hPan c a _ v w h) HS (fun K hK => ?_)
  go_simp
  refine hK.out _ ⟨_, by rfl, Or.inl ⟨by rfl, by intro w' hSw; (try dsimp only at hSw); go_simp⟩, ?_⟩
  clear hK K
  refine AnyK.take (i := 50) rfl (by decide) (by kernel_rfl) (by kernel_rfl) (by kernel_rfl) (fun v c a w h => hPan c a _ v w h) HS (fun K hK => ?_)
  go_simp
  refine hK.out _ ⟨_, by rfl, Or.inl ⟨by rfl, by intro w' hSw; (try dsimp only at hSw); go_simp⟩, ?_⟩
  clear hK K
  refine AnyK.take (i := 51) rfl (by decide) (by kernel_rfl) (by kernel_rfl) (by kernel_rfl) (fun v c a w h => hPan c a _ v w h) HS (fun K hK => ?_)
  go_simp
  refine hK.out _ ⟨_, by rfl, Or.inl ⟨by rfl, by intro w' hSw; (try dsimp only at hSw); go_simp⟩, ?_⟩
  clear hK K
  refine AnyK.take (i := 52) rfl (by decide) (by kernel_rfl) (by kernel_rfl) (by kernel_rfl) (fun v c a w h => hPan c a _ v w h) HS (fun K hK => ?_)
  go_simp
  refine hK.out _ ⟨_, by rfl, Or.inl ⟨by rfl, by intro w' hSw; (try dsimp only at hSw); go_simp⟩, ?_⟩
  clear hK K
  refine AnyK.skip (i := 53) rfl (by decide) (by kernel_rfl) (by kernel_rfl) (by kernel_rfl) (fun v c a w h => hPan c a _ v w h) HS (by rfl) (fun K hK => ?_)
  go_simp
  refine hK.out _ ⟨by rfl, ?_⟩
  clear hK K
  refine AnyK.skip (i := 54) rfl (by decide) (by kernel_rfl) (by kernel_rfl) (by kernel_rfl) (fun v c a w h => hPan c a _ v w h) HS (by rfl) (fun K hK => ?_)
  go_simp
  refine hK.out _ ⟨by rfl, ?_⟩
  clear hK K
  refine AnyK.skip (i := 55) rfl (by decide) (by kernel_rfl) (by kernel_rfl) (by kernel_rfl) (fun v c a w h => hPan c a _ v w h) HS (by rfl) (fun K hK => ?_)
  go_simp
  refine hK.out _ ⟨by rfl, ?_⟩
  clear hK K
  refine AnyK.take (i := 56) rfl (by decide) (by kernel_rfl) (by kernel_rfl) (by kernel_rfl) (fun v c a w h => hPan c a _ v w h) HS (fun K hK => ?_)
  go_simp
  refine hK.out _ ⟨_, by rfl, Or.inl ⟨by rfl, by intro w' hSw; (try dsimp only at hSw); go_simp⟩, ?_⟩
  clear hK K
  refine AnyK.take (i := 57) rfl (by decide) (by kernel_rfl) (by kernel_rfl) (by kernel_rfl) (fun v c a w h => hPan c a _ v w h) HS (fun K hK => ?_)
  go_simp
  refine hK.out _ ⟨_, by rfl, Or.inl ⟨by rfl, by intro w' hSw; (try dsimp only at hSw); go_simp⟩, ?_⟩
  clear hK K
  refine AnyK.take (i := 58) rfl (by decide) (by kernel_rfl) (by kernel_rfl) (by kernel_rfl) (fun v c a w h => hPan c a _ v w h) HS (fun K hK => ?_)
  go_simp
  refine hK.out _ ⟨_, by rfl, Or.inl ⟨by rfl, by intro w' hSw; (try dsimp only at hSw); go_simp⟩, ?_⟩
  clear hK K
  refine AnyK.take (i := 59) rfl (by decide) (by kernel_rfl) (by kernel_rfl) (by kernel_rfl) (fun v c a w h => hPan c a _ v w h) HS (fun K hK => ?_)
  go_simp
  refine hK.out _ ⟨_, by rfl, Or.inl ⟨by rfl, by intro w' hSw; (try dsimp only at hSw); go_simp⟩, ?_⟩
  clear hK K
  refine AnyK.take (i := 60) rfl (by decide) (by kernel_rfl) (by kernel_rfl) (by kernel_rfl) (fun v c a w h => hPan c a _ v w h) HS (fun K hK => ?_)
  go_simp
  refine hK.out _ ⟨_, by rfl, Or.inl ⟨by rfl, by intro w' hSw; (try dsimp only at hSw); go_simp⟩, ?_⟩
  clear hK K
  clear hq4
  refine AnyK.one (i := 61) rfl (by kernel_rfl) (fun K hK => ?_)
  go_simp
  refine (HAW.out _ HW.out).mono ?_
  rintro e w3 ⟨rfl, hF3⟩
  have HF3 := Lib.hid (HW.out.trans hF3)
  have HS : (fun w' : World => w'.cell? ⟨w.heap.size, 3, none⟩ = some (.int .i64 fn) ∧ w'.cell? ⟨w.heap.size, 5, none⟩ = some (.int .i64 st) ∧ w'.cell? ⟨w.heap.size, 6, none⟩ = some (.int .i64 kd) ∧ w'.cell? ⟨w.heap.size, 16, none⟩ = some (.int .i64 q0) ∧ w'.cell? ⟨w.heap.size, 17, none⟩ = some (.int .i64 q1) ∧ w'.cell? ⟨w.heap.size, 18, none⟩ = some (.int .i64 q2) ∧ w'.cell? ⟨w.heap.size, 19, none⟩ = some (.int .i64 q3) ∧ w'.cell? ⟨F, 0, none⟩ = some (.int .i64 fn) ∧ w'.cell? ⟨F, 2, none⟩ = some (.int .i64 (st + 1)) ∧ w'.cell? ⟨F, 13, none⟩ = some (.int .i64 q0) ∧ w'.cell? ⟨F, 14, none⟩ = some (.int .i64 q1) ∧ w'.cell? ⟨F, 15, none⟩ = some (.int .i64 q2) ∧ w'.cell? ⟨F, 16, none⟩ = some (.int .i64 q3) ∧ w'.cell? ⟨F, 3, none⟩ = some (.int .i64 kd2) ∧ w'.cell? ⟨E, 0, none⟩ = some (.int .i64 3)) w3 := ⟨hF3.held HS.1 (fun h => h), hF3.held HS.2.1 (fun h => h), hF3.held HS.2.2.1 (fun h => h), hF3.held HS.2.2.2.1 (fun h => h), hF3.held HS.2.2.2.2.1 (fun h => h), hF3.held HS.2.2.2.2.2.1 (fun h => h), hF3.held HS.2.2.2.2.2.2.1 (fun h => h), hF3.held HS.2.2.2.2.2.2.2.1 (fun h => h), hF3.held HS.2.2.2.2.2.2.2.2.1 (fun h => h), hF3.held HS.2.2.2.2.2.2.2.2.2.1 (fun h => h), hF3.held HS.2.2.2.2.2.2.2.2.2.2.1 (fun h => h), hF3.held HS.2.2.2.2.2.2.2.2.2.2.2.1 (fun h => h), hF3.held HS.2.2.2.2.2.2.2.2.2.2.2.2.1 (fun h => h), hF3.held HS.2.2.2.2.2.2.2.2.2.2.2.2.2.1 (fun h => h), hF3.held HS.2.2.2.2.2.2.2.2.2.2.2.2.2.2 (fun h => h)⟩
  clear hF3
  refine hK.out _ _ (fun _ => HS) ?_
  clear hK K
  refine AnyK.one (i := 62) rfl (by kernel_rfl) (fun K hK => ?_)
  go_simp
  refine hK.out _ _ (fun _ => HS) ?_
  clear hK K
  refine AnyK.one (i := 63) rfl (by kernel_rfl) (fun K hK => ?_)
  go_simp
  refine hK.out _ _ (fun h => absurd (h.symm.trans (by kernel_rfl : _ = true)) (by decide)) ?_
  clear hK K HS
  refine AnyK.done (by kernel_rfl) ?_ _
  exact hQ _ _ _ _ _ _ _ _ _ _ _ _ _ _ _ _ _ _ _ _ _ _ _ _ _ _ _ _ _ _ _ _ _ _ _ _ _ _ _ _ _ _ _ _ _ _ _ _ _ _ _ _ _ _ _ _ _ _ _ _ _ _ _ _ HF3.out

set_option maxHeartbeats 64000000 in
set_option maxRecDepth 100000 in
theorem r13f_any (w W : World) (F E : Nat) (fn st kd : Int) (q0 q1 q2 q3 : Int) (kd2 : Int) (f3 : W.cell? ⟨F, 3, none⟩ = some (.int .i64 kd2)) (hk2 : kd2 = wrap64 (kd + 1)) (hne : kd2 ≠ kd) (e0 : W.cell? ⟨E, 0, none⟩ = some (.int .i64 4)) (hst1 : -9223372036854775808 ≤ st) (hst2 : st ≤ 1000000)
    (z3 : W.cell? ⟨w.heap.size, 3, none⟩ = some (.int .i64 fn)) (z5 : W.cell? ⟨w.heap.size, 5, none⟩ = some (.int .i64 st)) (z6 : W.cell? ⟨w.heap.size, 6, none⟩ = some (.int .i64 kd))
    (z16 : W.cell? ⟨w.heap.size, 16, none⟩ = some (.int .i64 q0)) (z17 : W.cell? ⟨w.heap.size, 17, none⟩ = some (.int .i64 q1)) (z18 : W.cell? ⟨w.heap.size, 18, none⟩ = some (.int .i64 q2)) (z19 : W.cell? ⟨w.heap.size, 19, none⟩ = some (.int .i64 q3))
    (f0 : W.cell? ⟨F, 0, none⟩ = some (.int .i64 fn)) (f2 : W.cell? ⟨F, 2, none⟩ = some (.int .i64 (st + 1)))
    (f13 : W.cell? ⟨F, 13, none⟩ = some (.int .i64 q0)) (f14 : W.cell? ⟨F, 14, none⟩ = some (.int .i64 q1)) (f15 : W.cell? ⟨F, 15, none⟩ = some (.int .i64 q2)) (f16 : W.cell? ⟨F, 16, none⟩ = some (.int .i64 q3))
    (HW : Hid (Fr None' w W)) (HAW : Hid (∀ W, Fr None' w W → Calls Tryd.prog 16 #[] W fun e w' => e = .returned (.bool true) ∧ Fr None' W w'))
    (u0 u2 u5 u6 u7 u8 u9 u10 u11 u12 u13 u14 u15 u16 u17 u18 u19 u20 u21 u22 u23 u24 u25 u26 u27 u28 u29 u30 u31 u32 u33 u34 u35 u36 u37 u38 u39 u40 u41 u42 u43 u44 u45 u46 u47 u48 u49 u50 u51 u52 u53 u54 u55 u56 u57 u58 u59 u60 u61 u62 u63 u64 u65 u66 u67 u68 u69 u70 u71 u72 u73 u74 u75 u76 u77 u78 u79 u80 u81 u82 u83 u84 u85 u86 u87 u88 u89 u90 u91 u92 u93 u94 u95 u96 u97 u98 u99 u100 u101 u102 u103 u104 u105 u106 u107 u108 u109 u110 u111 u112 u113 u114 u115 u116 u117 u118 u119 u120 u121 u122 u123 u124 u125 u126 u127 u128 u129 u130 u131 u132 u133 u134 u135 u136 u137 u138 u139 u140 u141 u142 u143 u144 u145 u146 u147 u148 u149 u150 u151 u152 u153 u154 u155 u156 u157 u158 u159 : Value) (Q : Exit → Act → World → Prop) (hPan : ∀ c (a : Act) (d : Option Tmp) (v : Value) (w : World), Q (.panic c) (a.put d v) w → Q (.panic c) a w)
    (hQ : ∀ (wx : World) (x97 x98 x99 x100 x101 x102 x103 x104 x105 x106 x107 x108 x109 x110 x111 x112 x113 x114 x115 x116 x117 x118 x119 x120 x121 x122 x123 x124 x125 x126 x127 x128 x129 x130 x131 x132 x133 x134 x135 x136 x137 x138 x139 x140 x141 x142 x143 x144 x145 x146 x147 x148 x149 x150 x151 x152 x153 x154 x155 x156 x157 x158 x159 : Value), Fr None' w wx → Q .normal ⟨#[u0, .pointer (some ⟨w.heap.size, 0, none⟩), .bool true, .pointer (some ⟨F, 0, none⟩), .pointer (some ⟨E, 0, none⟩), u5, u6, u7, u8, u9, u10, u11, u12, u13, u14, u15, u16, u17, u18, u19, u20, u21, u22, u23, u24, u25, u26, u27, u28, u29, u30, u31, u32, u33, u34, u35, u36, u37, u38, u39, u40, u41, u42, u43, u44, u45, u46, u47, u48, u49, u50, u51, u52, u53, u54, u55, u56, u57, u58, u59, u60, u61, u62, u63, u64, u65, u66, u67, u68, u69, u70, u71, u72, u73, u74, u75, u76, u77, u78, u79, u80, u81, u82, u83, u84, u85, u86, u87, u88, u89, u90, u91, u92, u93, u94, u95, u96, x97, x98, x99, x100, x101, x102, x103, x104, x105, x106, x107, x108, x109, x110, x111, x112, x113, x114, x115, x116, x117, x118, x119, x120, x121, x122, x123, x124, x125, x126, x127, x128, x129, x130, x131, x132, x133, x134, x135, x136, x137, x138, x139, x140, x141, x142, x143, x144, x145, x146, x147, x148, x149, x150, x151, x152, x153, x154, x155, x156, x157, x158, x159], []⟩ wx) :
    Code.wp Tryd.prog r13c Q ⟨#[u0, .pointer (some ⟨w.heap.size, 0, none⟩), u2, .pointer (some ⟨F, 0, none⟩), .pointer (some ⟨E, 0, none⟩), u5, u6, u7, u8, u9, u10, u11, u12, u13, u14, u15, u16, u17, u18, u19, u20, u21, u22, u23, u24, u25, u26, u27, u28, u29, u30, u31, u32, u33, u34, u35, u36, u37, u38, u39, u40, u41, u42, u43, u44, u45, u46, u47, u48, u49, u50, u51, u52, u53, u54, u55, u56, u57, u58, u59, u60, u61, u62, u63, u64, u65, u66, u67, u68, u69, u70, u71, u72, u73, u74, u75, u76, u77, u78, u79, u80, u81, u82, u83, u84, u85, u86, u87, u88, u89, u90, u91, u92, u93, u94, u95, u96, u97, u98, u99, u100, u101, u102, u103, u104, u105, u106, u107, u108, u109, u110, u111, u112, u113, u114, u115, u116, u117, u118, u119, u120, u121, u122, u123, u124, u125, u126, u127, u128, u129, u130, u131, u132, u133, u134, u135, u136, u137, u138, u139, u140, u141, u142, u143, u144, u145, u146, u147, u148, u149, u150, u151, u152, u153, u154, u155, u156, u157, u158, u159], []⟩ W := by
  have HPan := Lib.hid hPan
  have hq4 := fun W' => eq4 W' q0 q1 q2 q3
  have hws : IntKind.i64.wrap (st + 1) = st + 1 := IntWalk.i64_in _ (by omega)
  conv => arg 2; whnf
  have hn1 : (kd2 == kd) = false := by simpa using hne
  have hn2 : IntKind.i64.wrap (kd + 1) = kd2 := (IntWalk.i64_left _).trans hk2.symm
  have hn3 : (kd2 == kd2) = true := by simp
  clear hk2
  have HS : (fun w' : World => w'.cell? ⟨w.heap.size, 3, none⟩ = some (.int .i64 fn) ∧ w'.cell? ⟨w.heap.size, 5, none⟩ = some (.int .i64 st) ∧ w'.cell? ⟨w.heap.size, 6, none⟩ = some (.int .i64 kd) ∧ w'.cell? ⟨w.heap.size, 16, none⟩ = some (.int .i64 q0) ∧ w'.cell? ⟨w.heap.size, 17, none⟩ = some (.int .i64 q1) ∧ w'.cell? ⟨w.heap.size, 18, none⟩ = some (.int .i64 q2) ∧ w'.cell? ⟨w.heap.size, 19, none⟩ = some (.int .i64 q3) ∧ w'.cell? ⟨F, 0, none⟩ = some (.int .i64 fn) ∧ w'.cell? ⟨F, 2, none⟩ = some (.int .i64 (st + 1)) ∧ w'.cell? ⟨F, 13, none⟩ = some (.int .i64 q0) ∧ w'.cell? ⟨F, 14, none⟩ = some (.int .i64 q1) ∧ w'.cell? ⟨F, 15, none⟩ = some (.int .i64 q2) ∧ w'.cell? ⟨F, 16, none⟩ = some (.int .i64 q3) ∧ w'.cell? ⟨F, 3, none⟩ = some (.int .i64 kd2) ∧ w'.cell? ⟨E, 0, none⟩ = some (.int .i64 4)) W.drew := ⟨z3, z5, z6, z16, z17, z18, z19, f0, f2, f13, f14, f15, f16, f3, e0⟩
  refine region_K 63 (fun w' : World => w'.cell? ⟨w.heap.size, 3, none⟩ = some (.int .i64 fn) ∧ w'.cell? ⟨w.heap.size, 5, none⟩ = some (.int .i64 st) ∧ w'.cell? ⟨w.heap.size, 6, none⟩ = some (.int .i64 kd) ∧ w'.cell? ⟨w.heap.size, 16, none⟩ = some (.int .i64 q0) ∧ w'.cell? ⟨w.heap.size, 17, none⟩ = some (.int .i64 q1) ∧ w'.cell? ⟨w.heap.size, 18, none⟩ = some (.int .i64 q2) ∧ w'.cell? ⟨w.heap.size, 19, none⟩ = some (.int .i64 q3) ∧ w'.cell? ⟨F, 0, none⟩ = some (.int .i64 fn) ∧ w'.cell? ⟨F, 2, none⟩ = some (.int .i64 (st + 1)) ∧ w'.cell? ⟨F, 13, none⟩ = some (.int .i64 q0) ∧ w'.cell? ⟨F, 14, none⟩ = some (.int .i64 q1) ∧ w'.cell? ⟨F, 15, none⟩ = some (.int .i64 q2) ∧ w'.cell? ⟨F, 16, none⟩ = some (.int .i64 q3) ∧ w'.cell? ⟨F, 3, none⟩ = some (.int .i64 kd2) ∧ w'.cell? ⟨E, 0, none⟩ = some (.int .i64 4)) (by kernel_rfl) ?_
  clear z3 z5 z6 z16 z17 z18 z19 f0 f2 f13 f14 f15 f16 f3 e0
  have HW := Lib.hid HW.out.drew
  generalize W.drew = V at *
  refine AnyK.take (i := 0) rfl (by decide) (by kernel_rfl) (by kernel_rfl) (by kernel_rfl) (fun v c a w h => hPan c a _ v w h) HS (fun K hK => ?_)
  go_simp
  refine hK.out _ ⟨_, by rfl, Or.inl ⟨by rfl, by intro w' hSw; (try dsimp only at hSw); go_simp⟩, ?_⟩
  clear hK K
  refine AnyK.take (i := 1) rfl (by decide) (by kernel_rfl) (by kernel_rfl) (by kernel_rfl) (fun v c a w h => hPan c a _ v w h) HS (fun K hK => ?_)
  go_simp
  refine hK.out _ ⟨_, by rfl, Or.inl ⟨by rfl, by intro w' hSw; (try dsimp only at hSw); go_simp⟩, ?_⟩
  clear hK K
  refine AnyK.take (i := 2) rfl (by decide) (by kernel_rfl) (by kernel_rfl) (by kernel_rfl) (fun v c a w h => hPan c a _ v w h) HS (fun K hK => ?_)
  go_simp
  refine hK.out _ ⟨_, by rfl, Or.inl ⟨by rfl, by intro w' hSw; (try dsimp only at hSw); go_simp⟩, ?_⟩
  clear hK K
  refine AnyK.take (i := 3) rfl (by decide) (by kernel_rfl) (by kernel_rfl) (by kernel_rfl) (fun v c a w h => hPan c a _ v w h) HS (fun K hK => ?_)
  go_simp
  refine hK.out _ ⟨_, by rfl, Or.inl ⟨by rfl, by intro w' hSw; (try dsimp only at hSw); go_simp⟩, ?_⟩
  clear hK K
  refine AnyK.take (i := 4) rfl (by decide) (by kernel_rfl) (by kernel_rfl) (by kernel_rfl) (fun v c a w h => hPan c a _ v w h) HS (fun K hK => ?_)
  go_simp
  refine hK.out _ ⟨_, by rfl, Or.inl ⟨by rfl, by intro w' hSw; (try dsimp only at hSw); go_simp⟩, ?_⟩
  clear hK K
  refine AnyK.take (i := 5) rfl (by decide) (by kernel_rfl) (by kernel_rfl) (by kernel_rfl) (fun v c a w h => hPan c a _ v w h) HS (fun K hK => ?_)
  go_simp
  refine hK.out _ ⟨_, by rfl, Or.inl ⟨by rfl, by intro w' hSw; (try dsimp only at hSw); go_simp⟩, ?_⟩
  clear hK K
  refine AnyK.take (i := 6) rfl (by decide) (by kernel_rfl) (by kernel_rfl) (by kernel_rfl) (fun v c a w h => hPan c a _ v w h) HS (fun K hK => ?_)
  go_simp
  refine hK.out _ ⟨_, by rfl, Or.inl ⟨by rfl, by intro w' hSw; (try dsimp only at hSw); go_simp⟩, ?_⟩
  clear hK K
  refine AnyK.take (i := 7) rfl (by decide) (by kernel_rfl) (by kernel_rfl) (by kernel_rfl) (fun v c a w h => hPan c a _ v w h) HS (fun K hK => ?_)
  go_simp
  refine hK.out _ ⟨_, by rfl, Or.inl ⟨by rfl, by intro w' hSw; (try dsimp only at hSw); go_simp⟩, ?_⟩
  clear hK K
  refine AnyK.take (i := 8) rfl (by decide) (by kernel_rfl) (by kernel_rfl) (by kernel_rfl) (fun v c a w h => hPan c a _ v w h) HS (fun K hK => ?_)
  go_simp
  refine hK.out _ ⟨_, by rfl, Or.inl ⟨by rfl, by intro w' hSw; (try dsimp only at hSw); go_simp⟩, ?_⟩
  clear hK K
  refine AnyK.take (i := 9) rfl (by decide) (by kernel_rfl) (by kernel_rfl) (by kernel_rfl) (fun v c a w h => hPan c a _ v w h) HS (fun K hK => ?_)
  go_simp
  refine hK.out _ ⟨_, by rfl, Or.inl ⟨by rfl, by intro w' hSw; (try dsimp only at hSw); go_simp⟩, ?_⟩
  clear hK K
  refine AnyK.take (i := 10) rfl (by decide) (by kernel_rfl) (by kernel_rfl) (by kernel_rfl) (fun v c a w h => hPan c a _ v w h) HS (fun K hK => ?_)
  go_simp
  refine hK.out _ ⟨_, by rfl, Or.inl ⟨by rfl, by intro w' hSw; (try dsimp only at hSw); go_simp⟩, ?_⟩
  clear hK K
  refine AnyK.take (i := 11) rfl (by decide) (by kernel_rfl) (by kernel_rfl) (by kernel_rfl) (fun v c a w h => hPan c a _ v w h) HS (fun K hK => ?_)
  go_simp
  refine hK.out _ ⟨_, by rfl, Or.inl ⟨by rfl, by intro w' hSw; (try dsimp only at hSw); go_simp⟩, ?_⟩
  clear hK K
  refine AnyK.take (i := 12) rfl (by decide) (by kernel_rfl) (by kernel_rfl) (by kernel_rfl) (fun v c a w h => hPan c a _ v w h) HS (fun K hK => ?_)
  go_simp
  refine hK.out _ ⟨_, by rfl, Or.inl ⟨by rfl, by intro w' hSw; (try dsimp only at hSw); go_simp⟩, ?_⟩
  clear hK K
  refine AnyK.take (i := 13) rfl (by decide) (by kernel_rfl) (by kernel_rfl) (by kernel_rfl) (fun v c a w h => hPan c a _ v w h) HS (fun K hK => ?_)
  go_simp
  refine hK.out _ ⟨_, by rfl, Or.inl ⟨by rfl, by intro w' hSw; (try dsimp only at hSw); go_simp⟩, ?_⟩
  clear hK K
  refine AnyK.take (i := 14) rfl (by decide) (by kernel_rfl) (by kernel_rfl) (by kernel_rfl) (fun v c a w h => hPan c a _ v w h) HS (fun K hK => ?_)
  go_simp
  refine hK.out _ ⟨_, by rfl, Or.inl ⟨by rfl, by intro w' hSw; (try dsimp only at hSw); go_simp⟩, ?_⟩
  clear hK K
  refine AnyK.take (i := 15) rfl (by decide) (by kernel_rfl) (by kernel_rfl) (by kernel_rfl) (fun v c a w h => hPan c a _ v w h) HS (fun K hK => ?_)
  go_simp
  refine hK.out _ ⟨_, by rfl, Or.inl ⟨by rfl, by intro w' hSw; (try dsimp only at hSw); go_simp⟩, ?_⟩
  clear hK K
  refine AnyK.take (i := 16) rfl (by decide) (by kernel_rfl) (by kernel_rfl) (by kernel_rfl) (fun v c a w h => hPan c a _ v w h) HS (fun K hK => ?_)
  go_simp
  refine hK.out _ ⟨_, by rfl, Or.inl ⟨by rfl, by intro w' hSw; (try dsimp only at hSw); go_simp⟩, ?_⟩
  clear hK K
  refine AnyK.take (i := 17) rfl (by decide) (by kernel_rfl) (by kernel_rfl) (by kernel_rfl) (fun v c a w h => hPan c a _ v w h) HS (fun K hK => ?_)
  go_simp
  refine hK.out _ ⟨_, by rfl, Or.inl ⟨by rfl, by intro w' hSw; (try dsimp only at hSw); go_simp⟩, ?_⟩
  clear hK K
  refine AnyK.take (i := 18) rfl (by decide) (by kernel_rfl) (by kernel_rfl) (by kernel_rfl) (fun v c a w h => hPan c a _ v w h) HS (fun K hK => ?_)
  go_simp
  refine hK.out _ ⟨_, by rfl, Or.inl ⟨by rfl, by intro w' hSw; (try dsimp only at hSw); go_simp⟩, ?_⟩
  clear hK K
  refine AnyK.take (i := 19) rfl (by decide) (by kernel_rfl) (by kernel_rfl) (by kernel_rfl) (fun v c a w h => hPan c a _ v w h) HS (fun K hK => ?_)
  go_simp
  refine hK.out _ ⟨_, by rfl, Or.inl ⟨by rfl, by intro w' hSw; (try dsimp only at hSw); go_simp⟩, ?_⟩
  clear hK K
  refine AnyK.take (i := 20) rfl (by decide) (by kernel_rfl) (by kernel_rfl) (by kernel_rfl) (fun v c a w h => hPan c a _ v w h) HS (fun K hK => ?_)
  go_simp
  refine hK.out _ ⟨_, by rfl, Or.inl ⟨by rfl, by intro w' hSw; (try dsimp only at hSw); go_simp⟩, ?_⟩
  clear hK K
  refine AnyK.take (i := 21) rfl (by decide) (by kernel_rfl) (by kernel_rfl) (by kernel_rfl) (fun v c a w h => hPan c a _ v w h) HS (fun K hK => ?_)
  go_simp
  refine hK.out _ ⟨_, by rfl, Or.inl ⟨by rfl, by intro w' hSw; (try dsimp only at hSw); go_simp⟩, ?_⟩
  clear hK K
  refine AnyK.take (i := 22) rfl (by decide) (by kernel_rfl) (by kernel_rfl) (by kernel_rfl) (fun v c a w h => hPan c a _ v w h) HS (fun K hK => ?_)
  go_simp
  refine hK.out _ ⟨_, by rfl, Or.inl ⟨by rfl, by intro w' hSw; (try dsimp only at hSw); go_simp⟩, ?_⟩
  clear hK K
  refine AnyK.take (i := 23) rfl (by decide) (by kernel_rfl) (by kernel_rfl) (by kernel_rfl) (fun v c a w h => hPan c a _ v w h) HS (fun K hK => ?_)
  go_simp
  refine hK.out _ ⟨_, by rfl, Or.inl ⟨by rfl, by intro w' hSw; (try dsimp only at hSw); go_simp⟩, ?_⟩
  clear hK K
  refine AnyK.take (i := 24) rfl (by decide) (by kernel_rfl) (by kernel_rfl) (by kernel_rfl) (fun v c a w h => hPan c a _ v w h) HS (fun K hK => ?_)
  go_simp
  refine hK.out _ ⟨_, by rfl, Or.inl ⟨by rfl, by intro w' hSw; (try dsimp only at hSw); go_simp⟩, ?_⟩
  clear hK K
  refine AnyK.take (i := 25) rfl (by decide) (by kernel_rfl) (by kernel_rfl) (by kernel_rfl) (fun v c a w h => hPan c a _ v w h) HS (fun K hK => ?_)
  go_simp
  refine hK.out _ ⟨_, by rfl, Or.inl ⟨by rfl, by intro w' hSw; (try dsimp only at hSw); go_simp⟩, ?_⟩
  clear hK K
  refine AnyK.take (i := 26) rfl (by decide) (by kernel_rfl) (by kernel_rfl) (by kernel_rfl) (fun v c a w h => hPan c a _ v w h) HS (fun K hK => ?_)
  go_simp
  refine hK.out _ ⟨_, by rfl, Or.inl ⟨by rfl, by intro w' hSw; (try dsimp only at hSw); go_simp⟩, ?_⟩
  clear hK K
  refine AnyK.take (i := 27) rfl (by decide) (by kernel_rfl) (by kernel_rfl) (by kernel_rfl) (fun v c a w h => hPan c a _ v w h) HS (fun K hK => ?_)
  go_simp
  refine hK.out _ ⟨_, by rfl, Or.inl ⟨by rfl, by intro w' hSw; (try dsimp only at hSw); go_simp⟩, ?_⟩
  clear hK K
  refine AnyK.take (i := 28) rfl (by decide) (by kernel_rfl) (by kernel_rfl) (by kernel_rfl) (fun v c a w h => hPan c a _ v w h) HS (fun K hK => ?_)
  go_simp
  refine hK.out _ ⟨_, by rfl, Or.inl ⟨by rfl, by intro w' hSw; (try dsimp only at hSw); go_simp⟩, ?_⟩
  clear hK K
  refine AnyK.take (i := 29) rfl (by decide) (by kernel_rfl) (by kernel_rfl) (by kernel_rfl) (fun v c a w h => hPan c a _ v w h) HS (fun K hK => ?_)
  go_simp
  refine hK.out _ ⟨_, by rfl, Or.inl ⟨by rfl, by intro w' hSw; (try dsimp only at hSw); go_simp⟩, ?_⟩
  clear hK K
  refine AnyK.take (i := 30) rfl (by decide) (by kernel_rfl) (by kernel_rfl) (by kernel_rfl) (fun v c a w h => hPan c a _ v w h) HS (fun K hK => ?_)
  go_simp
  refine hK.out _ ⟨_, by rfl, Or.inl ⟨by rfl, by intro w' hSw; (try dsimp only at hSw); go_simp⟩, ?_⟩
  clear hK K
  refine AnyK.take (i := 31) rfl (by decide) (by kernel_rfl) (by kernel_rfl) (by kernel_rfl) (fun v c a w h => hPan c a _ v w h) HS (fun K hK => ?_)
  go_simp
  refine hK.out _ ⟨_, by rfl, Or.inl ⟨by rfl, by intro w' hSw; (try dsimp only at hSw); go_simp⟩, ?_⟩
  clear hK K
  refine AnyK.take (i := 32) rfl (by decide) (by kernel_rfl) (by kernel_rfl) (by kernel_rfl) (fun v c a w h => hPan c a _ v w h) HS (fun K hK => ?_)
  go_simp
  refine hK.out _ ⟨_, by rfl, Or.inl ⟨by rfl, by intro w' hSw; (try dsimp only at hSw); go_simp⟩, ?_⟩
  clear hK K
  refine AnyK.take (i := 33) rfl (by decide) (by kernel_rfl) (by kernel_rfl) (by kernel_rfl) (fun v c a w h => hPan c a _ v w h) HS (fun K hK => ?_)
  go_simp
  refine hK.out _ ⟨_, by rfl, Or.inl ⟨by rfl, by intro w' hSw; (try dsimp only at hSw); go_simp⟩, ?_⟩
  clear hK K
  refine AnyK.take (i := 34) rfl (by decide) (by kernel_rfl) (by kernel_rfl) (by kernel_rfl) (fun v c a w h => hPan c a _ v w h) HS (fun K hK => ?_)
  go_simp
  refine hK.out _ ⟨_, by rfl, Or.inl ⟨by rfl, by intro w' hSw; (try dsimp only at hSw); go_simp⟩, ?_⟩
  clear hK K
  refine AnyK.take (i := 35) rfl (by decide) (by kernel_rfl) (by kernel_rfl) (by kernel_rfl) (fun v c a w h => hPan c a _ v w h) HS (fun K hK => ?_)
  go_simp
  refine hK.out _ ⟨_, by rfl, Or.inl ⟨by rfl, by intro w' hSw; (try dsimp only at hSw); go_simp⟩, ?_⟩
  clear hK K
  refine AnyK.take (i := 36) rfl (by decide) (by kernel_rfl) (by kernel_rfl) (by kernel_rfl) (fun v c a w h => hPan c a _ v w h) HS (fun K hK => ?_)
  go_simp
  refine hK.out _ ⟨_, by rfl, Or.inl ⟨by rfl, by intro w' hSw; (try dsimp only at hSw); go_simp⟩, ?_⟩
  clear hK K
  refine AnyK.take (i := 37) rfl (by decide) (by kernel_rfl) (by kernel_rfl) (by kernel_rfl) (fun v c a w h => hPan c a _ v w h) HS (fun K hK => ?_)
  go_simp
  refine hK.out _ ⟨_, by rfl, Or.inl ⟨by rfl, by intro w' hSw; (try dsimp only at hSw); go_simp⟩, ?_⟩
  clear hK K
  refine AnyK.take (i := 38) rfl (by decide) (by kernel_rfl) (by kernel_rfl) (by kernel_rfl) (fun v c a w h => hPan c a _ v w h) HS (fun K hK => ?_)
  go_simp
  refine hK.out _ ⟨_, by rfl, Or.inl ⟨by rfl, by intro w' hSw; (try dsimp only at hSw); go_simp⟩, ?_⟩
  clear hK K
  refine AnyK.take (i := 39) rfl (by decide) (by kernel_rfl) (by kernel_rfl) (by kernel_rfl) (fun v c a w h => hPan c a _ v w h) HS (fun K hK => ?_)
  go_simp
  refine hK.out _ ⟨_, by rfl, Or.inl ⟨by rfl, by intro w' hSw; (try dsimp only at hSw); go_simp⟩, ?_⟩
  clear hK K
  refine AnyK.take (i := 40) rfl (by decide) (by kernel_rfl) (by kernel_rfl) (by kernel_rfl) (fun v c a w h => hPan c a _ v w h) HS (fun K hK => ?_)
  go_simp
  refine hK.out _ ⟨_, by rfl, Or.inl ⟨by rfl, by intro w' hSw; (try dsimp only at hSw); go_simp⟩, ?_⟩
  clear hK K
  refine AnyK.take (i := 41) rfl (by decide) (by kernel_rfl) (by kernel_rfl) (by kernel_rfl) (fun v c a w h => hPan c a _ v w h) HS (fun K hK => ?_)
  go_simp
  refine hK.out _ ⟨_, by rfl, Or.inl ⟨by rfl, by intro w' hSw; (try dsimp only at hSw); go_simp⟩, ?_⟩
  clear hK K
  refine AnyK.take (i := 42) rfl (by decide) (by kernel_rfl) (by kernel_rfl) (by kernel_rfl) (fun v c a w h => hPan c a _ v w h) HS (fun K hK => ?_)
  go_simp
  refine hK.out _ ⟨_, by rfl, Or.inl ⟨by rfl, by intro w' hSw; (try dsimp only at hSw); go_simp⟩, ?_⟩
  clear hK K
  refine AnyK.take (i := 43) rfl (by decide) (by kernel_rfl) (by kernel_rfl) (by kernel_rfl) (fun v c a w h => hPan c a _ v w h) HS (fun K hK => ?_)
  go_simp
  refine hK.out _ ⟨_, by rfl, Or.inl ⟨by rfl, by intro w' hSw; (try dsimp only at hSw); go_simp⟩, ?_⟩
  clear hK K
  refine AnyK.take (i := 44) rfl (by decide) (by kernel_rfl) (by kernel_rfl) (by kernel_rfl) (fun v c a w h => hPan c a _ v w h) HS (fun K hK => ?_)
  go_simp
  refine hK.out _ ⟨_, by rfl, Or.inl ⟨by rfl, by intro w' hSw; (try dsimp only at hSw); go_simp⟩, ?_⟩
  clear hK K
  refine AnyK.take (i := 45) rfl (by decide) (by kernel_rfl) (by kernel_rfl) (by kernel_rfl) (fun v c a w h => hPan c a _ v w h) HS (fun K hK => ?_)
  go_simp
  refine hK.out _ ⟨_, by rfl, Or.inl ⟨by rfl, by intro w' hSw; (try dsimp only at hSw); go_simp⟩, ?_⟩
  clear hK K
  refine AnyK.take (i := 46) rfl (by decide) (by kernel_rfl) (by kernel_rfl) (by kernel_rfl) (fun v c a w h => hPan c a _ v w h) HS (fun K hK => ?_)
  go_simp
  refine hK.out _ ⟨_, by rfl, Or.inl ⟨by rfl, by intro w' hSw; (try dsimp only at hSw); go_simp⟩, ?_⟩
  clear hK K
  refine AnyK.take (i := 47) rfl (by decide) (by kernel_rfl) (by kernel_rfl) (by kernel_rfl) (fun v c a w h => hPan c a _ v w h) HS (fun K hK => ?_)
  go_simp
  refine hK.out _ ⟨_, by rfl, Or.inl ⟨by rfl, by intro w' hSw; (try dsimp only at hSw); go_simp⟩, ?_⟩
  clear hK K
  refine AnyK.take (i := 48) rfl (by decide) (by kernel_rfl) (by kernel_rfl) (by kernel_rfl) (fun v c a w h => hPan c a _ v w h) HS (fun K hK => ?_)
  go_simp
  refine hK.out _ ⟨_, by rfl, Or.inl ⟨by rfl, by intro w' hSw; (try dsimp only at hSw); go_simp⟩, ?_⟩
  clear hK K
  refine AnyK.take (i := 49) rfl (by decide) (by kernel_rfl) (by kernel_rfl) (by kernel_rfl) (fun v c a w h => hPan c a _ v w h) HS (fun K hK => ?_)
  go_simp
  refine hK.out _ ⟨_, by rfl, Or.inl ⟨by rfl, by intro w' hSw; (try dsimp only at hSw); go_simp⟩, ?_⟩
  clear hK K
  refine AnyK.take (i := 50) rfl (by decide) (by kernel_rfl) (by kernel_rfl) (by kernel_rfl) (fun v c a w h => hPan c a _ v w h) HS (fun K hK => ?_)
  go_simp
  refine hK.out _ ⟨_, by rfl, Or.inl ⟨by rfl, by intro w' hSw; (try dsimp only at hSw); go_simp⟩, ?_⟩
  clear hK K
  refine AnyK.take (i := 51) rfl (by decide) (by kernel_rfl) (by kernel_rfl) (by kernel_rfl) (fun v c a w h => hPan c a _ v w h) HS (fun K hK => ?_)
  go_simp
  refine hK.out _ ⟨_, by rfl, Or.inl ⟨by rfl, by intro w' hSw; (try dsimp only at hSw); go_simp⟩, ?_⟩
  clear hK K
  refine AnyK.take (i := 52) rfl (by decide) (by kernel_rfl) (by kernel_rfl) (by kernel_rfl) (fun v c a w h => hPan c a _ v w h) HS (fun K hK => ?_)
  go_simp
  refine hK.out _ ⟨_, by rfl, Or.inl ⟨by rfl, by intro w' hSw; (try dsimp only at hSw); go_simp⟩, ?_⟩
  clear hK K
  refine AnyK.take (i := 53) rfl (by decide) (by kernel_rfl) (by kernel_rfl) (by kernel_rfl) (fun v c a w h => hPan c a _ v w h) HS (fun K hK => ?_)
  go_simp
  refine hK.out _ ⟨_, by rfl, Or.inl ⟨by rfl, by intro w' hSw; (try dsimp only at hSw); go_simp⟩, ?_⟩
  clear hK K
  refine AnyK.take (i := 54) rfl (by decide) (by kernel_rfl) (by kernel_rfl) (by kernel_rfl) (fun v c a w h => hPan c a _ v w h) HS (fun K hK => ?_)
  go_simp
  refine hK.out _ ⟨_, by rfl, Or.inl ⟨by rfl, by intro w' hSw; (try dsimp only at hSw); go_simp⟩, ?_⟩
  clear hK K
  refine AnyK.take (i := 55) rfl (by decide) (by kernel_rfl) (by kernel_rfl) (by kernel_rfl) (fun v c a w h => hPan c a _ v w h) HS (fun K hK => ?_)
  go_simp
  refine hK.out _ ⟨_, by rfl, Or.inl ⟨by rfl, by intro w' hSw; (try dsimp only at hSw); go_simp⟩, ?_⟩
  clear hK K
  refine AnyK.take (i := 56) rfl (by decide) (by kernel_rfl) (by kernel_rfl) (by kernel_rfl) (fun v c a w h => hPan c a _ v w h) HS (fun K hK => ?_)
  go_simp
  refine hK.out _ ⟨_, by rfl, Or.inl ⟨by rfl, by intro w' hSw; (try dsimp only at hSw); go_simp⟩, ?_⟩
  clear hK K
  refine AnyK.take (i := 57) rfl (by decide) (by kernel_rfl) (by kernel_rfl) (by kernel_rfl) (fun v c a w h => hPan c a _ v w h) HS (fun K hK => ?_)
  go_simp
  refine hK.out _ ⟨_, by rfl, Or.inl ⟨by rfl, by intro w' hSw; (try dsimp only at hSw); go_simp⟩, ?_⟩
  clear hK K
  refine AnyK.take (i := 58) rfl (by decide) (by kernel_rfl) (by kernel_rfl) (by kernel_rfl) (fun v c a w h => hPan c a _ v w h) HS (fun K hK => ?_)
  go_simp
  refine hK.out _ ⟨_, by rfl, Or.inl ⟨by rfl, by intro w' hSw; (try dsimp only at hSw); go_simp⟩, ?_⟩
  clear hK K
  refine AnyK.take (i := 59) rfl (by decide) (by kernel_rfl) (by kernel_rfl) (by kernel_rfl) (fun v c a w h => hPan c a _ v w h) HS (fun K hK => ?_)
  go_simp
  refine hK.out _ ⟨_, by rfl, Or.inl ⟨by rfl, by intro w' hSw; (try dsimp only at hSw); go_simp⟩, ?_⟩
  clear hK K
  refine AnyK.take (i := 60) rfl (by decide) (by kernel_rfl) (by kernel_rfl) (by kernel_rfl) (fun v c a w h => hPan c a _ v w h) HS (fun K hK => ?_)
  go_simp
  refine hK.out _ ⟨_, by rfl, Or.inl ⟨by rfl, by intro w' hSw; (try dsimp only at hSw); go_simp⟩, ?_⟩
  clear hK K
  clear hq4
  refine AnyK.one (i := 61) rfl (by kernel_rfl) (fun K hK => ?_)
  go_simp
  refine (HAW.out _ HW.out).mono ?_
  rintro e w3 ⟨rfl, hF3⟩
  have HF3 := Lib.hid (HW.out.trans hF3)
  have HS : (fun w' : World => w'.cell? ⟨w.heap.size, 3, none⟩ = some (.int .i64 fn) ∧ w'.cell? ⟨w.heap.size, 5, none⟩ = some (.int .i64 st) ∧ w'.cell? ⟨w.heap.size, 6, none⟩ = some (.int .i64 kd) ∧ w'.cell? ⟨w.heap.size, 16, none⟩ = some (.int .i64 q0) ∧ w'.cell? ⟨w.heap.size, 17, none⟩ = some (.int .i64 q1) ∧ w'.cell? ⟨w.heap.size, 18, none⟩ = some (.int .i64 q2) ∧ w'.cell? ⟨w.heap.size, 19, none⟩ = some (.int .i64 q3) ∧ w'.cell? ⟨F, 0, none⟩ = some (.int .i64 fn) ∧ w'.cell? ⟨F, 2, none⟩ = some (.int .i64 (st + 1)) ∧ w'.cell? ⟨F, 13, none⟩ = some (.int .i64 q0) ∧ w'.cell? ⟨F, 14, none⟩ = some (.int .i64 q1) ∧ w'.cell? ⟨F, 15, none⟩ = some (.int .i64 q2) ∧ w'.cell? ⟨F, 16, none⟩ = some (.int .i64 q3) ∧ w'.cell? ⟨F, 3, none⟩ = some (.int .i64 kd2) ∧ w'.cell? ⟨E, 0, none⟩ = some (.int .i64 4)) w3 := ⟨hF3.held HS.1 (fun h => h), hF3.held HS.2.1 (fun h => h), hF3.held HS.2.2.1 (fun h => h), hF3.held HS.2.2.2.1 (fun h => h), hF3.held HS.2.2.2.2.1 (fun h => h), hF3.held HS.2.2.2.2.2.1 (fun h => h), hF3.held HS.2.2.2.2.2.2.1 (fun h => h), hF3.held HS.2.2.2.2.2.2.2.1 (fun h => h), hF3.held HS.2.2.2.2.2.2.2.2.1 (fun h => h), hF3.held HS.2.2.2.2.2.2.2.2.2.1 (fun h => h), hF3.held HS.2.2.2.2.2.2.2.2.2.2.1 (fun h => h), hF3.held HS.2.2.2.2.2.2.2.2.2.2.2.1 (fun h => h), hF3.held HS.2.2.2.2.2.2.2.2.2.2.2.2.1 (fun h => h), hF3.held HS.2.2.2.2.2.2.2.2.2.2.2.2.2.1 (fun h => h), hF3.held HS.2.2.2.2.2.2.2.2.2.2.2.2.2.2 (fun h => h)⟩
  clear hF3
  refine hK.out _ _ (fun _ => HS) ?_
  clear hK K
  refine AnyK.one (i := 62) rfl (by kernel_rfl) (fun K hK => ?_)
  go_simp
  refine hK.out _ _ (fun _ => HS) ?_
  clear hK K
  refine AnyK.one (i := 63) rfl (by kernel_rfl) (fun K hK => ?_)
  go_simp
  refine hK.out _ _ (fun h => absurd (h.symm.trans (by kernel_rfl : _ = true)) (by decide)) ?_
  clear hK K HS
  refine AnyK.done (by kernel_rfl) ?_ _
  exact hQ _ _ _ _ _ _ _ _ _ _ _ _ _ _ _ _ _ _ _ _ _ _ _ _ _ _ _ _ _ _ _ _ _ _ _ _ _ _ _ _ _ _ _ _ _ _ _ _ _ _ _ _ _ _ _ _ _ _ _ _ _ _ _ _ HF3.out
end Go.Proofs.YtadcenaafoemmaaDoor
