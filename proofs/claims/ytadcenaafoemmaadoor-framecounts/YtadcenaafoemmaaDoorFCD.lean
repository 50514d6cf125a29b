/-
  FrameCounts, where the instruction was done. No condition.
-/
import Derived.Test.YtadcenaafoemmaaDoorFCL
namespace Go.Proofs.YtadcenaafoemmaaDoor
open Go.RowKit

set_option maxHeartbeats 64000000 in
set_option maxRecDepth 100000 in
theorem fcdb_any (w wc : World) (F E : Nat) (b off ib io cn yc : Nat) (io0 ibb ic ik : Int) (L : List LFn) (c : Nat) (bud dep : Int) (fn at_ : Nat) (st kd : Int) (FA : Option Addr) (path : List Int) (fc : Nat) (r0 r1 r2 r3 r4 r5 r6 r7 q0 q1 q2 q3 : Int) (at2 kd2 : Int) (P : Option Addr) (pc : Nat) (s0 s1 s2 s3 s4 s5 s6 s7 : Int) (a : Nat) (hst1 : -9223372036854775808 ≤ st) (hst2 : st ≤ 1000000)
    (hrg : ∀ i, i ≠ a → [s0, s1, s2, s3, s4, s5, s6, s7][i]? = [r0, r1, r2, r3, r4, r5, r6, r7][i]?) (hk2 : kd2 = wrap64 (kd + 1)) (hne : kd2 ≠ kd) (yy : Int) 
    (h1 : fn < L.length) (h2 : at_ < cn) (HS0 : Hid ((fun w' : World => w'.cell? ⟨w.heap.size, 0, none⟩ = some (.slice (some ⟨b, off, none⟩) L.length c) ∧ w'.cell? ⟨w.heap.size, 3, none⟩ = some (.int .i64 (fn : Int)) ∧ w'.cell? ⟨w.heap.size, 4, none⟩ = some (.int .i64 (at_ : Int)) ∧ w'.cell? ⟨b, off + fn * 2 + 1, none⟩ = some (.slice (some ⟨ib, io, none⟩) cn yc) ∧ w'.cell? ⟨ib, io + at_ * 5, none⟩ = some (.int .i64 io0) ∧ w'.cell? ⟨ib, io + at_ * 5 + 1, none⟩ = some (.int .i64 (a : Int)) ∧ w'.cell? ⟨ib, io + at_ * 5 + 2, none⟩ = some (.int .i64 ibb) ∧ w'.cell? ⟨ib, io + at_ * 5 + 3, none⟩ = some (.int .i64 ic) ∧ w'.cell? ⟨ib, io + at_ * 5 + 4, none⟩ = some (.int .i64 ik)) wc))
    (e0 : wc.cell? ⟨E, 0, none⟩ = some (.int .i64 3)) (_e5 : wc.cell? ⟨E, 5, none⟩ = some (.int .i64 yy))
    (HZ : Hid (Blk wc w.heap.size 29 #[.slice (some ⟨b, off, none⟩) L.length c, .int .i64 bud, .int .i64 dep, .int .i64 (fn : Int), .int .i64 (at_ : Int), .int .i64 st, .int .i64 kd, .slice FA path.length fc, .int .i64 r0, .int .i64 r1, .int .i64 r2, .int .i64 r3, .int .i64 r4, .int .i64 r5, .int .i64 r6, .int .i64 r7, .int .i64 q0, .int .i64 q1, .int .i64 q2, .int .i64 q3])) (HB : Hid (Blk wc F 95 (frL (fn : Int) at2 (st + 1) kd2 (.slice P path.length pc) [s0, s1, s2, s3, s4, s5, s6, s7] [q0, q1, q2, q3]).toArray)) (HW : Hid (Fr None' w wc)) (HAW : Hid (∀ W, Fr None' w W → Calls Tryd.prog 16 #[] W fun e w' => e = .returned (.bool true) ∧ Fr None' W w'))
    (u0 u2 u6 u7 u8 u9 u10 u11 u12 u13 u14 u15 u16 u17 u18 u19 u20 u21 u22 u23 u24 u25 u26 u27 u28 u29 u30 u31 u32 u33 u34 u35 u36 u37 u38 u39 u40 u41 u42 u43 u44 u45 u46 u47 u48 u49 u50 u51 u52 u53 u54 u55 u56 u57 u58 u59 u60 u61 u62 u63 u64 u65 u66 u67 u68 u69 u70 u71 u72 u73 u74 u75 u76 u77 u78 u79 u80 u81 u82 u83 u84 u85 u86 u87 u88 u89 u90 u91 u92 u93 u94 u95 u96 u97 u98 u99 u100 u101 u102 u103 u104 u105 u106 u107 u108 u109 u110 u111 u112 u113 u114 u115 u116 u117 u118 u119 u120 u121 u122 u123 u124 u125 u126 u127 u128 u129 u130 u131 u132 u133 u134 u135 u136 u137 u138 u139 u140 u141 u142 u143 u144 u145 u146 u147 u148 u149 u150 u151 u152 u153 u154 u155 u156 u157 u158 u159 : Value) :
    Code.wp Tryd.prog rest4c (bodyPost Tryd.prog Tryd.f6 fun e w' => e = .returned (.bool true) ∧ Fr None' w w') ⟨#[u0, .pointer (some ⟨w.heap.size, 0, none⟩), u2, .pointer (some ⟨F, 0, none⟩), .pointer (some ⟨E, 0, none⟩), .int .i64 0, u6, u7, u8, u9, u10, u11, u12, u13, u14, u15, u16, u17, u18, u19, u20, u21, u22, u23, u24, u25, u26, u27, u28, u29, u30, u31, u32, u33, u34, u35, u36, u37, u38, u39, u40, u41, u42, u43, u44, u45, u46, u47, u48, u49, u50, u51, u52, u53, u54, u55, u56, u57, u58, u59, u60, u61, u62, u63, u64, u65, u66, u67, u68, u69, u70, u71, u72, u73, u74, u75, u76, u77, u78, u79, u80, u81, u82, u83, u84, u85, u86, u87, u88, u89, u90, u91, u92, u93, u94, u95, u96, u97, u98, u99, u100, u101, u102, u103, u104, u105, u106, u107, u108, u109, u110, u111, u112, u113, u114, u115, u116, u117, u118, u119, u120, u121, u122, u123, u124, u125, u126, u127, u128, u129, u130, u131, u132, u133, u134, u135, u136, u137, u138, u139, u140, u141, u142, u143, u144, u145, u146, u147, u148, u149, u150, u151, u152, u153, u154, u155, u156, u157, u158, u159], []⟩ wc := by
  have hZ := HZ.out
  have z1 : wc.cell? ⟨w.heap.size, 1, none⟩ = some (.int .i64 bud) := by rw [hZ.cell]; rfl
  have z5 : wc.cell? ⟨w.heap.size, 5, none⟩ = some (.int .i64 st) := by rw [hZ.cell]; rfl
  have HE0 := Lib.hid e0
  clear hZ
  conv => arg 2; whnf
  go_upto_region 7 with (fail)
  clear e0 z1 z5
  go_cut [6] (fun v wx => ∃ X, v = .pointer (some ⟨X, 0, none⟩) ∧ Blk wx X 94 #[.int .i64 io0, .int .i64 (a : Int), .int .i64 ibb, .int .i64 ic, .int .i64 ik] ∧ Fr None' wc wx)
  case first =>
    refine r7c_any w wc b off L.length c fn at_ ib io cn yc io0 (a : Int) ibb ic ik HS0 h1 h2 _ _ _ _ _ _ _ _ _ _ _ _ _ _ _ _ _ _ _ _ _ _ _ _ _ _ _ _ _ _ _ _ _ _ _ _ _ _ _ _ _ _ _ _ _ _ _ _ _ _ _ _ _ _ _ _ _ _ _ _ _ _ _ _ _ _ _ _ _ _ _ _ _ _ _ _ _ _ _ _ _ _ _ _ _ _ _ _ _ _ _ _ _ _ _ _ _ _ _ _ _ _ _ _ _ _ _ _ _ _ _ _ _ _ _ _ _ _ _ _ _ _ _ _ _ _ _ _ _ _ _ _ _ _ _ _ _ _ _ _ _ _ _ _ _ _ _ _ _ _ _ _ _ _ _ _ _ _ _ _ (fun _ _ d _ _ h => by cases d <;> exact h) ?_
    intro X wx _ _ _ _ _ _ _ _ _ _ _ _ _ hge hX hFX
    go_wp2_with fail
    go_meet
    exact ⟨X, rfl, hX, hFX⟩
  case rest =>
    obtain ⟨X, rfl, hX, hFX⟩ := hcut
    refine ‹∀ (a : Act) (w : World), Code.wp Tryd.prog _ _ a w → _› _ _ ?_
    exact fclb_any w _ F E X (some ⟨b, off, none⟩) L c bud dep fn at_ st kd FA path fc r0 r1 r2 r3 r4 r5 r6 r7 q0 q1 q2 q3 at2 kd2 P pc s0 s1 s2 s3 s4 s5 s6 s7 a hst1 hst2 hrg hk2 hne (Lib.hid (HZ.out.fr hFX (fun h => h))) (Lib.hid (HB.out.fr hFX (fun h => h))) (by rw [hX.cell]; rfl) (hFX.held HE0.out (fun h => h)) (Lib.hid (HW.out.trans hFX)) HAW _ _ _ _ _ _ _ _ _ _ _ _ _ _ _ _ _ _ _ _ _ _ _ _ _ _ _ _ _ _ _ _ _ _ _ _ _ _ _ _ _ _ _ _ _ _ _ _ _ _ _ _ _ _ _ _ _ _ _ _ _ _ _ _ _ _ _ _ _ _ _ _ _ _ _ _ _ _ _ _ _ _ _ _ _ _ _ _ _ _ _ _ _ _ _ _ _ _ _ _ _ _ _ _ _ _ _ _ _ _ _ _ _ _ _ _ _ _ _ _ _ _ _ _ _ _ _ _ _ _ _ _ _ _ _ _ _ _ _ _ _ _ _ _ _ _ _ _ _ _ _ _ _ _ _ _

set_option maxHeartbeats 64000000 in
set_option maxRecDepth 100000 in
theorem fcdf_any (w wc : World) (F E : Nat) (b off ib io cn yc : Nat) (io0 ibb ic ik : Int) (L : List LFn) (c : Nat) (bud dep : Int) (fn at_ : Nat) (st kd : Int) (FA : Option Addr) (path : List Int) (fc : Nat) (r0 r1 r2 r3 r4 r5 r6 r7 q0 q1 q2 q3 : Int) (at2 kd2 : Int) (P : Option Addr) (pc : Nat) (s0 s1 s2 s3 s4 s5 s6 s7 : Int) (a : Nat) (hst1 : -9223372036854775808 ≤ st) (hst2 : st ≤ 1000000)
    (hrg : ∀ i, i ≠ a → [s0, s1, s2, s3, s4, s5, s6, s7][i]? = [r0, r1, r2, r3, r4, r5, r6, r7][i]?) (hk2 : kd2 = wrap64 (kd + 1)) (hne : kd2 ≠ kd) (yy : Int) 
    (h1 : fn < L.length) (h2 : at_ < cn) (HS0 : Hid ((fun w' : World => w'.cell? ⟨w.heap.size, 0, none⟩ = some (.slice (some ⟨b, off, none⟩) L.length c) ∧ w'.cell? ⟨w.heap.size, 3, none⟩ = some (.int .i64 (fn : Int)) ∧ w'.cell? ⟨w.heap.size, 4, none⟩ = some (.int .i64 (at_ : Int)) ∧ w'.cell? ⟨b, off + fn * 2 + 1, none⟩ = some (.slice (some ⟨ib, io, none⟩) cn yc) ∧ w'.cell? ⟨ib, io + at_ * 5, none⟩ = some (.int .i64 io0) ∧ w'.cell? ⟨ib, io + at_ * 5 + 1, none⟩ = some (.int .i64 (a : Int)) ∧ w'.cell? ⟨ib, io + at_ * 5 + 2, none⟩ = some (.int .i64 ibb) ∧ w'.cell? ⟨ib, io + at_ * 5 + 3, none⟩ = some (.int .i64 ic) ∧ w'.cell? ⟨ib, io + at_ * 5 + 4, none⟩ = some (.int .i64 ik)) wc))
    (e0 : wc.cell? ⟨E, 0, none⟩ = some (.int .i64 4)) (_e5 : wc.cell? ⟨E, 5, none⟩ = some (.int .i64 yy))
    (HZ : Hid (Blk wc w.heap.size 29 #[.slice (some ⟨b, off, none⟩) L.length c, .int .i64 bud, .int .i64 dep, .int .i64 (fn : Int), .int .i64 (at_ : Int), .int .i64 st, .int .i64 kd, .slice FA path.length fc, .int .i64 r0, .int .i64 r1, .int .i64 r2, .int .i64 r3, .int .i64 r4, .int .i64 r5, .int .i64 r6, .int .i64 r7, .int .i64 q0, .int .i64 q1, .int .i64 q2, .int .i64 q3])) (HB : Hid (Blk wc F 95 (frL (fn : Int) at2 (st + 1) kd2 (.slice P path.length pc) [s0, s1, s2, s3, s4, s5, s6, s7] [q0, q1, q2, q3]).toArray)) (HW : Hid (Fr None' w wc)) (HAW : Hid (∀ W, Fr None' w W → Calls Tryd.prog 16 #[] W fun e w' => e = .returned (.bool true) ∧ Fr None' W w'))
    (u0 u2 u6 u7 u8 u9 u10 u11 u12 u13 u14 u15 u16 u17 u18 u19 u20 u21 u22 u23 u24 u25 u26 u27 u28 u29 u30 u31 u32 u33 u34 u35 u36 u37 u38 u39 u40 u41 u42 u43 u44 u45 u46 u47 u48 u49 u50 u51 u52 u53 u54 u55 u56 u57 u58 u59 u60 u61 u62 u63 u64 u65 u66 u67 u68 u69 u70 u71 u72 u73 u74 u75 u76 u77 u78 u79 u80 u81 u82 u83 u84 u85 u86 u87 u88 u89 u90 u91 u92 u93 u94 u95 u96 u97 u98 u99 u100 u101 u102 u103 u104 u105 u106 u107 u108 u109 u110 u111 u112 u113 u114 u115 u116 u117 u118 u119 u120 u121 u122 u123 u124 u125 u126 u127 u128 u129 u130 u131 u132 u133 u134 u135 u136 u137 u138 u139 u140 u141 u142 u143 u144 u145 u146 u147 u148 u149 u150 u151 u152 u153 u154 u155 u156 u157 u158 u159 : Value) :
    Code.wp Tryd.prog rest4c (bodyPost Tryd.prog Tryd.f6 fun e w' => e = .returned (.bool true) ∧ Fr None' w w') ⟨#[u0, .pointer (some ⟨w.heap.size, 0, none⟩), u2, .pointer (some ⟨F, 0, none⟩), .pointer (some ⟨E, 0, none⟩), .int .i64 0, u6, u7, u8, u9, u10, u11, u12, u13, u14, u15, u16, u17, u18, u19, u20, u21, u22, u23, u24, u25, u26, u27, u28, u29, u30, u31, u32, u33, u34, u35, u36, u37, u38, u39, u40, u41, u42, u43, u44, u45, u46, u47, u48, u49, u50, u51, u52, u53, u54, u55, u56, u57, u58, u59, u60, u61, u62, u63, u64, u65, u66, u67, u68, u69, u70, u71, u72, u73, u74, u75, u76, u77, u78, u79, u80, u81, u82, u83, u84, u85, u86, u87, u88, u89, u90, u91, u92, u93, u94, u95, u96, u97, u98, u99, u100, u101, u102, u103, u104, u105, u106, u107, u108, u109, u110, u111, u112, u113, u114, u115, u116, u117, u118, u119, u120, u121, u122, u123, u124, u125, u126, u127, u128, u129, u130, u131, u132, u133, u134, u135, u136, u137, u138, u139, u140, u141, u142, u143, u144, u145, u146, u147, u148, u149, u150, u151, u152, u153, u154, u155, u156, u157, u158, u159], []⟩ wc := by
  have hZ := HZ.out
  have z1 : wc.cell? ⟨w.heap.size, 1, none⟩ = some (.int .i64 bud) := by rw [hZ.cell]; rfl
  have z5 : wc.cell? ⟨w.heap.size, 5, none⟩ = some (.int .i64 st) := by rw [hZ.cell]; rfl
  have HE0 := Lib.hid e0
  clear hZ
  conv => arg 2; whnf
  go_upto_region 7 with (fail)
  clear e0 z1 z5
  go_cut [6] (fun v wx => ∃ X, v = .pointer (some ⟨X, 0, none⟩) ∧ Blk wx X 94 #[.int .i64 io0, .int .i64 (a : Int), .int .i64 ibb, .int .i64 ic, .int .i64 ik] ∧ Fr None' wc wx)
  case first =>
    refine r7c_any w wc b off L.length c fn at_ ib io cn yc io0 (a : Int) ibb ic ik HS0 h1 h2 _ _ _ _ _ _ _ _ _ _ _ _ _ _ _ _ _ _ _ _ _ _ _ _ _ _ _ _ _ _ _ _ _ _ _ _ _ _ _ _ _ _ _ _ _ _ _ _ _ _ _ _ _ _ _ _ _ _ _ _ _ _ _ _ _ _ _ _ _ _ _ _ _ _ _ _ _ _ _ _ _ _ _ _ _ _ _ _ _ _ _ _ _ _ _ _ _ _ _ _ _ _ _ _ _ _ _ _ _ _ _ _ _ _ _ _ _ _ _ _ _ _ _ _ _ _ _ _ _ _ _ _ _ _ _ _ _ _ _ _ _ _ _ _ _ _ _ _ _ _ _ _ _ _ _ _ _ _ _ _ (fun _ _ d _ _ h => by cases d <;> exact h) ?_
    intro X wx _ _ _ _ _ _ _ _ _ _ _ _ _ hge hX hFX
    go_wp2_with fail
    go_meet
    exact ⟨X, rfl, hX, hFX⟩
  case rest =>
    obtain ⟨X, rfl, hX, hFX⟩ := hcut
    refine ‹∀ (a : Act) (w : World), Code.wp Tryd.prog _ _ a w → _› _ _ ?_
    exact fclf_any w _ F E X (some ⟨b, off, none⟩) L c bud dep fn at_ st kd FA path fc r0 r1 r2 r3 r4 r5 r6 r7 q0 q1 q2 q3 at2 kd2 P pc s0 s1 s2 s3 s4 s5 s6 s7 a hst1 hst2 hrg hk2 hne (Lib.hid (HZ.out.fr hFX (fun h => h))) (Lib.hid (HB.out.fr hFX (fun h => h))) (by rw [hX.cell]; rfl) (hFX.held HE0.out (fun h => h)) (Lib.hid (HW.out.trans hFX)) HAW _ _ _ _ _ _ _ _ _ _ _ _ _ _ _ _ _ _ _ _ _ _ _ _ _ _ _ _ _ _ _ _ _ _ _ _ _ _ _ _ _ _ _ _ _ _ _ _ _ _ _ _ _ _ _ _ _ _ _ _ _ _ _ _ _ _ _ _ _ _ _ _ _ _ _ _ _ _ _ _ _ _ _ _ _ _ _ _ _ _ _ _ _ _ _ _ _ _ _ _ _ _ _ _ _ _ _ _ _ _ _ _ _ _ _ _ _ _ _ _ _ _ _ _ _ _ _ _ _ _ _ _ _ _ _ _ _ _ _ _ _ _ _ _ _ _ _ _ _ _ _ _ _ _ _ _

set_option maxHeartbeats 64000000 in
set_option maxRecDepth 100000 in
theorem fcds1_any (w wc : World) (F E : Nat) (b off ib io cn yc : Nat) (io0 ibb ic ik : Int) (L : List LFn) (c : Nat) (bud dep : Int) (fn at_ : Nat) (st kd : Int) (FA : Option Addr) (path : List Int) (fc : Nat) (r0 r1 r2 r3 r4 r5 r6 r7 q0 q1 q2 q3 : Int) (at2 : Int) (P : Option Addr) (pc : Nat) (s0 s1 s2 s3 s4 s5 s6 s7 : Int) (a : Nat) (hst1 : -9223372036854775808 ≤ st) (hst2 : st ≤ 1000000)
    (hrg : ∀ i, i ≠ a → [s0, s1, s2, s3, s4, s5, s6, s7][i]? = [r0, r1, r2, r3, r4, r5, r6, r7][i]?) (kk yy : Int) (hk : kk ≠ 8) 
    (h1 : fn < L.length) (h2 : at_ < cn) (HS0 : Hid ((fun w' : World => w'.cell? ⟨w.heap.size, 0, none⟩ = some (.slice (some ⟨b, off, none⟩) L.length c) ∧ w'.cell? ⟨w.heap.size, 3, none⟩ = some (.int .i64 (fn : Int)) ∧ w'.cell? ⟨w.heap.size, 4, none⟩ = some (.int .i64 (at_ : Int)) ∧ w'.cell? ⟨b, off + fn * 2 + 1, none⟩ = some (.slice (some ⟨ib, io, none⟩) cn yc) ∧ w'.cell? ⟨ib, io + at_ * 5, none⟩ = some (.int .i64 io0) ∧ w'.cell? ⟨ib, io + at_ * 5 + 1, none⟩ = some (.int .i64 (a : Int)) ∧ w'.cell? ⟨ib, io + at_ * 5 + 2, none⟩ = some (.int .i64 ibb) ∧ w'.cell? ⟨ib, io + at_ * 5 + 3, none⟩ = some (.int .i64 ic) ∧ w'.cell? ⟨ib, io + at_ * 5 + 4, none⟩ = some (.int .i64 ik)) wc))
    (e0 : wc.cell? ⟨E, 0, none⟩ = some (.int .i64 kk)) (_e5 : wc.cell? ⟨E, 5, none⟩ = some (.int .i64 yy))
    (HZ : Hid (Blk wc w.heap.size 29 #[.slice (some ⟨b, off, none⟩) L.length c, .int .i64 bud, .int .i64 dep, .int .i64 (fn : Int), .int .i64 (at_ : Int), .int .i64 st, .int .i64 kd, .slice FA path.length fc, .int .i64 r0, .int .i64 r1, .int .i64 r2, .int .i64 r3, .int .i64 r4, .int .i64 r5, .int .i64 r6, .int .i64 r7, .int .i64 q0, .int .i64 q1, .int .i64 q2, .int .i64 q3])) (HB : Hid (Blk wc F 95 (frL (fn : Int) at2 (st + 1) kd (.slice P path.length pc) [s0, s1, s2, s3, s4, s5, s6, s7] [q0, q1, q2, q3]).toArray)) (HW : Hid (Fr None' w wc)) (HAW : Hid (∀ W, Fr None' w W → Calls Tryd.prog 16 #[] W fun e w' => e = .returned (.bool true) ∧ Fr None' W w'))
    (u0 u2 u6 u7 u8 u9 u10 u11 u12 u13 u14 u15 u16 u17 u18 u19 u20 u21 u22 u23 u24 u25 u26 u27 u28 u29 u30 u31 u32 u33 u34 u35 u36 u37 u38 u39 u40 u41 u42 u43 u44 u45 u46 u47 u48 u49 u50 u51 u52 u53 u54 u55 u56 u57 u58 u59 u60 u61 u62 u63 u64 u65 u66 u67 u68 u69 u70 u71 u72 u73 u74 u75 u76 u77 u78 u79 u80 u81 u82 u83 u84 u85 u86 u87 u88 u89 u90 u91 u92 u93 u94 u95 u96 u97 u98 u99 u100 u101 u102 u103 u104 u105 u106 u107 u108 u109 u110 u111 u112 u113 u114 u115 u116 u117 u118 u119 u120 u121 u122 u123 u124 u125 u126 u127 u128 u129 u130 u131 u132 u133 u134 u135 u136 u137 u138 u139 u140 u141 u142 u143 u144 u145 u146 u147 u148 u149 u150 u151 u152 u153 u154 u155 u156 u157 u158 u159 : Value) :
    Code.wp Tryd.prog rest4c (bodyPost Tryd.prog Tryd.f6 fun e w' => e = .returned (.bool true) ∧ Fr None' w w') ⟨#[u0, .pointer (some ⟨w.heap.size, 0, none⟩), u2, .pointer (some ⟨F, 0, none⟩), .pointer (some ⟨E, 0, none⟩), .int .i64 0, u6, u7, u8, u9, u10, u11, u12, u13, u14, u15, u16, u17, u18, u19, u20, u21, u22, u23, u24, u25, u26, u27, u28, u29, u30, u31, u32, u33, u34, u35, u36, u37, u38, u39, u40, u41, u42, u43, u44, u45, u46, u47, u48, u49, u50, u51, u52, u53, u54, u55, u56, u57, u58, u59, u60, u61, u62, u63, u64, u65, u66, u67, u68, u69, u70, u71, u72, u73, u74, u75, u76, u77, u78, u79, u80, u81, u82, u83, u84, u85, u86, u87, u88, u89, u90, u91, u92, u93, u94, u95, u96, u97, u98, u99, u100, u101, u102, u103, u104, u105, u106, u107, u108, u109, u110, u111, u112, u113, u114, u115, u116, u117, u118, u119, u120, u121, u122, u123, u124, u125, u126, u127, u128, u129, u130, u131, u132, u133, u134, u135, u136, u137, u138, u139, u140, u141, u142, u143, u144, u145, u146, u147, u148, u149, u150, u151, u152, u153, u154, u155, u156, u157, u158, u159], []⟩ wc := by
  have hZ := HZ.out
  have z1 : wc.cell? ⟨w.heap.size, 1, none⟩ = some (.int .i64 bud) := by rw [hZ.cell]; rfl
  have z5 : wc.cell? ⟨w.heap.size, 5, none⟩ = some (.int .i64 st) := by rw [hZ.cell]; rfl
  have HE0 := Lib.hid e0
  clear hZ
  have c1 : (kk == 8) = false := by simpa using hk
  conv => arg 2; whnf
  go_upto_region 7 with (fail)
  clear e0 z1 z5
  go_cut [6] (fun v wx => ∃ X, v = .pointer (some ⟨X, 0, none⟩) ∧ Blk wx X 94 #[.int .i64 io0, .int .i64 (a : Int), .int .i64 ibb, .int .i64 ic, .int .i64 ik] ∧ Fr None' wc wx)
  case first =>
    refine r7c_any w wc b off L.length c fn at_ ib io cn yc io0 (a : Int) ibb ic ik HS0 h1 h2 _ _ _ _ _ _ _ _ _ _ _ _ _ _ _ _ _ _ _ _ _ _ _ _ _ _ _ _ _ _ _ _ _ _ _ _ _ _ _ _ _ _ _ _ _ _ _ _ _ _ _ _ _ _ _ _ _ _ _ _ _ _ _ _ _ _ _ _ _ _ _ _ _ _ _ _ _ _ _ _ _ _ _ _ _ _ _ _ _ _ _ _ _ _ _ _ _ _ _ _ _ _ _ _ _ _ _ _ _ _ _ _ _ _ _ _ _ _ _ _ _ _ _ _ _ _ _ _ _ _ _ _ _ _ _ _ _ _ _ _ _ _ _ _ _ _ _ _ _ _ _ _ _ _ _ _ _ _ _ _ (fun _ _ d _ _ h => by cases d <;> exact h) ?_
    intro X wx _ _ _ _ _ _ _ _ _ _ _ _ _ hge hX hFX
    go_wp2_with fail
    go_meet
    exact ⟨X, rfl, hX, hFX⟩
  case rest =>
    obtain ⟨X, rfl, hX, hFX⟩ := hcut
    refine ‹∀ (a : Act) (w : World), Code.wp Tryd.prog _ _ a w → _› _ _ ?_
    exact fcls_any w _ F E X (some ⟨b, off, none⟩) L c bud dep fn at_ st kd FA path fc r0 r1 r2 r3 r4 r5 r6 r7 q0 q1 q2 q3 at2  P pc s0 s1 s2 s3 s4 s5 s6 s7 a hst1 hst2 hrg  (Lib.hid (HZ.out.fr hFX (fun h => h))) (Lib.hid (HB.out.fr hFX (fun h => h))) (by rw [hX.cell]; rfl)  (Lib.hid (HW.out.trans hFX)) HAW _ _ _ _ _ _ _ _ _ _ _ _ _ _ _ _ _ _ _ _ _ _ _ _ _ _ _ _ _ _ _ _ _ _ _ _ _ _ _ _ _ _ _ _ _ _ _ _ _ _ _ _ _ _ _ _ _ _ _ _ _ _ _ _ _ _ _ _ _ _ _ _ _ _ _ _ _ _ _ _ _ _ _ _ _ _ _ _ _ _ _ _ _ _ _ _ _ _ _ _ _ _ _ _ _ _ _ _ _ _ _ _ _ _ _ _ _ _ _ _ _ _ _ _ _ _ _ _ _ _ _ _ _ _ _ _ _ _ _ _ _ _ _ _ _ _ _ _ _ _ _ _ _ _ _ _

set_option maxHeartbeats 64000000 in
set_option maxRecDepth 100000 in
theorem fcds2_any (w wc : World) (F E : Nat) (b off ib io cn yc : Nat) (io0 ibb ic ik : Int) (L : List LFn) (c : Nat) (bud dep : Int) (fn at_ : Nat) (st kd : Int) (FA : Option Addr) (path : List Int) (fc : Nat) (r0 r1 r2 r3 r4 r5 r6 r7 q0 q1 q2 q3 : Int) (at2 : Int) (P : Option Addr) (pc : Nat) (s0 s1 s2 s3 s4 s5 s6 s7 : Int) (a : Nat) (hst1 : -9223372036854775808 ≤ st) (hst2 : st ≤ 1000000)
    (hrg : ∀ i, i ≠ a → [s0, s1, s2, s3, s4, s5, s6, s7][i]? = [r0, r1, r2, r3, r4, r5, r6, r7][i]?) (yy : Int) (hy : yy ≠ 3) 
    (h1 : fn < L.length) (h2 : at_ < cn) (HS0 : Hid ((fun w' : World => w'.cell? ⟨w.heap.size, 0, none⟩ = some (.slice (some ⟨b, off, none⟩) L.length c) ∧ w'.cell? ⟨w.heap.size, 3, none⟩ = some (.int .i64 (fn : Int)) ∧ w'.cell? ⟨w.heap.size, 4, none⟩ = some (.int .i64 (at_ : Int)) ∧ w'.cell? ⟨b, off + fn * 2 + 1, none⟩ = some (.slice (some ⟨ib, io, none⟩) cn yc) ∧ w'.cell? ⟨ib, io + at_ * 5, none⟩ = some (.int .i64 io0) ∧ w'.cell? ⟨ib, io + at_ * 5 + 1, none⟩ = some (.int .i64 (a : Int)) ∧ w'.cell? ⟨ib, io + at_ * 5 + 2, none⟩ = some (.int .i64 ibb) ∧ w'.cell? ⟨ib, io + at_ * 5 + 3, none⟩ = some (.int .i64 ic) ∧ w'.cell? ⟨ib, io + at_ * 5 + 4, none⟩ = some (.int .i64 ik)) wc))
    (e0 : wc.cell? ⟨E, 0, none⟩ = some (.int .i64 8)) (e5 : wc.cell? ⟨E, 5, none⟩ = some (.int .i64 yy))
    (HZ : Hid (Blk wc w.heap.size 29 #[.slice (some ⟨b, off, none⟩) L.length c, .int .i64 bud, .int .i64 dep, .int .i64 (fn : Int), .int .i64 (at_ : Int), .int .i64 st, .int .i64 kd, .slice FA path.length fc, .int .i64 r0, .int .i64 r1, .int .i64 r2, .int .i64 r3, .int .i64 r4, .int .i64 r5, .int .i64 r6, .int .i64 r7, .int .i64 q0, .int .i64 q1, .int .i64 q2, .int .i64 q3])) (HB : Hid (Blk wc F 95 (frL (fn : Int) at2 (st + 1) kd (.slice P path.length pc) [s0, s1, s2, s3, s4, s5, s6, s7] [q0, q1, q2, q3]).toArray)) (HW : Hid (Fr None' w wc)) (HAW : Hid (∀ W, Fr None' w W → Calls Tryd.prog 16 #[] W fun e w' => e = .returned (.bool true) ∧ Fr None' W w'))
    (u0 u2 u6 u7 u8 u9 u10 u11 u12 u13 u14 u15 u16 u17 u18 u19 u20 u21 u22 u23 u24 u25 u26 u27 u28 u29 u30 u31 u32 u33 u34 u35 u36 u37 u38 u39 u40 u41 u42 u43 u44 u45 u46 u47 u48 u49 u50 u51 u52 u53 u54 u55 u56 u57 u58 u59 u60 u61 u62 u63 u64 u65 u66 u67 u68 u69 u70 u71 u72 u73 u74 u75 u76 u77 u78 u79 u80 u81 u82 u83 u84 u85 u86 u87 u88 u89 u90 u91 u92 u93 u94 u95 u96 u97 u98 u99 u100 u101 u102 u103 u104 u105 u106 u107 u108 u109 u110 u111 u112 u113 u114 u115 u116 u117 u118 u119 u120 u121 u122 u123 u124 u125 u126 u127 u128 u129 u130 u131 u132 u133 u134 u135 u136 u137 u138 u139 u140 u141 u142 u143 u144 u145 u146 u147 u148 u149 u150 u151 u152 u153 u154 u155 u156 u157 u158 u159 : Value) :
    Code.wp Tryd.prog rest4c (bodyPost Tryd.prog Tryd.f6 fun e w' => e = .returned (.bool true) ∧ Fr None' w w') ⟨#[u0, .pointer (some ⟨w.heap.size, 0, none⟩), u2, .pointer (some ⟨F, 0, none⟩), .pointer (some ⟨E, 0, none⟩), .int .i64 0, u6, u7, u8, u9, u10, u11, u12, u13, u14, u15, u16, u17, u18, u19, u20, u21, u22, u23, u24, u25, u26, u27, u28, u29, u30, u31, u32, u33, u34, u35, u36, u37, u38, u39, u40, u41, u42, u43, u44, u45, u46, u47, u48, u49, u50, u51, u52, u53, u54, u55, u56, u57, u58, u59, u60, u61, u62, u63, u64, u65, u66, u67, u68, u69, u70, u71, u72, u73, u74, u75, u76, u77, u78, u79, u80, u81, u82, u83, u84, u85, u86, u87, u88, u89, u90, u91, u92, u93, u94, u95, u96, u97, u98, u99, u100, u101, u102, u103, u104, u105, u106, u107, u108, u109, u110, u111, u112, u113, u114, u115, u116, u117, u118, u119, u120, u121, u122, u123, u124, u125, u126, u127, u128, u129, u130, u131, u132, u133, u134, u135, u136, u137, u138, u139, u140, u141, u142, u143, u144, u145, u146, u147, u148, u149, u150, u151, u152, u153, u154, u155, u156, u157, u158, u159], []⟩ wc := by
  have hZ := HZ.out
  have z1 : wc.cell? ⟨w.heap.size, 1, none⟩ = some (.int .i64 bud) := by rw [hZ.cell]; rfl
  have z5 : wc.cell? ⟨w.heap.size, 5, none⟩ = some (.int .i64 st) := by rw [hZ.cell]; rfl
  have HE0 := Lib.hid e0
  clear hZ
  have c1 : (yy == 3) = false := by simpa using hy
  conv => arg 2; whnf
  go_upto_region 7 with (fail)
  clear e0 e5 z1 z5
  go_cut [6] (fun v wx => ∃ X, v = .pointer (some ⟨X, 0, none⟩) ∧ Blk wx X 94 #[.int .i64 io0, .int .i64 (a : Int), .int .i64 ibb, .int .i64 ic, .int .i64 ik] ∧ Fr None' wc wx)
  case first =>
    refine r7c_any w wc b off L.length c fn at_ ib io cn yc io0 (a : Int) ibb ic ik HS0 h1 h2 _ _ _ _ _ _ _ _ _ _ _ _ _ _ _ _ _ _ _ _ _ _ _ _ _ _ _ _ _ _ _ _ _ _ _ _ _ _ _ _ _ _ _ _ _ _ _ _ _ _ _ _ _ _ _ _ _ _ _ _ _ _ _ _ _ _ _ _ _ _ _ _ _ _ _ _ _ _ _ _ _ _ _ _ _ _ _ _ _ _ _ _ _ _ _ _ _ _ _ _ _ _ _ _ _ _ _ _ _ _ _ _ _ _ _ _ _ _ _ _ _ _ _ _ _ _ _ _ _ _ _ _ _ _ _ _ _ _ _ _ _ _ _ _ _ _ _ _ _ _ _ _ _ _ _ _ _ _ _ _ (fun _ _ d _ _ h => by cases d <;> exact h) ?_
    intro X wx _ _ _ _ _ _ _ _ _ _ _ _ _ hge hX hFX
    go_wp2_with fail
    go_meet
    exact ⟨X, rfl, hX, hFX⟩
  case rest =>
    obtain ⟨X, rfl, hX, hFX⟩ := hcut
    refine ‹∀ (a : Act) (w : World), Code.wp Tryd.prog _ _ a w → _› _ _ ?_
    exact fcls_any w _ F E X (some ⟨b, off, none⟩) L c bud dep fn at_ st kd FA path fc r0 r1 r2 r3 r4 r5 r6 r7 q0 q1 q2 q3 at2  P pc s0 s1 s2 s3 s4 s5 s6 s7 a hst1 hst2 hrg  (Lib.hid (HZ.out.fr hFX (fun h => h))) (Lib.hid (HB.out.fr hFX (fun h => h))) (by rw [hX.cell]; rfl)  (Lib.hid (HW.out.trans hFX)) HAW _ _ _ _ _ _ _ _ _ _ _ _ _ _ _ _ _ _ _ _ _ _ _ _ _ _ _ _ _ _ _ _ _ _ _ _ _ _ _ _ _ _ _ _ _ _ _ _ _ _ _ _ _ _ _ _ _ _ _ _ _ _ _ _ _ _ _ _ _ _ _ _ _ _ _ _ _ _ _ _ _ _ _ _ _ _ _ _ _ _ _ _ _ _ _ _ _ _ _ _ _ _ _ _ _ _ _ _ _ _ _ _ _ _ _ _ _ _ _ _ _ _ _ _ _ _ _ _ _ _ _ _ _ _ _ _ _ _ _ _ _ _ _ _ _ _ _ _ _ _ _ _ _ _ _ _

set_option maxHeartbeats 64000000 in
set_option maxRecDepth 100000 in
theorem fcds3_any (w wc : World) (F E : Nat) (b off ib io cn yc : Nat) (io0 ibb ic ik : Int) (L : List LFn) (c : Nat) (bud dep : Int) (fn at_ : Nat) (st kd : Int) (FA : Option Addr) (path : List Int) (fc : Nat) (r0 r1 r2 r3 r4 r5 r6 r7 q0 q1 q2 q3 : Int) (at2 : Int) (P : Option Addr) (pc : Nat) (s0 s1 s2 s3 s4 s5 s6 s7 : Int) (a : Nat) (hst1 : -9223372036854775808 ≤ st) (hst2 : st ≤ 1000000)
    (hrg : ∀ i, i ≠ a → [s0, s1, s2, s3, s4, s5, s6, s7][i]? = [r0, r1, r2, r3, r4, r5, r6, r7][i]?) (hb : ¬ bud ≤ st) 
    (h1 : fn < L.length) (h2 : at_ < cn) (HS0 : Hid ((fun w' : World => w'.cell? ⟨w.heap.size, 0, none⟩ = some (.slice (some ⟨b, off, none⟩) L.length c) ∧ w'.cell? ⟨w.heap.size, 3, none⟩ = some (.int .i64 (fn : Int)) ∧ w'.cell? ⟨w.heap.size, 4, none⟩ = some (.int .i64 (at_ : Int)) ∧ w'.cell? ⟨b, off + fn * 2 + 1, none⟩ = some (.slice (some ⟨ib, io, none⟩) cn yc) ∧ w'.cell? ⟨ib, io + at_ * 5, none⟩ = some (.int .i64 io0) ∧ w'.cell? ⟨ib, io + at_ * 5 + 1, none⟩ = some (.int .i64 (a : Int)) ∧ w'.cell? ⟨ib, io + at_ * 5 + 2, none⟩ = some (.int .i64 ibb) ∧ w'.cell? ⟨ib, io + at_ * 5 + 3, none⟩ = some (.int .i64 ic) ∧ w'.cell? ⟨ib, io + at_ * 5 + 4, none⟩ = some (.int .i64 ik)) wc))
    (e0 : wc.cell? ⟨E, 0, none⟩ = some (.int .i64 8)) (e5 : wc.cell? ⟨E, 5, none⟩ = some (.int .i64 3))
    (HZ : Hid (Blk wc w.heap.size 29 #[.slice (some ⟨b, off, none⟩) L.length c, .int .i64 bud, .int .i64 dep, .int .i64 (fn : Int), .int .i64 (at_ : Int), .int .i64 st, .int .i64 kd, .slice FA path.length fc, .int .i64 r0, .int .i64 r1, .int .i64 r2, .int .i64 r3, .int .i64 r4, .int .i64 r5, .int .i64 r6, .int .i64 r7, .int .i64 q0, .int .i64 q1, .int .i64 q2, .int .i64 q3])) (HB : Hid (Blk wc F 95 (frL (fn : Int) at2 (st + 1) kd (.slice P path.length pc) [s0, s1, s2, s3, s4, s5, s6, s7] [q0, q1, q2, q3]).toArray)) (HW : Hid (Fr None' w wc)) (HAW : Hid (∀ W, Fr None' w W → Calls Tryd.prog 16 #[] W fun e w' => e = .returned (.bool true) ∧ Fr None' W w'))
    (u0 u2 u6 u7 u8 u9 u10 u11 u12 u13 u14 u15 u16 u17 u18 u19 u20 u21 u22 u23 u24 u25 u26 u27 u28 u29 u30 u31 u32 u33 u34 u35 u36 u37 u38 u39 u40 u41 u42 u43 u44 u45 u46 u47 u48 u49 u50 u51 u52 u53 u54 u55 u56 u57 u58 u59 u60 u61 u62 u63 u64 u65 u66 u67 u68 u69 u70 u71 u72 u73 u74 u75 u76 u77 u78 u79 u80 u81 u82 u83 u84 u85 u86 u87 u88 u89 u90 u91 u92 u93 u94 u95 u96 u97 u98 u99 u100 u101 u102 u103 u104 u105 u106 u107 u108 u109 u110 u111 u112 u113 u114 u115 u116 u117 u118 u119 u120 u121 u122 u123 u124 u125 u126 u127 u128 u129 u130 u131 u132 u133 u134 u135 u136 u137 u138 u139 u140 u141 u142 u143 u144 u145 u146 u147 u148 u149 u150 u151 u152 u153 u154 u155 u156 u157 u158 u159 : Value) :
    Code.wp Tryd.prog rest4c (bodyPost Tryd.prog Tryd.f6 fun e w' => e = .returned (.bool true) ∧ Fr None' w w') ⟨#[u0, .pointer (some ⟨w.heap.size, 0, none⟩), u2, .pointer (some ⟨F, 0, none⟩), .pointer (some ⟨E, 0, none⟩), .int .i64 0, u6, u7, u8, u9, u10, u11, u12, u13, u14, u15, u16, u17, u18, u19, u20, u21, u22, u23, u24, u25, u26, u27, u28, u29, u30, u31, u32, u33, u34, u35, u36, u37, u38, u39, u40, u41, u42, u43, u44, u45, u46, u47, u48, u49, u50, u51, u52, u53, u54, u55, u56, u57, u58, u59, u60, u61, u62, u63, u64, u65, u66, u67, u68, u69, u70, u71, u72, u73, u74, u75, u76, u77, u78, u79, u80, u81, u82, u83, u84, u85, u86, u87, u88, u89, u90, u91, u92, u93, u94, u95, u96, u97, u98, u99, u100, u101, u102, u103, u104, u105, u106, u107, u108, u109, u110, u111, u112, u113, u114, u115, u116, u117, u118, u119, u120, u121, u122, u123, u124, u125, u126, u127, u128, u129, u130, u131, u132, u133, u134, u135, u136, u137, u138, u139, u140, u141, u142, u143, u144, u145, u146, u147, u148, u149, u150, u151, u152, u153, u154, u155, u156, u157, u158, u159], []⟩ wc := by
  have hZ := HZ.out
  have z1 : wc.cell? ⟨w.heap.size, 1, none⟩ = some (.int .i64 bud) := by rw [hZ.cell]; rfl
  have z5 : wc.cell? ⟨w.heap.size, 5, none⟩ = some (.int .i64 st) := by rw [hZ.cell]; rfl
  have HE0 := Lib.hid e0
  clear hZ
  have c1 : decide (bud ≤ st) = false := decide_eq_false hb
  conv => arg 2; whnf
  go_upto_region 7 with (fail)
  clear e0 e5 z1 z5
  go_cut [6] (fun v wx => ∃ X, v = .pointer (some ⟨X, 0, none⟩) ∧ Blk wx X 94 #[.int .i64 io0, .int .i64 (a : Int), .int .i64 ibb, .int .i64 ic, .int .i64 ik] ∧ Fr None' wc wx)
  case first =>
    refine r7c_any w wc b off L.length c fn at_ ib io cn yc io0 (a : Int) ibb ic ik HS0 h1 h2 _ _ _ _ _ _ _ _ _ _ _ _ _ _ _ _ _ _ _ _ _ _ _ _ _ _ _ _ _ _ _ _ _ _ _ _ _ _ _ _ _ _ _ _ _ _ _ _ _ _ _ _ _ _ _ _ _ _ _ _ _ _ _ _ _ _ _ _ _ _ _ _ _ _ _ _ _ _ _ _ _ _ _ _ _ _ _ _ _ _ _ _ _ _ _ _ _ _ _ _ _ _ _ _ _ _ _ _ _ _ _ _ _ _ _ _ _ _ _ _ _ _ _ _ _ _ _ _ _ _ _ _ _ _ _ _ _ _ _ _ _ _ _ _ _ _ _ _ _ _ _ _ _ _ _ _ _ _ _ _ (fun _ _ d _ _ h => by cases d <;> exact h) ?_
    intro X wx _ _ _ _ _ _ _ _ _ _ _ _ _ hge hX hFX
    go_wp2_with fail
    go_meet
    exact ⟨X, rfl, hX, hFX⟩
  case rest =>
    obtain ⟨X, rfl, hX, hFX⟩ := hcut
    refine ‹∀ (a : Act) (w : World), Code.wp Tryd.prog _ _ a w → _› _ _ ?_
    exact fcls_any w _ F E X (some ⟨b, off, none⟩) L c bud dep fn at_ st kd FA path fc r0 r1 r2 r3 r4 r5 r6 r7 q0 q1 q2 q3 at2  P pc s0 s1 s2 s3 s4 s5 s6 s7 a hst1 hst2 hrg  (Lib.hid (HZ.out.fr hFX (fun h => h))) (Lib.hid (HB.out.fr hFX (fun h => h))) (by rw [hX.cell]; rfl)  (Lib.hid (HW.out.trans hFX)) HAW _ _ _ _ _ _ _ _ _ _ _ _ _ _ _ _ _ _ _ _ _ _ _ _ _ _ _ _ _ _ _ _ _ _ _ _ _ _ _ _ _ _ _ _ _ _ _ _ _ _ _ _ _ _ _ _ _ _ _ _ _ _ _ _ _ _ _ _ _ _ _ _ _ _ _ _ _ _ _ _ _ _ _ _ _ _ _ _ _ _ _ _ _ _ _ _ _ _ _ _ _ _ _ _ _ _ _ _ _ _ _ _ _ _ _ _ _ _ _ _ _ _ _ _ _ _ _ _ _ _ _ _ _ _ _ _ _ _ _ _ _ _ _ _ _ _ _ _ _ _ _ _ _ _ _ _
end Go.Proofs.YtadcenaafoemmaaDoor
