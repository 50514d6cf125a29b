/-
  FrameCounts, where the instruction was not done. No condition.
-/
import Derived.Test.YtadcenaafoemmaaDoorFCR
namespace Go.Proofs.YtadcenaafoemmaaDoor
open Go.RowKit

set_option maxHeartbeats 64000000 in
set_option maxRecDepth 100000 in
theorem fcna_any (w wc : World) (F E : Nat) (PA : Option Addr) (L : List LFn) (c : Nat) (bud dep fn at_ st kd : Int) (FA : Option Addr) (path : List Int) (fc : Nat) (r0 r1 r2 r3 r4 r5 r6 r7 q0 q1 q2 q3 : Int) (_e0 : wc.cell? ⟨E, 0, none⟩ = some (.int .i64 0)) (_e5 : wc.cell? ⟨E, 5, none⟩ = some (.int .i64 0))
    (HZ : Hid (Blk wc w.heap.size 29 #[.slice PA L.length c, .int .i64 bud, .int .i64 dep, .int .i64 fn, .int .i64 at_, .int .i64 st, .int .i64 kd, .slice FA path.length fc, .int .i64 r0, .int .i64 r1, .int .i64 r2, .int .i64 r3, .int .i64 r4, .int .i64 r5, .int .i64 r6, .int .i64 r7, .int .i64 q0, .int .i64 q1, .int .i64 q2, .int .i64 q3])) (HW : Hid (Fr None' w wc)) (HAW : Hid (∀ W, Fr None' w W → Calls Tryd.prog 16 #[] W fun e w' => e = .returned (.bool true) ∧ Fr None' W w'))
    (HAL : Hid (Calls Tryd.prog 15 #[.pointer (some ⟨F, 0, none⟩), .agg #[.int .i64 fn, .int .i64 at_, .int .i64 st, .int .i64 kd, .slice FA path.length fc, .int .i64 r0, .int .i64 r1, .int .i64 r2, .int .i64 r3, .int .i64 r4, .int .i64 r5, .int .i64 r6, .int .i64 r7, .int .i64 q0, .int .i64 q1, .int .i64 q2, .int .i64 q3]] wc fun e w' => e = .returned (.bool true) ∧ Fr None' wc w'))
    (u0 u2 u6 u7 u8 u9 u10 u11 u12 u13 u14 u15 u16 u17 u18 u19 u20 u21 u22 u23 u24 u25 u26 u27 u28 u29 u30 u31 u32 u33 u34 u35 u36 u37 u38 u39 u40 u41 u42 u43 u44 u45 u46 u47 u48 u49 u50 u51 u52 u53 u54 u55 u56 u57 u58 u59 u60 u61 u62 u63 u64 u65 u66 u67 u68 u69 u70 u71 u72 u73 u74 u75 u76 u77 u78 u79 u80 u81 u82 u83 u84 u85 u86 u87 u88 u89 u90 u91 u92 u93 u94 u95 u96 u97 u98 u99 u100 u101 u102 u103 u104 u105 u106 u107 u108 u109 u110 u111 u112 u113 u114 u115 u116 u117 u118 u119 u120 u121 u122 u123 u124 u125 u126 u127 u128 u129 u130 u131 u132 u133 u134 u135 u136 u137 u138 u139 u140 u141 u142 u143 u144 u145 u146 u147 u148 u149 u150 u151 u152 u153 u154 u155 u156 u157 u158 u159 : Value) :
    Code.wp Tryd.prog rest4c (bodyPost Tryd.prog Tryd.f6 fun e w' => e = .returned (.bool true) ∧ Fr None' w w') ⟨#[u0, .pointer (some ⟨w.heap.size, 0, none⟩), u2, .pointer (some ⟨F, 0, none⟩), .pointer (some ⟨E, 0, none⟩), .int .i64 1, u6, u7, u8, u9, u10, u11, u12, u13, u14, u15, u16, u17, u18, u19, u20, u21, u22, u23, u24, u25, u26, u27, u28, u29, u30, u31, u32, u33, u34, u35, u36, u37, u38, u39, u40, u41, u42, u43, u44, u45, u46, u47, u48, u49, u50, u51, u52, u53, u54, u55, u56, u57, u58, u59, u60, u61, u62, u63, u64, u65, u66, u67, u68, u69, u70, u71, u72, u73, u74, u75, u76, u77, u78, u79, u80, u81, u82, u83, u84, u85, u86, u87, u88, u89, u90, u91, u92, u93, u94, u95, u96, u97, u98, u99, u100, u101, u102, u103, u104, u105, u106, u107, u108, u109, u110, u111, u112, u113, u114, u115, u116, u117, u118, u119, u120, u121, u122, u123, u124, u125, u126, u127, u128, u129, u130, u131, u132, u133, u134, u135, u136, u137, u138, u139, u140, u141, u142, u143, u144, u145, u146, u147, u148, u149, u150, u151, u152, u153, u154, u155, u156, u157, u158, u159], []⟩ wc := by
  have hZ := HZ.out
  have z0 : wc.cell? ⟨w.heap.size, 0, none⟩ = some (.slice PA L.length c) := by rw [hZ.cell]; rfl
  have z1 : wc.cell? ⟨w.heap.size, 1, none⟩ = some (.int .i64 bud) := by rw [hZ.cell]; rfl
  have z2 : wc.cell? ⟨w.heap.size, 2, none⟩ = some (.int .i64 dep) := by rw [hZ.cell]; rfl
  have z3 : wc.cell? ⟨w.heap.size, 3, none⟩ = some (.int .i64 fn) := by rw [hZ.cell]; rfl
  have z4 : wc.cell? ⟨w.heap.size, 4, none⟩ = some (.int .i64 at_) := by rw [hZ.cell]; rfl
  have z5 : wc.cell? ⟨w.heap.size, 5, none⟩ = some (.int .i64 st) := by rw [hZ.cell]; rfl
  have z6 : wc.cell? ⟨w.heap.size, 6, none⟩ = some (.int .i64 kd) := by rw [hZ.cell]; rfl
  have z7 : wc.cell? ⟨w.heap.size, 7, none⟩ = some (.slice FA path.length fc) := by rw [hZ.cell]; rfl
  have z8 : wc.cell? ⟨w.heap.size, 8, none⟩ = some (.int .i64 r0) := by rw [hZ.cell]; rfl
  have z9 : wc.cell? ⟨w.heap.size, 9, none⟩ = some (.int .i64 r1) := by rw [hZ.cell]; rfl
  have z10 : wc.cell? ⟨w.heap.size, 10, none⟩ = some (.int .i64 r2) := by rw [hZ.cell]; rfl
  have z11 : wc.cell? ⟨w.heap.size, 11, none⟩ = some (.int .i64 r3) := by rw [hZ.cell]; rfl
  have z12 : wc.cell? ⟨w.heap.size, 12, none⟩ = some (.int .i64 r4) := by rw [hZ.cell]; rfl
  have z13 : wc.cell? ⟨w.heap.size, 13, none⟩ = some (.int .i64 r5) := by rw [hZ.cell]; rfl
  have z14 : wc.cell? ⟨w.heap.size, 14, none⟩ = some (.int .i64 r6) := by rw [hZ.cell]; rfl
  have z15 : wc.cell? ⟨w.heap.size, 15, none⟩ = some (.int .i64 r7) := by rw [hZ.cell]; rfl
  have z16 : wc.cell? ⟨w.heap.size, 16, none⟩ = some (.int .i64 q0) := by rw [hZ.cell]; rfl
  have z17 : wc.cell? ⟨w.heap.size, 17, none⟩ = some (.int .i64 q1) := by rw [hZ.cell]; rfl
  have z18 : wc.cell? ⟨w.heap.size, 18, none⟩ = some (.int .i64 q2) := by rw [hZ.cell]; rfl
  have z19 : wc.cell? ⟨w.heap.size, 19, none⟩ = some (.int .i64 q3) := by rw [hZ.cell]; rfl
  clear hZ HZ
  conv => arg 2; whnf
  go_wp2_with fail
  refine HAL.out.mono ?_
  rintro e w5 ⟨rfl, hF5⟩
  have HW5 := Lib.hid (HW.out.trans hF5)
  clear HAL hF5
  go_wp2_with fail
  refine (HAW.out _ HW5.out).mono ?_
  rintro e w6 ⟨rfl, hF6⟩
  go_wp2_with fail
  go_ret
  exact ⟨rfl, HW5.out.trans hF6⟩

set_option maxHeartbeats 64000000 in
set_option maxRecDepth 100000 in
theorem fcns_any (w wc : World) (F E : Nat) (PA : Option Addr) (L : List LFn) (c : Nat) (bud dep fn at_ st kd : Int) (FA : Option Addr) (path : List Int) (fc : Nat) (r0 r1 r2 r3 r4 r5 r6 r7 q0 q1 q2 q3 : Int) (_e0 : wc.cell? ⟨E, 0, none⟩ = some (.int .i64 0)) (_e5 : wc.cell? ⟨E, 5, none⟩ = some (.int .i64 0))
    (HZ : Hid (Blk wc w.heap.size 29 #[.slice PA L.length c, .int .i64 bud, .int .i64 dep, .int .i64 fn, .int .i64 at_, .int .i64 st, .int .i64 kd, .slice FA path.length fc, .int .i64 r0, .int .i64 r1, .int .i64 r2, .int .i64 r3, .int .i64 r4, .int .i64 r5, .int .i64 r6, .int .i64 r7, .int .i64 q0, .int .i64 q1, .int .i64 q2, .int .i64 q3])) (HW : Hid (Fr None' w wc)) (HAW : Hid (∀ W, Fr None' w W → Calls Tryd.prog 16 #[] W fun e w' => e = .returned (.bool true) ∧ Fr None' W w'))
    (HAL : Hid (Calls Tryd.prog 15 #[.pointer (some ⟨F, 0, none⟩), .agg #[.int .i64 fn, .int .i64 at_, .int .i64 st, .int .i64 kd, .slice FA path.length fc, .int .i64 r0, .int .i64 r1, .int .i64 r2, .int .i64 r3, .int .i64 r4, .int .i64 r5, .int .i64 r6, .int .i64 r7, .int .i64 q0, .int .i64 q1, .int .i64 q2, .int .i64 q3]] wc fun e w' => e = .returned (.bool true) ∧ Fr None' wc w'))
    (u0 u2 u6 u7 u8 u9 u10 u11 u12 u13 u14 u15 u16 u17 u18 u19 u20 u21 u22 u23 u24 u25 u26 u27 u28 u29 u30 u31 u32 u33 u34 u35 u36 u37 u38 u39 u40 u41 u42 u43 u44 u45 u46 u47 u48 u49 u50 u51 u52 u53 u54 u55 u56 u57 u58 u59 u60 u61 u62 u63 u64 u65 u66 u67 u68 u69 u70 u71 u72 u73 u74 u75 u76 u77 u78 u79 u80 u81 u82 u83 u84 u85 u86 u87 u88 u89 u90 u91 u92 u93 u94 u95 u96 u97 u98 u99 u100 u101 u102 u103 u104 u105 u106 u107 u108 u109 u110 u111 u112 u113 u114 u115 u116 u117 u118 u119 u120 u121 u122 u123 u124 u125 u126 u127 u128 u129 u130 u131 u132 u133 u134 u135 u136 u137 u138 u139 u140 u141 u142 u143 u144 u145 u146 u147 u148 u149 u150 u151 u152 u153 u154 u155 u156 u157 u158 u159 : Value) :
    Code.wp Tryd.prog rest4c (bodyPost Tryd.prog Tryd.f6 fun e w' => e = .returned (.bool true) ∧ Fr None' w w') ⟨#[u0, .pointer (some ⟨w.heap.size, 0, none⟩), u2, .pointer (some ⟨F, 0, none⟩), .pointer (some ⟨E, 0, none⟩), .int .i64 11, u6, u7, u8, u9, u10, u11, u12, u13, u14, u15, u16, u17, u18, u19, u20, u21, u22, u23, u24, u25, u26, u27, u28, u29, u30, u31, u32, u33, u34, u35, u36, u37, u38, u39, u40, u41, u42, u43, u44, u45, u46, u47, u48, u49, u50, u51, u52, u53, u54, u55, u56, u57, u58, u59, u60, u61, u62, u63, u64, u65, u66, u67, u68, u69, u70, u71, u72, u73, u74, u75, u76, u77, u78, u79, u80, u81, u82, u83, u84, u85, u86, u87, u88, u89, u90, u91, u92, u93, u94, u95, u96, u97, u98, u99, u100, u101, u102, u103, u104, u105, u106, u107, u108, u109, u110, u111, u112, u113, u114, u115, u116, u117, u118, u119, u120, u121, u122, u123, u124, u125, u126, u127, u128, u129, u130, u131, u132, u133, u134, u135, u136, u137, u138, u139, u140, u141, u142, u143, u144, u145, u146, u147, u148, u149, u150, u151, u152, u153, u154, u155, u156, u157, u158, u159], []⟩ wc := by
  have hZ := HZ.out
  have z0 : wc.cell? ⟨w.heap.size, 0, none⟩ = some (.slice PA L.length c) := by rw [hZ.cell]; rfl
  have z1 : wc.cell? ⟨w.heap.size, 1, none⟩ = some (.int .i64 bud) := by rw [hZ.cell]; rfl
  have z2 : wc.cell? ⟨w.heap.size, 2, none⟩ = some (.int .i64 dep) := by rw [hZ.cell]; rfl
  have z3 : wc.cell? ⟨w.heap.size, 3, none⟩ = some (.int .i64 fn) := by rw [hZ.cell]; rfl
  have z4 : wc.cell? ⟨w.heap.size, 4, none⟩ = some (.int .i64 at_) := by rw [hZ.cell]; rfl
  have z5 : wc.cell? ⟨w.heap.size, 5, none⟩ = some (.int .i64 st) := by rw [hZ.cell]; rfl
  have z6 : wc.cell? ⟨w.heap.size, 6, none⟩ = some (.int .i64 kd) := by rw [hZ.cell]; rfl
  have z7 : wc.cell? ⟨w.heap.size, 7, none⟩ = some (.slice FA path.length fc) := by rw [hZ.cell]; rfl
  have z8 : wc.cell? ⟨w.heap.size, 8, none⟩ = some (.int .i64 r0) := by rw [hZ.cell]; rfl
  have z9 : wc.cell? ⟨w.heap.size, 9, none⟩ = some (.int .i64 r1) := by rw [hZ.cell]; rfl
  have z10 : wc.cell? ⟨w.heap.size, 10, none⟩ = some (.int .i64 r2) := by rw [hZ.cell]; rfl
  have z11 : wc.cell? ⟨w.heap.size, 11, none⟩ = some (.int .i64 r3) := by rw [hZ.cell]; rfl
  have z12 : wc.cell? ⟨w.heap.size, 12, none⟩ = some (.int .i64 r4) := by rw [hZ.cell]; rfl
  have z13 : wc.cell? ⟨w.heap.size, 13, none⟩ = some (.int .i64 r5) := by rw [hZ.cell]; rfl
  have z14 : wc.cell? ⟨w.heap.size, 14, none⟩ = some (.int .i64 r6) := by rw [hZ.cell]; rfl
  have z15 : wc.cell? ⟨w.heap.size, 15, none⟩ = some (.int .i64 r7) := by rw [hZ.cell]; rfl
  have z16 : wc.cell? ⟨w.heap.size, 16, none⟩ = some (.int .i64 q0) := by rw [hZ.cell]; rfl
  have z17 : wc.cell? ⟨w.heap.size, 17, none⟩ = some (.int .i64 q1) := by rw [hZ.cell]; rfl
  have z18 : wc.cell? ⟨w.heap.size, 18, none⟩ = some (.int .i64 q2) := by rw [hZ.cell]; rfl
  have z19 : wc.cell? ⟨w.heap.size, 19, none⟩ = some (.int .i64 q3) := by rw [hZ.cell]; rfl
  clear hZ HZ
  conv => arg 2; whnf
  go_wp2_with fail
  refine HAL.out.mono ?_
  rintro e w5 ⟨rfl, hF5⟩
  have HW5 := Lib.hid (HW.out.trans hF5)
  clear HAL hF5
  go_wp2_with fail
  refine (HAW.out _ HW5.out).mono ?_
  rintro e w6 ⟨rfl, hF6⟩
  go_wp2_with fail
  go_ret
  exact ⟨rfl, HW5.out.trans hF6⟩

set_option maxHeartbeats 64000000 in
set_option maxRecDepth 100000 in
theorem fcno_any (w wc : World) (F E : Nat) (PA : Option Addr) (L : List LFn) (c : Nat) (bud dep fn at_ st kd : Int) (FA : Option Addr) (path : List Int) (fc : Nat) (r0 r1 r2 r3 r4 r5 r6 r7 q0 q1 q2 q3 : Int) (hb : bud ≤ st) (e0 : wc.cell? ⟨E, 0, none⟩ = some (.int .i64 8)) (e5 : wc.cell? ⟨E, 5, none⟩ = some (.int .i64 3))
    (HZ : Hid (Blk wc w.heap.size 29 #[.slice PA L.length c, .int .i64 bud, .int .i64 dep, .int .i64 fn, .int .i64 at_, .int .i64 st, .int .i64 kd, .slice FA path.length fc, .int .i64 r0, .int .i64 r1, .int .i64 r2, .int .i64 r3, .int .i64 r4, .int .i64 r5, .int .i64 r6, .int .i64 r7, .int .i64 q0, .int .i64 q1, .int .i64 q2, .int .i64 q3])) (HW : Hid (Fr None' w wc)) (HAW : Hid (∀ W, Fr None' w W → Calls Tryd.prog 16 #[] W fun e w' => e = .returned (.bool true) ∧ Fr None' W w'))
    (HAL : Hid (Calls Tryd.prog 15 #[.pointer (some ⟨F, 0, none⟩), .agg #[.int .i64 fn, .int .i64 at_, .int .i64 st, .int .i64 kd, .slice FA path.length fc, .int .i64 r0, .int .i64 r1, .int .i64 r2, .int .i64 r3, .int .i64 r4, .int .i64 r5, .int .i64 r6, .int .i64 r7, .int .i64 q0, .int .i64 q1, .int .i64 q2, .int .i64 q3]] wc fun e w' => e = .returned (.bool true) ∧ Fr None' wc w'))
    (u0 u2 u6 u7 u8 u9 u10 u11 u12 u13 u14 u15 u16 u17 u18 u19 u20 u21 u22 u23 u24 u25 u26 u27 u28 u29 u30 u31 u32 u33 u34 u35 u36 u37 u38 u39 u40 u41 u42 u43 u44 u45 u46 u47 u48 u49 u50 u51 u52 u53 u54 u55 u56 u57 u58 u59 u60 u61 u62 u63 u64 u65 u66 u67 u68 u69 u70 u71 u72 u73 u74 u75 u76 u77 u78 u79 u80 u81 u82 u83 u84 u85 u86 u87 u88 u89 u90 u91 u92 u93 u94 u95 u96 u97 u98 u99 u100 u101 u102 u103 u104 u105 u106 u107 u108 u109 u110 u111 u112 u113 u114 u115 u116 u117 u118 u119 u120 u121 u122 u123 u124 u125 u126 u127 u128 u129 u130 u131 u132 u133 u134 u135 u136 u137 u138 u139 u140 u141 u142 u143 u144 u145 u146 u147 u148 u149 u150 u151 u152 u153 u154 u155 u156 u157 u158 u159 : Value) :
    Code.wp Tryd.prog rest4c (bodyPost Tryd.prog Tryd.f6 fun e w' => e = .returned (.bool true) ∧ Fr None' w w') ⟨#[u0, .pointer (some ⟨w.heap.size, 0, none⟩), u2, .pointer (some ⟨F, 0, none⟩), .pointer (some ⟨E, 0, none⟩), .int .i64 0, u6, u7, u8, u9, u10, u11, u12, u13, u14, u15, u16, u17, u18, u19, u20, u21, u22, u23, u24, u25, u26, u27, u28, u29, u30, u31, u32, u33, u34, u35, u36, u37, u38, u39, u40, u41, u42, u43, u44, u45, u46, u47, u48, u49, u50, u51, u52, u53, u54, u55, u56, u57, u58, u59, u60, u61, u62, u63, u64, u65, u66, u67, u68, u69, u70, u71, u72, u73, u74, u75, u76, u77, u78, u79, u80, u81, u82, u83, u84, u85, u86, u87, u88, u89, u90, u91, u92, u93, u94, u95, u96, u97, u98, u99, u100, u101, u102, u103, u104, u105, u106, u107, u108, u109, u110, u111, u112, u113, u114, u115, u116, u117, u118, u119, u120, u121, u122, u123, u124, u125, u126, u127, u128, u129, u130, u131, u132, u133, u134, u135, u136, u137, u138, u139, u140, u141, u142, u143, u144, u145, u146, u147, u148, u149, u150, u151, u152, u153, u154, u155, u156, u157, u158, u159], []⟩ wc := by
  have hZ := HZ.out
  have z0 : wc.cell? ⟨w.heap.size, 0, none⟩ = some (.slice PA L.length c) := by rw [hZ.cell]; rfl
  have z1 : wc.cell? ⟨w.heap.size, 1, none⟩ = some (.int .i64 bud) := by rw [hZ.cell]; rfl
  have z2 : wc.cell? ⟨w.heap.size, 2, none⟩ = some (.int .i64 dep) := by rw [hZ.cell]; rfl
  have z3 : wc.cell? ⟨w.heap.size, 3, none⟩ = some (.int .i64 fn) := by rw [hZ.cell]; rfl
  have z4 : wc.cell? ⟨w.heap.size, 4, none⟩ = some (.int .i64 at_) := by rw [hZ.cell]; rfl
  have z5 : wc.cell? ⟨w.heap.size, 5, none⟩ = some (.int .i64 st) := by rw [hZ.cell]; rfl
  have z6 : wc.cell? ⟨w.heap.size, 6, none⟩ = some (.int .i64 kd) := by rw [hZ.cell]; rfl
  have z7 : wc.cell? ⟨w.heap.size, 7, none⟩ = some (.slice FA path.length fc) := by rw [hZ.cell]; rfl
  have z8 : wc.cell? ⟨w.heap.size, 8, none⟩ = some (.int .i64 r0) := by rw [hZ.cell]; rfl
  have z9 : wc.cell? ⟨w.heap.size, 9, none⟩ = some (.int .i64 r1) := by rw [hZ.cell]; rfl
  have z10 : wc.cell? ⟨w.heap.size, 10, none⟩ = some (.int .i64 r2) := by rw [hZ.cell]; rfl
  have z11 : wc.cell? ⟨w.heap.size, 11, none⟩ = some (.int .i64 r3) := by rw [hZ.cell]; rfl
  have z12 : wc.cell? ⟨w.heap.size, 12, none⟩ = some (.int .i64 r4) := by rw [hZ.cell]; rfl
  have z13 : wc.cell? ⟨w.heap.size, 13, none⟩ = some (.int .i64 r5) := by rw [hZ.cell]; rfl
  have z14 : wc.cell? ⟨w.heap.size, 14, none⟩ = some (.int .i64 r6) := by rw [hZ.cell]; rfl
  have z15 : wc.cell? ⟨w.heap.size, 15, none⟩ = some (.int .i64 r7) := by rw [hZ.cell]; rfl
  have z16 : wc.cell? ⟨w.heap.size, 16, none⟩ = some (.int .i64 q0) := by rw [hZ.cell]; rfl
  have z17 : wc.cell? ⟨w.heap.size, 17, none⟩ = some (.int .i64 q1) := by rw [hZ.cell]; rfl
  have z18 : wc.cell? ⟨w.heap.size, 18, none⟩ = some (.int .i64 q2) := by rw [hZ.cell]; rfl
  have z19 : wc.cell? ⟨w.heap.size, 19, none⟩ = some (.int .i64 q3) := by rw [hZ.cell]; rfl
  clear hZ HZ
  have c3 : decide (bud ≤ st) = true := decide_eq_true hb
  conv => arg 2; whnf
  go_wp2_with fail
  refine HAL.out.mono ?_
  rintro e w5 ⟨rfl, hF5⟩
  have HW5 := Lib.hid (HW.out.trans hF5)
  clear HAL hF5
  go_wp2_with fail
  refine (HAW.out _ HW5.out).mono ?_
  rintro e w6 ⟨rfl, hF6⟩
  go_wp2_with fail
  go_ret
  exact ⟨rfl, HW5.out.trans hF6⟩
end Go.Proofs.YtadcenaafoemmaaDoor
