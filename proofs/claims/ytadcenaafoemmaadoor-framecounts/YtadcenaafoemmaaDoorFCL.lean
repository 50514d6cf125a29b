/-
  FrameCounts, where the instruction was done: the registers are looked at, and the rest. No condition.
-/
import Derived.Test.YtadcenaafoemmaaDoorFCN
import Derived.Deep.CutBlock
namespace Go.Proofs.YtadcenaafoemmaaDoor
open Go.RowKit

theorem list8_at {α : Type} (a0 a1 a2 a3 a4 a5 a6 a7 : α) (j : Nat) (hj : j < 8) : ∃ x, [a0, a1, a2, a3, a4, a5, a6, a7][j]? = some x := ⟨_, List.getElem?_eq_getElem hj⟩

set_option maxHeartbeats 64000000 in
set_option maxRecDepth 100000 in
theorem fcls_any (w wc : World) (F E X : Nat) (PA : Option Addr) (L : List LFn) (c : Nat) (bud dep : Int) (fn at_ : Nat) (st kd : Int) (FA : Option Addr) (path : List Int) (fc : Nat) (r0 r1 r2 r3 r4 r5 r6 r7 q0 q1 q2 q3 : Int) (at2 : Int) (P : Option Addr) (pc : Nat) (s0 s1 s2 s3 s4 s5 s6 s7 : Int) (a : Nat) (hst1 : -9223372036854775808 ≤ st) (hst2 : st ≤ 1000000)
    (hrg : ∀ i, i ≠ a → [s0, s1, s2, s3, s4, s5, s6, s7][i]? = [r0, r1, r2, r3, r4, r5, r6, r7][i]?) 
    (HZ : Hid (Blk wc w.heap.size 29 #[.slice PA L.length c, .int .i64 bud, .int .i64 dep, .int .i64 (fn : Int), .int .i64 (at_ : Int), .int .i64 st, .int .i64 kd, .slice FA path.length fc, .int .i64 r0, .int .i64 r1, .int .i64 r2, .int .i64 r3, .int .i64 r4, .int .i64 r5, .int .i64 r6, .int .i64 r7, .int .i64 q0, .int .i64 q1, .int .i64 q2, .int .i64 q3])) (HB : Hid (Blk wc F 95 (frL (fn : Int) at2 (st + 1) kd (.slice P path.length pc) [s0, s1, s2, s3, s4, s5, s6, s7] [q0, q1, q2, q3]).toArray)) (x1 : wc.cell? ⟨X, 1, none⟩ = some (.int .i64 (a : Int)))  (HW : Hid (Fr None' w wc)) (HAW : Hid (∀ W, Fr None' w W → Calls Tryd.prog 16 #[] W fun e w' => e = .returned (.bool true) ∧ Fr None' W w'))
    (u0 u2 u5 u7 u8 u9 u10 u11 u12 u13 u14 u15 u16 u17 u18 u19 u20 u21 u22 u23 u24 u25 u26 u27 u28 u29 u30 u31 u32 u33 u34 u35 u36 u37 u38 u39 u40 u41 u42 u43 u44 u45 u46 u47 u48 u49 u50 u51 u52 u53 u54 u55 u56 u57 u58 u59 u60 u61 u62 u63 u64 u65 u66 u67 u68 u69 u70 u71 u72 u73 u74 u75 u76 u77 u78 u79 u80 u81 u82 u83 u84 u85 u86 u87 u88 u89 u90 u91 u92 u93 u94 u95 u96 u97 u98 u99 u100 u101 u102 u103 u104 u105 u106 u107 u108 u109 u110 u111 u112 u113 u114 u115 u116 u117 u118 u119 u120 u121 u122 u123 u124 u125 u126 u127 u128 u129 u130 u131 u132 u133 u134 u135 u136 u137 u138 u139 u140 u141 u142 u143 u144 u145 u146 u147 u148 u149 u150 u151 u152 u153 u154 u155 u156 u157 u158 u159 : Value) :
    Code.wp Tryd.prog rest7c (bodyPost Tryd.prog Tryd.f6 fun e w' => e = .returned (.bool true) ∧ Fr None' w w') ⟨#[u0, .pointer (some ⟨w.heap.size, 0, none⟩), u2, .pointer (some ⟨F, 0, none⟩), .pointer (some ⟨E, 0, none⟩), u5, .pointer (some ⟨X, 0, none⟩), u7, u8, u9, u10, u11, u12, u13, u14, u15, u16, u17, u18, u19, u20, u21, u22, u23, u24, u25, u26, u27, u28, u29, u30, u31, u32, u33, u34, u35, u36, u37, u38, u39, u40, u41, u42, u43, u44, u45, u46, u47, u48, u49, u50, u51, u52, u53, u54, u55, u56, u57, u58, u59, u60, u61, u62, u63, u64, u65, u66, u67, u68, u69, u70, u71, u72, u73, u74, u75, u76, u77, u78, u79, u80, u81, u82, u83, u84, u85, u86, u87, u88, u89, u90, u91, u92, u93, u94, u95, u96, u97, u98, u99, u100, u101, u102, u103, u104, u105, u106, u107, u108, u109, u110, u111, u112, u113, u114, u115, u116, u117, u118, u119, u120, u121, u122, u123, u124, u125, u126, u127, u128, u129, u130, u131, u132, u133, u134, u135, u136, u137, u138, u139, u140, u141, u142, u143, u144, u145, u146, u147, u148, u149, u150, u151, u152, u153, u154, u155, u156, u157, u158, u159], []⟩ wc := by
  have HX1 := Lib.hid x1

  clear x1
  conv => arg 2; whnf
  go_wp2_with fail
  go_loopw [7] (fun v wx => ∃ k q : Nat, k ≤ 8 ∧ v = .int .i64 k ∧ wx = wc.drewN q) (fun v _ => 8 - (intOf v).toNat)
  case atStart => exact ⟨0, 0, by omega, rfl, rfl⟩
  case round =>
    obtain ⟨k, q, hk, rfl, rfl⟩ := hrel
    by_cases hk8 : k < 8
    · have hki : (k : Int) < 8 := by omega
      have x1 := HX1.out
      by_cases hka : k = a
      · subst hka
        have hb : ((k : Int) != (k : Int)) = false := by simp
        go_wp2_with fail
        go_quiet (fail)
        go_wp2_with fail
        exact ⟨⟨k + 1, _, by omega, by go_num, by first | exact rfl | rw [World.drewN_drewN]⟩, by simp [intOf]; omega⟩
      · have hb : ((k : Int) != (a : Int)) = true := by simp; omega
        obtain ⟨x, hx⟩ := list8_at r0 r1 r2 r3 r4 r5 r6 r7 k hk8
        have hs := (hrg k hka).trans hx
        have f1 : wc.cell? ⟨F, 5 + k, none⟩ = some (.int .i64 x) := by
          rw [HB.out.cell, fr_atK rfl hk8, getD_some hs]
        have z1 : wc.cell? ⟨w.heap.size, 3 + 5 + k, none⟩ = some (.int .i64 x) := by
          rw [HZ.out.cell, show 3 + 5 + k = k + 8 by omega]
          match k, hk8, hx with
          | 0, _, hx => cases hx; rfl
          | 1, _, hx => cases hx; rfl
          | 2, _, hx => cases hx; rfl
          | 3, _, hx => cases hx; rfl
          | 4, _, hx => cases hx; rfl
          | 5, _, hx => cases hx; rfl
          | 6, _, hx => cases hx; rfl
          | 7, _, hx => cases hx; rfl
          | j + 8, h, _ => exact absurd h (by omega)
        have hxx : (x != x) = false := by simp
        clear hs hx
        go_wp2_with fail
        go_quiet (fail)
        go_wp2_with fail
        exact ⟨⟨k + 1, _, by omega, by go_num, by first | exact rfl | rw [World.drewN_drewN]⟩, by simp [intOf]; omega⟩
    · obtain rfl : k = 8 := by omega
      go_upto_region 13 with (fail)
      have hZ : Blk (wc.drewN q) w.heap.size 29 _ := HZ.out.drewN q
      have hB : Blk (wc.drewN q) F 95 _ := HB.out.drewN q
      refine r13s_any w (wc.drewN q) F E (fn : Int) st kd q0 q1 q2 q3 (by rw [hB.cell]; rfl) hst1 hst2 (by rw [hZ.cell]; rfl) (by rw [hZ.cell]; rfl) (by rw [hZ.cell]; rfl) (by rw [hZ.cell]; rfl) (by rw [hZ.cell]; rfl) (by rw [hZ.cell]; rfl) (by rw [hZ.cell]; rfl) (by rw [hB.cell]; rfl) (by rw [hB.cell]; rfl) (by rw [hB.cell]; rfl) (by rw [hB.cell]; rfl) (by rw [hB.cell]; rfl) (by rw [hB.cell]; rfl) (Lib.hid (HW.out.drewN q)) HAW _ _ _ _ _ _ _ _ _ _ _ _ _ _ _ _ _ _ _ _ _ _ _ _ _ _ _ _ _ _ _ _ _ _ _ _ _ _ _ _ _ _ _ _ _ _ _ _ _ _ _ _ _ _ _ _ _ _ _ _ _ _ _ _ _ _ _ _ _ _ _ _ _ _ _ _ _ _ _ _ _ _ _ _ _ _ _ _ _ _ _ _ _ _ _ _ _ _ _ _ _ _ _ _ _ _ _ _ _ _ _ _ _ _ _ _ _ _ _ _ _ _ _ _ _ _ _ _ _ _ _ _ _ _ _ _ _ _ _ _ _ _ _ _ _ _ _ _ _ _ _ _ _ _ _ _ _ _ (fun _ _ d _ _ h => by cases d <;> exact h) ?_
      intro wx _ _ _ _ _ _ _ _ _ _ _ _ _ _ _ _ _ _ _ _ _ _ _ _ _ _ _ _ _ _ _ _ _ _ _ _ _ _ _ _ _ _ _ _ _ _ _ _ _ _ _ _ _ _ _ _ _ _ _ _ _ _ _ hFx
      go_wp2_with fail
      go_ret
      exact ⟨rfl, hFx⟩

set_option maxHeartbeats 64000000 in
set_option maxRecDepth 100000 in
theorem fclb_any (w wc : World) (F E X : Nat) (PA : Option Addr) (L : List LFn) (c : Nat) (bud dep : Int) (fn at_ : Nat) (st kd : Int) (FA : Option Addr) (path : List Int) (fc : Nat) (r0 r1 r2 r3 r4 r5 r6 r7 q0 q1 q2 q3 : Int) (at2 kd2 : Int) (P : Option Addr) (pc : Nat) (s0 s1 s2 s3 s4 s5 s6 s7 : Int) (a : Nat) (hst1 : -9223372036854775808 ≤ st) (hst2 : st ≤ 1000000)
    (hrg : ∀ i, i ≠ a → [s0, s1, s2, s3, s4, s5, s6, s7][i]? = [r0, r1, r2, r3, r4, r5, r6, r7][i]?) (hk2 : kd2 = wrap64 (kd + 1)) (hne : kd2 ≠ kd) 
    (HZ : Hid (Blk wc w.heap.size 29 #[.slice PA L.length c, .int .i64 bud, .int .i64 dep, .int .i64 (fn : Int), .int .i64 (at_ : Int), .int .i64 st, .int .i64 kd, .slice FA path.length fc, .int .i64 r0, .int .i64 r1, .int .i64 r2, .int .i64 r3, .int .i64 r4, .int .i64 r5, .int .i64 r6, .int .i64 r7, .int .i64 q0, .int .i64 q1, .int .i64 q2, .int .i64 q3])) (HB : Hid (Blk wc F 95 (frL (fn : Int) at2 (st + 1) kd2 (.slice P path.length pc) [s0, s1, s2, s3, s4, s5, s6, s7] [q0, q1, q2, q3]).toArray)) (x1 : wc.cell? ⟨X, 1, none⟩ = some (.int .i64 (a : Int))) (e0 : wc.cell? ⟨E, 0, none⟩ = some (.int .i64 3)) (HW : Hid (Fr None' w wc)) (HAW : Hid (∀ W, Fr None' w W → Calls Tryd.prog 16 #[] W fun e w' => e = .returned (.bool true) ∧ Fr None' W w'))
    (u0 u2 u5 u7 u8 u9 u10 u11 u12 u13 u14 u15 u16 u17 u18 u19 u20 u21 u22 u23 u24 u25 u26 u27 u28 u29 u30 u31 u32 u33 u34 u35 u36 u37 u38 u39 u40 u41 u42 u43 u44 u45 u46 u47 u48 u49 u50 u51 u52 u53 u54 u55 u56 u57 u58 u59 u60 u61 u62 u63 u64 u65 u66 u67 u68 u69 u70 u71 u72 u73 u74 u75 u76 u77 u78 u79 u80 u81 u82 u83 u84 u85 u86 u87 u88 u89 u90 u91 u92 u93 u94 u95 u96 u97 u98 u99 u100 u101 u102 u103 u104 u105 u106 u107 u108 u109 u110 u111 u112 u113 u114 u115 u116 u117 u118 u119 u120 u121 u122 u123 u124 u125 u126 u127 u128 u129 u130 u131 u132 u133 u134 u135 u136 u137 u138 u139 u140 u141 u142 u143 u144 u145 u146 u147 u148 u149 u150 u151 u152 u153 u154 u155 u156 u157 u158 u159 : Value) :
    Code.wp Tryd.prog rest7c (bodyPost Tryd.prog Tryd.f6 fun e w' => e = .returned (.bool true) ∧ Fr None' w w') ⟨#[u0, .pointer (some ⟨w.heap.size, 0, none⟩), u2, .pointer (some ⟨F, 0, none⟩), .pointer (some ⟨E, 0, none⟩), u5, .pointer (some ⟨X, 0, none⟩), u7, u8, u9, u10, u11, u12, u13, u14, u15, u16, u17, u18, u19, u20, u21, u22, u23, u24, u25, u26, u27, u28, u29, u30, u31, u32, u33, u34, u35, u36, u37, u38, u39, u40, u41, u42, u43, u44, u45, u46, u47, u48, u49, u50, u51, u52, u53, u54, u55, u56, u57, u58, u59, u60, u61, u62, u63, u64, u65, u66, u67, u68, u69, u70, u71, u72, u73, u74, u75, u76, u77, u78, u79, u80, u81, u82, u83, u84, u85, u86, u87, u88, u89, u90, u91, u92, u93, u94, u95, u96, u97, u98, u99, u100, u101, u102, u103, u104, u105, u106, u107, u108, u109, u110, u111, u112, u113, u114, u115, u116, u117, u118, u119, u120, u121, u122, u123, u124, u125, u126, u127, u128, u129, u130, u131, u132, u133, u134, u135, u136, u137, u138, u139, u140, u141, u142, u143, u144, u145, u146, u147, u148, u149, u150, u151, u152, u153, u154, u155, u156, u157, u158, u159], []⟩ wc := by
  have HX1 := Lib.hid x1
  have HE0 := Lib.hid e0
  clear x1 e0
  conv => arg 2; whnf
  go_wp2_with fail
  go_loopw [7] (fun v wx => ∃ k q : Nat, k ≤ 8 ∧ v = .int .i64 k ∧ wx = wc.drewN q) (fun v _ => 8 - (intOf v).toNat)
  case atStart => exact ⟨0, 0, by omega, rfl, rfl⟩
  case round =>
    obtain ⟨k, q, hk, rfl, rfl⟩ := hrel
    by_cases hk8 : k < 8
    · have hki : (k : Int) < 8 := by omega
      have x1 := HX1.out
      by_cases hka : k = a
      · subst hka
        have hb : ((k : Int) != (k : Int)) = false := by simp
        go_wp2_with fail
        go_quiet (fail)
        go_wp2_with fail
        exact ⟨⟨k + 1, _, by omega, by go_num, by first | exact rfl | rw [World.drewN_drewN]⟩, by simp [intOf]; omega⟩
      · have hb : ((k : Int) != (a : Int)) = true := by simp; omega
        obtain ⟨x, hx⟩ := list8_at r0 r1 r2 r3 r4 r5 r6 r7 k hk8
        have hs := (hrg k hka).trans hx
        have f1 : wc.cell? ⟨F, 5 + k, none⟩ = some (.int .i64 x) := by
          rw [HB.out.cell, fr_atK rfl hk8, getD_some hs]
        have z1 : wc.cell? ⟨w.heap.size, 3 + 5 + k, none⟩ = some (.int .i64 x) := by
          rw [HZ.out.cell, show 3 + 5 + k = k + 8 by omega]
          match k, hk8, hx with
          | 0, _, hx => cases hx; rfl
          | 1, _, hx => cases hx; rfl
          | 2, _, hx => cases hx; rfl
          | 3, _, hx => cases hx; rfl
          | 4, _, hx => cases hx; rfl
          | 5, _, hx => cases hx; rfl
          | 6, _, hx => cases hx; rfl
          | 7, _, hx => cases hx; rfl
          | j + 8, h, _ => exact absurd h (by omega)
        have hxx : (x != x) = false := by simp
        clear hs hx
        go_wp2_with fail
        go_quiet (fail)
        go_wp2_with fail
        exact ⟨⟨k + 1, _, by omega, by go_num, by first | exact rfl | rw [World.drewN_drewN]⟩, by simp [intOf]; omega⟩
    · obtain rfl : k = 8 := by omega
      go_upto_region 13 with (fail)
      have hZ : Blk (wc.drewN q) w.heap.size 29 _ := HZ.out.drewN q
      have hB : Blk (wc.drewN q) F 95 _ := HB.out.drewN q
      refine r13b_any w (wc.drewN q) F E (fn : Int) st kd q0 q1 q2 q3 kd2 (by rw [hB.cell]; rfl) hk2 hne HE0.out hst1 hst2 (by rw [hZ.cell]; rfl) (by rw [hZ.cell]; rfl) (by rw [hZ.cell]; rfl) (by rw [hZ.cell]; rfl) (by rw [hZ.cell]; rfl) (by rw [hZ.cell]; rfl) (by rw [hZ.cell]; rfl) (by rw [hB.cell]; rfl) (by rw [hB.cell]; rfl) (by rw [hB.cell]; rfl) (by rw [hB.cell]; rfl) (by rw [hB.cell]; rfl) (by rw [hB.cell]; rfl) (Lib.hid (HW.out.drewN q)) HAW _ _ _ _ _ _ _ _ _ _ _ _ _ _ _ _ _ _ _ _ _ _ _ _ _ _ _ _ _ _ _ _ _ _ _ _ _ _ _ _ _ _ _ _ _ _ _ _ _ _ _ _ _ _ _ _ _ _ _ _ _ _ _ _ _ _ _ _ _ _ _ _ _ _ _ _ _ _ _ _ _ _ _ _ _ _ _ _ _ _ _ _ _ _ _ _ _ _ _ _ _ _ _ _ _ _ _ _ _ _ _ _ _ _ _ _ _ _ _ _ _ _ _ _ _ _ _ _ _ _ _ _ _ _ _ _ _ _ _ _ _ _ _ _ _ _ _ _ _ _ _ _ _ _ _ _ _ _ (fun _ _ d _ _ h => by cases d <;> exact h) ?_
      intro wx _ _ _ _ _ _ _ _ _ _ _ _ _ _ _ _ _ _ _ _ _ _ _ _ _ _ _ _ _ _ _ _ _ _ _ _ _ _ _ _ _ _ _ _ _ _ _ _ _ _ _ _ _ _ _ _ _ _ _ _ _ _ _ hFx
      go_wp2_with fail
      go_ret
      exact ⟨rfl, hFx⟩

set_option maxHeartbeats 64000000 in
set_option maxRecDepth 100000 in
theorem fclf_any (w wc : World) (F E X : Nat) (PA : Option Addr) (L : List LFn) (c : Nat) (bud dep : Int) (fn at_ : Nat) (st kd : Int) (FA : Option Addr) (path : List Int) (fc : Nat) (r0 r1 r2 r3 r4 r5 r6 r7 q0 q1 q2 q3 : Int) (at2 kd2 : Int) (P : Option Addr) (pc : Nat) (s0 s1 s2 s3 s4 s5 s6 s7 : Int) (a : Nat) (hst1 : -9223372036854775808 ≤ st) (hst2 : st ≤ 1000000)
    (hrg : ∀ i, i ≠ a → [s0, s1, s2, s3, s4, s5, s6, s7][i]? = [r0, r1, r2, r3, r4, r5, r6, r7][i]?) (hk2 : kd2 = wrap64 (kd + 1)) (hne : kd2 ≠ kd) 
    (HZ : Hid (Blk wc w.heap.size 29 #[.slice PA L.length c, .int .i64 bud, .int .i64 dep, .int .i64 (fn : Int), .int .i64 (at_ : Int), .int .i64 st, .int .i64 kd, .slice FA path.length fc, .int .i64 r0, .int .i64 r1, .int .i64 r2, .int .i64 r3, .int .i64 r4, .int .i64 r5, .int .i64 r6, .int .i64 r7, .int .i64 q0, .int .i64 q1, .int .i64 q2, .int .i64 q3])) (HB : Hid (Blk wc F 95 (frL (fn : Int) at2 (st + 1) kd2 (.slice P path.length pc) [s0, s1, s2, s3, s4, s5, s6, s7] [q0, q1, q2, q3]).toArray)) (x1 : wc.cell? ⟨X, 1, none⟩ = some (.int .i64 (a : Int))) (e0 : wc.cell? ⟨E, 0, none⟩ = some (.int .i64 4)) (HW : Hid (Fr None' w wc)) (HAW : Hid (∀ W, Fr None' w W → Calls Tryd.prog 16 #[] W fun e w' => e = .returned (.bool true) ∧ Fr None' W w'))
    (u0 u2 u5 u7 u8 u9 u10 u11 u12 u13 u14 u15 u16 u17 u18 u19 u20 u21 u22 u23 u24 u25 u26 u27 u28 u29 u30 u31 u32 u33 u34 u35 u36 u37 u38 u39 u40 u41 u42 u43 u44 u45 u46 u47 u48 u49 u50 u51 u52 u53 u54 u55 u56 u57 u58 u59 u60 u61 u62 u63 u64 u65 u66 u67 u68 u69 u70 u71 u72 u73 u74 u75 u76 u77 u78 u79 u80 u81 u82 u83 u84 u85 u86 u87 u88 u89 u90 u91 u92 u93 u94 u95 u96 u97 u98 u99 u100 u101 u102 u103 u104 u105 u106 u107 u108 u109 u110 u111 u112 u113 u114 u115 u116 u117 u118 u119 u120 u121 u122 u123 u124 u125 u126 u127 u128 u129 u130 u131 u132 u133 u134 u135 u136 u137 u138 u139 u140 u141 u142 u143 u144 u145 u146 u147 u148 u149 u150 u151 u152 u153 u154 u155 u156 u157 u158 u159 : Value) :
    Code.wp Tryd.prog rest7c (bodyPost Tryd.prog Tryd.f6 fun e w' => e = .returned (.bool true) ∧ Fr None' w w') ⟨#[u0, .pointer (some ⟨w.heap.size, 0, none⟩), u2, .pointer (some ⟨F, 0, none⟩), .pointer (some ⟨E, 0, none⟩), u5, .pointer (some ⟨X, 0, none⟩), u7, u8, u9, u10, u11, u12, u13, u14, u15, u16, u17, u18, u19, u20, u21, u22, u23, u24, u25, u26, u27, u28, u29, u30, u31, u32, u33, u34, u35, u36, u37, u38, u39, u40, u41, u42, u43, u44, u45, u46, u47, u48, u49, u50, u51, u52, u53, u54, u55, u56, u57, u58, u59, u60, u61, u62, u63, u64, u65, u66, u67, u68, u69, u70, u71, u72, u73, u74, u75, u76, u77, u78, u79, u80, u81, u82, u83, u84, u85, u86, u87, u88, u89, u90, u91, u92, u93, u94, u95, u96, u97, u98, u99, u100, u101, u102, u103, u104, u105, u106, u107, u108, u109, u110, u111, u112, u113, u114, u115, u116, u117, u118, u119, u120, u121, u122, u123, u124, u125, u126, u127, u128, u129, u130, u131, u132, u133, u134, u135, u136, u137, u138, u139, u140, u141, u142, u143, u144, u145, u146, u147, u148, u149, u150, u151, u152, u153, u154, u155, u156, u157, u158, u159], []⟩ wc := by
  have HX1 := Lib.hid x1
  have HE0 := Lib.hid e0
  clear x1 e0
  conv => arg 2; whnf
  go_wp2_with fail
  go_loopw [7] (fun v wx => ∃ k q : Nat, k ≤ 8 ∧ v = .int .i64 k ∧ wx = wc.drewN q) (fun v _ => 8 - (intOf v).toNat)
  case atStart => exact ⟨0, 0, by omega, rfl, rfl⟩
  case round =>
    obtain ⟨k, q, hk, rfl, rfl⟩ := hrel
    by_cases hk8 : k < 8
    · have hki : (k : Int) < 8 := by omega
      have x1 := HX1.out
      by_cases hka : k = a
      · subst hka
        have hb : ((k : Int) != (k : Int)) = false := by simp
        go_wp2_with fail
        go_quiet (fail)
        go_wp2_with fail
        exact ⟨⟨k + 1, _, by omega, by go_num, by first | exact rfl | rw [World.drewN_drewN]⟩, by simp [intOf]; omega⟩
      · have hb : ((k : Int) != (a : Int)) = true := by simp; omega
        obtain ⟨x, hx⟩ := list8_at r0 r1 r2 r3 r4 r5 r6 r7 k hk8
        have hs := (hrg k hka).trans hx
        have f1 : wc.cell? ⟨F, 5 + k, none⟩ = some (.int .i64 x) := by
          rw [HB.out.cell, fr_atK rfl hk8, getD_some hs]
        have z1 : wc.cell? ⟨w.heap.size, 3 + 5 + k, none⟩ = some (.int .i64 x) := by
          rw [HZ.out.cell, show 3 + 5 + k = k + 8 by omega]
          match k, hk8, hx with
          | 0, _, hx => cases hx; rfl
          | 1, _, hx => cases hx; rfl
          | 2, _, hx => cases hx; rfl
          | 3, _, hx => cases hx; rfl
          | 4, _, hx => cases hx; rfl
          | 5, _, hx => cases hx; rfl
          | 6, _, hx => cases hx; rfl
          | 7, _, hx => cases hx; rfl
          | j + 8, h, _ => exact absurd h (by omega)
        have hxx : (x != x) = false := by simp
        clear hs hx
        go_wp2_with fail
        go_quiet (fail)
        go_wp2_with fail
        exact ⟨⟨k + 1, _, by omega, by go_num, by first | exact rfl | rw [World.drewN_drewN]⟩, by simp [intOf]; omega⟩
    · obtain rfl : k = 8 := by omega
      go_upto_region 13 with (fail)
      have hZ : Blk (wc.drewN q) w.heap.size 29 _ := HZ.out.drewN q
      have hB : Blk (wc.drewN q) F 95 _ := HB.out.drewN q
      refine r13f_any w (wc.drewN q) F E (fn : Int) st kd q0 q1 q2 q3 kd2 (by rw [hB.cell]; rfl) hk2 hne HE0.out hst1 hst2 (by rw [hZ.cell]; rfl) (by rw [hZ.cell]; rfl) (by rw [hZ.cell]; rfl) (by rw [hZ.cell]; rfl) (by rw [hZ.cell]; rfl) (by rw [hZ.cell]; rfl) (by rw [hZ.cell]; rfl) (by rw [hB.cell]; rfl) (by rw [hB.cell]; rfl) (by rw [hB.cell]; rfl) (by rw [hB.cell]; rfl) (by rw [hB.cell]; rfl) (by rw [hB.cell]; rfl) (Lib.hid (HW.out.drewN q)) HAW _ _ _ _ _ _ _ _ _ _ _ _ _ _ _ _ _ _ _ _ _ _ _ _ _ _ _ _ _ _ _ _ _ _ _ _ _ _ _ _ _ _ _ _ _ _ _ _ _ _ _ _ _ _ _ _ _ _ _ _ _ _ _ _ _ _ _ _ _ _ _ _ _ _ _ _ _ _ _ _ _ _ _ _ _ _ _ _ _ _ _ _ _ _ _ _ _ _ _ _ _ _ _ _ _ _ _ _ _ _ _ _ _ _ _ _ _ _ _ _ _ _ _ _ _ _ _ _ _ _ _ _ _ _ _ _ _ _ _ _ _ _ _ _ _ _ _ _ _ _ _ _ _ _ _ _ _ _ (fun _ _ d _ _ h => by cases d <;> exact h) ?_
      intro wx _ _ _ _ _ _ _ _ _ _ _ _ _ _ _ _ _ _ _ _ _ _ _ _ _ _ _ _ _ _ _ _ _ _ _ _ _ _ _ _ _ _ _ _ _ _ _ _ _ _ _ _ _ _ _ _ _ _ _ _ _ _ _ hFx
      go_wp2_with fail
      go_ret
      exact ⟨rfl, hFx⟩
end Go.Proofs.YtadcenaafoemmaaDoor
