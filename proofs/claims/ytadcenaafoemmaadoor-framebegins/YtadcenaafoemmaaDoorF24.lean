/-
  Two arrays of the same numbers are equal. No condition.
-/
import Derived.Test.YtadcenaafoemmaaDoorF23
import Derived.Laws.StructEq
import Derived.Test.YtadcenaafoemmaaDoorCmpR
namespace Go.Proofs.YtadcenaafoemmaaDoor
open Go.RowKit

theorem part_i64 (W : World) (xs : Array Value) (i : Nat) (a : Int) (h : xs[i]? = some (.int .i64 a)) : (part 2 xs i).run Tryd.prog W = .ok (.int .i64 a) W := by
  have hu := Tryd.underlying2
  simp [part, isAgg, run_underlying hu, h, Sem.run_bind, sizeOf, typeInfo]
theorem part_int (W : World) (xs : Array Value) (i : Nat) (a : Int) (h : xs[i]? = some (.int .i64 a)) : (part 3 xs i).run Tryd.prog W = .ok (.int .i64 a) W := by
  have hu := Tryd.underlying3
  simp [part, isAgg, run_underlying hu, h, Sem.run_bind, sizeOf, typeInfo]
theorem eq_i64 (W : World) (d : Nat) (a : Int) : (Op.equalIn (d + 1) 2 (.int .i64 a) (.int .i64 a)).run Tryd.prog W = .ok true W := by
  rw [run_equalIn_int W d 2 .i64 .i64 a a Tryd.underlying2]; simp
theorem eq_int (W : World) (d : Nat) (a : Int) : (Op.equalIn (d + 1) 3 (.int .i64 a) (.int .i64 a)).run Tryd.prog W = .ok true W := by
  rw [run_equalIn_int W d 3 .i64 .i64 a a Tryd.underlying3]; simp
theorem size_i64 (W : World) : (sizeOf 2).run Tryd.prog W = .ok 1 W := by kernel_rfl
theorem size_int (W : World) : (sizeOf 3).run Tryd.prog W = .ok 1 W := by kernel_rfl
theorem eqd8 (W : World) (d : Nat) (r0 r1 r2 r3 r4 r5 r6 r7 : Int) : (Op.equalIn (d + 2) 24 (.agg #[.int .i64 r0, .int .i64 r1, .int .i64 r2, .int .i64 r3, .int .i64 r4, .int .i64 r5, .int .i64 r6, .int .i64 r7]) (.agg #[.int .i64 r0, .int .i64 r1, .int .i64 r2, .int .i64 r3, .int .i64 r4, .int .i64 r5, .int .i64 r6, .int .i64 r7])).run Tryd.prog W = .ok true W := by
  have hu := Tryd.underlying24
  unfold Op.equalIn
  simp only [Sem.run_bind, run_underlying hu, Result.andThen_ok, size_i64]
  simp [Std.Legacy.Range.forIn_eq_forIn_range', List.range', Sem.run_bind, part_i64, eq_i64]
theorem eq8 (W : World) (r0 r1 r2 r3 r4 r5 r6 r7 : Int) : (binOp .eql 24 (.agg #[.int .i64 r0, .int .i64 r1, .int .i64 r2, .int .i64 r3, .int .i64 r4, .int .i64 r5, .int .i64 r6, .int .i64 r7]) (.agg #[.int .i64 r0, .int .i64 r1, .int .i64 r2, .int .i64 r3, .int .i64 r4, .int .i64 r5, .int .i64 r6, .int .i64 r7])).run Tryd.prog W = .ok (.bool true) W := by
  rw [run_eql_struct, eqd8 W 9998]; rfl
theorem eqd4 (W : World) (d : Nat) (r0 r1 r2 r3 : Int) : (Op.equalIn (d + 2) 25 (.agg #[.int .i64 r0, .int .i64 r1, .int .i64 r2, .int .i64 r3]) (.agg #[.int .i64 r0, .int .i64 r1, .int .i64 r2, .int .i64 r3])).run Tryd.prog W = .ok true W := by
  have hu := Tryd.underlying25
  unfold Op.equalIn
  simp only [Sem.run_bind, run_underlying hu, Result.andThen_ok, size_int]
  simp [Std.Legacy.Range.forIn_eq_forIn_range', List.range', Sem.run_bind, part_int, eq_int]
theorem eq4 (W : World) (r0 r1 r2 r3 : Int) : (binOp .eql 25 (.agg #[.int .i64 r0, .int .i64 r1, .int .i64 r2, .int .i64 r3]) (.agg #[.int .i64 r0, .int .i64 r1, .int .i64 r2, .int .i64 r3])).run Tryd.prog W = .ok (.bool true) W := by
  rw [run_eql_struct, eqd4 W 9998]; rfl
end Go.Proofs.YtadcenaafoemmaaDoor

/-
  The laws' alike tells that a frame is as the document's; their numbers that two rows of the same numbers are alike. No condition.
-/
namespace Go.Proofs.YtadcenaafoemmaaDoor
open Go.RowKit

theorem IntsA.ints {w : World} {A : Option Addr} {xs : List Int} (h : IntsA w A xs) : Ints w A xs.length xs := ⟨rfl, h⟩
theorem IntsA.fr {w w' : World} {A : Option Addr} {xs : List Int} (h : IntsA w A xs) (hF : Fr None' w w') : IntsA w' A xs := fun h0 => by
  obtain ⟨b, off, e, hc⟩ := h h0
  exact ⟨b, off, e, fun j x hx => hF.held (hc j x hx) (fun h => h)⟩

set_option maxHeartbeats 16000000 in
set_option maxRecDepth 100000 in
theorem alike_same (w : World) (F : Nat) (f : FR) (hf : FrameAt w F f) (B : Option Addr) (d : Nat) (hB : IntsA w B f.path) (h1000 : f.path.length ≤ 1000) :
    Calls Tryd.prog 15 #[.pointer (some ⟨F, 0, none⟩), .agg (frL f.fn f.at_ f.steps f.kids (.slice B f.path.length d) f.regs f.hands).toArray] w fun e w' => e = .returned (.bool true) ∧ Fr None' w w' := by
  obtain ⟨fn, at_, st, kd, path, regs, hands⟩ := f
  obtain ⟨⟨P, pc, hb, hp, hpc, hN⟩, h8, h4, hlo⟩ := hf
  simp only at hb hp hpc hN h8 h4 hlo hB h1000 ⊢
  match regs, h8 with
  | [r0, r1, r2, r3, r4, r5, r6, r7], _ =>
    match hands, h4 with
    | [q0, q1, q2, q3], _ =>
      have HP := Lib.hid hp.a.ints
      have HB := Lib.hid hB.ints
      have HBK := Lib.hid hb
      clear hb hp hpc hN hlo hB h8 h4
      go_enter Tryd.func15, Tryd.ntmps15
      go_upto_region 1 with (fail)
      generalize hW : w.alloc (.cells _ 27) = W
      have hF : Fr None' w W := by rw [← hW]; exact (Fr.refl _ _).alloc _
      have hD : Blk W w.heap.size 27 (frL fn at_ st kd (.slice B path.length d) [r0, r1, r2, r3, r4, r5, r6, r7] [q0, q1, q2, q3]).toArray := by rw [← hW]; exact Blk.new _ _ _
      have hE := HBK.out.fr hF (fun h => h)
      have HCM : Hid (∀ n, Calls Tryd.prog 23 #[.slice P path.length pc, .slice B path.length d] (W.drewN n) fun e w' => e = .returned (.int .i64 0) ∧ ∃ m, w' = W.drewN m) := Lib.hid (fun n => by
        have h := rcmp_any (W.drewN n) P pc path path.length (HP.out.fr (hF.drewN n)) B d path path.length (HB.out.fr (hF.drewN n)) h1000 h1000
        rw [cmpL_self] at h
        refine h.mono ?_
        rintro e w' ⟨rfl, m, rfl⟩
        exact ⟨rfl, n + m, by rw [World.drewN_drewN]⟩)
      have HF := Lib.hid hF
      have f0 : W.cell? ⟨F, 0, none⟩ = some (.int .i64 fn) := by rw [hE.cell]; rfl
      have d0 : W.cell? ⟨w.heap.size, 0, none⟩ = some (.int .i64 fn) := by rw [hD.cell]; rfl
      have f1 : W.cell? ⟨F, 1, none⟩ = some (.int .i64 at_) := by rw [hE.cell]; rfl
      have d1 : W.cell? ⟨w.heap.size, 1, none⟩ = some (.int .i64 at_) := by rw [hD.cell]; rfl
      have f2 : W.cell? ⟨F, 2, none⟩ = some (.int .i64 st) := by rw [hE.cell]; rfl
      have d2 : W.cell? ⟨w.heap.size, 2, none⟩ = some (.int .i64 st) := by rw [hD.cell]; rfl
      have f3 : W.cell? ⟨F, 3, none⟩ = some (.int .i64 kd) := by rw [hE.cell]; rfl
      have d3 : W.cell? ⟨w.heap.size, 3, none⟩ = some (.int .i64 kd) := by rw [hD.cell]; rfl
      have f4 : W.cell? ⟨F, 4, none⟩ = some (.slice P path.length pc) := by rw [hE.cell]; rfl
      have d4 : W.cell? ⟨w.heap.size, 4, none⟩ = some (.slice B path.length d) := by rw [hD.cell]; rfl
      have f5 : W.cell? ⟨F, 5, none⟩ = some (.int .i64 r0) := by rw [hE.cell]; rfl
      have d5 : W.cell? ⟨w.heap.size, 5, none⟩ = some (.int .i64 r0) := by rw [hD.cell]; rfl
      have f6 : W.cell? ⟨F, 6, none⟩ = some (.int .i64 r1) := by rw [hE.cell]; rfl
      have d6 : W.cell? ⟨w.heap.size, 6, none⟩ = some (.int .i64 r1) := by rw [hD.cell]; rfl
      have f7 : W.cell? ⟨F, 7, none⟩ = some (.int .i64 r2) := by rw [hE.cell]; rfl
      have d7 : W.cell? ⟨w.heap.size, 7, none⟩ = some (.int .i64 r2) := by rw [hD.cell]; rfl
      have f8 : W.cell? ⟨F, 8, none⟩ = some (.int .i64 r3) := by rw [hE.cell]; rfl
      have d8 : W.cell? ⟨w.heap.size, 8, none⟩ = some (.int .i64 r3) := by rw [hD.cell]; rfl
      have f9 : W.cell? ⟨F, 9, none⟩ = some (.int .i64 r4) := by rw [hE.cell]; rfl
      have d9 : W.cell? ⟨w.heap.size, 9, none⟩ = some (.int .i64 r4) := by rw [hD.cell]; rfl
      have f10 : W.cell? ⟨F, 10, none⟩ = some (.int .i64 r5) := by rw [hE.cell]; rfl
      have d10 : W.cell? ⟨w.heap.size, 10, none⟩ = some (.int .i64 r5) := by rw [hD.cell]; rfl
      have f11 : W.cell? ⟨F, 11, none⟩ = some (.int .i64 r6) := by rw [hE.cell]; rfl
      have d11 : W.cell? ⟨w.heap.size, 11, none⟩ = some (.int .i64 r6) := by rw [hD.cell]; rfl
      have f12 : W.cell? ⟨F, 12, none⟩ = some (.int .i64 r7) := by rw [hE.cell]; rfl
      have d12 : W.cell? ⟨w.heap.size, 12, none⟩ = some (.int .i64 r7) := by rw [hD.cell]; rfl
      have f13 : W.cell? ⟨F, 13, none⟩ = some (.int .i64 q0) := by rw [hE.cell]; rfl
      have d13 : W.cell? ⟨w.heap.size, 13, none⟩ = some (.int .i64 q0) := by rw [hD.cell]; rfl
      have f14 : W.cell? ⟨F, 14, none⟩ = some (.int .i64 q1) := by rw [hE.cell]; rfl
      have d14 : W.cell? ⟨w.heap.size, 14, none⟩ = some (.int .i64 q1) := by rw [hD.cell]; rfl
      have f15 : W.cell? ⟨F, 15, none⟩ = some (.int .i64 q2) := by rw [hE.cell]; rfl
      have d15 : W.cell? ⟨w.heap.size, 15, none⟩ = some (.int .i64 q2) := by rw [hD.cell]; rfl
      have f16 : W.cell? ⟨F, 16, none⟩ = some (.int .i64 q3) := by rw [hE.cell]; rfl
      have d16 : W.cell? ⟨w.heap.size, 16, none⟩ = some (.int .i64 q3) := by rw [hD.cell]; rfl
      clear hW hF hD hE HP HB HBK
      have hq8 := fun W' => eq8 W' r0 r1 r2 r3 r4 r5 r6 r7
      have hq4 := fun W' => eq4 W' q0 q1 q2 q3
      go_quiet ((exact HCM.out _))
      clear hq8 hq4
      go_wp2_with fail
      go_ret
      exact ⟨rfl, HF.out.drewN _⟩

set_option maxHeartbeats 4000000 in
theorem numbers_same (w : World) (A B : Option Addr) (c d : Nat) (xs : List Int) (n : Nat) (hn : xs.length = n) (hA : IntsA w A xs) (hB : IntsA w B xs) (hl : n ≤ 9223372036854775807) :
    Calls Tryd.prog 24 #[.slice A n c, .slice B n d] w fun e w' => e = .returned (.bool true) ∧ ∃ q, w' = w.drewN q := by
  have HA := Lib.hid hA
  have HB := Lib.hid hB
  have q0 : ((n : Int) != (n : Int)) = false := by simp
  clear hA hB
  go_enter Tryd.func24, Tryd.ntmps24
  go_wp2_with fail
  go_loopw [5] (fun i wx => ∃ k : Nat, k ≤ n ∧ i = .int .i64 k ∧ ∃ q, wx = w.drewN q) (fun i _ => n - (intOf i).toNat)
  case atStart => exact ⟨0, by omega, rfl, 0, rfl⟩
  case round =>
    obtain ⟨k, hk, rfl, q, rfl⟩ := hrel
    by_cases hkn : k < n
    · obtain ⟨x, hx⟩ : ∃ x, xs[k]? = some x := ⟨_, List.getElem?_eq_getElem (by omega)⟩
      obtain ⟨b, off, rfl, hc⟩ := HA.out (by omega)
      obtain ⟨b', off', rfl, hc'⟩ := HB.out (by omega)
      have c1 := hc k x hx
      have c2 := hc' k x hx
      have hki : (k : Int) < (n : Int) := by omega
      have q1 : (x != x) = false := by simp
      clear hx hc hc' hn
      go_wp2_with fail
      go_quiet (fail)
      go_wp2_with fail
      exact ⟨⟨k + 1, by omega, by go_num, _, by first | exact rfl | rw [World.drewN_drewN]⟩, by simp [intOf]; omega⟩
    · obtain rfl : k = n := by omega
      go_wp2_with fail
      go_ret
      exact ⟨rfl, q, rfl⟩
end Go.Proofs.YtadcenaafoemmaaDoor
