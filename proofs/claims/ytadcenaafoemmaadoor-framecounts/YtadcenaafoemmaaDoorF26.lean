/-
  The laws' given: a document's frame as the program's. No condition.
-/
import Derived.Test.YtadcenaafoemmaaDoorFrU
import Derived.Test.YtadcenaafoemmaaDoorApp
namespace Go.Proofs.YtadcenaafoemmaaDoor
open Go.RowKit

theorem step_app {P : Program} {ops : Array Oper} {o : Oper} {a : Act} {w : World} {K : Act → World → Prop} {R : Exit → Act → World → Prop} {E : Prop} (hg : o.guard = none) (s x : Operand) (t : TypeId)
    (ho : o.op = .call { callee := .builtin .append, args := #[s, x], argTypes := #[t, t] })
    (base : Nat) (e : TypeId) (i : TypeInfo) (z : Value) (size bytes : Nat) (ht : P.underlying t = some (.slice e)) (hi : P.info? e = some i) (hz : i.zero = some z)
    (hsize : i.size = size) (hby : i.bytes = bytes) (hzs : z.cells.size = size) (hsz : 0 < size)
    (v : Value) (n : Nat) (xs : List Value) (hs : a.eval s = v) (hown : w.ownsRow base e size v n xs)
    (Q : Nat → Prop) (A : Option Addr) (m c : Nat) (news : List Value) (hx : a.eval x = .slice A m c) (hr : Rd w Q size A m news) (h1 : ∀ u ∈ news, u.oneCell' = true)
    (h63 : n + m ≤ maxLen) (hbytes : (n + m) * bytes ≤ 140737488355328) (hbase : base ≤ w.heap.size)
    (h : ∀ v' w', w'.ownsRow base e size v' (n + m) (xs ++ news) → w.grownBy w' v.ownBlock → (v'.ownBlock = v.ownBlock ∨ v'.ownBlock = some w.heap.size) → K (a.put o.dst v') w') :
    if Region.wanted o (yielded ops a.tmps) = true then Oper.wp P o a w K R else E := by
  have hw : Region.wanted o (yielded ops a.tmps) = true := by simp [Region.wanted, hg]
  rw [if_pos hw]
  exact app_wp w s x t ho base e i z size bytes ht hi hz hsize hby hzs hsz v n xs hs hown Q A m c news hx hr h1 h63 hbytes hbase h
theorem intsA_rd {w : World} {A : Option Addr} {xs : List Int} (h : IntsA w A xs) : Rd w (fun _ => True) 1 A xs.length (ints xs) := ⟨by simp [ints], fun h0 => by
  obtain ⟨b, off, e, hc⟩ := h h0
  refine ⟨b, off, e, trivial, fun j u hu => ?_⟩
  rw [ints, List.getElem?_map] at hu
  obtain ⟨x, hx, rfl⟩ := Option.map_eq_some_iff.1 hu
  exact hc j x hx⟩

set_option maxHeartbeats 16000000 in
set_option maxRecDepth 100000 in
theorem given_f (w : World) (fn at_ st kd : Int) (A : Option Addr) (path : List Int) (c : Nat) (r0 r1 r2 r3 r4 r5 r6 r7 q0 q1 q2 q3 : Int) (hP : IntsA w A path) (h50 : path.length ≤ 1000) (hlo : -9223372036854775808 ≤ st) :
    Calls Tryd.prog 10 #[.agg #[.int .i64 fn, .int .i64 at_, .int .i64 st, .int .i64 kd, .slice A path.length c, .int .i64 r0, .int .i64 r1, .int .i64 r2, .int .i64 r3, .int .i64 r4, .int .i64 r5, .int .i64 r6, .int .i64 r7, .int .i64 q0, .int .i64 q1, .int .i64 q2, .int .i64 q3]] w fun e w' => ∃ F, w.heap.size ≤ F ∧ e = .returned (.pointer (some ⟨F, 0, none⟩)) ∧ FrameAt w' F ⟨fn, at_, st, kd, path, [r0, r1, r2, r3, r4, r5, r6, r7], [q0, q1, q2, q3]⟩ ∧ Fr None' w w' := by
  obtain ⟨i0, hi0, hz0, hz1, hz2⟩ := info3 info_int
  have HP := Lib.hid hP
  have HLO := Lib.hid hlo
  clear hP hlo
  go_enter Tryd.func10, Tryd.ntmps10
  go_upto_region 1 with (fail)
  generalize hW : w.alloc (.cells _ 27) = W
  have hF : Fr None' w W := by rw [← hW]; exact (Fr.refl _ _).alloc _
  have hZ : Blk W w.heap.size 27 #[.int .i64 fn, .int .i64 at_, .int .i64 st, .int .i64 kd, .slice A path.length c, .int .i64 r0, .int .i64 r1, .int .i64 r2, .int .i64 r3, .int .i64 r4, .int .i64 r5, .int .i64 r6, .int .i64 r7, .int .i64 q0, .int .i64 q1, .int .i64 q2, .int .i64 q3] := by rw [← hW]; exact Blk.new _ _ _
  have HZ := Lib.hid hZ.drew
  have HF := Lib.hid hF.drew
  clear hW hF hZ
  have HS : (fun w' : World => w'.cell? ⟨w.heap.size, 0, none⟩ = some (.int .i64 fn) ∧ w'.cell? ⟨w.heap.size, 1, none⟩ = some (.int .i64 at_) ∧ w'.cell? ⟨w.heap.size, 2, none⟩ = some (.int .i64 st) ∧ w'.cell? ⟨w.heap.size, 3, none⟩ = some (.int .i64 kd) ∧ w'.cell? ⟨w.heap.size, 4, none⟩ = some (.slice A path.length c) ∧ w'.cell? ⟨w.heap.size, 5, none⟩ = some (.int .i64 r0) ∧ w'.cell? ⟨w.heap.size, 6, none⟩ = some (.int .i64 r1) ∧ w'.cell? ⟨w.heap.size, 7, none⟩ = some (.int .i64 r2) ∧ w'.cell? ⟨w.heap.size, 8, none⟩ = some (.int .i64 r3) ∧ w'.cell? ⟨w.heap.size, 9, none⟩ = some (.int .i64 r4) ∧ w'.cell? ⟨w.heap.size, 10, none⟩ = some (.int .i64 r5) ∧ w'.cell? ⟨w.heap.size, 11, none⟩ = some (.int .i64 r6) ∧ w'.cell? ⟨w.heap.size, 12, none⟩ = some (.int .i64 r7) ∧ w'.cell? ⟨w.heap.size, 13, none⟩ = some (.int .i64 q0) ∧ w'.cell? ⟨w.heap.size, 14, none⟩ = some (.int .i64 q1) ∧ w'.cell? ⟨w.heap.size, 15, none⟩ = some (.int .i64 q2) ∧ w'.cell? ⟨w.heap.size, 16, none⟩ = some (.int .i64 q3)) W.drew := ⟨by rw [HZ.out.cell]; rfl, by rw [HZ.out.cell]; rfl, by rw [HZ.out.cell]; rfl, by rw [HZ.out.cell]; rfl, by rw [HZ.out.cell]; rfl, by rw [HZ.out.cell]; rfl, by rw [HZ.out.cell]; rfl, by rw [HZ.out.cell]; rfl, by rw [HZ.out.cell]; rfl, by rw [HZ.out.cell]; rfl, by rw [HZ.out.cell]; rfl, by rw [HZ.out.cell]; rfl, by rw [HZ.out.cell]; rfl, by rw [HZ.out.cell]; rfl, by rw [HZ.out.cell]; rfl, by rw [HZ.out.cell]; rfl, by rw [HZ.out.cell]; rfl⟩
  refine region_K 18 (fun w' : World => w'.cell? ⟨w.heap.size, 0, none⟩ = some (.int .i64 fn) ∧ w'.cell? ⟨w.heap.size, 1, none⟩ = some (.int .i64 at_) ∧ w'.cell? ⟨w.heap.size, 2, none⟩ = some (.int .i64 st) ∧ w'.cell? ⟨w.heap.size, 3, none⟩ = some (.int .i64 kd) ∧ w'.cell? ⟨w.heap.size, 4, none⟩ = some (.slice A path.length c) ∧ w'.cell? ⟨w.heap.size, 5, none⟩ = some (.int .i64 r0) ∧ w'.cell? ⟨w.heap.size, 6, none⟩ = some (.int .i64 r1) ∧ w'.cell? ⟨w.heap.size, 7, none⟩ = some (.int .i64 r2) ∧ w'.cell? ⟨w.heap.size, 8, none⟩ = some (.int .i64 r3) ∧ w'.cell? ⟨w.heap.size, 9, none⟩ = some (.int .i64 r4) ∧ w'.cell? ⟨w.heap.size, 10, none⟩ = some (.int .i64 r5) ∧ w'.cell? ⟨w.heap.size, 11, none⟩ = some (.int .i64 r6) ∧ w'.cell? ⟨w.heap.size, 12, none⟩ = some (.int .i64 r7) ∧ w'.cell? ⟨w.heap.size, 13, none⟩ = some (.int .i64 q0) ∧ w'.cell? ⟨w.heap.size, 14, none⟩ = some (.int .i64 q1) ∧ w'.cell? ⟨w.heap.size, 15, none⟩ = some (.int .i64 q2) ∧ w'.cell? ⟨w.heap.size, 16, none⟩ = some (.int .i64 q3)) (by kernel_rfl) ?_
  generalize W.drew = V at *
  refine AnyK.take (i := 0) rfl (by decide) (by kernel_rfl) (by kernel_rfl) (by kernel_rfl) (fun _ _ _ _ h => h) HS (fun K hK => ?_)
  go_simp
  refine hK.out _ ⟨_, by rfl, Or.inl ⟨by rfl, by intro w' hSw; (try dsimp only at hSw); go_simp⟩, ?_⟩
  clear hK K
  refine AnyK.take (i := 1) rfl (by decide) (by kernel_rfl) (by kernel_rfl) (by kernel_rfl) (fun _ _ _ _ h => h) HS (fun K hK => ?_)
  go_simp
  refine hK.out _ ⟨_, by rfl, Or.inl ⟨by rfl, by intro w' hSw; (try dsimp only at hSw); go_simp⟩, ?_⟩
  clear hK K
  refine AnyK.take (i := 2) rfl (by decide) (by kernel_rfl) (by kernel_rfl) (by kernel_rfl) (fun _ _ _ _ h => h) HS (fun K hK => ?_)
  go_simp
  refine hK.out _ ⟨_, by rfl, Or.inl ⟨by rfl, by intro w' hSw; (try dsimp only at hSw); go_simp⟩, ?_⟩
  clear hK K
  refine AnyK.take (i := 3) rfl (by decide) (by kernel_rfl) (by kernel_rfl) (by kernel_rfl) (fun _ _ _ _ h => h) HS (fun K hK => ?_)
  go_simp
  refine hK.out _ ⟨_, by rfl, Or.inl ⟨by rfl, by intro w' hSw; (try dsimp only at hSw); go_simp⟩, ?_⟩
  clear hK K
  refine AnyK.take (i := 4) rfl (by decide) (by kernel_rfl) (by kernel_rfl) (by kernel_rfl) (fun _ _ _ _ h => h) HS (fun K hK => ?_)
  go_simp
  refine hK.out _ ⟨_, by rfl, Or.inl ⟨by rfl, by intro w' hSw; (try dsimp only at hSw); go_simp⟩, ?_⟩
  clear hK K
  refine AnyK.take (i := 5) rfl (by decide) (by kernel_rfl) (by kernel_rfl) (by kernel_rfl) (fun _ _ _ _ h => h) HS (fun K hK => ?_)
  go_simp
  refine hK.out _ ⟨_, by rfl, Or.inl ⟨by rfl, by intro w' hSw; (try dsimp only at hSw); go_simp⟩, ?_⟩
  clear hK K
  refine AnyK.take (i := 6) rfl (by decide) (by kernel_rfl) (by kernel_rfl) (by kernel_rfl) (fun _ _ _ _ h => h) HS (fun K hK => ?_)
  go_simp
  refine hK.out _ ⟨_, by rfl, Or.inl ⟨by rfl, by intro w' hSw; (try dsimp only at hSw); go_simp⟩, ?_⟩
  clear hK K
  refine AnyK.take (i := 7) rfl (by decide) (by kernel_rfl) (by kernel_rfl) (by kernel_rfl) (fun _ _ _ _ h => h) HS (fun K hK => ?_)
  go_simp
  refine hK.out _ ⟨_, by rfl, Or.inl ⟨by rfl, by intro w' hSw; (try dsimp only at hSw); go_simp⟩, ?_⟩
  clear hK K
  refine AnyK.take (i := 9) rfl (by decide) (by kernel_rfl) (by kernel_rfl) (by kernel_rfl) (fun _ _ _ _ h => h) HS (fun K hK => ?_)
  go_simp
  refine hK.out _ ⟨_, by rfl, Or.inl ⟨by rfl, by intro w' hSw; (try dsimp only at hSw); go_simp⟩, ?_⟩
  clear hK K
  refine AnyK.take (i := 10) rfl (by decide) (by kernel_rfl) (by kernel_rfl) (by kernel_rfl) (fun _ _ _ _ h => h) HS (fun K hK => ?_)
  go_simp
  refine hK.out _ ⟨_, by rfl, Or.inl ⟨by rfl, by intro w' hSw; (try dsimp only at hSw); go_simp⟩, ?_⟩
  clear hK K
  refine AnyK.take (i := 12) rfl (by decide) (by kernel_rfl) (by kernel_rfl) (by kernel_rfl) (fun _ _ _ _ h => h) HS (fun K hK => ?_)
  go_simp
  refine hK.out _ ⟨_, by rfl, Or.inl ⟨by rfl, by intro w' hSw; (try dsimp only at hSw); go_simp⟩, ?_⟩
  clear hK K
  refine AnyK.take (i := 13) rfl (by decide) (by kernel_rfl) (by kernel_rfl) (by kernel_rfl) (fun _ _ _ _ h => h) HS (fun K hK => ?_)
  go_simp
  refine hK.out _ ⟨_, by rfl, Or.inl ⟨by rfl, by intro w' hSw; (try dsimp only at hSw); go_simp⟩, ?_⟩
  clear hK K
  refine AnyK.take (i := 14) rfl (by decide) (by kernel_rfl) (by kernel_rfl) (by kernel_rfl) (fun _ _ _ _ h => h) HS (fun K hK => ?_)
  go_simp
  refine hK.out _ ⟨_, by rfl, Or.inl ⟨by rfl, by intro w' hSw; (try dsimp only at hSw); go_simp⟩, ?_⟩
  clear hK K
  refine AnyK.take (i := 15) rfl (by decide) (by kernel_rfl) (by kernel_rfl) (by kernel_rfl) (fun _ _ _ _ h => h) HS (fun K hK => ?_)
  go_simp
  refine hK.out _ ⟨_, by rfl, Or.inl ⟨by rfl, by intro w' hSw; (try dsimp only at hSw); go_simp⟩, ?_⟩
  clear hK K
  refine AnyK.one (i := 8) rfl (by kernel_rfl) (fun K hK => ?_)
  go_simp
  generalize hW2 : V.alloc _ = V2
  have hF2 : Fr None' V V2 := by rw [← hW2]; exact (Fr.refl _ _).alloc _
  have hsz := HF.out.size
  have hO2 : V2.ownsRow w.heap.size 3 1 (.slice (some ⟨V.heap.size, 0, none⟩) 0 0) 0 [] := ⟨rfl, .inr ⟨V.heap.size, 0, #[], rfl, hsz, by rw [← hW2]; exact heap_alloc_new V _, Nat.le_refl _, by decide, rfl, rfl⟩⟩
  have HZ2 := Lib.hid (HZ.out.fr hF2 (fun h => h))
  have hlt := HZ.out.lt
  have HF2 := Lib.hid (HF.out.trans hF2)
  have HO2 := Lib.hid hO2
  have HS : (fun w' : World => w'.cell? ⟨w.heap.size, 0, none⟩ = some (.int .i64 fn) ∧ w'.cell? ⟨w.heap.size, 1, none⟩ = some (.int .i64 at_) ∧ w'.cell? ⟨w.heap.size, 2, none⟩ = some (.int .i64 st) ∧ w'.cell? ⟨w.heap.size, 3, none⟩ = some (.int .i64 kd) ∧ w'.cell? ⟨w.heap.size, 4, none⟩ = some (.slice A path.length c) ∧ w'.cell? ⟨w.heap.size, 5, none⟩ = some (.int .i64 r0) ∧ w'.cell? ⟨w.heap.size, 6, none⟩ = some (.int .i64 r1) ∧ w'.cell? ⟨w.heap.size, 7, none⟩ = some (.int .i64 r2) ∧ w'.cell? ⟨w.heap.size, 8, none⟩ = some (.int .i64 r3) ∧ w'.cell? ⟨w.heap.size, 9, none⟩ = some (.int .i64 r4) ∧ w'.cell? ⟨w.heap.size, 10, none⟩ = some (.int .i64 r5) ∧ w'.cell? ⟨w.heap.size, 11, none⟩ = some (.int .i64 r6) ∧ w'.cell? ⟨w.heap.size, 12, none⟩ = some (.int .i64 r7) ∧ w'.cell? ⟨w.heap.size, 13, none⟩ = some (.int .i64 q0) ∧ w'.cell? ⟨w.heap.size, 14, none⟩ = some (.int .i64 q1) ∧ w'.cell? ⟨w.heap.size, 15, none⟩ = some (.int .i64 q2) ∧ w'.cell? ⟨w.heap.size, 16, none⟩ = some (.int .i64 q3)) V2 := ⟨by rw [HZ2.out.cell]; rfl, by rw [HZ2.out.cell]; rfl, by rw [HZ2.out.cell]; rfl, by rw [HZ2.out.cell]; rfl, by rw [HZ2.out.cell]; rfl, by rw [HZ2.out.cell]; rfl, by rw [HZ2.out.cell]; rfl, by rw [HZ2.out.cell]; rfl, by rw [HZ2.out.cell]; rfl, by rw [HZ2.out.cell]; rfl, by rw [HZ2.out.cell]; rfl, by rw [HZ2.out.cell]; rfl, by rw [HZ2.out.cell]; rfl, by rw [HZ2.out.cell]; rfl, by rw [HZ2.out.cell]; rfl, by rw [HZ2.out.cell]; rfl, by rw [HZ2.out.cell]; rfl⟩
  clear hW2 hF2 hO2 HZ HF
  generalize V.heap.size = g0 at *
  refine hK.out _ _ (fun _ => HS) ?_
  clear hK K
  refine AnyK.one (i := 11) rfl (by kernel_rfl) (fun K hK => ?_)
  refine step_app (by rfl) _ _ _ (by rfl) w.heap.size 3 i0 _ 1 8 Tryd.underlying23 hi0 hz0 hz1 hz2 rfl (by decide) _ 0 [] (by rfl) HO2.out (fun _ => True) A path.length c (ints path) (by rfl) (intsA_rd (HP.out.fr HF2.out)) (fun u hu => by
    obtain ⟨x, _, rfl⟩ := List.mem_map.1 hu
    rfl) (by unfold maxLen; omega) (by omega) HF2.out.size ?_
  intro v3 w3 hown hgr _
  rw [Nat.zero_add, List.nil_append] at hown
  have hgr' : Fr (At g0) V2 w3 := (Fr.grown hgr).mono (fun k hk => by have hk : some k = some g0 := hk; injection hk)
  obtain ⟨A', c', rfl⟩ := own_slice hown
  have HZ3 := Lib.hid (HZ2.out.fr hgr' (by show ¬ _ = g0; omega))
  have HF3 : Hid (Fr None' w w3) := Lib.hid (HF2.out.then hgr' (fun i hi => .inr (by have hi : i = g0 := hi; omega)))
  have HO3 := Lib.hid hown
  have HS : (fun w' : World => w'.cell? ⟨w.heap.size, 0, none⟩ = some (.int .i64 fn) ∧ w'.cell? ⟨w.heap.size, 1, none⟩ = some (.int .i64 at_) ∧ w'.cell? ⟨w.heap.size, 2, none⟩ = some (.int .i64 st) ∧ w'.cell? ⟨w.heap.size, 3, none⟩ = some (.int .i64 kd) ∧ w'.cell? ⟨w.heap.size, 4, none⟩ = some (.slice A path.length c) ∧ w'.cell? ⟨w.heap.size, 5, none⟩ = some (.int .i64 r0) ∧ w'.cell? ⟨w.heap.size, 6, none⟩ = some (.int .i64 r1) ∧ w'.cell? ⟨w.heap.size, 7, none⟩ = some (.int .i64 r2) ∧ w'.cell? ⟨w.heap.size, 8, none⟩ = some (.int .i64 r3) ∧ w'.cell? ⟨w.heap.size, 9, none⟩ = some (.int .i64 r4) ∧ w'.cell? ⟨w.heap.size, 10, none⟩ = some (.int .i64 r5) ∧ w'.cell? ⟨w.heap.size, 11, none⟩ = some (.int .i64 r6) ∧ w'.cell? ⟨w.heap.size, 12, none⟩ = some (.int .i64 r7) ∧ w'.cell? ⟨w.heap.size, 13, none⟩ = some (.int .i64 q0) ∧ w'.cell? ⟨w.heap.size, 14, none⟩ = some (.int .i64 q1) ∧ w'.cell? ⟨w.heap.size, 15, none⟩ = some (.int .i64 q2) ∧ w'.cell? ⟨w.heap.size, 16, none⟩ = some (.int .i64 q3)) w3 := ⟨by rw [HZ3.out.cell]; rfl, by rw [HZ3.out.cell]; rfl, by rw [HZ3.out.cell]; rfl, by rw [HZ3.out.cell]; rfl, by rw [HZ3.out.cell]; rfl, by rw [HZ3.out.cell]; rfl, by rw [HZ3.out.cell]; rfl, by rw [HZ3.out.cell]; rfl, by rw [HZ3.out.cell]; rfl, by rw [HZ3.out.cell]; rfl, by rw [HZ3.out.cell]; rfl, by rw [HZ3.out.cell]; rfl, by rw [HZ3.out.cell]; rfl, by rw [HZ3.out.cell]; rfl, by rw [HZ3.out.cell]; rfl, by rw [HZ3.out.cell]; rfl, by rw [HZ3.out.cell]; rfl⟩
  clear hown hgr hgr' HZ2 HF2 HO2
  refine hK.out _ _ (fun _ => HS) ?_
  clear hK K
  refine AnyK.one (i := 16) rfl (by kernel_rfl) (fun K hK => ?_)
  go_simp
  refine hK.out _ _ (fun _ => HS) ?_
  clear hK K
  refine AnyK.one (i := 17) rfl (by kernel_rfl) (fun K hK => ?_)
  go_simp
  generalize hW4 : w3.alloc _ = w4
  have hF4 : Fr None' w3 w4 := by rw [← hW4]; exact (Fr.refl _ _).alloc _
  have hB4 : Blk w4 w3.heap.size 95 (frL fn at_ st kd (.slice A' path.length c') [r0, r1, r2, r3, r4, r5, r6, r7] [q0, q1, q2, q3]).toArray := by rw [← hW4]; exact Blk.new _ _ _
  have HZ4 := Lib.hid (HZ3.out.fr hF4 (fun h => h))
  have HS : (fun w' : World => w'.cell? ⟨w.heap.size, 0, none⟩ = some (.int .i64 fn) ∧ w'.cell? ⟨w.heap.size, 1, none⟩ = some (.int .i64 at_) ∧ w'.cell? ⟨w.heap.size, 2, none⟩ = some (.int .i64 st) ∧ w'.cell? ⟨w.heap.size, 3, none⟩ = some (.int .i64 kd) ∧ w'.cell? ⟨w.heap.size, 4, none⟩ = some (.slice A path.length c) ∧ w'.cell? ⟨w.heap.size, 5, none⟩ = some (.int .i64 r0) ∧ w'.cell? ⟨w.heap.size, 6, none⟩ = some (.int .i64 r1) ∧ w'.cell? ⟨w.heap.size, 7, none⟩ = some (.int .i64 r2) ∧ w'.cell? ⟨w.heap.size, 8, none⟩ = some (.int .i64 r3) ∧ w'.cell? ⟨w.heap.size, 9, none⟩ = some (.int .i64 r4) ∧ w'.cell? ⟨w.heap.size, 10, none⟩ = some (.int .i64 r5) ∧ w'.cell? ⟨w.heap.size, 11, none⟩ = some (.int .i64 r6) ∧ w'.cell? ⟨w.heap.size, 12, none⟩ = some (.int .i64 r7) ∧ w'.cell? ⟨w.heap.size, 13, none⟩ = some (.int .i64 q0) ∧ w'.cell? ⟨w.heap.size, 14, none⟩ = some (.int .i64 q1) ∧ w'.cell? ⟨w.heap.size, 15, none⟩ = some (.int .i64 q2) ∧ w'.cell? ⟨w.heap.size, 16, none⟩ = some (.int .i64 q3)) w4 := ⟨by rw [HZ4.out.cell]; rfl, by rw [HZ4.out.cell]; rfl, by rw [HZ4.out.cell]; rfl, by rw [HZ4.out.cell]; rfl, by rw [HZ4.out.cell]; rfl, by rw [HZ4.out.cell]; rfl, by rw [HZ4.out.cell]; rfl, by rw [HZ4.out.cell]; rfl, by rw [HZ4.out.cell]; rfl, by rw [HZ4.out.cell]; rfl, by rw [HZ4.out.cell]; rfl, by rw [HZ4.out.cell]; rfl, by rw [HZ4.out.cell]; rfl, by rw [HZ4.out.cell]; rfl, by rw [HZ4.out.cell]; rfl, by rw [HZ4.out.cell]; rfl, by rw [HZ4.out.cell]; rfl⟩
  have hge : w.heap.size ≤ w3.heap.size := HF3.out.size
  have HF4 := Lib.hid (HF3.out.trans hF4)
  have HO4 := Lib.hid (own_fr HO3.out hF4 (fun _ _ h => h))
  have HB4 := Lib.hid hB4
  clear hW4 hF4 hB4 HF3 HO3 HZ3
  generalize w3.heap.size = F at *
  refine hK.out _ _ (fun _ => HS) ?_
  clear hK K
  refine AnyK.one (i := 18) rfl (by kernel_rfl) (fun K hK => ?_)
  go_simp
  refine hK.out _ _ (fun h => absurd (h.symm.trans (by kernel_rfl : _ = true)) (by decide)) ?_
  clear hK K HS HZ4
  refine AnyK.done (by kernel_rfl) ?_ _
  go_wp2_with fail
  go_ret
  obtain ⟨P', pc', hv, h1, h2, h3⟩ := PInts.of_own HO4.out
  cases hv
  exact ⟨F, hge, rfl, ⟨⟨_, _, HB4.out, h3, h1, h2⟩, rfl, rfl, HLO.out⟩, HF4.out⟩
theorem given_any (w : World) (f : FR) (A : Option Addr) (c : Nat) (hd : DocF w f A) (h50 : f.path.length ≤ 1000) :
    Calls Tryd.prog 10 #[.agg (docF f A c).toArray] w fun e w' => ∃ F, w.heap.size ≤ F ∧ e = .returned (.pointer (some ⟨F, 0, none⟩)) ∧ FrameAt w' F f ∧ Fr None' w w' := by
  obtain ⟨fn, at_, st, kd, path, regs, hands⟩ := f
  obtain ⟨hp, h8, h4, _, _, hst, _⟩ := hd
  simp only at hp h8 h4 hst h50 ⊢
  match regs, h8 with
  | [r0, r1, r2, r3, r4, r5, r6, r7], _ =>
    match hands, h4 with
    | [q0, q1, q2, q3], _ => exact given_f w fn at_ st kd A path c r0 r1 r2 r3 r4 r5 r6 r7 q0 q1 q2 q3 hp h50 hst.1
end Go.Proofs.YtadcenaafoemmaaDoor
