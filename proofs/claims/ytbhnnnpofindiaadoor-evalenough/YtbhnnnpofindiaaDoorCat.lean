/-
  What Eval's deferred function does: nothing, or it takes the panic and tells the failure, or that it was too long.
-/
import Derived.Test.YtbhnnnpofindiaaDoorRgt
import Derived.Deep.RegionHeld3
namespace Go.Proofs.YtbhnnnpofindiaaDoor
open Go.RowKit

theorem ecatch_idle (a1 a2 a3 : Addr) (w : World) :
    CallsD Tryd.prog 24 #[.pointer (some a1), .pointer (some a2), .pointer (some a3)] .returning w fun e u' w' => e = .returned (.tuple #[]) ∧ u' = .returning ∧ w' = w := by
  refine callsD_of_wpS Tryd.func24 rfl fun c₀ cs hu => ?_
  apply wpS_seq
  apply wpS_region
  simp [wpOpsS, go_sem, recoverD, hu, Tryd.ntmps24, Exit.thenS]
  refine wpS_of_wp ?_
  simp only [Array.replicate_succ, Array.replicate_zero, List.push_toArray, List.append_toArray, List.nil_append, List.cons_append, List.setIfInBounds_toArray, List.set_cons_succ, List.set_cons_zero]
  go_wp2
  cases c₀
  simp_all [bodyPostS, results, Tryd.results24]

abbrev failP (k : Int) (r : Bool) : PanicEntry := { v := .iface 76 (.int .i64 k), recovered := r }
abbrev longP (r : Bool) : PanicEntry := { v := .iface 78 (.agg #[]), recovered := r }

set_option maxHeartbeats 4000000 in
set_option maxRecDepth 100000 in
theorem ecatch_long (cb rb eb : Nat) (v0 v1 v2 v3 u : Value) (older : List PanicEntry) (w : World) (hne : rb ≠ eb) (BR : Blk w rb 30 #[v0, v1, v2, v3]) (BE : Blk w eb 31 #[u]) :
    CallsD Tryd.prog 24 #[.pointer (some ⟨cb, 0, none⟩), .pointer (some ⟨rb, 0, none⟩), .pointer (some ⟨eb, 0, none⟩)] (.panicking (longP false :: older)) w fun r u' w' =>
      r = .returned (.tuple #[]) ∧ u' = .panicking (longP true :: older) ∧ Blk w' rb 30 #[.int .i64 0, .int .i64 0, .slice none 0 0, .slice none 0 0] ∧ Blk w' eb 31 #[.int .i64 3] ∧ Fr (fun k => k = rb ∨ k = eb) w w' := by
  have c0 : w.cell? ⟨rb, 0, none⟩ = some v0 := by rw [BR.cell]; rfl
  have c1 : w.cell? ⟨rb, 1, none⟩ = some v1 := by rw [BR.cell]; rfl
  have c2 : w.cell? ⟨rb, 2, none⟩ = some v2 := by rw [BR.cell]; rfl
  have c3 : w.cell? ⟨rb, 3, none⟩ = some v3 := by rw [BR.cell]; rfl
  have e0 : w.cell? ⟨eb, 0, none⟩ = some u := by rw [BE.cell]; rfl
  have z0 := BR.frozen 0
  have z1 := BR.frozen 1
  have z2 := BR.frozen 2
  have z3 := BR.frozen 3
  have y0 := BE.frozen 0
  have l1 := BR.lt
  have l2 := BE.lt
  have HBR := Lib.hid BR
  have HBE := Lib.hid BE
  clear BR BE
  have hta : ∀ W : World, (Instr.typeAssert (.iface 78 (.agg #[])) 20 76 true).run Tryd.prog W = .ok (.tuple #[.int .i64 0, .bool false]) W := fun _ => by kernel_rfl
  have htb : ∀ W : World, (Instr.typeAssert (.iface 78 (.agg #[])) 20 78 true).run Tryd.prog W = .ok (.tuple #[.agg #[], .bool true]) W := fun _ => by kernel_rfl
  refine callsD_of_wpS Tryd.func24 rfl fun c₀ cs hu => ?_
  apply wpS_seq
  apply wpS_region
  simp [wpOpsS, go_sem, recoverD, hu, Tryd.ntmps24, Exit.thenS]
  refine wpS_of_wp ?_
  simp only [Array.replicate_succ, Array.replicate_zero, List.push_toArray, List.append_toArray, List.nil_append, List.cons_append, List.setIfInBounds_toArray, List.set_cons_succ, List.set_cons_zero]
  go_wp2
  all_goals simp [bodyPostS, results, Tryd.results24]
  have hB1 := ((((HBR.out.set_ 0 (.int .i64 0)).set_ 1 (.int .i64 0)).set_ 2 (.slice none 0 0)).set_ 3 (.slice none 0 0))
  refine ⟨(hB1.far (p := ⟨eb, 0, none⟩) hne _).alloc _, ?_, ?_⟩
  · exact ((((((HBE.out.far (p := ⟨rb, 0, none⟩) hne.symm _).far (p := ⟨rb, 1, none⟩) hne.symm _).far (p := ⟨rb, 2, none⟩) hne.symm _).far (p := ⟨rb, 3, none⟩) hne.symm _).set_ 0 (.int .i64 3)).alloc _)
  · exact ((((((Fr.refl (fun k => k = rb ∨ k = eb) w).setCell (p := ⟨rb, 0, none⟩) (.inl (.inl rfl)) _).setCell (p := ⟨rb, 1, none⟩) (.inl (.inl rfl)) _).setCell (p := ⟨rb, 2, none⟩) (.inl (.inl rfl)) _).setCell (p := ⟨rb, 3, none⟩) (.inl (.inl rfl)) _).setCell (p := ⟨eb, 0, none⟩) (.inl (.inr rfl)) _).alloc _

set_option maxHeartbeats 8000000 in
set_option maxRecDepth 100000 in
theorem ecatch_fail (cb rb eb Wb : Nat) (k : Int) (tA lA : Option Addr) (tn tc ln lc : Nat) (v0 v1 v2 v3 u : Value) (older : List PanicEntry) (w : World) (hne : rb ≠ eb) (hrc : rb ≠ cb) (hrW : rb ≠ Wb) (_hec : eb ≠ cb) (_heW : eb ≠ Wb) (BR : Blk w rb 30 #[v0, v1, v2, v3]) (BE : Blk w eb 31 #[u])
    (k0 : w.cell? ⟨cb, 0, none⟩ = some (.pointer (some ⟨Wb, 0, none⟩))) (k6 : w.cell? ⟨Wb, 6, none⟩ = some (.slice tA tn tc)) (k7 : w.cell? ⟨Wb, 7, none⟩ = some (.slice lA ln lc)) :
    CallsD Tryd.prog 24 #[.pointer (some ⟨cb, 0, none⟩), .pointer (some ⟨rb, 0, none⟩), .pointer (some ⟨eb, 0, none⟩)] (.panicking (failP k false :: older)) w fun r u' w' =>
      r = .returned (.tuple #[]) ∧ u' = .panicking (failP k true :: older) ∧ Blk w' rb 30 #[.int .i64 0, .int .i64 k, .slice tA tn tc, .slice lA ln lc] ∧ Blk w' eb 31 #[.int .i64 0] ∧ Fr (fun k => k = rb ∨ k = eb) w w' := by
  have c0 : w.cell? ⟨rb, 0, none⟩ = some v0 := by rw [BR.cell]; rfl
  have c1 : w.cell? ⟨rb, 1, none⟩ = some v1 := by rw [BR.cell]; rfl
  have c2 : w.cell? ⟨rb, 2, none⟩ = some v2 := by rw [BR.cell]; rfl
  have c3 : w.cell? ⟨rb, 3, none⟩ = some v3 := by rw [BR.cell]; rfl
  have e0 : w.cell? ⟨eb, 0, none⟩ = some u := by rw [BE.cell]; rfl
  have z0 := BR.frozen 0
  have z1 := BR.frozen 1
  have z2 := BR.frozen 2
  have z3 := BR.frozen 3
  have y0 := BE.frozen 0
  have HBR := Lib.hid BR
  have HBE := Lib.hid BE
  clear BR BE
  have hta : ∀ W : World, (Instr.typeAssert (.iface 76 (.int .i64 k)) 20 76 true).run Tryd.prog W = .ok (.tuple #[.int .i64 k, .bool true]) W := fun _ => by kernel_rfl
  refine callsD_of_wpS Tryd.func24 rfl fun c₀ cs hu => ?_
  apply wpS_seq
  apply wpS_region
  simp [wpOpsS, go_sem, recoverD, hu, Tryd.ntmps24, Exit.thenS]
  refine wpS_of_wp ?_
  simp only [Array.replicate_succ, Array.replicate_zero, List.push_toArray, List.append_toArray, List.nil_append, List.cons_append, List.setIfInBounds_toArray, List.set_cons_succ, List.set_cons_zero]
  go_wp2_with fail
  refine wp_region_noPanic ?_
  refine region_K 10 (fun w' => w'.cell? ⟨cb, 0, none⟩ = some (.pointer (some ⟨Wb, 0, none⟩)) ∧ w'.cell? ⟨Wb, 6, none⟩ = some (.slice tA tn tc) ∧ w'.cell? ⟨Wb, 7, none⟩ = some (.slice lA ln lc)) (by kernel_rfl) ?_
  have HS : (fun w' : World => w'.cell? ⟨cb, 0, none⟩ = some (.pointer (some ⟨Wb, 0, none⟩)) ∧ w'.cell? ⟨Wb, 6, none⟩ = some (.slice tA tn tc) ∧ w'.cell? ⟨Wb, 7, none⟩ = some (.slice lA ln lc)) w.drew := ⟨k0, k6, k7⟩
  refine AnyK.take (i := 0) rfl (by decide) (by kernel_rfl) (by kernel_rfl) (by kernel_rfl) (fun _ _ _ _ h => h) HS (fun K hK => ?_)
  go_simp
  refine hK.out _ ⟨_, by rfl, Or.inl ⟨by rfl, by intro w hSw; (try dsimp only at hSw); go_simp⟩, ?_⟩
  clear hK K
  refine AnyK.take (i := 1) rfl (by decide) (by kernel_rfl) (by kernel_rfl) (by kernel_rfl) (fun _ _ _ _ h => h) HS (fun K hK => ?_)
  go_simp
  refine hK.out _ ⟨_, by rfl, Or.inl ⟨by rfl, by intro w hSw; (try dsimp only at hSw); go_simp⟩, ?_⟩
  clear hK K
  refine AnyK.take (i := 2) rfl (by decide) (by kernel_rfl) (by kernel_rfl) (by kernel_rfl) (fun _ _ _ _ h => h) HS (fun K hK => ?_)
  go_simp
  refine hK.out _ ⟨_, by rfl, Or.inl ⟨by rfl, by intro w hSw; (try dsimp only at hSw); go_simp⟩, ?_⟩
  clear hK K
  refine AnyK.take (i := 3) rfl (by decide) (by kernel_rfl) (by kernel_rfl) (by kernel_rfl) (fun _ _ _ _ h => h) HS (fun K hK => ?_)
  go_simp
  refine hK.out _ ⟨_, by rfl, Or.inl ⟨by rfl, by intro w hSw; (try dsimp only at hSw); go_simp⟩, ?_⟩
  clear hK K
  refine AnyK.take (i := 4) rfl (by decide) (by kernel_rfl) (by kernel_rfl) (by kernel_rfl) (fun _ _ _ _ h => h) HS (fun K hK => ?_)
  go_simp
  refine hK.out _ ⟨_, by rfl, Or.inl ⟨by rfl, by intro w hSw; (try dsimp only at hSw); go_simp⟩, ?_⟩
  clear hK K
  refine AnyK.take (i := 5) rfl (by decide) (by kernel_rfl) (by kernel_rfl) (by kernel_rfl) (fun _ _ _ _ h => h) HS (fun K hK => ?_)
  go_simp
  refine hK.out _ ⟨_, by rfl, Or.inl ⟨by rfl, by intro w hSw; (try dsimp only at hSw); go_simp⟩, ?_⟩
  clear hK K
  refine AnyK.take (i := 6) rfl (by decide) (by kernel_rfl) (by kernel_rfl) (by kernel_rfl) (fun _ _ _ _ h => h) HS (fun K hK => ?_)
  go_simp
  refine hK.out _ ⟨_, by rfl, Or.inl ⟨by rfl, by intro w hSw; (try dsimp only at hSw); go_simp⟩, ?_⟩
  clear hK K
  refine AnyK.take (i := 7) rfl (by decide) (by kernel_rfl) (by kernel_rfl) (by kernel_rfl) (fun _ _ _ _ h => h) HS (fun K hK => ?_)
  go_simp
  refine hK.out _ ⟨_, by rfl, Or.inl ⟨by rfl, by intro w hSw; (try dsimp only at hSw); go_simp⟩, ?_⟩
  clear hK K
  refine AnyK.take (i := 8) rfl (by decide) (by kernel_rfl) (by kernel_rfl) (by kernel_rfl) (fun _ _ _ _ h => h) HS (fun K hK => ?_)
  go_simp
  refine hK.out _ ⟨_, by rfl, Or.inl ⟨by rfl, by intro w hSw; (try dsimp only at hSw); go_simp⟩, ?_⟩
  clear hK K
  refine AnyK.take (i := 9) rfl (by decide) (by kernel_rfl) (by kernel_rfl) (by kernel_rfl) (fun _ _ _ _ h => h) HS (fun K hK => ?_)
  go_simp
  refine hK.out _ ⟨_, by rfl, Or.inl ⟨by rfl, by intro w hSw; (try dsimp only at hSw); go_simp⟩, ?_⟩
  clear hK K
  refine AnyK.one (i := 10) rfl (by kernel_rfl) (fun K hK => ?_)
  go_simp
  have hB1 := ((((HBR.out.drew.set_ 0 (.int .i64 0)).set_ 1 (.int .i64 k)).set_ 2 (.slice tA tn tc)).set_ 3 (.slice lA ln lc))
  have hF1 : Fr (fun k => k = rb) w ((((w.setCell ⟨rb, 0, none⟩ (.int .i64 0)).setCell ⟨rb, 1, none⟩ (.int .i64 k)).setCell ⟨rb, 2, none⟩ (.slice tA tn tc)).setCell ⟨rb, 3, none⟩ (.slice lA ln lc)).drew := (((((Fr.refl (fun k => k = rb) w).setCell (p := ⟨rb, 0, none⟩) (.inl rfl) _).setCell (p := ⟨rb, 1, none⟩) (.inl rfl) _).setCell (p := ⟨rb, 2, none⟩) (.inl rfl) _).setCell (p := ⟨rb, 3, none⟩) (.inl rfl) _).drew
  refine hK.out _ _ (fun _ => ⟨hF1.held k0 (fun h => hrc h.symm), hF1.held k6 (fun h => hrW h.symm), hF1.held k7 (fun h => hrW h.symm)⟩) ?_
  clear hK K
  have HB1 := Lib.hid hB1
  have HF1 := Lib.hid hF1
  have e0' := hF1.held e0 (fun h => hne h.symm)
  have y0' := (HBE.out.fr hF1 (fun h => hne h.symm)).frozen 0
  clear hB1 hF1 HS
  refine AnyK.one (i := 11) rfl (by kernel_rfl) (fun K hK => ?_)
  go_simp
  refine hK.out _ _ (fun h => absurd (h.symm.trans (by kernel_rfl : _ = true)) (by decide)) ?_
  clear hK K
  refine AnyK.done (by kernel_rfl) ?_ _
  refine NoPanic.normal ?_
  go_wp2
  all_goals simp [bodyPostS, results, Tryd.results24]
  refine ⟨(HB1.out.far (p := ⟨eb, 0, none⟩) hne _).drew, ?_, ?_⟩
  · exact ((((((HBE.out.far (p := ⟨rb, 0, none⟩) hne.symm _).far (p := ⟨rb, 1, none⟩) hne.symm _).far (p := ⟨rb, 2, none⟩) hne.symm _).far (p := ⟨rb, 3, none⟩) hne.symm _).set_ 0 (.int .i64 0)).drew)
  · exact ((((((Fr.refl (fun k => k = rb ∨ k = eb) w).setCell (p := ⟨rb, 0, none⟩) (.inl (.inl rfl)) _).setCell (p := ⟨rb, 1, none⟩) (.inl (.inl rfl)) _).setCell (p := ⟨rb, 2, none⟩) (.inl (.inl rfl)) _).setCell (p := ⟨rb, 3, none⟩) (.inl (.inl rfl)) _).setCell (p := ⟨eb, 0, none⟩) (.inl (.inr rfl)) _).drew
end Go.Proofs.YtbhnnnpofindiaaDoor
