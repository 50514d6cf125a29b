/-
  emit tells a register's number behind all that was told.
-/
import Derived.Test.YtbhnnnpofindiaaDoorOpsE
import Derived.Test.YtbhnnnpofindiaaDoorHeld
import Derived.Deep.AppendLies
namespace Go.Proofs.YtbhnnnpofindiaaDoor
open Go.RowKit

theorem info_i64 : (Tryd.prog.info? 2).map (fun i => (i.zero, i.size, i.bytes)) = some (some (.int .i64 0), 1, 8) := by kernel_rfl
theorem info3 {t : TypeId} {z : Value} {s b : Nat} (h : (Tryd.prog.info? t).map (fun i => (i.zero, i.size, i.bytes)) = some (some z, s, b)) : ∃ i, Tryd.prog.info? t = some i ∧ i.zero = some z ∧ i.size = s ∧ i.bytes = b := by
  obtain ⟨i, hi, hi2⟩ := Option.map_eq_some_iff.1 h
  simp only [Prod.mk.injEq] at hi2
  exact ⟨i, hi, hi2.1, hi2.2.1, hi2.2.2⟩

/-- What emit comes to. -/
def EmPost (c : Cx) (i : Ti) (w : World) (t : Tk) (sv tv lv : Value) (ov : Bool) (v : Int) (sh' : Sh) (ll : List LEnt) (e : Ending) (w' : World) : Prop :=
  e = .returned (.tuple #[]) ∧ ∃ tv', ShAt c w' sh' tv' lv ll ∧ TkAt c i w' t sv ov v ∧ Fr (ShB c tv lv) w w' ∧ Newer w tv tv'

set_option maxHeartbeats 8000000 in
set_option maxRecDepth 100000 in
theorem emit_any (c : Cx) (i : Ti) (w : World) (t : Tk) (sv tv lv : Value) (ov : Bool) (v : Int) (sh : Sh) (ll : List LEnt) (hT : TkAt c i w t sv ov v) (hS : ShAt c w sh tv lv ll) (a : Nat) (ha : a < 8) (op b cc k : Int) (hn : sh.told.length ≤ 1000000) :
    Calls Tryd.prog 44 #[.pointer (some ⟨i.g, 0, none⟩), .agg #[.int .i64 op, .int .i64 a, .int .i64 b, .int .i64 cc, .int .i64 k]] w (EmPost c i w t sv tv lv ov v { sh with told := sh.told ++ [reg t a] } ll) := by
  obtain ⟨g, hg⟩ : ∃ g, g = i.g := ⟨_, rfl⟩
  obtain ⟨Wb, hWb⟩ : ∃ Wb, Wb = c.W := ⟨_, rfl⟩
  rw [← hg]
  have HG := Lib.hid hg
  have HWb := Lib.hid hWb
  have hgl := hT.blk.lt
  have hWl := hS.blk.lt
  rw [← hg] at hgl
  rw [← hWb] at hWl
  obtain ⟨y, hy⟩ : ∃ y, reg t a = y := ⟨_, rfl⟩
  rw [hy]
  have HY := Lib.hid hy
  have HT := Lib.hid hT
  have HS0 := Lib.hid hS
  clear hT hS hg hWb hy
  go_enter Tryd.func44, Tryd.ntmps44
  go_wp2_with fail
  generalize hW : w.alloc (.cells _ 55) = W
  have hFW : Fr (fun _ => False) w W := by rw [← hW]; exact (Fr.refl _ _).alloc _
  have B2 : Blk W w.heap.size 55 #[.int .i64 op, .int .i64 a, .int .i64 b, .int .i64 cc, .int .i64 k] := by rw [← hW]; exact Blk.new _ _ _
  have hWs : W.heap.size = w.heap.size + 1 := by rw [← hW]; simp
  have HTW := Lib.hid (HT.out.keep hFW (fun _ h => h.elim))
  have HSW := Lib.hid (HS0.out.keep hFW (fun _ h => h.elim))
  have BT := HTW.out.blk
  have BS := HSW.out.blk
  rw [← HG.out] at BT
  rw [← HWb.out] at BS
  have c9 : W.cell? ⟨g, 9, none⟩ = some (.pointer (some ⟨Wb, 0, none⟩)) := by rw [BT.cell, HWb.out]; exact (tk_at HTW.out.r8 HTW.out.f4).1
  have cr : W.cell? ⟨g, 1 + a, none⟩ = some (.int .i64 y) := by rw [BT.cell, ← HY.out]; exact tk_reg HTW.out.r8 a ha
  have c6 : W.cell? ⟨Wb, 6, none⟩ = some tv := by rw [BS.cell]; rfl
  have f6 := BS.frozen 6
  have d1 : W.cell? ⟨w.heap.size, 1, none⟩ = some (.int .i64 a) := by rw [B2.cell]; rfl
  have hgW : g < W.heap.size := by omega
  have hWW : Wb < W.heap.size := by omega
  have HBS := Lib.hid BS
  have HBT := Lib.hid BT
  have HFW := Lib.hid hFW
  have HB2 := Lib.hid B2
  have HWS := Lib.hid hWs
  clear hW hFW B2 BT BS hWs
  have ia : (0 : Int) ≤ (a : Int) := by omega
  have ja : (a : Int) < 8 := by omega
  obtain ⟨i1, hi1, hz0, hz1, hz2⟩ := info3 info_i64
  have hown : W.drew.ownsRow c.base 2 1 tv sh.told.length (ints sh.told) := HSW.out.told
  have HOWN := Lib.hid hown
  have hlo : c.base ≤ W.heap.size := by have := HSW.out.low; have := HSW.out.blk.lt; omega
  have htvW : Hid (tv.ownBlock ≠ some Wb) := Lib.hid (own_ne HSW.out.told HBS.out (by decide))
  have htvg : Hid (tv.ownBlock ≠ some g) := Lib.hid (own_ne HSW.out.told HBT.out (by decide))
  have htvn : Hid (tv.ownBlock ≠ some w.heap.size) := Lib.hid (own_ne HSW.out.told HB2.out (by decide))
  clear hown
  refine region_K 19 (fun w' => w'.cell? ⟨g, 9, none⟩ = some (.pointer (some ⟨Wb, 0, none⟩)) ∧ w'.cell? ⟨g, 1 + a, none⟩ = some (.int .i64 y) ∧ w'.cell? ⟨Wb, 6, none⟩ = some tv ∧ w'.cell? ⟨w.heap.size, 1, none⟩ = some (.int .i64 a)) (by kernel_rfl) ?_
  have HS : (fun w' : World => w'.cell? ⟨g, 9, none⟩ = some (.pointer (some ⟨Wb, 0, none⟩)) ∧ w'.cell? ⟨g, 1 + a, none⟩ = some (.int .i64 y) ∧ w'.cell? ⟨Wb, 6, none⟩ = some tv ∧ w'.cell? ⟨w.heap.size, 1, none⟩ = some (.int .i64 a)) W.drew := ⟨c9, cr, c6, d1⟩
  refine AnyK.take (i := 0) rfl (by decide) (by kernel_rfl) (by kernel_rfl) (by kernel_rfl) (fun _ _ _ _ h => h) HS (fun K hK => ?_)
  go_simp
  refine hK.out _ ⟨_, by rfl, Or.inl ⟨by rfl, by intro w hSw; (try dsimp only at hSw); go_simp⟩, ?_⟩
  clear hK K
  refine AnyK.take (i := 1) rfl (by decide) (by kernel_rfl) (by kernel_rfl) (by kernel_rfl) (fun _ _ _ _ h => h) HS (fun K hK => ?_)
  go_simp
  refine hK.out _ ⟨_, by rfl, Or.inl ⟨by rfl, by intro w hSw; (try dsimp only at hSw); go_simp⟩, ?_⟩
  clear hK K
  refine AnyK.take (i := 2) rfl (by decide) (by kernel_rfl) (by kernel_rfl) (by kernel_rfl) (fun _ _ _ _ h => h) HS (fun K hK => ?_)
  go_simp
  refine hK.out _ ⟨_, by rfl, Or.inl ⟨by rfl, by intro w hSw; (try dsimp only at hSw); go_simp⟩, ?_⟩
  clear hK K
  refine AnyK.take (i := 3) rfl (by decide) (by kernel_rfl) (by kernel_rfl) (by kernel_rfl) (fun _ _ _ _ h => h) HS (fun K hK => ?_)
  go_simp
  refine hK.out _ ⟨_, by rfl, Or.inl ⟨by rfl, by intro w hSw; (try dsimp only at hSw); go_simp⟩, ?_⟩
  clear hK K
  refine AnyK.take (i := 4) rfl (by decide) (by kernel_rfl) (by kernel_rfl) (by kernel_rfl) (fun _ _ _ _ h => h) HS (fun K hK => ?_)
  go_simp
  refine hK.out _ ⟨_, by rfl, Or.inl ⟨by rfl, by intro w hSw; (try dsimp only at hSw); go_simp⟩, ?_⟩
  clear hK K
  refine AnyK.take (i := 5) rfl (by decide) (by kernel_rfl) (by kernel_rfl) (by kernel_rfl) (fun _ _ _ _ h => h) HS (fun K hK => ?_)
  go_simp
  refine hK.out _ ⟨_, by rfl, Or.inl ⟨by rfl, by intro w hSw; (try dsimp only at hSw); go_simp⟩, ?_⟩
  clear hK K
  refine AnyK.take (i := 6) rfl (by decide) (by kernel_rfl) (by kernel_rfl) (by kernel_rfl) (fun _ _ _ _ h => h) HS (fun K hK => ?_)
  go_simp
  refine hK.out _ ⟨_, by rfl, Or.inl ⟨by rfl, by intro w hSw; (try dsimp only at hSw); go_simp⟩, ?_⟩
  clear hK K
  refine AnyK.take (i := 7) rfl (by decide) (by kernel_rfl) (by kernel_rfl) (by kernel_rfl) (fun _ _ _ _ h => h) HS (fun K hK => ?_)
  go_simp
  refine hK.out _ ⟨_, by rfl, Or.inl ⟨by rfl, by intro w hSw; (try dsimp only at hSw); go_simp⟩, ?_⟩
  clear hK K
  refine AnyK.take (i := 8) rfl (by decide) (by kernel_rfl) (by kernel_rfl) (by kernel_rfl) (fun _ _ _ _ h => h) HS (fun K hK => ?_)
  go_simp
  refine hK.out _ ⟨_, by rfl, Or.inl ⟨by rfl, by intro w hSw; (try dsimp only at hSw); go_simp⟩, ?_⟩
  clear hK K
  refine AnyK.take (i := 9) rfl (by decide) (by kernel_rfl) (by kernel_rfl) (by kernel_rfl) (fun _ _ _ _ h => h) HS (fun K hK => ?_)
  go_simp
  refine hK.out _ ⟨_, by rfl, Or.inl ⟨by rfl, by intro w hSw; (try dsimp only at hSw); go_simp⟩, ?_⟩
  clear hK K
  refine AnyK.take (i := 10) rfl (by decide) (by kernel_rfl) (by kernel_rfl) (by kernel_rfl) (fun _ _ _ _ h => h) HS (fun K hK => ?_)
  go_simp
  refine hK.out _ ⟨_, by rfl, Or.inl ⟨by rfl, by intro w hSw; (try dsimp only at hSw); go_simp⟩, ?_⟩
  clear hK K
  refine AnyK.take (i := 11) rfl (by decide) (by kernel_rfl) (by kernel_rfl) (by kernel_rfl) (fun _ _ _ _ h => h) HS (fun K hK => ?_)
  go_simp
  refine hK.out _ ⟨_, by rfl, Or.inl ⟨by rfl, by intro w hSw; (try dsimp only at hSw); go_simp⟩, ?_⟩
  clear hK K
  refine AnyK.take (i := 12) rfl (by decide) (by kernel_rfl) (by kernel_rfl) (by kernel_rfl) (fun _ _ _ _ h => h) HS (fun K hK => ?_)
  go_simp
  refine hK.out _ ⟨_, by rfl, Or.inl ⟨by rfl, by intro w hSw; (try dsimp only at hSw); go_simp⟩, ?_⟩
  clear hK K
  refine AnyK.take (i := 13) rfl (by decide) (by kernel_rfl) (by kernel_rfl) (by kernel_rfl) (fun _ _ _ _ h => h) HS (fun K hK => ?_)
  go_simp
  refine hK.out _ ⟨_, by rfl, Or.inl ⟨by rfl, by intro w hSw; (try dsimp only at hSw); go_simp⟩, ?_⟩
  clear hK K
  refine AnyK.take (i := 14) rfl (by decide) (by kernel_rfl) (by kernel_rfl) (by kernel_rfl) (fun _ _ _ _ h => h) HS (fun K hK => ?_)
  go_simp
  refine hK.out _ ⟨_, by rfl, Or.inl ⟨by rfl, by intro w hSw; (try dsimp only at hSw); go_simp⟩, ?_⟩
  clear hK K
  refine AnyK.take (i := 15) rfl (by decide) (by kernel_rfl) (by kernel_rfl) (by kernel_rfl) (fun _ _ _ _ h => h) HS (fun K hK => ?_)
  go_simp
  refine hK.out _ ⟨_, by rfl, Or.inl ⟨by rfl, by intro w hSw; (try dsimp only at hSw); go_simp⟩, ?_⟩
  clear hK K
  refine AnyK.take (i := 16) rfl (by decide) (by kernel_rfl) (by kernel_rfl) (by kernel_rfl) (fun _ _ _ _ h => h) HS (fun K hK => ?_)
  go_simp
  refine hK.out _ ⟨_, by rfl, Or.inl ⟨by rfl, by intro w hSw; (try dsimp only at hSw); go_simp⟩, ?_⟩
  clear hK K
  refine AnyK.take (i := 17) rfl (by decide) (by kernel_rfl) (by kernel_rfl) (by kernel_rfl) (fun _ _ _ _ h => h) HS (fun K hK => ?_)
  go_simp
  refine hK.out _ ⟨_, by rfl, Or.inl ⟨by rfl, by intro w hSw; (try dsimp only at hSw); go_simp⟩, ?_⟩
  clear hK K
  refine AnyK.take (i := 18) rfl (by decide) (by kernel_rfl) (by kernel_rfl) (by kernel_rfl) (fun _ _ _ _ h => h) HS (fun K hK => ?_)
  go_simp
  refine hK.out _ ⟨_, by rfl, Or.inl ⟨by rfl, by intro w hSw; (try dsimp only at hSw); go_simp⟩, ?_⟩
  clear hK K
  refine AnyK.one (i := 19) rfl (by kernel_rfl) (fun K hK => ?_)
  go_simp
  generalize hW2 : (W.alloc (.cells #[.int .i64 y] 2)).drew = W2
  have hF2 : Fr (fun _ => False) W W2 := by rw [← hW2]; exact ((Fr.refl _ _).alloc _).drew
  have hnew : W2.heap[W.heap.size]? = some (.cells #[.int .i64 y] 2) := by rw [← hW2]; exact heap_alloc_new W _
  have hs2 : W2.heap.size = W.heap.size + 1 := by rw [← hW2]; simp
  have HS2 : (fun w' : World => w'.cell? ⟨g, 9, none⟩ = some (.pointer (some ⟨Wb, 0, none⟩)) ∧ w'.cell? ⟨g, 1 + a, none⟩ = some (.int .i64 y) ∧ w'.cell? ⟨Wb, 6, none⟩ = some tv ∧ w'.cell? ⟨w.heap.size, 1, none⟩ = some (.int .i64 a)) W2 := ⟨hF2.held c9 (fun h => h), hF2.held cr (fun h => h), hF2.held c6 (fun h => h), hF2.held d1 (fun h => h)⟩
  refine hK.out _ _ (fun _ => HS2) ?_
  clear hK K hW2
  have own2 := own_fr HOWN.out (show Fr (fun _ => False) W.drew W2 from ⟨hF2.os, hF2.tape, hF2.output, hF2.size, hF2.block⟩) (fun _ _ h => h)
  refine AnyK.one (i := 20) rfl (by kernel_rfl) (fun K hK => ?_)
  refine step_append_lies W2 (by rfl) _ _ _ (by rfl) c.base 2 i1 _ 1 8 Tryd.underlying23 hi1 hz0 hz1 hz2 rfl (by omega) tv sh.told.length _ (by rfl) own2 ⟨W.heap.size, 0, none⟩ 1 1 [.int .i64 y] (by rfl) (by rfl) (World.news_of_block (cs := #[.int .i64 y]) (t := 2) (fr := (0, 0)) hnew) (by simp [Value.oneCell']) (by omega) (by unfold maxLen; omega) (by omega) (by omega) (W.heap.size + 1) hs2 ?_
  intro gb cap w1 hown1 hg1 hat hlt1
  have HF3 : Hid (Fr (fun k => tv.ownBlock = some k) W w1) := Lib.hid ((hF2.mono (fun _ h => h.elim)).trans ((Fr.grown hg1).mono (fun _ h => h.symm)))
  have c6' : w1.cell? ⟨Wb, 6, none⟩ = some tv := HF3.out.held c6 htvW.out
  have f6' : w1.frozen? ⟨Wb, 6, none⟩ = false := by rw [World.frozen?_of_block (HF3.out.block Wb hWW htvW.out)]; exact f6
  have HS3 : (fun w' : World => w'.cell? ⟨g, 9, none⟩ = some (.pointer (some ⟨Wb, 0, none⟩)) ∧ w'.cell? ⟨g, 1 + a, none⟩ = some (.int .i64 y) ∧ w'.cell? ⟨Wb, 6, none⟩ = some tv ∧ w'.cell? ⟨w.heap.size, 1, none⟩ = some (.int .i64 a)) w1 := ⟨HF3.out.held c9 htvg.out, HF3.out.held cr htvg.out, c6', HF3.out.held d1 htvn.out⟩
  refine hK.out _ _ (fun _ => HS3) ?_
  clear hK K
  have HO1 := Lib.hid hown1
  have HNW : Hid (Newer w tv (.slice (some ⟨gb, 0, none⟩) (sh.told.length + 1) cap)) := Lib.hid (fun k hk => by
    have hk' : gb = k := by simpa [Value.ownBlock] using hk
    subst hk'
    rcases hat with h | h
    · exact .inl h
    · exact .inr (by have := HWS.out; omega))
  clear hown1 hg1 hat own2 hnew hs2 hF2
  refine AnyK.one (i := 21) rfl (by kernel_rfl) (fun K hK => ?_)
  go_simp
  refine hK.out _ _ (fun _ => HS3) ?_
  clear hK K
  refine AnyK.one (i := 22) rfl (by kernel_rfl) (fun K hK => ?_)
  go_simp
  refine hK.out _ _ (fun _ => HS3) ?_
  clear hK K
  refine AnyK.one (i := 23) rfl (by kernel_rfl) (fun K hK => ?_)
  go_simp
  refine hK.out _ _ (fun h => absurd (h.symm.trans (by kernel_rfl : _ = true)) (by decide)) ?_
  clear hK K
  refine AnyK.done (by kernel_rfl) ?_ _
  go_wp2_with fail
  go_end0
  have hB3 := HBS.out.fr HF3.out htvW.out
  have hF4 : Fr (fun k => k = Wb ∨ tv.ownBlock = some k) w (w1.setCell ⟨Wb, 6, none⟩ (.slice (some ⟨gb, 0, none⟩) (sh.told.length + 1) cap)) :=
    ((HFW.out.mono (fun _ h => h.elim)).trans (HF3.out.mono (fun _ h => .inr h))).setCell (p := ⟨Wb, 6, none⟩) (.inl (.inl rfl)) _
  have hS := HS0.out
  have hT := HT.out
  have hF5 : Fr (ShB c tv lv) w (w1.setCell ⟨Wb, 6, none⟩ (.slice (some ⟨gb, 0, none⟩) (sh.told.length + 1) cap)) := hF4.mono (fun k hk => by
    rcases hk with h | h
    · exact .inl (by rw [h, HWb.out])
    · exact .inr (.inl h))
  refine ⟨rfl, _, ?_, hT.keep hF5 (fun k hk => ShB.typed hS hk), hF5, HNW.out⟩
  have nap : ∀ k cs, Blk w k 3 cs → ¬ ShB c tv lv k := fun k cs hk hb => (ShB.typed hS hb).ne hk (by unfold ST; decide) rfl
  have hlv : ∀ k, lv.ownBlock = some k → ¬ (k = Wb ∨ tv.ownBlock = some k) := fun k hk h => by
    rcases h with h | h
    · subst h
      exact own_ne hS.log (HWb.out ▸ hS.blk) (by decide) hk
    · exact own_apart hS.log hS.told (by decide) k hk h
  refine ⟨?_, hS.low, ?_, own_fr hS.log hF4 hlv, hS.same, fun x hx => (hS.paths x hx).fr hF5 nap, heap_keep hF5 hS.pmap (fun hb => (ShB.typed hS hb).ne_map hS.pmap rfl), heap_keep hF5 hS.dmap (fun hb => (ShB.typed hS hb).ne_map hS.dmap rfl),
    hS.prog.fr hF5 (fun b hb hk => by have := (ShB.typed hS hk).1; omega)⟩
  · have := hB3.set_ 6 (.slice (some ⟨gb, 0, none⟩) (sh.told.length + 1) cap)
    rw [HWb.out] at this ⊢
    exact this
  · have hb1 : Blk w1 Wb 75 _ := hB3
    have := own_fr HO1.out ((Fr.refl (fun k => k = Wb) w1).setCell (p := ⟨Wb, 6, none⟩) (.inl rfl) (.slice (some ⟨gb, 0, none⟩) (sh.told.length + 1) cap)) (fun k hk h => by
      have h' : k = Wb := h
      subst h'
      exact own_ne HO1.out hb1 (by decide) hk)
    simpa [ints] using this
end Go.Proofs.YtbhnnnpofindiaaDoor
