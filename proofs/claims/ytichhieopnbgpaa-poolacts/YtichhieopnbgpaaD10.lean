/-
  The document's New. No condition.
-/
import Derived.Test.YtichhieopnbgpaaD9
import Derived.Deep.DeepCutAuto
namespace Go.Proofs.Ytichhieopnbgpaa
open Go.RowKit

section
variable {P : Program} {md : Region.Mode} {ops : Array Oper} {Q : Exit → Act → World → Prop} {S : World → Prop} {n : Nat}
/-- One of three comes up. -/
theorem AnyK.three {i j k : Nat} {o o' o'' : Oper} {fuel : Nat} {listed : Array Bool} {a : Act} {w : World} (ho : ops[i]? = some o) (ho' : ops[j]? = some o') (ho'' : ops[k]? = some o'') (hr : Region.ready md ops listed = [i, j, k])
    (h : ∀ K : Act → World → Prop, Shut (∀ a' w', (waitsB md ops n i = false → S w') → AnyK P md ops Q S n fuel (listed.setIfInBounds i true) a' w' → K a' w') → if Region.wanted o (yielded ops a.tmps) = true then Oper.wp P o a w K Q else K (a.put o.dst undef) w)
    (h' : ∀ K : Act → World → Prop, Shut (∀ a' w', (waitsB md ops n j = false → S w') → AnyK P md ops Q S n fuel (listed.setIfInBounds j true) a' w' → K a' w') → if Region.wanted o' (yielded ops a.tmps) = true then Oper.wp P o' a w K Q else K (a.put o'.dst undef) w)
    (h'' : ∀ K : Act → World → Prop, Shut (∀ a' w', (waitsB md ops n k = false → S w') → AnyK P md ops Q S n fuel (listed.setIfInBounds k true) a' w' → K a' w') → if Region.wanted o'' (yielded ops a.tmps) = true then Oper.wp P o'' a w K Q else K (a.put o''.dst undef) w) :
    AnyK P md ops Q S n (fuel + 1) listed a w :=
  ⟨fun h0 => absurd (hr ▸ h0) (by simp), fun m hm => by
    rw [hr] at hm
    rcases List.mem_cons.1 hm with rfl | hm
    · exact wpOp_step ho (fun K' hK => h K' (fun a' w' hS hW => hK a' w' ⟨hS, hW⟩))
    rcases List.mem_cons.1 hm with rfl | hm
    · exact wpOp_step ho' (fun K' hK => h' K' (fun a' w' hS hW => hK a' w' ⟨hS, hW⟩))
    · rw [List.mem_singleton] at hm
      subst hm
      exact wpOp_step ho'' (fun K' hK => h'' K' (fun a' w' hS hW => hK a' w' ⟨hS, hW⟩))⟩
end
def Sp7 (S : Shp) (A : Nat) (w : World) : Prop := w.cell? ⟨A, 0, none⟩ = some (.int .i64 (S.k : Int)) ∧ w.cell? ⟨A, 1, none⟩ = some (.int .i64 (S.s0 : Int)) ∧ w.cell? ⟨A, 2, none⟩ = some (.int .i64 (S.s1 : Int)) ∧ w.cell? ⟨A, 3, none⟩ = some (.int .i64 (S.s2 : Int)) ∧ w.cell? ⟨A, 4, none⟩ = some (.int .i64 (S.m0 : Int)) ∧ w.cell? ⟨A, 5, none⟩ = some (.int .i64 (S.m1 : Int)) ∧ w.cell? ⟨A, 6, none⟩ = some (.int .i64 (S.m2 : Int))
theorem Sp7.of {S : Shp} {A : Nat} {w : World} (h : Blk w A 26 S.i.cells) : Sp7 S A w := by
  refine ⟨?_, ?_, ?_, ?_, ?_, ?_, ?_⟩ <;> (rw [h.cell]; rfl)
theorem make_rows3 (k : Nat) (hk : k ≤ 64) (w : World) : (Instr.makeSlice 80 (.int .i64 (k : Int)) (.int .i64 (k : Int))).run Try.prog w = .ok (.slice (some ⟨w.heap.size, 0, none⟩) k k) (w.alloc (.cells (Array.replicate (3 * k) (Value.slice none 0 0)) 77)) := by
  have hr := run_make (P := Try.prog) w 80 77 _ (.agg #[.slice none 0 0, .slice none 0 0, .slice none 0 0]) Try.underlying80 rfl rfl .i64 .i64 (k : Int) (k : Int) (by omega) (by omega) (by show (72 : Int) * _ ≤ _; omega) (by omega)
  rw [hr]
  simp only [Int.toNat_natCast]
  have e0 : ∀ j, (madeCells #[Value.slice none 0 0, Value.slice none 0 0, Value.slice none 0 0] (k * 3))[j]? = if j < k * 3 then some (#[Value.slice none 0 0, Value.slice none 0 0, Value.slice none 0 0][j % 3]!) else none := by
    intro j
    by_cases hj : j < k * 3
    · simp [madeCells, hj]
    · simp [madeCells, hj]
  have e : (madeCells (Value.agg #[.slice none 0 0, .slice none 0 0, .slice none 0 0]).cells (k * 3)) = Array.replicate (3 * k) (Value.slice none 0 0) := by
    apply Array.ext_getElem?
    intro i
    have h1 : (Array.replicate (3 * k) (Value.slice none 0 0))[i]? = if i < 3 * k then some (Value.slice none 0 0) else none := by
      rw [Array.getElem?_replicate]
    rw [h1]
    refine (e0 i).trans ?_
    by_cases hi : i < k * 3
    · rw [if_pos hi, if_pos (by omega)]
      have h4 : i % 3 = 0 ∨ i % 3 = 1 ∨ i % 3 = 2 := by omega
      rcases h4 with h4 | h4 | h4 <;> (rw [h4]; rfl)
    · rw [if_neg hi, if_neg (by omega)]
  rw [← e]
  rfl
theorem make_rows (k : Nat) (hk : k ≤ 64) (w : World) : (Instr.makeSlice 81 (.int .i64 (k : Int)) (.int .i64 (k : Int))).run Try.prog w = .ok (.slice (some ⟨w.heap.size, 0, none⟩) k k) (w.alloc (.cells (Array.replicate k (Value.slice none 0 0)) 75)) := by
  have hr := run_make (P := Try.prog) w 81 75 _ (.slice none 0 0) Try.underlying81 rfl rfl .i64 .i64 (k : Int) (k : Int) (by omega) (by omega) (by show (24 : Int) * _ ≤ _; omega) (by omega)
  rw [hr]
  simp only [Int.toNat_natCast]
  have e : (madeCells (Value.slice none 0 0).cells (k * 1)) = Array.replicate k (Value.slice none 0 0) := by
    apply Array.ext'
    show (madeCells #[Value.slice none 0 0] (k * 1)).toList = _
    rw [toList_madeCells_one]
    simp
  rw [← e]
  rfl
/-- The beginning: nothing is in the rows. -/
theorem DN.begin {w0 w : World} {S : Shp} {A D fb rb tb : Nat} (hA : Blk w A 26 S.i.cells) (hD : Blk w D 83 (dpC S fb rb (.slice (some ⟨tb, 0, none⟩) 1 1))) (hf : Blk w fb 77 (Array.replicate (3 * S.k) (Value.slice none 0 0))) (hr : Blk w rb 75 (Array.replicate S.k (Value.slice none 0 0))) (ht : Blk w tb 4 #[.bool false])
    (h1 : w0.heap.size ≤ D) (h2 : w0.heap.size ≤ fb) (h3 : w0.heap.size ≤ rb) (h4 : w0.heap.size ≤ tb) (h5 : w0.heap.size ≤ w.heap.size) : DN w w0.heap.size A D fb rb S (List.replicate (3 * S.k) (.slice none 0 0)) (List.replicate (3 * S.k) []) (.slice (some ⟨tb, 0, none⟩) 1 1) 1 := by
  refine ⟨hD, by rw [List.toArray_replicate]; exact hf, ⟨by simp, fun i v l hv hl => ?_, fun i j vi vj b hi hj hb => ?_⟩, by simp, by rw [List.toArray_replicate]; exact hr, ⟨rfl, .inr ⟨tb, 1, #[.bool false], rfl, h4, ht, by decide, by decide, rfl, rfl⟩⟩, h5, h1, h2, h3, hA⟩
  · have e1 : v = .slice none 0 0 := List.eq_of_mem_replicate (List.mem_of_getElem? hv)
    have e2 : l = [] := List.eq_of_mem_replicate (List.mem_of_getElem? hl)
    subst e1 e2
    exact World.ownsRow_nil _ _ _ _
  · have e1 : vi = .slice none 0 0 := List.eq_of_mem_replicate (List.mem_of_getElem? hi)
    subst e1; cases hb
theorem info_bool : (Try.prog.info? 4).map (fun i => (i.zero, i.size, i.bytes)) = some (some (.bool false), 1, 1) := by kernel_rfl

/-- What New leaves. -/
def NewP (w : World) (S : Shp) (D : Nat) (w' : World) : Prop := ∃ fb rb Q gv gl tv, DR w' Q w.heap.size D fb rb S gv gl (List.replicate S.k (.slice none 0 0)) (List.replicate S.k []) tv (List.replicate (S.many + 1) false) ∧ (∀ q, q < 3 * S.k → gl[q]? = some (asc (frs S (q / 3) (q % 3)) (mny S (q % 3)))) ∧ (∀ k, DB Q D fb rb (List.replicate S.k (.slice none 0 0)) tv k → w.heap.size ≤ k) ∧ Fr F0 w w'

set_option maxHeartbeats 16000000 in
set_option maxRecDepth 100000 in
theorem dnew_any (w : World) (S : Shp) (hk : Small S) (hk1 : 1 ≤ S.k) :
    Calls Try.prog 14 #[.agg #[.int .i64 (S.k : Int), .int .i64 (S.s0 : Int), .int .i64 (S.s1 : Int), .int .i64 (S.s2 : Int), .int .i64 (S.m0 : Int), .int .i64 (S.m1 : Int), .int .i64 (S.m2 : Int)]] w fun e w' => ∃ D, e = .returned (.pointer (some ⟨D, 0, none⟩)) ∧ NewP w S D w' := by
  obtain ⟨i0, hi0, hz0, hz1, hz2⟩ := info_parts info_int
  obtain ⟨i1, hi1, hy0, hy1, hy2⟩ := info_parts info_bool
  have hk4 := hk.k
  have HK := Lib.hid hk
  have HB0 : Hid (Blk (w.alloc (.cells #[.int .i64 (S.k : Int), .int .i64 (S.s0 : Int), .int .i64 (S.s1 : Int), .int .i64 (S.s2 : Int), .int .i64 (S.m0 : Int), .int .i64 (S.m1 : Int), .int .i64 (S.m2 : Int)] 26)) w.heap.size 26 S.i.cells) := Lib.hid (Blk.new _ _ _)
  obtain ⟨wb, hwb⟩ : ∃ wb, wb = w.alloc (.cells #[.int .i64 (S.k : Int), .int .i64 (S.s0 : Int), .int .i64 (S.s1 : Int), .int .i64 (S.s2 : Int), .int .i64 (S.m0 : Int), .int .i64 (S.m1 : Int), .int .i64 (S.m2 : Int)] 26) := ⟨_, rfl⟩
  have HF0 : Hid (Fr F0 w wb) := Lib.hid (by rw [hwb]; exact (Fr.refl _ _).alloc _)
  rw [← hwb] at HB0
  have hmk1 := fun W => make_rows3 S.k (by omega) W
  have hmk2 := fun W => make_rows S.k (by omega) W
  clear hk
  go_enter Try.func14, Try.ntmps14
  go_upto_region 1 with (fail)
  rw [← hwb]
  clear hwb
  go_cut [3] (fun v wx => ∃ D fb rb tb : Nat, v = .pointer (some ⟨D, 0, none⟩) ∧ DN wx w.heap.size w.heap.size D fb rb S (List.replicate (3 * S.k) (.slice none 0 0)) (List.replicate (3 * S.k) []) (.slice (some ⟨tb, 0, none⟩) 1 1) 1 ∧ Fr F0 w wx)
  case first =>
    have hS7 := Sp7.of HB0.out
    obtain ⟨c0, c1, c2, c3, c4, c5, c6⟩ := hS7
    refine region_K 10 (Sp7 S w.heap.size) (by kernel_rfl) ?_
    have HS0 : (Sp7 S w.heap.size) wb.drew := ⟨c0, c1, c2, c3, c4, c5, c6⟩
    have hmk1' := hmk1 wb.drew
    refine AnyK.take (i := 0) rfl (by decide) (by kernel_rfl) (by kernel_rfl) (by kernel_rfl) (fun _ _ _ _ h => h) HS0 (fun K hK => ?_)
    go_simp
    refine hK.out _ ⟨_, by rfl, Or.inl ⟨by rfl, by intro w hSw; (try dsimp only at hSw); obtain ⟨hS0, hS1, hS2, hS3, hS4, hS5, hS6⟩ := hSw; go_simp⟩, ?_⟩
    clear hK K
    refine AnyK.take (i := 1) rfl (by decide) (by kernel_rfl) (by kernel_rfl) (by kernel_rfl) (fun _ _ _ _ h => h) HS0 (fun K hK => ?_)
    go_simp
    refine hK.out _ ⟨_, by rfl, Or.inl ⟨by rfl, by intro w hSw; (try dsimp only at hSw); obtain ⟨hS0, hS1, hS2, hS3, hS4, hS5, hS6⟩ := hSw; go_simp⟩, ?_⟩
    clear hK K
    refine AnyK.take (i := 2) rfl (by decide) (by kernel_rfl) (by kernel_rfl) (by kernel_rfl) (fun _ _ _ _ h => h) HS0 (fun K hK => ?_)
    go_simp
    refine hK.out _ ⟨_, by rfl, Or.inl ⟨by rfl, by intro w hSw; (try dsimp only at hSw); obtain ⟨hS0, hS1, hS2, hS3, hS4, hS5, hS6⟩ := hSw; go_simp⟩, ?_⟩
    clear hK K
    refine AnyK.take (i := 4) rfl (by decide) (by kernel_rfl) (by kernel_rfl) (by kernel_rfl) (fun _ _ _ _ h => h) HS0 (fun K hK => ?_)
    go_simp
    refine hK.out _ ⟨_, by rfl, Or.inl ⟨by rfl, by intro w hSw; (try dsimp only at hSw); obtain ⟨hS0, hS1, hS2, hS3, hS4, hS5, hS6⟩ := hSw; go_simp⟩, ?_⟩
    clear hK K
    refine AnyK.take (i := 5) rfl (by decide) (by kernel_rfl) (by kernel_rfl) (by kernel_rfl) (fun _ _ _ _ h => h) HS0 (fun K hK => ?_)
    go_simp
    refine hK.out _ ⟨_, by rfl, Or.inl ⟨by rfl, by intro w hSw; (try dsimp only at hSw); obtain ⟨hS0, hS1, hS2, hS3, hS4, hS5, hS6⟩ := hSw; go_simp⟩, ?_⟩
    clear hK K
    clear hmk1'
    refine AnyK.three (i := 3) (j := 6) (k := 7) rfl rfl rfl (by kernel_rfl) (fun K hK => ?_) (fun K hK => ?_) (fun K hK => ?_)
    · go_simp
      have HS1 : (Sp7 S w.heap.size) (wb.drew.alloc (.cells (Array.replicate (3 * S.k) (Value.slice none 0 0)) 77)) := by
        obtain ⟨d0, d1, d2, d3, d4, d5, d6⟩ := HS0
        have hf : Fr F0 wb.drew (wb.drew.alloc (.cells (Array.replicate (3 * S.k) (Value.slice none 0 0)) 77)) := (Fr.refl _ _).alloc _
        exact ⟨hf.held d0 (fun h => h), hf.held d1 (fun h => h), hf.held d2 (fun h => h), hf.held d3 (fun h => h), hf.held d4 (fun h => h), hf.held d5 (fun h => h), hf.held d6 (fun h => h)⟩
      refine hK.out _ _ (fun _ => HS1) ?_
      clear hK K
      refine AnyK.two (i := 6) (j := 7) rfl rfl (by kernel_rfl) (fun K hK => ?_) (fun K hK => ?_)
      · go_simp
        have HS2 : (Sp7 S w.heap.size) ((wb.drew.alloc (.cells (Array.replicate (3 * S.k) (Value.slice none 0 0)) 77)).alloc (.cells (Array.replicate S.k (Value.slice none 0 0)) 75)) := by
          obtain ⟨d0, d1, d2, d3, d4, d5, d6⟩ := HS1
          have hf : Fr F0 (wb.drew.alloc (.cells (Array.replicate (3 * S.k) (Value.slice none 0 0)) 77)) ((wb.drew.alloc (.cells (Array.replicate (3 * S.k) (Value.slice none 0 0)) 77)).alloc (.cells (Array.replicate S.k (Value.slice none 0 0)) 75)) := (Fr.refl _ _).alloc _
          exact ⟨hf.held d0 (fun h => h), hf.held d1 (fun h => h), hf.held d2 (fun h => h), hf.held d3 (fun h => h), hf.held d4 (fun h => h), hf.held d5 (fun h => h), hf.held d6 (fun h => h)⟩
        refine hK.out _ _ (fun _ => HS2) ?_
        clear hK K
        refine AnyK.one (i := 7) rfl (by kernel_rfl) (fun K hK => ?_)
        go_simp
        have HS3 : (Sp7 S w.heap.size) (((wb.drew.alloc (.cells (Array.replicate (3 * S.k) (Value.slice none 0 0)) 77)).alloc (.cells (Array.replicate S.k (Value.slice none 0 0)) 75)).alloc (.cells #[.bool false] 4)) := by
          obtain ⟨d0, d1, d2, d3, d4, d5, d6⟩ := HS2
          have hf : Fr F0 ((wb.drew.alloc (.cells (Array.replicate (3 * S.k) (Value.slice none 0 0)) 77)).alloc (.cells (Array.replicate S.k (Value.slice none 0 0)) 75)) (((wb.drew.alloc (.cells (Array.replicate (3 * S.k) (Value.slice none 0 0)) 77)).alloc (.cells (Array.replicate S.k (Value.slice none 0 0)) 75)).alloc (.cells #[.bool false] 4)) := (Fr.refl _ _).alloc _
          exact ⟨hf.held d0 (fun h => h), hf.held d1 (fun h => h), hf.held d2 (fun h => h), hf.held d3 (fun h => h), hf.held d4 (fun h => h), hf.held d5 (fun h => h), hf.held d6 (fun h => h)⟩
        refine hK.out _ _ (fun _ => HS3) ?_
        clear hK K
        refine AnyK.one (i := 8) rfl (by kernel_rfl) (fun K hK => ?_)
        go_simp
        refine hK.out _ _ (fun _ => HS3) ?_
        clear hK K
        refine AnyK.one (i := 9) rfl (by kernel_rfl) (fun K hK => ?_)
        go_simp
        have HS4 : (Sp7 S w.heap.size) ((((wb.drew.alloc (.cells (Array.replicate (3 * S.k) (Value.slice none 0 0)) 77)).alloc (.cells (Array.replicate S.k (Value.slice none 0 0)) 75)).alloc (.cells #[.bool false] 4)).alloc (.cells (dpC S wb.heap.size (wb.heap.size + 1) (.slice (some ⟨(wb.heap.size + 2), 0, none⟩) 1 1)) 83)) := by
          obtain ⟨d0, d1, d2, d3, d4, d5, d6⟩ := HS3
          have hf : Fr F0 (((wb.drew.alloc (.cells (Array.replicate (3 * S.k) (Value.slice none 0 0)) 77)).alloc (.cells (Array.replicate S.k (Value.slice none 0 0)) 75)).alloc (.cells #[.bool false] 4)) ((((wb.drew.alloc (.cells (Array.replicate (3 * S.k) (Value.slice none 0 0)) 77)).alloc (.cells (Array.replicate S.k (Value.slice none 0 0)) 75)).alloc (.cells #[.bool false] 4)).alloc (.cells (dpC S wb.heap.size (wb.heap.size + 1) (.slice (some ⟨(wb.heap.size + 2), 0, none⟩) 1 1)) 83)) := (Fr.refl _ _).alloc _
          exact ⟨hf.held d0 (fun h => h), hf.held d1 (fun h => h), hf.held d2 (fun h => h), hf.held d3 (fun h => h), hf.held d4 (fun h => h), hf.held d5 (fun h => h), hf.held d6 (fun h => h)⟩
        refine hK.out _ _ (fun _ => HS4) ?_
        clear hK K
        refine AnyK.one (i := 10) rfl (by kernel_rfl) (fun K hK => ?_)
        go_simp
        refine hK.out _ _ (fun h => absurd (h.symm.trans (by kernel_rfl : _ = true)) (by decide)) ?_
        clear hK K
        refine AnyK.done (by kernel_rfl) ?_ _
        have e1 : ((wb.drew.alloc (.cells (Array.replicate (3 * S.k) (Value.slice none 0 0)) 77))).heap.size = wb.heap.size + 1 := by simp
        have e2 : (((wb.drew.alloc (.cells (Array.replicate (3 * S.k) (Value.slice none 0 0)) 77)).alloc (.cells (Array.replicate S.k (Value.slice none 0 0)) 75))).heap.size = wb.heap.size + 2 := by simp
        have e3 : ((((wb.drew.alloc (.cells (Array.replicate (3 * S.k) (Value.slice none 0 0)) 77)).alloc (.cells (Array.replicate S.k (Value.slice none 0 0)) 75)).alloc (.cells #[.bool false] 4))).heap.size = wb.heap.size + 3 := by simp
        have b3 : Blk (wb.drew.alloc (.cells (Array.replicate (3 * S.k) (Value.slice none 0 0)) 77)) wb.heap.size 77 (Array.replicate (3 * S.k) (Value.slice none 0 0)) := by
          have h := Blk.new wb.drew 77 (Array.replicate (3 * S.k) (Value.slice none 0 0))
          exact h
        have b6 : Blk ((wb.drew.alloc (.cells (Array.replicate (3 * S.k) (Value.slice none 0 0)) 77)).alloc (.cells (Array.replicate S.k (Value.slice none 0 0)) 75)) (wb.heap.size + 1) 75 (Array.replicate S.k (Value.slice none 0 0)) := by
          have h := Blk.new (wb.drew.alloc (.cells (Array.replicate (3 * S.k) (Value.slice none 0 0)) 77)) 75 (Array.replicate S.k (Value.slice none 0 0))
          rw [e1] at h
          exact h
        have b7 : Blk (((wb.drew.alloc (.cells (Array.replicate (3 * S.k) (Value.slice none 0 0)) 77)).alloc (.cells (Array.replicate S.k (Value.slice none 0 0)) 75)).alloc (.cells #[.bool false] 4)) (wb.heap.size + 2) 4 #[.bool false] := by
          have h := Blk.new ((wb.drew.alloc (.cells (Array.replicate (3 * S.k) (Value.slice none 0 0)) 77)).alloc (.cells (Array.replicate S.k (Value.slice none 0 0)) 75)) 4 #[.bool false]
          rw [e2] at h
          exact h
        have bD : Blk ((((wb.drew.alloc (.cells (Array.replicate (3 * S.k) (Value.slice none 0 0)) 77)).alloc (.cells (Array.replicate S.k (Value.slice none 0 0)) 75)).alloc (.cells #[.bool false] 4)).alloc (.cells (dpC S wb.heap.size (wb.heap.size + 1) (.slice (some ⟨(wb.heap.size + 2), 0, none⟩) 1 1)) 83)) (wb.heap.size + 3) 83 (dpC S wb.heap.size (wb.heap.size + 1) (.slice (some ⟨(wb.heap.size + 2), 0, none⟩) 1 1)) := by
          have h := Blk.new (((wb.drew.alloc (.cells (Array.replicate (3 * S.k) (Value.slice none 0 0)) 77)).alloc (.cells (Array.replicate S.k (Value.slice none 0 0)) 75)).alloc (.cells #[.bool false] 4)) 83 (dpC S wb.heap.size (wb.heap.size + 1) (.slice (some ⟨(wb.heap.size + 2), 0, none⟩) 1 1))
          rw [e3] at h
          exact h
        have hfr : Fr F0 wb ((((wb.drew.alloc (.cells (Array.replicate (3 * S.k) (Value.slice none 0 0)) 77)).alloc (.cells (Array.replicate S.k (Value.slice none 0 0)) 75)).alloc (.cells #[.bool false] 4)).alloc (.cells (dpC S wb.heap.size (wb.heap.size + 1) (.slice (some ⟨(wb.heap.size + 2), 0, none⟩) 1 1)) 83)) := ((((Fr.refl F0 wb).drew).alloc _).alloc _ |>.alloc _).alloc _
        have hsz := HF0.out.size
        have hszf := hfr.size
        have HFIN : Hid (DN ((((wb.drew.alloc (.cells (Array.replicate (3 * S.k) (Value.slice none 0 0)) 77)).alloc (.cells (Array.replicate S.k (Value.slice none 0 0)) 75)).alloc (.cells #[.bool false] 4)).alloc (.cells (dpC S wb.heap.size (wb.heap.size + 1) (.slice (some ⟨(wb.heap.size + 2), 0, none⟩) 1 1)) 83)) w.heap.size w.heap.size (wb.heap.size + 3) wb.heap.size (wb.heap.size + 1) S (List.replicate (3 * S.k) (.slice none 0 0)) (List.replicate (3 * S.k) []) (.slice (some ⟨(wb.heap.size + 2), 0, none⟩) 1 1) 1) :=
          Lib.hid (DN.begin (w0 := w) (HB0.out.fr hfr (fun e => e)) bD (((b3.alloc _).alloc _).alloc _) ((b6.alloc _).alloc _) (b7.alloc _) (by omega) (by omega) (by omega) (by omega) (by omega))
        have HFRF := Lib.hid (HF0.out.trans hfr)
        clear e1 e2 e3 hfr hsz hszf bD c0 c1 c2 c3 c4 c5 c6 b3 b6 b7
        go_wp2_with fail
        go_meet
        exact ⟨_, _, _, _, rfl, HFIN.out, HFRF.out⟩
      · go_simp
        have HS2 : (Sp7 S w.heap.size) ((wb.drew.alloc (.cells (Array.replicate (3 * S.k) (Value.slice none 0 0)) 77)).alloc (.cells #[.bool false] 4)) := by
          obtain ⟨d0, d1, d2, d3, d4, d5, d6⟩ := HS1
          have hf : Fr F0 (wb.drew.alloc (.cells (Array.replicate (3 * S.k) (Value.slice none 0 0)) 77)) ((wb.drew.alloc (.cells (Array.replicate (3 * S.k) (Value.slice none 0 0)) 77)).alloc (.cells #[.bool false] 4)) := (Fr.refl _ _).alloc _
          exact ⟨hf.held d0 (fun h => h), hf.held d1 (fun h => h), hf.held d2 (fun h => h), hf.held d3 (fun h => h), hf.held d4 (fun h => h), hf.held d5 (fun h => h), hf.held d6 (fun h => h)⟩
        refine hK.out _ _ (fun _ => HS2) ?_
        clear hK K
        refine AnyK.one (i := 6) rfl (by kernel_rfl) (fun K hK => ?_)
        go_simp
        have HS3 : (Sp7 S w.heap.size) (((wb.drew.alloc (.cells (Array.replicate (3 * S.k) (Value.slice none 0 0)) 77)).alloc (.cells #[.bool false] 4)).alloc (.cells (Array.replicate S.k (Value.slice none 0 0)) 75)) := by
          obtain ⟨d0, d1, d2, d3, d4, d5, d6⟩ := HS2
          have hf : Fr F0 ((wb.drew.alloc (.cells (Array.replicate (3 * S.k) (Value.slice none 0 0)) 77)).alloc (.cells #[.bool false] 4)) (((wb.drew.alloc (.cells (Array.replicate (3 * S.k) (Value.slice none 0 0)) 77)).alloc (.cells #[.bool false] 4)).alloc (.cells (Array.replicate S.k (Value.slice none 0 0)) 75)) := (Fr.refl _ _).alloc _
          exact ⟨hf.held d0 (fun h => h), hf.held d1 (fun h => h), hf.held d2 (fun h => h), hf.held d3 (fun h => h), hf.held d4 (fun h => h), hf.held d5 (fun h => h), hf.held d6 (fun h => h)⟩
        refine hK.out _ _ (fun _ => HS3) ?_
        clear hK K
        refine AnyK.one (i := 8) rfl (by kernel_rfl) (fun K hK => ?_)
        go_simp
        refine hK.out _ _ (fun _ => HS3) ?_
        clear hK K
        refine AnyK.one (i := 9) rfl (by kernel_rfl) (fun K hK => ?_)
        go_simp
        have HS4 : (Sp7 S w.heap.size) ((((wb.drew.alloc (.cells (Array.replicate (3 * S.k) (Value.slice none 0 0)) 77)).alloc (.cells #[.bool false] 4)).alloc (.cells (Array.replicate S.k (Value.slice none 0 0)) 75)).alloc (.cells (dpC S wb.heap.size (wb.heap.size + 2) (.slice (some ⟨(wb.heap.size + 1), 0, none⟩) 1 1)) 83)) := by
          obtain ⟨d0, d1, d2, d3, d4, d5, d6⟩ := HS3
          have hf : Fr F0 (((wb.drew.alloc (.cells (Array.replicate (3 * S.k) (Value.slice none 0 0)) 77)).alloc (.cells #[.bool false] 4)).alloc (.cells (Array.replicate S.k (Value.slice none 0 0)) 75)) ((((wb.drew.alloc (.cells (Array.replicate (3 * S.k) (Value.slice none 0 0)) 77)).alloc (.cells #[.bool false] 4)).alloc (.cells (Array.replicate S.k (Value.slice none 0 0)) 75)).alloc (.cells (dpC S wb.heap.size (wb.heap.size + 2) (.slice (some ⟨(wb.heap.size + 1), 0, none⟩) 1 1)) 83)) := (Fr.refl _ _).alloc _
          exact ⟨hf.held d0 (fun h => h), hf.held d1 (fun h => h), hf.held d2 (fun h => h), hf.held d3 (fun h => h), hf.held d4 (fun h => h), hf.held d5 (fun h => h), hf.held d6 (fun h => h)⟩
        refine hK.out _ _ (fun _ => HS4) ?_
        clear hK K
        refine AnyK.one (i := 10) rfl (by kernel_rfl) (fun K hK => ?_)
        go_simp
        refine hK.out _ _ (fun h => absurd (h.symm.trans (by kernel_rfl : _ = true)) (by decide)) ?_
        clear hK K
        refine AnyK.done (by kernel_rfl) ?_ _
        have e1 : ((wb.drew.alloc (.cells (Array.replicate (3 * S.k) (Value.slice none 0 0)) 77))).heap.size = wb.heap.size + 1 := by simp
        have e2 : (((wb.drew.alloc (.cells (Array.replicate (3 * S.k) (Value.slice none 0 0)) 77)).alloc (.cells #[.bool false] 4))).heap.size = wb.heap.size + 2 := by simp
        have e3 : ((((wb.drew.alloc (.cells (Array.replicate (3 * S.k) (Value.slice none 0 0)) 77)).alloc (.cells #[.bool false] 4)).alloc (.cells (Array.replicate S.k (Value.slice none 0 0)) 75))).heap.size = wb.heap.size + 3 := by simp
        have b3 : Blk (wb.drew.alloc (.cells (Array.replicate (3 * S.k) (Value.slice none 0 0)) 77)) wb.heap.size 77 (Array.replicate (3 * S.k) (Value.slice none 0 0)) := by
          have h := Blk.new wb.drew 77 (Array.replicate (3 * S.k) (Value.slice none 0 0))
          exact h
        have b7 : Blk ((wb.drew.alloc (.cells (Array.replicate (3 * S.k) (Value.slice none 0 0)) 77)).alloc (.cells #[.bool false] 4)) (wb.heap.size + 1) 4 #[.bool false] := by
          have h := Blk.new (wb.drew.alloc (.cells (Array.replicate (3 * S.k) (Value.slice none 0 0)) 77)) 4 #[.bool false]
          rw [e1] at h
          exact h
        have b6 : Blk (((wb.drew.alloc (.cells (Array.replicate (3 * S.k) (Value.slice none 0 0)) 77)).alloc (.cells #[.bool false] 4)).alloc (.cells (Array.replicate S.k (Value.slice none 0 0)) 75)) (wb.heap.size + 2) 75 (Array.replicate S.k (Value.slice none 0 0)) := by
          have h := Blk.new ((wb.drew.alloc (.cells (Array.replicate (3 * S.k) (Value.slice none 0 0)) 77)).alloc (.cells #[.bool false] 4)) 75 (Array.replicate S.k (Value.slice none 0 0))
          rw [e2] at h
          exact h
        have bD : Blk ((((wb.drew.alloc (.cells (Array.replicate (3 * S.k) (Value.slice none 0 0)) 77)).alloc (.cells #[.bool false] 4)).alloc (.cells (Array.replicate S.k (Value.slice none 0 0)) 75)).alloc (.cells (dpC S wb.heap.size (wb.heap.size + 2) (.slice (some ⟨(wb.heap.size + 1), 0, none⟩) 1 1)) 83)) (wb.heap.size + 3) 83 (dpC S wb.heap.size (wb.heap.size + 2) (.slice (some ⟨(wb.heap.size + 1), 0, none⟩) 1 1)) := by
          have h := Blk.new (((wb.drew.alloc (.cells (Array.replicate (3 * S.k) (Value.slice none 0 0)) 77)).alloc (.cells #[.bool false] 4)).alloc (.cells (Array.replicate S.k (Value.slice none 0 0)) 75)) 83 (dpC S wb.heap.size (wb.heap.size + 2) (.slice (some ⟨(wb.heap.size + 1), 0, none⟩) 1 1))
          rw [e3] at h
          exact h
        have hfr : Fr F0 wb ((((wb.drew.alloc (.cells (Array.replicate (3 * S.k) (Value.slice none 0 0)) 77)).alloc (.cells #[.bool false] 4)).alloc (.cells (Array.replicate S.k (Value.slice none 0 0)) 75)).alloc (.cells (dpC S wb.heap.size (wb.heap.size + 2) (.slice (some ⟨(wb.heap.size + 1), 0, none⟩) 1 1)) 83)) := ((((Fr.refl F0 wb).drew).alloc _).alloc _ |>.alloc _).alloc _
        have hsz := HF0.out.size
        have hszf := hfr.size
        have HFIN : Hid (DN ((((wb.drew.alloc (.cells (Array.replicate (3 * S.k) (Value.slice none 0 0)) 77)).alloc (.cells #[.bool false] 4)).alloc (.cells (Array.replicate S.k (Value.slice none 0 0)) 75)).alloc (.cells (dpC S wb.heap.size (wb.heap.size + 2) (.slice (some ⟨(wb.heap.size + 1), 0, none⟩) 1 1)) 83)) w.heap.size w.heap.size (wb.heap.size + 3) wb.heap.size (wb.heap.size + 2) S (List.replicate (3 * S.k) (.slice none 0 0)) (List.replicate (3 * S.k) []) (.slice (some ⟨(wb.heap.size + 1), 0, none⟩) 1 1) 1) :=
          Lib.hid (DN.begin (w0 := w) (HB0.out.fr hfr (fun e => e)) bD (((b3.alloc _).alloc _).alloc _) (b6.alloc _) ((b7.alloc _).alloc _) (by omega) (by omega) (by omega) (by omega) (by omega))
        have HFRF := Lib.hid (HF0.out.trans hfr)
        clear e1 e2 e3 hfr hsz hszf bD c0 c1 c2 c3 c4 c5 c6 b3 b7 b6
        go_wp2_with fail
        go_meet
        exact ⟨_, _, _, _, rfl, HFIN.out, HFRF.out⟩

    · go_simp
      have HS1 : (Sp7 S w.heap.size) (wb.drew.alloc (.cells (Array.replicate S.k (Value.slice none 0 0)) 75)) := by
        obtain ⟨d0, d1, d2, d3, d4, d5, d6⟩ := HS0
        have hf : Fr F0 wb.drew (wb.drew.alloc (.cells (Array.replicate S.k (Value.slice none 0 0)) 75)) := (Fr.refl _ _).alloc _
        exact ⟨hf.held d0 (fun h => h), hf.held d1 (fun h => h), hf.held d2 (fun h => h), hf.held d3 (fun h => h), hf.held d4 (fun h => h), hf.held d5 (fun h => h), hf.held d6 (fun h => h)⟩
      refine hK.out _ _ (fun _ => HS1) ?_
      clear hK K
      refine AnyK.two (i := 3) (j := 7) rfl rfl (by kernel_rfl) (fun K hK => ?_) (fun K hK => ?_)
      · go_simp
        have HS2 : (Sp7 S w.heap.size) ((wb.drew.alloc (.cells (Array.replicate S.k (Value.slice none 0 0)) 75)).alloc (.cells (Array.replicate (3 * S.k) (Value.slice none 0 0)) 77)) := by
          obtain ⟨d0, d1, d2, d3, d4, d5, d6⟩ := HS1
          have hf : Fr F0 (wb.drew.alloc (.cells (Array.replicate S.k (Value.slice none 0 0)) 75)) ((wb.drew.alloc (.cells (Array.replicate S.k (Value.slice none 0 0)) 75)).alloc (.cells (Array.replicate (3 * S.k) (Value.slice none 0 0)) 77)) := (Fr.refl _ _).alloc _
          exact ⟨hf.held d0 (fun h => h), hf.held d1 (fun h => h), hf.held d2 (fun h => h), hf.held d3 (fun h => h), hf.held d4 (fun h => h), hf.held d5 (fun h => h), hf.held d6 (fun h => h)⟩
        refine hK.out _ _ (fun _ => HS2) ?_
        clear hK K
        refine AnyK.one (i := 7) rfl (by kernel_rfl) (fun K hK => ?_)
        go_simp
        have HS3 : (Sp7 S w.heap.size) (((wb.drew.alloc (.cells (Array.replicate S.k (Value.slice none 0 0)) 75)).alloc (.cells (Array.replicate (3 * S.k) (Value.slice none 0 0)) 77)).alloc (.cells #[.bool false] 4)) := by
          obtain ⟨d0, d1, d2, d3, d4, d5, d6⟩ := HS2
          have hf : Fr F0 ((wb.drew.alloc (.cells (Array.replicate S.k (Value.slice none 0 0)) 75)).alloc (.cells (Array.replicate (3 * S.k) (Value.slice none 0 0)) 77)) (((wb.drew.alloc (.cells (Array.replicate S.k (Value.slice none 0 0)) 75)).alloc (.cells (Array.replicate (3 * S.k) (Value.slice none 0 0)) 77)).alloc (.cells #[.bool false] 4)) := (Fr.refl _ _).alloc _
          exact ⟨hf.held d0 (fun h => h), hf.held d1 (fun h => h), hf.held d2 (fun h => h), hf.held d3 (fun h => h), hf.held d4 (fun h => h), hf.held d5 (fun h => h), hf.held d6 (fun h => h)⟩
        refine hK.out _ _ (fun _ => HS3) ?_
        clear hK K
        refine AnyK.one (i := 8) rfl (by kernel_rfl) (fun K hK => ?_)
        go_simp
        refine hK.out _ _ (fun _ => HS3) ?_
        clear hK K
        refine AnyK.one (i := 9) rfl (by kernel_rfl) (fun K hK => ?_)
        go_simp
        have HS4 : (Sp7 S w.heap.size) ((((wb.drew.alloc (.cells (Array.replicate S.k (Value.slice none 0 0)) 75)).alloc (.cells (Array.replicate (3 * S.k) (Value.slice none 0 0)) 77)).alloc (.cells #[.bool false] 4)).alloc (.cells (dpC S (wb.heap.size + 1) wb.heap.size (.slice (some ⟨(wb.heap.size + 2), 0, none⟩) 1 1)) 83)) := by
          obtain ⟨d0, d1, d2, d3, d4, d5, d6⟩ := HS3
          have hf : Fr F0 (((wb.drew.alloc (.cells (Array.replicate S.k (Value.slice none 0 0)) 75)).alloc (.cells (Array.replicate (3 * S.k) (Value.slice none 0 0)) 77)).alloc (.cells #[.bool false] 4)) ((((wb.drew.alloc (.cells (Array.replicate S.k (Value.slice none 0 0)) 75)).alloc (.cells (Array.replicate (3 * S.k) (Value.slice none 0 0)) 77)).alloc (.cells #[.bool false] 4)).alloc (.cells (dpC S (wb.heap.size + 1) wb.heap.size (.slice (some ⟨(wb.heap.size + 2), 0, none⟩) 1 1)) 83)) := (Fr.refl _ _).alloc _
          exact ⟨hf.held d0 (fun h => h), hf.held d1 (fun h => h), hf.held d2 (fun h => h), hf.held d3 (fun h => h), hf.held d4 (fun h => h), hf.held d5 (fun h => h), hf.held d6 (fun h => h)⟩
        refine hK.out _ _ (fun _ => HS4) ?_
        clear hK K
        refine AnyK.one (i := 10) rfl (by kernel_rfl) (fun K hK => ?_)
        go_simp
        refine hK.out _ _ (fun h => absurd (h.symm.trans (by kernel_rfl : _ = true)) (by decide)) ?_
        clear hK K
        refine AnyK.done (by kernel_rfl) ?_ _
        have e1 : ((wb.drew.alloc (.cells (Array.replicate S.k (Value.slice none 0 0)) 75))).heap.size = wb.heap.size + 1 := by simp
        have e2 : (((wb.drew.alloc (.cells (Array.replicate S.k (Value.slice none 0 0)) 75)).alloc (.cells (Array.replicate (3 * S.k) (Value.slice none 0 0)) 77))).heap.size = wb.heap.size + 2 := by simp
        have e3 : ((((wb.drew.alloc (.cells (Array.replicate S.k (Value.slice none 0 0)) 75)).alloc (.cells (Array.replicate (3 * S.k) (Value.slice none 0 0)) 77)).alloc (.cells #[.bool false] 4))).heap.size = wb.heap.size + 3 := by simp
        have b6 : Blk (wb.drew.alloc (.cells (Array.replicate S.k (Value.slice none 0 0)) 75)) wb.heap.size 75 (Array.replicate S.k (Value.slice none 0 0)) := by
          have h := Blk.new wb.drew 75 (Array.replicate S.k (Value.slice none 0 0))
          exact h
        have b3 : Blk ((wb.drew.alloc (.cells (Array.replicate S.k (Value.slice none 0 0)) 75)).alloc (.cells (Array.replicate (3 * S.k) (Value.slice none 0 0)) 77)) (wb.heap.size + 1) 77 (Array.replicate (3 * S.k) (Value.slice none 0 0)) := by
          have h := Blk.new (wb.drew.alloc (.cells (Array.replicate S.k (Value.slice none 0 0)) 75)) 77 (Array.replicate (3 * S.k) (Value.slice none 0 0))
          rw [e1] at h
          exact h
        have b7 : Blk (((wb.drew.alloc (.cells (Array.replicate S.k (Value.slice none 0 0)) 75)).alloc (.cells (Array.replicate (3 * S.k) (Value.slice none 0 0)) 77)).alloc (.cells #[.bool false] 4)) (wb.heap.size + 2) 4 #[.bool false] := by
          have h := Blk.new ((wb.drew.alloc (.cells (Array.replicate S.k (Value.slice none 0 0)) 75)).alloc (.cells (Array.replicate (3 * S.k) (Value.slice none 0 0)) 77)) 4 #[.bool false]
          rw [e2] at h
          exact h
        have bD : Blk ((((wb.drew.alloc (.cells (Array.replicate S.k (Value.slice none 0 0)) 75)).alloc (.cells (Array.replicate (3 * S.k) (Value.slice none 0 0)) 77)).alloc (.cells #[.bool false] 4)).alloc (.cells (dpC S (wb.heap.size + 1) wb.heap.size (.slice (some ⟨(wb.heap.size + 2), 0, none⟩) 1 1)) 83)) (wb.heap.size + 3) 83 (dpC S (wb.heap.size + 1) wb.heap.size (.slice (some ⟨(wb.heap.size + 2), 0, none⟩) 1 1)) := by
          have h := Blk.new (((wb.drew.alloc (.cells (Array.replicate S.k (Value.slice none 0 0)) 75)).alloc (.cells (Array.replicate (3 * S.k) (Value.slice none 0 0)) 77)).alloc (.cells #[.bool false] 4)) 83 (dpC S (wb.heap.size + 1) wb.heap.size (.slice (some ⟨(wb.heap.size + 2), 0, none⟩) 1 1))
          rw [e3] at h
          exact h
        have hfr : Fr F0 wb ((((wb.drew.alloc (.cells (Array.replicate S.k (Value.slice none 0 0)) 75)).alloc (.cells (Array.replicate (3 * S.k) (Value.slice none 0 0)) 77)).alloc (.cells #[.bool false] 4)).alloc (.cells (dpC S (wb.heap.size + 1) wb.heap.size (.slice (some ⟨(wb.heap.size + 2), 0, none⟩) 1 1)) 83)) := ((((Fr.refl F0 wb).drew).alloc _).alloc _ |>.alloc _).alloc _
        have hsz := HF0.out.size
        have hszf := hfr.size
        have HFIN : Hid (DN ((((wb.drew.alloc (.cells (Array.replicate S.k (Value.slice none 0 0)) 75)).alloc (.cells (Array.replicate (3 * S.k) (Value.slice none 0 0)) 77)).alloc (.cells #[.bool false] 4)).alloc (.cells (dpC S (wb.heap.size + 1) wb.heap.size (.slice (some ⟨(wb.heap.size + 2), 0, none⟩) 1 1)) 83)) w.heap.size w.heap.size (wb.heap.size + 3) (wb.heap.size + 1) wb.heap.size S (List.replicate (3 * S.k) (.slice none 0 0)) (List.replicate (3 * S.k) []) (.slice (some ⟨(wb.heap.size + 2), 0, none⟩) 1 1) 1) :=
          Lib.hid (DN.begin (w0 := w) (HB0.out.fr hfr (fun e => e)) bD ((b3.alloc _).alloc _) (((b6.alloc _).alloc _).alloc _) (b7.alloc _) (by omega) (by omega) (by omega) (by omega) (by omega))
        have HFRF := Lib.hid (HF0.out.trans hfr)
        clear e1 e2 e3 hfr hsz hszf bD c0 c1 c2 c3 c4 c5 c6 b6 b3 b7
        go_wp2_with fail
        go_meet
        exact ⟨_, _, _, _, rfl, HFIN.out, HFRF.out⟩
      · go_simp
        have HS2 : (Sp7 S w.heap.size) ((wb.drew.alloc (.cells (Array.replicate S.k (Value.slice none 0 0)) 75)).alloc (.cells #[.bool false] 4)) := by
          obtain ⟨d0, d1, d2, d3, d4, d5, d6⟩ := HS1
          have hf : Fr F0 (wb.drew.alloc (.cells (Array.replicate S.k (Value.slice none 0 0)) 75)) ((wb.drew.alloc (.cells (Array.replicate S.k (Value.slice none 0 0)) 75)).alloc (.cells #[.bool false] 4)) := (Fr.refl _ _).alloc _
          exact ⟨hf.held d0 (fun h => h), hf.held d1 (fun h => h), hf.held d2 (fun h => h), hf.held d3 (fun h => h), hf.held d4 (fun h => h), hf.held d5 (fun h => h), hf.held d6 (fun h => h)⟩
        refine hK.out _ _ (fun _ => HS2) ?_
        clear hK K
        refine AnyK.one (i := 3) rfl (by kernel_rfl) (fun K hK => ?_)
        go_simp
        have HS3 : (Sp7 S w.heap.size) (((wb.drew.alloc (.cells (Array.replicate S.k (Value.slice none 0 0)) 75)).alloc (.cells #[.bool false] 4)).alloc (.cells (Array.replicate (3 * S.k) (Value.slice none 0 0)) 77)) := by
          obtain ⟨d0, d1, d2, d3, d4, d5, d6⟩ := HS2
          have hf : Fr F0 ((wb.drew.alloc (.cells (Array.replicate S.k (Value.slice none 0 0)) 75)).alloc (.cells #[.bool false] 4)) (((wb.drew.alloc (.cells (Array.replicate S.k (Value.slice none 0 0)) 75)).alloc (.cells #[.bool false] 4)).alloc (.cells (Array.replicate (3 * S.k) (Value.slice none 0 0)) 77)) := (Fr.refl _ _).alloc _
          exact ⟨hf.held d0 (fun h => h), hf.held d1 (fun h => h), hf.held d2 (fun h => h), hf.held d3 (fun h => h), hf.held d4 (fun h => h), hf.held d5 (fun h => h), hf.held d6 (fun h => h)⟩
        refine hK.out _ _ (fun _ => HS3) ?_
        clear hK K
        refine AnyK.one (i := 8) rfl (by kernel_rfl) (fun K hK => ?_)
        go_simp
        refine hK.out _ _ (fun _ => HS3) ?_
        clear hK K
        refine AnyK.one (i := 9) rfl (by kernel_rfl) (fun K hK => ?_)
        go_simp
        have HS4 : (Sp7 S w.heap.size) ((((wb.drew.alloc (.cells (Array.replicate S.k (Value.slice none 0 0)) 75)).alloc (.cells #[.bool false] 4)).alloc (.cells (Array.replicate (3 * S.k) (Value.slice none 0 0)) 77)).alloc (.cells (dpC S (wb.heap.size + 2) wb.heap.size (.slice (some ⟨(wb.heap.size + 1), 0, none⟩) 1 1)) 83)) := by
          obtain ⟨d0, d1, d2, d3, d4, d5, d6⟩ := HS3
          have hf : Fr F0 (((wb.drew.alloc (.cells (Array.replicate S.k (Value.slice none 0 0)) 75)).alloc (.cells #[.bool false] 4)).alloc (.cells (Array.replicate (3 * S.k) (Value.slice none 0 0)) 77)) ((((wb.drew.alloc (.cells (Array.replicate S.k (Value.slice none 0 0)) 75)).alloc (.cells #[.bool false] 4)).alloc (.cells (Array.replicate (3 * S.k) (Value.slice none 0 0)) 77)).alloc (.cells (dpC S (wb.heap.size + 2) wb.heap.size (.slice (some ⟨(wb.heap.size + 1), 0, none⟩) 1 1)) 83)) := (Fr.refl _ _).alloc _
          exact ⟨hf.held d0 (fun h => h), hf.held d1 (fun h => h), hf.held d2 (fun h => h), hf.held d3 (fun h => h), hf.held d4 (fun h => h), hf.held d5 (fun h => h), hf.held d6 (fun h => h)⟩
        refine hK.out _ _ (fun _ => HS4) ?_
        clear hK K
        refine AnyK.one (i := 10) rfl (by kernel_rfl) (fun K hK => ?_)
        go_simp
        refine hK.out _ _ (fun h => absurd (h.symm.trans (by kernel_rfl : _ = true)) (by decide)) ?_
        clear hK K
        refine AnyK.done (by kernel_rfl) ?_ _
        have e1 : ((wb.drew.alloc (.cells (Array.replicate S.k (Value.slice none 0 0)) 75))).heap.size = wb.heap.size + 1 := by simp
        have e2 : (((wb.drew.alloc (.cells (Array.replicate S.k (Value.slice none 0 0)) 75)).alloc (.cells #[.bool false] 4))).heap.size = wb.heap.size + 2 := by simp
        have e3 : ((((wb.drew.alloc (.cells (Array.replicate S.k (Value.slice none 0 0)) 75)).alloc (.cells #[.bool false] 4)).alloc (.cells (Array.replicate (3 * S.k) (Value.slice none 0 0)) 77))).heap.size = wb.heap.size + 3 := by simp
        have b6 : Blk (wb.drew.alloc (.cells (Array.replicate S.k (Value.slice none 0 0)) 75)) wb.heap.size 75 (Array.replicate S.k (Value.slice none 0 0)) := by
          have h := Blk.new wb.drew 75 (Array.replicate S.k (Value.slice none 0 0))
          exact h
        have b7 : Blk ((wb.drew.alloc (.cells (Array.replicate S.k (Value.slice none 0 0)) 75)).alloc (.cells #[.bool false] 4)) (wb.heap.size + 1) 4 #[.bool false] := by
          have h := Blk.new (wb.drew.alloc (.cells (Array.replicate S.k (Value.slice none 0 0)) 75)) 4 #[.bool false]
          rw [e1] at h
          exact h
        have b3 : Blk (((wb.drew.alloc (.cells (Array.replicate S.k (Value.slice none 0 0)) 75)).alloc (.cells #[.bool false] 4)).alloc (.cells (Array.replicate (3 * S.k) (Value.slice none 0 0)) 77)) (wb.heap.size + 2) 77 (Array.replicate (3 * S.k) (Value.slice none 0 0)) := by
          have h := Blk.new ((wb.drew.alloc (.cells (Array.replicate S.k (Value.slice none 0 0)) 75)).alloc (.cells #[.bool false] 4)) 77 (Array.replicate (3 * S.k) (Value.slice none 0 0))
          rw [e2] at h
          exact h
        have bD : Blk ((((wb.drew.alloc (.cells (Array.replicate S.k (Value.slice none 0 0)) 75)).alloc (.cells #[.bool false] 4)).alloc (.cells (Array.replicate (3 * S.k) (Value.slice none 0 0)) 77)).alloc (.cells (dpC S (wb.heap.size + 2) wb.heap.size (.slice (some ⟨(wb.heap.size + 1), 0, none⟩) 1 1)) 83)) (wb.heap.size + 3) 83 (dpC S (wb.heap.size + 2) wb.heap.size (.slice (some ⟨(wb.heap.size + 1), 0, none⟩) 1 1)) := by
          have h := Blk.new (((wb.drew.alloc (.cells (Array.replicate S.k (Value.slice none 0 0)) 75)).alloc (.cells #[.bool false] 4)).alloc (.cells (Array.replicate (3 * S.k) (Value.slice none 0 0)) 77)) 83 (dpC S (wb.heap.size + 2) wb.heap.size (.slice (some ⟨(wb.heap.size + 1), 0, none⟩) 1 1))
          rw [e3] at h
          exact h
        have hfr : Fr F0 wb ((((wb.drew.alloc (.cells (Array.replicate S.k (Value.slice none 0 0)) 75)).alloc (.cells #[.bool false] 4)).alloc (.cells (Array.replicate (3 * S.k) (Value.slice none 0 0)) 77)).alloc (.cells (dpC S (wb.heap.size + 2) wb.heap.size (.slice (some ⟨(wb.heap.size + 1), 0, none⟩) 1 1)) 83)) := ((((Fr.refl F0 wb).drew).alloc _).alloc _ |>.alloc _).alloc _
        have hsz := HF0.out.size
        have hszf := hfr.size
        have HFIN : Hid (DN ((((wb.drew.alloc (.cells (Array.replicate S.k (Value.slice none 0 0)) 75)).alloc (.cells #[.bool false] 4)).alloc (.cells (Array.replicate (3 * S.k) (Value.slice none 0 0)) 77)).alloc (.cells (dpC S (wb.heap.size + 2) wb.heap.size (.slice (some ⟨(wb.heap.size + 1), 0, none⟩) 1 1)) 83)) w.heap.size w.heap.size (wb.heap.size + 3) (wb.heap.size + 2) wb.heap.size S (List.replicate (3 * S.k) (.slice none 0 0)) (List.replicate (3 * S.k) []) (.slice (some ⟨(wb.heap.size + 1), 0, none⟩) 1 1) 1) :=
          Lib.hid (DN.begin (w0 := w) (HB0.out.fr hfr (fun e => e)) bD (b3.alloc _) (((b6.alloc _).alloc _).alloc _) ((b7.alloc _).alloc _) (by omega) (by omega) (by omega) (by omega) (by omega))
        have HFRF := Lib.hid (HF0.out.trans hfr)
        clear e1 e2 e3 hfr hsz hszf bD c0 c1 c2 c3 c4 c5 c6 b6 b7 b3
        go_wp2_with fail
        go_meet
        exact ⟨_, _, _, _, rfl, HFIN.out, HFRF.out⟩

    · go_simp
      have HS1 : (Sp7 S w.heap.size) (wb.drew.alloc (.cells #[.bool false] 4)) := by
        obtain ⟨d0, d1, d2, d3, d4, d5, d6⟩ := HS0
        have hf : Fr F0 wb.drew (wb.drew.alloc (.cells #[.bool false] 4)) := (Fr.refl _ _).alloc _
        exact ⟨hf.held d0 (fun h => h), hf.held d1 (fun h => h), hf.held d2 (fun h => h), hf.held d3 (fun h => h), hf.held d4 (fun h => h), hf.held d5 (fun h => h), hf.held d6 (fun h => h)⟩
      refine hK.out _ _ (fun _ => HS1) ?_
      clear hK K
      refine AnyK.two (i := 3) (j := 6) rfl rfl (by kernel_rfl) (fun K hK => ?_) (fun K hK => ?_)
      · go_simp
        have HS2 : (Sp7 S w.heap.size) ((wb.drew.alloc (.cells #[.bool false] 4)).alloc (.cells (Array.replicate (3 * S.k) (Value.slice none 0 0)) 77)) := by
          obtain ⟨d0, d1, d2, d3, d4, d5, d6⟩ := HS1
          have hf : Fr F0 (wb.drew.alloc (.cells #[.bool false] 4)) ((wb.drew.alloc (.cells #[.bool false] 4)).alloc (.cells (Array.replicate (3 * S.k) (Value.slice none 0 0)) 77)) := (Fr.refl _ _).alloc _
          exact ⟨hf.held d0 (fun h => h), hf.held d1 (fun h => h), hf.held d2 (fun h => h), hf.held d3 (fun h => h), hf.held d4 (fun h => h), hf.held d5 (fun h => h), hf.held d6 (fun h => h)⟩
        refine hK.out _ _ (fun _ => HS2) ?_
        clear hK K
        refine AnyK.one (i := 6) rfl (by kernel_rfl) (fun K hK => ?_)
        go_simp
        have HS3 : (Sp7 S w.heap.size) (((wb.drew.alloc (.cells #[.bool false] 4)).alloc (.cells (Array.replicate (3 * S.k) (Value.slice none 0 0)) 77)).alloc (.cells (Array.replicate S.k (Value.slice none 0 0)) 75)) := by
          obtain ⟨d0, d1, d2, d3, d4, d5, d6⟩ := HS2
          have hf : Fr F0 ((wb.drew.alloc (.cells #[.bool false] 4)).alloc (.cells (Array.replicate (3 * S.k) (Value.slice none 0 0)) 77)) (((wb.drew.alloc (.cells #[.bool false] 4)).alloc (.cells (Array.replicate (3 * S.k) (Value.slice none 0 0)) 77)).alloc (.cells (Array.replicate S.k (Value.slice none 0 0)) 75)) := (Fr.refl _ _).alloc _
          exact ⟨hf.held d0 (fun h => h), hf.held d1 (fun h => h), hf.held d2 (fun h => h), hf.held d3 (fun h => h), hf.held d4 (fun h => h), hf.held d5 (fun h => h), hf.held d6 (fun h => h)⟩
        refine hK.out _ _ (fun _ => HS3) ?_
        clear hK K
        refine AnyK.one (i := 8) rfl (by kernel_rfl) (fun K hK => ?_)
        go_simp
        refine hK.out _ _ (fun _ => HS3) ?_
        clear hK K
        refine AnyK.one (i := 9) rfl (by kernel_rfl) (fun K hK => ?_)
        go_simp
        have HS4 : (Sp7 S w.heap.size) ((((wb.drew.alloc (.cells #[.bool false] 4)).alloc (.cells (Array.replicate (3 * S.k) (Value.slice none 0 0)) 77)).alloc (.cells (Array.replicate S.k (Value.slice none 0 0)) 75)).alloc (.cells (dpC S (wb.heap.size + 1) (wb.heap.size + 2) (.slice (some ⟨wb.heap.size, 0, none⟩) 1 1)) 83)) := by
          obtain ⟨d0, d1, d2, d3, d4, d5, d6⟩ := HS3
          have hf : Fr F0 (((wb.drew.alloc (.cells #[.bool false] 4)).alloc (.cells (Array.replicate (3 * S.k) (Value.slice none 0 0)) 77)).alloc (.cells (Array.replicate S.k (Value.slice none 0 0)) 75)) ((((wb.drew.alloc (.cells #[.bool false] 4)).alloc (.cells (Array.replicate (3 * S.k) (Value.slice none 0 0)) 77)).alloc (.cells (Array.replicate S.k (Value.slice none 0 0)) 75)).alloc (.cells (dpC S (wb.heap.size + 1) (wb.heap.size + 2) (.slice (some ⟨wb.heap.size, 0, none⟩) 1 1)) 83)) := (Fr.refl _ _).alloc _
          exact ⟨hf.held d0 (fun h => h), hf.held d1 (fun h => h), hf.held d2 (fun h => h), hf.held d3 (fun h => h), hf.held d4 (fun h => h), hf.held d5 (fun h => h), hf.held d6 (fun h => h)⟩
        refine hK.out _ _ (fun _ => HS4) ?_
        clear hK K
        refine AnyK.one (i := 10) rfl (by kernel_rfl) (fun K hK => ?_)
        go_simp
        refine hK.out _ _ (fun h => absurd (h.symm.trans (by kernel_rfl : _ = true)) (by decide)) ?_
        clear hK K
        refine AnyK.done (by kernel_rfl) ?_ _
        have e1 : ((wb.drew.alloc (.cells #[.bool false] 4))).heap.size = wb.heap.size + 1 := by simp
        have e2 : (((wb.drew.alloc (.cells #[.bool false] 4)).alloc (.cells (Array.replicate (3 * S.k) (Value.slice none 0 0)) 77))).heap.size = wb.heap.size + 2 := by simp
        have e3 : ((((wb.drew.alloc (.cells #[.bool false] 4)).alloc (.cells (Array.replicate (3 * S.k) (Value.slice none 0 0)) 77)).alloc (.cells (Array.replicate S.k (Value.slice none 0 0)) 75))).heap.size = wb.heap.size + 3 := by simp
        have b7 : Blk (wb.drew.alloc (.cells #[.bool false] 4)) wb.heap.size 4 #[.bool false] := by
          have h := Blk.new wb.drew 4 #[.bool false]
          exact h
        have b3 : Blk ((wb.drew.alloc (.cells #[.bool false] 4)).alloc (.cells (Array.replicate (3 * S.k) (Value.slice none 0 0)) 77)) (wb.heap.size + 1) 77 (Array.replicate (3 * S.k) (Value.slice none 0 0)) := by
          have h := Blk.new (wb.drew.alloc (.cells #[.bool false] 4)) 77 (Array.replicate (3 * S.k) (Value.slice none 0 0))
          rw [e1] at h
          exact h
        have b6 : Blk (((wb.drew.alloc (.cells #[.bool false] 4)).alloc (.cells (Array.replicate (3 * S.k) (Value.slice none 0 0)) 77)).alloc (.cells (Array.replicate S.k (Value.slice none 0 0)) 75)) (wb.heap.size + 2) 75 (Array.replicate S.k (Value.slice none 0 0)) := by
          have h := Blk.new ((wb.drew.alloc (.cells #[.bool false] 4)).alloc (.cells (Array.replicate (3 * S.k) (Value.slice none 0 0)) 77)) 75 (Array.replicate S.k (Value.slice none 0 0))
          rw [e2] at h
          exact h
        have bD : Blk ((((wb.drew.alloc (.cells #[.bool false] 4)).alloc (.cells (Array.replicate (3 * S.k) (Value.slice none 0 0)) 77)).alloc (.cells (Array.replicate S.k (Value.slice none 0 0)) 75)).alloc (.cells (dpC S (wb.heap.size + 1) (wb.heap.size + 2) (.slice (some ⟨wb.heap.size, 0, none⟩) 1 1)) 83)) (wb.heap.size + 3) 83 (dpC S (wb.heap.size + 1) (wb.heap.size + 2) (.slice (some ⟨wb.heap.size, 0, none⟩) 1 1)) := by
          have h := Blk.new (((wb.drew.alloc (.cells #[.bool false] 4)).alloc (.cells (Array.replicate (3 * S.k) (Value.slice none 0 0)) 77)).alloc (.cells (Array.replicate S.k (Value.slice none 0 0)) 75)) 83 (dpC S (wb.heap.size + 1) (wb.heap.size + 2) (.slice (some ⟨wb.heap.size, 0, none⟩) 1 1))
          rw [e3] at h
          exact h
        have hfr : Fr F0 wb ((((wb.drew.alloc (.cells #[.bool false] 4)).alloc (.cells (Array.replicate (3 * S.k) (Value.slice none 0 0)) 77)).alloc (.cells (Array.replicate S.k (Value.slice none 0 0)) 75)).alloc (.cells (dpC S (wb.heap.size + 1) (wb.heap.size + 2) (.slice (some ⟨wb.heap.size, 0, none⟩) 1 1)) 83)) := ((((Fr.refl F0 wb).drew).alloc _).alloc _ |>.alloc _).alloc _
        have hsz := HF0.out.size
        have hszf := hfr.size
        have HFIN : Hid (DN ((((wb.drew.alloc (.cells #[.bool false] 4)).alloc (.cells (Array.replicate (3 * S.k) (Value.slice none 0 0)) 77)).alloc (.cells (Array.replicate S.k (Value.slice none 0 0)) 75)).alloc (.cells (dpC S (wb.heap.size + 1) (wb.heap.size + 2) (.slice (some ⟨wb.heap.size, 0, none⟩) 1 1)) 83)) w.heap.size w.heap.size (wb.heap.size + 3) (wb.heap.size + 1) (wb.heap.size + 2) S (List.replicate (3 * S.k) (.slice none 0 0)) (List.replicate (3 * S.k) []) (.slice (some ⟨wb.heap.size, 0, none⟩) 1 1) 1) :=
          Lib.hid (DN.begin (w0 := w) (HB0.out.fr hfr (fun e => e)) bD ((b3.alloc _).alloc _) (b6.alloc _) (((b7.alloc _).alloc _).alloc _) (by omega) (by omega) (by omega) (by omega) (by omega))
        have HFRF := Lib.hid (HF0.out.trans hfr)
        clear e1 e2 e3 hfr hsz hszf bD c0 c1 c2 c3 c4 c5 c6 b7 b3 b6
        go_wp2_with fail
        go_meet
        exact ⟨_, _, _, _, rfl, HFIN.out, HFRF.out⟩
      · go_simp
        have HS2 : (Sp7 S w.heap.size) ((wb.drew.alloc (.cells #[.bool false] 4)).alloc (.cells (Array.replicate S.k (Value.slice none 0 0)) 75)) := by
          obtain ⟨d0, d1, d2, d3, d4, d5, d6⟩ := HS1
          have hf : Fr F0 (wb.drew.alloc (.cells #[.bool false] 4)) ((wb.drew.alloc (.cells #[.bool false] 4)).alloc (.cells (Array.replicate S.k (Value.slice none 0 0)) 75)) := (Fr.refl _ _).alloc _
          exact ⟨hf.held d0 (fun h => h), hf.held d1 (fun h => h), hf.held d2 (fun h => h), hf.held d3 (fun h => h), hf.held d4 (fun h => h), hf.held d5 (fun h => h), hf.held d6 (fun h => h)⟩
        refine hK.out _ _ (fun _ => HS2) ?_
        clear hK K
        refine AnyK.one (i := 3) rfl (by kernel_rfl) (fun K hK => ?_)
        go_simp
        have HS3 : (Sp7 S w.heap.size) (((wb.drew.alloc (.cells #[.bool false] 4)).alloc (.cells (Array.replicate S.k (Value.slice none 0 0)) 75)).alloc (.cells (Array.replicate (3 * S.k) (Value.slice none 0 0)) 77)) := by
          obtain ⟨d0, d1, d2, d3, d4, d5, d6⟩ := HS2
          have hf : Fr F0 ((wb.drew.alloc (.cells #[.bool false] 4)).alloc (.cells (Array.replicate S.k (Value.slice none 0 0)) 75)) (((wb.drew.alloc (.cells #[.bool false] 4)).alloc (.cells (Array.replicate S.k (Value.slice none 0 0)) 75)).alloc (.cells (Array.replicate (3 * S.k) (Value.slice none 0 0)) 77)) := (Fr.refl _ _).alloc _
          exact ⟨hf.held d0 (fun h => h), hf.held d1 (fun h => h), hf.held d2 (fun h => h), hf.held d3 (fun h => h), hf.held d4 (fun h => h), hf.held d5 (fun h => h), hf.held d6 (fun h => h)⟩
        refine hK.out _ _ (fun _ => HS3) ?_
        clear hK K
        refine AnyK.one (i := 8) rfl (by kernel_rfl) (fun K hK => ?_)
        go_simp
        refine hK.out _ _ (fun _ => HS3) ?_
        clear hK K
        refine AnyK.one (i := 9) rfl (by kernel_rfl) (fun K hK => ?_)
        go_simp
        have HS4 : (Sp7 S w.heap.size) ((((wb.drew.alloc (.cells #[.bool false] 4)).alloc (.cells (Array.replicate S.k (Value.slice none 0 0)) 75)).alloc (.cells (Array.replicate (3 * S.k) (Value.slice none 0 0)) 77)).alloc (.cells (dpC S (wb.heap.size + 2) (wb.heap.size + 1) (.slice (some ⟨wb.heap.size, 0, none⟩) 1 1)) 83)) := by
          obtain ⟨d0, d1, d2, d3, d4, d5, d6⟩ := HS3
          have hf : Fr F0 (((wb.drew.alloc (.cells #[.bool false] 4)).alloc (.cells (Array.replicate S.k (Value.slice none 0 0)) 75)).alloc (.cells (Array.replicate (3 * S.k) (Value.slice none 0 0)) 77)) ((((wb.drew.alloc (.cells #[.bool false] 4)).alloc (.cells (Array.replicate S.k (Value.slice none 0 0)) 75)).alloc (.cells (Array.replicate (3 * S.k) (Value.slice none 0 0)) 77)).alloc (.cells (dpC S (wb.heap.size + 2) (wb.heap.size + 1) (.slice (some ⟨wb.heap.size, 0, none⟩) 1 1)) 83)) := (Fr.refl _ _).alloc _
          exact ⟨hf.held d0 (fun h => h), hf.held d1 (fun h => h), hf.held d2 (fun h => h), hf.held d3 (fun h => h), hf.held d4 (fun h => h), hf.held d5 (fun h => h), hf.held d6 (fun h => h)⟩
        refine hK.out _ _ (fun _ => HS4) ?_
        clear hK K
        refine AnyK.one (i := 10) rfl (by kernel_rfl) (fun K hK => ?_)
        go_simp
        refine hK.out _ _ (fun h => absurd (h.symm.trans (by kernel_rfl : _ = true)) (by decide)) ?_
        clear hK K
        refine AnyK.done (by kernel_rfl) ?_ _
        have e1 : ((wb.drew.alloc (.cells #[.bool false] 4))).heap.size = wb.heap.size + 1 := by simp
        have e2 : (((wb.drew.alloc (.cells #[.bool false] 4)).alloc (.cells (Array.replicate S.k (Value.slice none 0 0)) 75))).heap.size = wb.heap.size + 2 := by simp
        have e3 : ((((wb.drew.alloc (.cells #[.bool false] 4)).alloc (.cells (Array.replicate S.k (Value.slice none 0 0)) 75)).alloc (.cells (Array.replicate (3 * S.k) (Value.slice none 0 0)) 77))).heap.size = wb.heap.size + 3 := by simp
        have b7 : Blk (wb.drew.alloc (.cells #[.bool false] 4)) wb.heap.size 4 #[.bool false] := by
          have h := Blk.new wb.drew 4 #[.bool false]
          exact h
        have b6 : Blk ((wb.drew.alloc (.cells #[.bool false] 4)).alloc (.cells (Array.replicate S.k (Value.slice none 0 0)) 75)) (wb.heap.size + 1) 75 (Array.replicate S.k (Value.slice none 0 0)) := by
          have h := Blk.new (wb.drew.alloc (.cells #[.bool false] 4)) 75 (Array.replicate S.k (Value.slice none 0 0))
          rw [e1] at h
          exact h
        have b3 : Blk (((wb.drew.alloc (.cells #[.bool false] 4)).alloc (.cells (Array.replicate S.k (Value.slice none 0 0)) 75)).alloc (.cells (Array.replicate (3 * S.k) (Value.slice none 0 0)) 77)) (wb.heap.size + 2) 77 (Array.replicate (3 * S.k) (Value.slice none 0 0)) := by
          have h := Blk.new ((wb.drew.alloc (.cells #[.bool false] 4)).alloc (.cells (Array.replicate S.k (Value.slice none 0 0)) 75)) 77 (Array.replicate (3 * S.k) (Value.slice none 0 0))
          rw [e2] at h
          exact h
        have bD : Blk ((((wb.drew.alloc (.cells #[.bool false] 4)).alloc (.cells (Array.replicate S.k (Value.slice none 0 0)) 75)).alloc (.cells (Array.replicate (3 * S.k) (Value.slice none 0 0)) 77)).alloc (.cells (dpC S (wb.heap.size + 2) (wb.heap.size + 1) (.slice (some ⟨wb.heap.size, 0, none⟩) 1 1)) 83)) (wb.heap.size + 3) 83 (dpC S (wb.heap.size + 2) (wb.heap.size + 1) (.slice (some ⟨wb.heap.size, 0, none⟩) 1 1)) := by
          have h := Blk.new (((wb.drew.alloc (.cells #[.bool false] 4)).alloc (.cells (Array.replicate S.k (Value.slice none 0 0)) 75)).alloc (.cells (Array.replicate (3 * S.k) (Value.slice none 0 0)) 77)) 83 (dpC S (wb.heap.size + 2) (wb.heap.size + 1) (.slice (some ⟨wb.heap.size, 0, none⟩) 1 1))
          rw [e3] at h
          exact h
        have hfr : Fr F0 wb ((((wb.drew.alloc (.cells #[.bool false] 4)).alloc (.cells (Array.replicate S.k (Value.slice none 0 0)) 75)).alloc (.cells (Array.replicate (3 * S.k) (Value.slice none 0 0)) 77)).alloc (.cells (dpC S (wb.heap.size + 2) (wb.heap.size + 1) (.slice (some ⟨wb.heap.size, 0, none⟩) 1 1)) 83)) := ((((Fr.refl F0 wb).drew).alloc _).alloc _ |>.alloc _).alloc _
        have hsz := HF0.out.size
        have hszf := hfr.size
        have HFIN : Hid (DN ((((wb.drew.alloc (.cells #[.bool false] 4)).alloc (.cells (Array.replicate S.k (Value.slice none 0 0)) 75)).alloc (.cells (Array.replicate (3 * S.k) (Value.slice none 0 0)) 77)).alloc (.cells (dpC S (wb.heap.size + 2) (wb.heap.size + 1) (.slice (some ⟨wb.heap.size, 0, none⟩) 1 1)) 83)) w.heap.size w.heap.size (wb.heap.size + 3) (wb.heap.size + 2) (wb.heap.size + 1) S (List.replicate (3 * S.k) (.slice none 0 0)) (List.replicate (3 * S.k) []) (.slice (some ⟨wb.heap.size, 0, none⟩) 1 1) 1) :=
          Lib.hid (DN.begin (w0 := w) (HB0.out.fr hfr (fun e => e)) bD (b3.alloc _) ((b6.alloc _).alloc _) (((b7.alloc _).alloc _).alloc _) (by omega) (by omega) (by omega) (by omega) (by omega))
        have HFRF := Lib.hid (HF0.out.trans hfr)
        clear e1 e2 e3 hfr hsz hszf bD c0 c1 c2 c3 c4 c5 c6 b7 b6 b3
        go_wp2_with fail
        go_meet
        exact ⟨_, _, _, _, rfl, HFIN.out, HFRF.out⟩


  case rest =>
    obtain ⟨D, fb, rb, tb, rfl, hN, hF⟩ := hcut
    have HN := Lib.hid hN
    have HF := Lib.hid hF
    clear hN hF hmk1 hmk2
    go_wp2_with fail
    go_loopw [4] (fun cv wx => ∃ (c : Nat) (gv : List Value) (gl : List (List Nat)) (tv : Value) (T : Nat), c ≤ 3 ∧ cv = .int .i64 (c : Int) ∧ Hid (DN wx w.heap.size w.heap.size D fb rb S gv gl tv T) ∧ Hid (∀ q, q < 3 * S.k → gl[q]? = some (rowP S c 0 0 q)) ∧ Hid (T = tcl S c) ∧ T ≤ 60 ∧ Hid (Fr F0 w wx)) (fun cv _ => 3 - (intOf cv).toNat)
    case atStart => exact ⟨0, _, _, _, 1, by omega, rfl, HN, Lib.hid (fun q hq => by
        rw [List.getElem?_replicate, if_pos hq]
        unfold rowP
        rw [if_neg (by omega)]
        by_cases h : q % 3 = 0 ∧ q / 3 = 0
        · rw [if_pos h]; rfl
        · rw [if_neg h]), Lib.hid rfl, by omega, HF⟩
    case round =>
      obtain ⟨c, gv, gl, tv, T, hc, rfl, HN, HROW, HT, hT, HF⟩ := hrel
      by_cases hc3 : c < 3
      · have g3 : (c : Int) < 3 := by omega
        go_wp2_with fail
        go_loopw [5] (fun ov wx => ∃ (o : Nat) (gv : List Value) (gl : List (List Nat)) (tv : Value) (T : Nat), o ≤ S.k ∧ ov = .int .i64 (o : Int) ∧ Hid (DN wx w.heap.size w.heap.size D fb rb S gv gl tv T) ∧ Hid (∀ q, q < 3 * S.k → gl[q]? = some (rowP S c o 0 q)) ∧ Hid (T = tcl S c + o * mny S c) ∧ T ≤ 60 ∧ Hid (Fr F0 w wx)) (fun ov _ => S.k - (intOf ov).toNat)
        case atStart => exact ⟨0, _, _, _, T, by omega, rfl, HN, HROW, Lib.hid (by rw [HT.out]; omega), by omega, HF⟩
        case round =>
          obtain ⟨o, gv, gl, tv, T, ho, rfl, HN, HROW, HT, hT, HF⟩ := hrel
          have c0 : wr.cell? ⟨w.heap.size, 0, none⟩ = some (.int .i64 (S.k : Int)) := by rw [HN.out.hA.cell]; rfl
          have ho5 : o ≤ 5 := by omega
          by_cases ho3 : o < S.k
          · have g4 : (o : Int) < (S.k : Int) := by omega
            obtain ⟨mc, hmc⟩ : ∃ mc, mc = mny S c := ⟨_, rfl⟩
            have hmc4 : mc ≤ 4 := by rw [hmc]; exact (siz_le HK.out c).2
            have HMC := Lib.hid hmc
            clear hmc
            go_wp2_with fail
            clear c0
            go_loopw [6] (fun jv wx => ∃ (j : Nat) (gv : List Value) (gl : List (List Nat)) (tv : Value) (T : Nat), j ≤ mc ∧ jv = .int .i64 (j : Int) ∧ Hid (DN wx w.heap.size w.heap.size D fb rb S gv gl tv T) ∧ Hid (∀ q, q < 3 * S.k → gl[q]? = some (rowP S c o j q)) ∧ Hid (T = tcl S c + o * mny S c + j) ∧ T ≤ 60 ∧ Hid (Fr F0 w wx)) (fun jv _ => mc - (intOf jv).toNat)
            case atStart => exact ⟨0, _, _, _, T, by omega, rfl, HN, HROW, Lib.hid (by rw [HT.out]; omega), by omega, HF⟩
            case round =>
              obtain ⟨j, gv, gl, tv, T, hj, rfl, HN, HROW, HT, hT, HF⟩ := hrel
              have cm : wr.cell? ⟨w.heap.size, 4 + c, none⟩ = some (.int .i64 (mc : Int)) := by
                rw [HN.out.hA.cell, HMC.out]
                have : c = 0 ∨ c = 1 ∨ c = 2 := by omega
                rcases this with rfl | rfl | rfl <;> rfl
              have hj5 : j ≤ 5 := by omega
              by_cases hjm : j < mc
              · have g5 : (j : Int) < (mc : Int) := by omega
                obtain ⟨hgl, hrow2⟩ := rowP_set hc3 HROW.out ho3 HN.out.gll (T := T) (by rw [HT.out, frs_tcl hc3])
                obtain ⟨v, hv⟩ := of_lt (show o * 3 + c < gv.length by have := HN.out.rr.len; have := lt_of hgl; omega)
                obtain ⟨l, hl⟩ : ∃ l, l = asc (frs S o c) j := ⟨_, rfl⟩
                rw [← hl] at hgl hrow2
                have hown := HN.out.rr.own _ _ _ hv hgl
                obtain ⟨A, cp, rfl⟩ := own_slice hown
                obtain ⟨L, hL⟩ : ∃ L, L = l.length := ⟨_, rfl⟩
                have hL5 : L ≤ 10 := by rw [hL, hl, asc_length]; omega
                rw [← hL] at hv
                obtain ⟨tA, tc, rfl⟩ := own_slice HN.out.ht
                have k7 : wr.cell? ⟨D, 7, none⟩ = some (.slice (some ⟨fb, 0, none⟩) S.k S.k) := by rw [HN.out.hD.cell]; rfl
                have k9 : wr.cell? ⟨D, 9, none⟩ = some (.slice tA T tc) := by rw [HN.out.hD.cell]; rfl
                have cf : wr.cell? ⟨fb, o * 3 + c, none⟩ = some (.slice A L cp) := by rw [HN.out.hf.cell, List.getElem?_toArray, hv]
                have HGL := Lib.hid hgl
                have HV := Lib.hid hv
                have HLL := Lib.hid hL
                have HROW2 := Lib.hid hrow2
                have HT2 : Hid (T + 1 = tcl S c + o * mny S c + (j + 1)) := Lib.hid (by have := HT.out; omega)
                have hT60 : T ≤ 55 := by
                  have h1 := tcl_next (S := S) hc3
                  have h2 := tcl_le (S := S) (c := c + 1) (by omega)
                  have h3 := mul_bound (s := mny S c) ho3
                  have h4 := HK.out.n
                  have h5 := HT.out
                  have h6 := HMC.out
                  omega
                have g6 : (o : Int) < (S.k : Int) := by omega
                have g7 : (c : Int) < 3 := by omega
                clear hl hgl hrow2 hv hown hL
                go_wp2_with fail
                clear cm
                refine region_K 22 (fun w' : World => w'.cell? ⟨D, 7, none⟩ = some (.slice (some ⟨fb, 0, none⟩) S.k S.k) ∧ w'.cell? ⟨D, 9, none⟩ = some (.slice tA T tc) ∧ w'.cell? ⟨fb, o * 3 + c, none⟩ = some (.slice A L cp)) (by kernel_rfl) ?_
                have HS0 : (fun w' : World => w'.cell? ⟨D, 7, none⟩ = some (.slice (some ⟨fb, 0, none⟩) S.k S.k) ∧ w'.cell? ⟨D, 9, none⟩ = some (.slice tA T tc) ∧ w'.cell? ⟨fb, o * 3 + c, none⟩ = some (.slice A L cp)) wr.drew := ⟨k7, k9, cf⟩
                refine AnyK.take (i := 0) rfl (by decide) (by kernel_rfl) (by kernel_rfl) (by kernel_rfl) (fun _ _ _ _ h => h) HS0 (fun K hK => ?_)
                go_simp
                refine hK.out _ ⟨_, by rfl, Or.inl ⟨by rfl, by intro w hSw; (try dsimp only at hSw); obtain ⟨hS0, hS1, hS2⟩ := hSw; go_simp⟩, ?_⟩
                clear hK K
                refine AnyK.take (i := 1) rfl (by decide) (by kernel_rfl) (by kernel_rfl) (by kernel_rfl) (fun _ _ _ _ h => h) HS0 (fun K hK => ?_)
                go_simp
                refine hK.out _ ⟨_, by rfl, Or.inl ⟨by rfl, by intro w hSw; (try dsimp only at hSw); obtain ⟨hS0, hS1, hS2⟩ := hSw; go_simp⟩, ?_⟩
                clear hK K
                refine AnyK.take (i := 2) rfl (by decide) (by kernel_rfl) (by kernel_rfl) (by kernel_rfl) (fun _ _ _ _ h => h) HS0 (fun K hK => ?_)
                go_simp
                refine hK.out _ ⟨_, by rfl, Or.inl ⟨by rfl, by intro w hSw; (try dsimp only at hSw); obtain ⟨hS0, hS1, hS2⟩ := hSw; go_simp⟩, ?_⟩
                clear hK K
                refine AnyK.take (i := 3) rfl (by decide) (by kernel_rfl) (by kernel_rfl) (by kernel_rfl) (fun _ _ _ _ h => h) HS0 (fun K hK => ?_)
                go_simp
                refine hK.out _ ⟨_, by rfl, Or.inl ⟨by rfl, by intro w hSw; (try dsimp only at hSw); obtain ⟨hS0, hS1, hS2⟩ := hSw; go_simp⟩, ?_⟩
                clear hK K
                refine AnyK.take (i := 4) rfl (by decide) (by kernel_rfl) (by kernel_rfl) (by kernel_rfl) (fun _ _ _ _ h => h) HS0 (fun K hK => ?_)
                go_simp
                refine hK.out _ ⟨_, by rfl, Or.inl ⟨by rfl, by intro w hSw; (try dsimp only at hSw); obtain ⟨hS0, hS1, hS2⟩ := hSw; go_simp⟩, ?_⟩
                clear hK K
                refine AnyK.take (i := 5) rfl (by decide) (by kernel_rfl) (by kernel_rfl) (by kernel_rfl) (fun _ _ _ _ h => h) HS0 (fun K hK => ?_)
                go_simp
                refine hK.out _ ⟨_, by rfl, Or.inl ⟨by rfl, by intro w hSw; (try dsimp only at hSw); obtain ⟨hS0, hS1, hS2⟩ := hSw; go_simp⟩, ?_⟩
                clear hK K
                refine AnyK.take (i := 6) rfl (by decide) (by kernel_rfl) (by kernel_rfl) (by kernel_rfl) (fun _ _ _ _ h => h) HS0 (fun K hK => ?_)
                go_simp
                refine hK.out _ ⟨_, by rfl, Or.inl ⟨by rfl, by intro w hSw; (try dsimp only at hSw); obtain ⟨hS0, hS1, hS2⟩ := hSw; go_simp⟩, ?_⟩
                clear hK K
                refine AnyK.take (i := 7) rfl (by decide) (by kernel_rfl) (by kernel_rfl) (by kernel_rfl) (fun _ _ _ _ h => h) HS0 (fun K hK => ?_)
                go_simp
                refine hK.out _ ⟨_, by rfl, Or.inl ⟨by rfl, by intro w hSw; (try dsimp only at hSw); obtain ⟨hS0, hS1, hS2⟩ := hSw; go_simp⟩, ?_⟩
                clear hK K
                refine AnyK.take (i := 8) rfl (by decide) (by kernel_rfl) (by kernel_rfl) (by kernel_rfl) (fun _ _ _ _ h => h) HS0 (fun K hK => ?_)
                go_simp
                refine hK.out _ ⟨_, by rfl, Or.inl ⟨by rfl, by intro w hSw; (try dsimp only at hSw); obtain ⟨hS0, hS1, hS2⟩ := hSw; go_simp⟩, ?_⟩
                clear hK K
                refine AnyK.take (i := 9) rfl (by decide) (by kernel_rfl) (by kernel_rfl) (by kernel_rfl) (fun _ _ _ _ h => h) HS0 (fun K hK => ?_)
                go_simp
                refine hK.out _ ⟨_, by rfl, Or.inl ⟨by rfl, by intro w hSw; (try dsimp only at hSw); obtain ⟨hS0, hS1, hS2⟩ := hSw; go_simp⟩, ?_⟩
                clear hK K
                refine AnyK.take (i := 10) rfl (by decide) (by kernel_rfl) (by kernel_rfl) (by kernel_rfl) (fun _ _ _ _ h => h) HS0 (fun K hK => ?_)
                go_simp
                refine hK.out _ ⟨_, by rfl, Or.inl ⟨by rfl, by intro w hSw; (try dsimp only at hSw); obtain ⟨hS0, hS1, hS2⟩ := hSw; go_simp⟩, ?_⟩
                clear hK K
                refine AnyK.take (i := 11) rfl (by decide) (by kernel_rfl) (by kernel_rfl) (by kernel_rfl) (fun _ _ _ _ h => h) HS0 (fun K hK => ?_)
                go_simp
                refine hK.out _ ⟨_, by rfl, Or.inl ⟨by rfl, by intro w hSw; (try dsimp only at hSw); obtain ⟨hS0, hS1, hS2⟩ := hSw; go_simp⟩, ?_⟩
                clear hK K
                refine AnyK.take (i := 12) rfl (by decide) (by kernel_rfl) (by kernel_rfl) (by kernel_rfl) (fun _ _ _ _ h => h) HS0 (fun K hK => ?_)
                go_simp
                refine hK.out _ ⟨_, by rfl, Or.inl ⟨by rfl, by intro w hSw; (try dsimp only at hSw); obtain ⟨hS0, hS1, hS2⟩ := hSw; go_simp⟩, ?_⟩
                clear hK K
                refine AnyK.take (i := 13) rfl (by decide) (by kernel_rfl) (by kernel_rfl) (by kernel_rfl) (fun _ _ _ _ h => h) HS0 (fun K hK => ?_)
                go_simp
                refine hK.out _ ⟨_, by rfl, Or.inl ⟨by rfl, by intro w hSw; (try dsimp only at hSw); obtain ⟨hS0, hS1, hS2⟩ := hSw; go_simp⟩, ?_⟩
                clear hK K
                refine AnyK.take (i := 14) rfl (by decide) (by kernel_rfl) (by kernel_rfl) (by kernel_rfl) (fun _ _ _ _ h => h) HS0 (fun K hK => ?_)
                go_simp
                refine hK.out _ ⟨_, by rfl, Or.inl ⟨by rfl, by intro w hSw; (try dsimp only at hSw); obtain ⟨hS0, hS1, hS2⟩ := hSw; go_simp⟩, ?_⟩
                clear hK K
                refine AnyK.take (i := 15) rfl (by decide) (by kernel_rfl) (by kernel_rfl) (by kernel_rfl) (fun _ _ _ _ h => h) HS0 (fun K hK => ?_)
                go_simp
                refine hK.out _ ⟨_, by rfl, Or.inl ⟨by rfl, by intro w hSw; (try dsimp only at hSw); obtain ⟨hS0, hS1, hS2⟩ := hSw; go_simp⟩, ?_⟩
                clear hK K
                refine AnyK.take (i := 16) rfl (by decide) (by kernel_rfl) (by kernel_rfl) (by kernel_rfl) (fun _ _ _ _ h => h) HS0 (fun K hK => ?_)
                go_simp
                refine hK.out _ ⟨_, by rfl, Or.inl ⟨by rfl, by intro w hSw; (try dsimp only at hSw); obtain ⟨hS0, hS1, hS2⟩ := hSw; go_simp⟩, ?_⟩
                clear hK K
                refine AnyK.take (i := 17) rfl (by decide) (by kernel_rfl) (by kernel_rfl) (by kernel_rfl) (fun _ _ _ _ h => h) HS0 (fun K hK => ?_)
                go_simp
                refine hK.out _ ⟨_, by rfl, Or.inl ⟨by rfl, by intro w hSw; (try dsimp only at hSw); obtain ⟨hS0, hS1, hS2⟩ := hSw; go_simp⟩, ?_⟩
                clear hK K
                refine AnyK.take (i := 18) rfl (by decide) (by kernel_rfl) (by kernel_rfl) (by kernel_rfl) (fun _ _ _ _ h => h) HS0 (fun K hK => ?_)
                go_simp
                refine hK.out _ ⟨_, by rfl, Or.inl ⟨by rfl, by intro w hSw; (try dsimp only at hSw); obtain ⟨hS0, hS1, hS2⟩ := hSw; go_simp⟩, ?_⟩
                clear hK K
                refine AnyK.take (i := 19) rfl (by decide) (by kernel_rfl) (by kernel_rfl) (by kernel_rfl) (fun _ _ _ _ h => h) HS0 (fun K hK => ?_)
                go_simp
                refine hK.out _ ⟨_, by rfl, Or.inl ⟨by rfl, by intro w hSw; (try dsimp only at hSw); obtain ⟨hS0, hS1, hS2⟩ := hSw; go_simp⟩, ?_⟩
                clear hK K
                refine AnyK.two (i := 20) (j := 22) rfl rfl (by kernel_rfl) (fun K hK => ?_) (fun K hK => ?_)
                · go_simp
                  have hfa : Fr F0 wr (wr.drew.alloc (.cells #[.int .i64 (T : Int)] 3)) := ((Fr.refl F0 wr).drew).alloc _
                  have HS1 : (fun w' : World => w'.cell? ⟨D, 7, none⟩ = some (.slice (some ⟨fb, 0, none⟩) S.k S.k) ∧ w'.cell? ⟨D, 9, none⟩ = some (.slice tA T tc) ∧ w'.cell? ⟨fb, o * 3 + c, none⟩ = some (.slice A L cp)) (wr.drew.alloc (.cells #[.int .i64 (T : Int)] 3)) := ⟨hfa.held k7 (fun h => h), hfa.held k9 (fun h => h), hfa.held cf (fun h => h)⟩
                  have HDA := Lib.hid (HN.out.f0 hfa)
                  have HOA := Lib.hid (HDA.out.rr.own _ _ _ HV.out HGL.out)
                  rw [← HLL.out] at HOA
                  have HRA : Hid (Rd (wr.drew.alloc (.cells #[.int .i64 (T : Int)] 3)) (fun _ => True) 1 (some ⟨wr.heap.size, 0, none⟩) 1 [.int .i64 (T : Int)]) := Lib.hid (Rd.of_blk (Blk.new wr.drew 3 [.int .i64 (T : Int)].toArray) rfl trivial)
                  have HSZA : Hid (w.heap.size ≤ (wr.drew.alloc (.cells #[.int .i64 (T : Int)] 3)).heap.size) := HDA.out.hx
                  have HFA := Lib.hid hfa
                  refine hK.out _ _ (fun _ => HS1) ?_
                  clear hK K hfa
                  refine AnyK.two (i := 21) (j := 22) rfl rfl (by kernel_rfl) (fun K hK => ?_) (fun K hK => ?_)
                  · refine step_app (wr.drew.alloc (.cells #[.int .i64 (T : Int)] 3)) (by rfl) _ _ _ (by rfl) w.heap.size 3 i0 _ 1 8 Try.underlying75 hi0 hz0 hz1 hz2 rfl (by omega) (.slice A L cp) L _ (by rfl) HOA.out (fun _ => True) (some ⟨wr.heap.size, 0, none⟩) 1 1 [.int .i64 (T : Int)] (by rfl) HRA.out (by intro u hu; simp only [List.mem_singleton] at hu; subst hu; rfl) (by unfold maxLen; omega) (by omega) HSZA.out ?_
                    intro v' w4 hown4 hg4 hor4
                    have hF4 : Fr (fun k => (Value.slice A L cp).ownBlock = some k) (wr.drew.alloc (.cells #[.int .i64 (T : Int)] 3)) w4 := (Fr.grown hg4).mono (fun k h => h.symm)
                    have hnf : (Value.slice A L cp).ownBlock ≠ some fb := fun e => own_ne HOA.out HDA.out.hf (by decide) e
                    have hnD : (Value.slice A L cp).ownBlock ≠ some D := fun e => own_ne HOA.out HDA.out.hD (by decide) e
                    have HS4 : (fun w' : World => w'.cell? ⟨D, 7, none⟩ = some (.slice (some ⟨fb, 0, none⟩) S.k S.k) ∧ w'.cell? ⟨D, 9, none⟩ = some (.slice tA T tc) ∧ w'.cell? ⟨fb, o * 3 + c, none⟩ = some (.slice A L cp)) w4 := ⟨hF4.held HS1.1 hnD, hF4.held HS1.2.1 hnD, hF4.held HS1.2.2 hnf⟩
                    have zf4 : w4.frozen? ⟨fb, o * 3 + c, none⟩ = false := by
                      rw [World.frozen?_of_block (a := ⟨fb, o * 3 + c, none⟩) (hF4.block fb HDA.out.hf.lt hnf)]
                      exact HDA.out.hf.frozen _
                    have hown5 : w4.ownsRow w.heap.size 3 1 v' (l ++ [T]).length (nc (l ++ [T])) := by
                      have e1 : (l ++ [T]).length = L + 1 := by simp [HLL.out]
                      have e2 : nc (l ++ [T]) = nc l ++ [.int .i64 (T : Int)] := by simp [nc]
                      rw [e1, e2]; exact hown4
                    have HD5 := Lib.hid (HDA.out.setrow HV.out hF4 hown5 (fun k hk => by
                      rcases hor4 with h1 | h1
                      · exact .inl (by rw [← h1]; exact hk)
                      · rw [h1] at hk; injection hk with hk; exact .inr (by omega)))
                    have HF5 : Hid (Fr F0 w (w4.setCell ⟨fb, o * 3 + c, none⟩ v')) := Lib.hid (HF.out.g2 (((HFA.out.f0 (B := fun k => k = fb ∨ (Value.slice A L cp).ownBlock = some k)).trans (hF4.mono (fun k hk => .inr hk))).setCell (p := ⟨fb, o * 3 + c, none⟩) (.inl (.inl rfl)) _) (fun q hq => by
                      rcases hq with rfl | hq
                      · exact HDA.out.xf
                      · exact (HOA.out.lt q hq).1))
                    have k74 := HS4.1
                    have k94 := HS4.2.1
                    have cf4 := HS4.2.2
                    obtain ⟨nA, ncp, rfl⟩ := own_slice hown4
                    refine hK.out _ _ (fun _ => HS4) ?_
                    clear hK K hown4 hg4 hor4 hF4 hown5 hnf hnD
                    refine AnyK.one (i := 22) rfl (by kernel_rfl) (fun K hK => ?_)
                    go_simp
                    refine hK.out _ _ (fun _ => HS4) ?_
                    clear hK K
                    refine AnyK.one (i := 23) rfl (by kernel_rfl) (fun K hK => ?_)
                    go_simp
                    refine hK.out _ _ (fun _ => HS4) ?_
                    clear hK K
                    refine AnyK.one (i := 24) rfl (by kernel_rfl) (fun K hK => ?_)
                    go_simp
                    refine hK.out _ _ (fun h => absurd (h.symm.trans (by kernel_rfl : _ = true)) (by decide)) ?_
                    clear hK K
                    refine AnyK.done (by kernel_rfl) ?_ _
                    clear HDA HOA HRA HSZA HFA HS1 HS4 zf4 k74 k94 cf4 HS0 k7 k9 cf
                    generalize hw5 : (w4.setCell ⟨fb, o * 3 + c, none⟩ (.slice nA (L + 1) ncp)) = w5 at HD5 HF5 ⊢
                    clear hw5
                    have j9 : w5.cell? ⟨D, 9, none⟩ = some (.slice tA T tc) := by rw [HD5.out.hD.cell]; rfl
                    have z9 : w5.frozen? ⟨D, 9, none⟩ = false := HD5.out.hD.frozen _
                    have hfb : Fr F0 w5 (w5.alloc (.cells #[.bool false] 4)) := (Fr.refl _ _).alloc _
                    have HDB := Lib.hid (HD5.out.f0 hfb)
                    have HFB := Lib.hid (HF5.out.trans hfb)
                    have HRB : Hid (Rd (w5.alloc (.cells #[.bool false] 4)) (fun _ => True) 1 (some ⟨w5.heap.size, 0, none⟩) 1 [.bool false]) := Lib.hid (Rd.of_blk (Blk.new w5 4 [.bool false].toArray) rfl trivial)
                    have HTB := Lib.hid HDB.out.ht
                    have hsb := HDB.out.hx
                    clear hfb HF5 HD5
                    go_wp2_with (at_builtin; refine app_list (w5.alloc (.cells #[.bool false] 4)) rfl (.tmp 63) (.tmp 64) 61 rfl w.heap.size 4 i1 (.bool false) 1 1 Try.underlying61 hi1 hy0 hy1 hy2 rfl (by decide) _ T _ rfl HTB.out (fun _ => True) _ 1 1 _ rfl HRB.out (by intro u hu; simp at hu; subst hu; rfl) (by unfold maxLen; omega) (by omega) hsb ?_)
                    intro v6 w6 h2 h3 h4
                    have hF6 : Fr (fun k => (Value.slice tA T tc).ownBlock = some k) (w5.alloc (.cells #[.bool false] 4)) w6 := (Fr.grown h3).mono (fun k h => h.symm)
                    have hnD6 : (Value.slice tA T tc).ownBlock ≠ some D := fun e => own_ne HTB.out HDB.out.hD (by decide) e
                    have m9 : w6.cell? ⟨D, 9, none⟩ = some (.slice tA T tc) := hF6.held (by rw [HDB.out.hD.cell]; rfl) hnD6
                    have y9 : w6.frozen? ⟨D, 9, none⟩ = false := by
                      rw [World.frozen?_of_block (a := ⟨D, 9, none⟩) (hF6.block D HDB.out.hD.lt hnD6)]
                      exact HDB.out.hD.frozen _
                    have h2' : w6.ownsRow w.heap.size 4 1 v6 (T + 1) (bc (List.replicate (T + 1) false)) := by
                      have e : bc (List.replicate (T + 1) false) = bc (List.replicate T false) ++ [.bool false] := by
                        rw [List.replicate_succ']; simp [bc]
                      rw [e]; exact h2
                    obtain ⟨A6, c6, rfl⟩ := own_slice h2
                    have HD7 := Lib.hid (HDB.out.settaken hF6 h2')
                    have HF7 : Hid (Fr F0 w (w6.setCell ⟨D, 9, none⟩ (.slice A6 (T + 1) c6))) := Lib.hid (HFB.out.g2 ((hF6.mono (B' := fun k => k = D ∨ (Value.slice tA T tc).ownBlock = some k) (fun k hk => .inr hk)).setCell (p := ⟨D, 9, none⟩) (.inl (.inl rfl)) _) (fun q hq => by
                      rcases hq with rfl | hq
                      · exact HDB.out.xD
                      · exact (HTB.out.lt q hq).1))
                    clear h2 h3 h4 h2' hF6 hnD6 j9 z9 hsb HTB HRB HFB HDB
                    go_wp2_with fail
                    exact ⟨⟨j + 1, _, _, _, T + 1, by omega, by go_num, HD7, HROW2, HT2, by omega, HF7⟩, by simp [intOf]; omega⟩
                  · go_simp
                    refine hK.out _ _ (fun _ => HS1) ?_
                    clear hK K
                    refine AnyK.one (i := 21) rfl (by kernel_rfl) (fun K hK => ?_)
                    refine step_app (wr.drew.alloc (.cells #[.int .i64 (T : Int)] 3)) (by rfl) _ _ _ (by rfl) w.heap.size 3 i0 _ 1 8 Try.underlying75 hi0 hz0 hz1 hz2 rfl (by omega) (.slice A L cp) L _ (by rfl) HOA.out (fun _ => True) (some ⟨wr.heap.size, 0, none⟩) 1 1 [.int .i64 (T : Int)] (by rfl) HRA.out (by intro u hu; simp only [List.mem_singleton] at hu; subst hu; rfl) (by unfold maxLen; omega) (by omega) HSZA.out ?_
                    intro v' w4 hown4 hg4 hor4
                    have hF4 : Fr (fun k => (Value.slice A L cp).ownBlock = some k) (wr.drew.alloc (.cells #[.int .i64 (T : Int)] 3)) w4 := (Fr.grown hg4).mono (fun k h => h.symm)
                    have hnf : (Value.slice A L cp).ownBlock ≠ some fb := fun e => own_ne HOA.out HDA.out.hf (by decide) e
                    have hnD : (Value.slice A L cp).ownBlock ≠ some D := fun e => own_ne HOA.out HDA.out.hD (by decide) e
                    have HS4 : (fun w' : World => w'.cell? ⟨D, 7, none⟩ = some (.slice (some ⟨fb, 0, none⟩) S.k S.k) ∧ w'.cell? ⟨D, 9, none⟩ = some (.slice tA T tc) ∧ w'.cell? ⟨fb, o * 3 + c, none⟩ = some (.slice A L cp)) w4 := ⟨hF4.held HS1.1 hnD, hF4.held HS1.2.1 hnD, hF4.held HS1.2.2 hnf⟩
                    have zf4 : w4.frozen? ⟨fb, o * 3 + c, none⟩ = false := by
                      rw [World.frozen?_of_block (a := ⟨fb, o * 3 + c, none⟩) (hF4.block fb HDA.out.hf.lt hnf)]
                      exact HDA.out.hf.frozen _
                    have hown5 : w4.ownsRow w.heap.size 3 1 v' (l ++ [T]).length (nc (l ++ [T])) := by
                      have e1 : (l ++ [T]).length = L + 1 := by simp [HLL.out]
                      have e2 : nc (l ++ [T]) = nc l ++ [.int .i64 (T : Int)] := by simp [nc]
                      rw [e1, e2]; exact hown4
                    have HD5 := Lib.hid (HDA.out.setrow HV.out hF4 hown5 (fun k hk => by
                      rcases hor4 with h1 | h1
                      · exact .inl (by rw [← h1]; exact hk)
                      · rw [h1] at hk; injection hk with hk; exact .inr (by omega)))
                    have HF5 : Hid (Fr F0 w (w4.setCell ⟨fb, o * 3 + c, none⟩ v')) := Lib.hid (HF.out.g2 (((HFA.out.f0 (B := fun k => k = fb ∨ (Value.slice A L cp).ownBlock = some k)).trans (hF4.mono (fun k hk => .inr hk))).setCell (p := ⟨fb, o * 3 + c, none⟩) (.inl (.inl rfl)) _) (fun q hq => by
                      rcases hq with rfl | hq
                      · exact HDA.out.xf
                      · exact (HOA.out.lt q hq).1))
                    have k74 := HS4.1
                    have k94 := HS4.2.1
                    have cf4 := HS4.2.2
                    obtain ⟨nA, ncp, rfl⟩ := own_slice hown4
                    refine hK.out _ _ (fun _ => HS4) ?_
                    clear hK K hown4 hg4 hor4 hF4 hown5 hnf hnD
                    refine AnyK.one (i := 23) rfl (by kernel_rfl) (fun K hK => ?_)
                    go_simp
                    refine hK.out _ _ (fun _ => HS4) ?_
                    clear hK K
                    refine AnyK.one (i := 24) rfl (by kernel_rfl) (fun K hK => ?_)
                    go_simp
                    refine hK.out _ _ (fun h => absurd (h.symm.trans (by kernel_rfl : _ = true)) (by decide)) ?_
                    clear hK K
                    refine AnyK.done (by kernel_rfl) ?_ _
                    clear HDA HOA HRA HSZA HFA HS1 HS4 zf4 k74 k94 cf4 HS0 k7 k9 cf
                    generalize hw5 : (w4.setCell ⟨fb, o * 3 + c, none⟩ (.slice nA (L + 1) ncp)) = w5 at HD5 HF5 ⊢
                    clear hw5
                    have j9 : w5.cell? ⟨D, 9, none⟩ = some (.slice tA T tc) := by rw [HD5.out.hD.cell]; rfl
                    have z9 : w5.frozen? ⟨D, 9, none⟩ = false := HD5.out.hD.frozen _
                    have hfb : Fr F0 w5 (w5.alloc (.cells #[.bool false] 4)) := (Fr.refl _ _).alloc _
                    have HDB := Lib.hid (HD5.out.f0 hfb)
                    have HFB := Lib.hid (HF5.out.trans hfb)
                    have HRB : Hid (Rd (w5.alloc (.cells #[.bool false] 4)) (fun _ => True) 1 (some ⟨w5.heap.size, 0, none⟩) 1 [.bool false]) := Lib.hid (Rd.of_blk (Blk.new w5 4 [.bool false].toArray) rfl trivial)
                    have HTB := Lib.hid HDB.out.ht
                    have hsb := HDB.out.hx
                    clear hfb HF5 HD5
                    go_wp2_with (at_builtin; refine app_list (w5.alloc (.cells #[.bool false] 4)) rfl (.tmp 63) (.tmp 64) 61 rfl w.heap.size 4 i1 (.bool false) 1 1 Try.underlying61 hi1 hy0 hy1 hy2 rfl (by decide) _ T _ rfl HTB.out (fun _ => True) _ 1 1 _ rfl HRB.out (by intro u hu; simp at hu; subst hu; rfl) (by unfold maxLen; omega) (by omega) hsb ?_)
                    intro v6 w6 h2 h3 h4
                    have hF6 : Fr (fun k => (Value.slice tA T tc).ownBlock = some k) (w5.alloc (.cells #[.bool false] 4)) w6 := (Fr.grown h3).mono (fun k h => h.symm)
                    have hnD6 : (Value.slice tA T tc).ownBlock ≠ some D := fun e => own_ne HTB.out HDB.out.hD (by decide) e
                    have m9 : w6.cell? ⟨D, 9, none⟩ = some (.slice tA T tc) := hF6.held (by rw [HDB.out.hD.cell]; rfl) hnD6
                    have y9 : w6.frozen? ⟨D, 9, none⟩ = false := by
                      rw [World.frozen?_of_block (a := ⟨D, 9, none⟩) (hF6.block D HDB.out.hD.lt hnD6)]
                      exact HDB.out.hD.frozen _
                    have h2' : w6.ownsRow w.heap.size 4 1 v6 (T + 1) (bc (List.replicate (T + 1) false)) := by
                      have e : bc (List.replicate (T + 1) false) = bc (List.replicate T false) ++ [.bool false] := by
                        rw [List.replicate_succ']; simp [bc]
                      rw [e]; exact h2
                    obtain ⟨A6, c6, rfl⟩ := own_slice h2
                    have HD7 := Lib.hid (HDB.out.settaken hF6 h2')
                    have HF7 : Hid (Fr F0 w (w6.setCell ⟨D, 9, none⟩ (.slice A6 (T + 1) c6))) := Lib.hid (HFB.out.g2 ((hF6.mono (B' := fun k => k = D ∨ (Value.slice tA T tc).ownBlock = some k) (fun k hk => .inr hk)).setCell (p := ⟨D, 9, none⟩) (.inl (.inl rfl)) _) (fun q hq => by
                      rcases hq with rfl | hq
                      · exact HDB.out.xD
                      · exact (HTB.out.lt q hq).1))
                    clear h2 h3 h4 h2' hF6 hnD6 j9 z9 hsb HTB HRB HFB HDB
                    go_wp2_with fail
                    exact ⟨⟨j + 1, _, _, _, T + 1, by omega, by go_num, HD7, HROW2, HT2, by omega, HF7⟩, by simp [intOf]; omega⟩
                · go_simp
                  refine hK.out _ _ (fun _ => HS0) ?_
                  clear hK K
                  refine AnyK.one (i := 20) rfl (by kernel_rfl) (fun K hK => ?_)
                  go_simp
                  have hfa : Fr F0 wr (wr.drew.alloc (.cells #[.int .i64 (T : Int)] 3)) := ((Fr.refl F0 wr).drew).alloc _
                  have HS1 : (fun w' : World => w'.cell? ⟨D, 7, none⟩ = some (.slice (some ⟨fb, 0, none⟩) S.k S.k) ∧ w'.cell? ⟨D, 9, none⟩ = some (.slice tA T tc) ∧ w'.cell? ⟨fb, o * 3 + c, none⟩ = some (.slice A L cp)) (wr.drew.alloc (.cells #[.int .i64 (T : Int)] 3)) := ⟨hfa.held k7 (fun h => h), hfa.held k9 (fun h => h), hfa.held cf (fun h => h)⟩
                  have HDA := Lib.hid (HN.out.f0 hfa)
                  have HOA := Lib.hid (HDA.out.rr.own _ _ _ HV.out HGL.out)
                  rw [← HLL.out] at HOA
                  have HRA : Hid (Rd (wr.drew.alloc (.cells #[.int .i64 (T : Int)] 3)) (fun _ => True) 1 (some ⟨wr.heap.size, 0, none⟩) 1 [.int .i64 (T : Int)]) := Lib.hid (Rd.of_blk (Blk.new wr.drew 3 [.int .i64 (T : Int)].toArray) rfl trivial)
                  have HSZA : Hid (w.heap.size ≤ (wr.drew.alloc (.cells #[.int .i64 (T : Int)] 3)).heap.size) := HDA.out.hx
                  have HFA := Lib.hid hfa
                  refine hK.out _ _ (fun _ => HS1) ?_
                  clear hK K hfa
                  refine AnyK.one (i := 21) rfl (by kernel_rfl) (fun K hK => ?_)
                  refine step_app (wr.drew.alloc (.cells #[.int .i64 (T : Int)] 3)) (by rfl) _ _ _ (by rfl) w.heap.size 3 i0 _ 1 8 Try.underlying75 hi0 hz0 hz1 hz2 rfl (by omega) (.slice A L cp) L _ (by rfl) HOA.out (fun _ => True) (some ⟨wr.heap.size, 0, none⟩) 1 1 [.int .i64 (T : Int)] (by rfl) HRA.out (by intro u hu; simp only [List.mem_singleton] at hu; subst hu; rfl) (by unfold maxLen; omega) (by omega) HSZA.out ?_
                  intro v' w4 hown4 hg4 hor4
                  have hF4 : Fr (fun k => (Value.slice A L cp).ownBlock = some k) (wr.drew.alloc (.cells #[.int .i64 (T : Int)] 3)) w4 := (Fr.grown hg4).mono (fun k h => h.symm)
                  have hnf : (Value.slice A L cp).ownBlock ≠ some fb := fun e => own_ne HOA.out HDA.out.hf (by decide) e
                  have hnD : (Value.slice A L cp).ownBlock ≠ some D := fun e => own_ne HOA.out HDA.out.hD (by decide) e
                  have HS4 : (fun w' : World => w'.cell? ⟨D, 7, none⟩ = some (.slice (some ⟨fb, 0, none⟩) S.k S.k) ∧ w'.cell? ⟨D, 9, none⟩ = some (.slice tA T tc) ∧ w'.cell? ⟨fb, o * 3 + c, none⟩ = some (.slice A L cp)) w4 := ⟨hF4.held HS1.1 hnD, hF4.held HS1.2.1 hnD, hF4.held HS1.2.2 hnf⟩
                  have zf4 : w4.frozen? ⟨fb, o * 3 + c, none⟩ = false := by
                    rw [World.frozen?_of_block (a := ⟨fb, o * 3 + c, none⟩) (hF4.block fb HDA.out.hf.lt hnf)]
                    exact HDA.out.hf.frozen _
                  have hown5 : w4.ownsRow w.heap.size 3 1 v' (l ++ [T]).length (nc (l ++ [T])) := by
                    have e1 : (l ++ [T]).length = L + 1 := by simp [HLL.out]
                    have e2 : nc (l ++ [T]) = nc l ++ [.int .i64 (T : Int)] := by simp [nc]
                    rw [e1, e2]; exact hown4
                  have HD5 := Lib.hid (HDA.out.setrow HV.out hF4 hown5 (fun k hk => by
                    rcases hor4 with h1 | h1
                    · exact .inl (by rw [← h1]; exact hk)
                    · rw [h1] at hk; injection hk with hk; exact .inr (by omega)))
                  have HF5 : Hid (Fr F0 w (w4.setCell ⟨fb, o * 3 + c, none⟩ v')) := Lib.hid (HF.out.g2 (((HFA.out.f0 (B := fun k => k = fb ∨ (Value.slice A L cp).ownBlock = some k)).trans (hF4.mono (fun k hk => .inr hk))).setCell (p := ⟨fb, o * 3 + c, none⟩) (.inl (.inl rfl)) _) (fun q hq => by
                    rcases hq with rfl | hq
                    · exact HDA.out.xf
                    · exact (HOA.out.lt q hq).1))
                  have k74 := HS4.1
                  have k94 := HS4.2.1
                  have cf4 := HS4.2.2
                  obtain ⟨nA, ncp, rfl⟩ := own_slice hown4
                  refine hK.out _ _ (fun _ => HS4) ?_
                  clear hK K hown4 hg4 hor4 hF4 hown5 hnf hnD
                  refine AnyK.one (i := 23) rfl (by kernel_rfl) (fun K hK => ?_)
                  go_simp
                  refine hK.out _ _ (fun _ => HS4) ?_
                  clear hK K
                  refine AnyK.one (i := 24) rfl (by kernel_rfl) (fun K hK => ?_)
                  go_simp
                  refine hK.out _ _ (fun h => absurd (h.symm.trans (by kernel_rfl : _ = true)) (by decide)) ?_
                  clear hK K
                  refine AnyK.done (by kernel_rfl) ?_ _
                  clear HDA HOA HRA HSZA HFA HS1 HS4 zf4 k74 k94 cf4 HS0 k7 k9 cf
                  generalize hw5 : (w4.setCell ⟨fb, o * 3 + c, none⟩ (.slice nA (L + 1) ncp)) = w5 at HD5 HF5 ⊢
                  clear hw5
                  have j9 : w5.cell? ⟨D, 9, none⟩ = some (.slice tA T tc) := by rw [HD5.out.hD.cell]; rfl
                  have z9 : w5.frozen? ⟨D, 9, none⟩ = false := HD5.out.hD.frozen _
                  have hfb : Fr F0 w5 (w5.alloc (.cells #[.bool false] 4)) := (Fr.refl _ _).alloc _
                  have HDB := Lib.hid (HD5.out.f0 hfb)
                  have HFB := Lib.hid (HF5.out.trans hfb)
                  have HRB : Hid (Rd (w5.alloc (.cells #[.bool false] 4)) (fun _ => True) 1 (some ⟨w5.heap.size, 0, none⟩) 1 [.bool false]) := Lib.hid (Rd.of_blk (Blk.new w5 4 [.bool false].toArray) rfl trivial)
                  have HTB := Lib.hid HDB.out.ht
                  have hsb := HDB.out.hx
                  clear hfb HF5 HD5
                  go_wp2_with (at_builtin; refine app_list (w5.alloc (.cells #[.bool false] 4)) rfl (.tmp 63) (.tmp 64) 61 rfl w.heap.size 4 i1 (.bool false) 1 1 Try.underlying61 hi1 hy0 hy1 hy2 rfl (by decide) _ T _ rfl HTB.out (fun _ => True) _ 1 1 _ rfl HRB.out (by intro u hu; simp at hu; subst hu; rfl) (by unfold maxLen; omega) (by omega) hsb ?_)
                  intro v6 w6 h2 h3 h4
                  have hF6 : Fr (fun k => (Value.slice tA T tc).ownBlock = some k) (w5.alloc (.cells #[.bool false] 4)) w6 := (Fr.grown h3).mono (fun k h => h.symm)
                  have hnD6 : (Value.slice tA T tc).ownBlock ≠ some D := fun e => own_ne HTB.out HDB.out.hD (by decide) e
                  have m9 : w6.cell? ⟨D, 9, none⟩ = some (.slice tA T tc) := hF6.held (by rw [HDB.out.hD.cell]; rfl) hnD6
                  have y9 : w6.frozen? ⟨D, 9, none⟩ = false := by
                    rw [World.frozen?_of_block (a := ⟨D, 9, none⟩) (hF6.block D HDB.out.hD.lt hnD6)]
                    exact HDB.out.hD.frozen _
                  have h2' : w6.ownsRow w.heap.size 4 1 v6 (T + 1) (bc (List.replicate (T + 1) false)) := by
                    have e : bc (List.replicate (T + 1) false) = bc (List.replicate T false) ++ [.bool false] := by
                      rw [List.replicate_succ']; simp [bc]
                    rw [e]; exact h2
                  obtain ⟨A6, c6, rfl⟩ := own_slice h2
                  have HD7 := Lib.hid (HDB.out.settaken hF6 h2')
                  have HF7 : Hid (Fr F0 w (w6.setCell ⟨D, 9, none⟩ (.slice A6 (T + 1) c6))) := Lib.hid (HFB.out.g2 ((hF6.mono (B' := fun k => k = D ∨ (Value.slice tA T tc).ownBlock = some k) (fun k hk => .inr hk)).setCell (p := ⟨D, 9, none⟩) (.inl (.inl rfl)) _) (fun q hq => by
                    rcases hq with rfl | hq
                    · exact HDB.out.xD
                    · exact (HTB.out.lt q hq).1))
                  clear h2 h3 h4 h2' hF6 hnD6 j9 z9 hsb HTB HRB HFB HDB
                  go_wp2_with fail
                  exact ⟨⟨j + 1, _, _, _, T + 1, by omega, by go_num, HD7, HROW2, HT2, by omega, HF7⟩, by simp [intOf]; omega⟩
              · have g5 : ¬ (j : Int) < (mc : Int) := by omega
                have HJ : Hid (j = mny S c) := Lib.hid (by have := HMC.out; omega)
                have HROW2 : Hid (∀ q, q < 3 * S.k → gl[q]? = some (rowP S c (o + 1) 0 q)) := Lib.hid (fun q hq => by rw [HROW.out q hq, HJ.out, rowP_next])
                have HT2 : Hid (T = tcl S c + (o + 1) * mny S c) := Lib.hid (by rw [HT.out, HJ.out, Nat.add_mul]; omega)
                go_wp2_with fail
                exact ⟨⟨o + 1, _, _, _, T, by omega, by go_num, HN, HROW2, HT2, hT, HF⟩, by simp [intOf]; omega⟩
          · have g4 : ¬ (o : Int) < (S.k : Int) := by omega
            have HO : Hid (o = S.k) := Lib.hid (by omega)
            have HROW2 : Hid (∀ q, q < 3 * S.k → gl[q]? = some (rowP S (c + 1) 0 0 q)) := Lib.hid (fun q hq => by rw [HROW.out q hq, HO.out, rowP_class hq])
            have HT2 : Hid (T = tcl S (c + 1)) := Lib.hid (by rw [HT.out, HO.out, tcl_next hc3])
            go_wp2_with fail
            exact ⟨⟨c + 1, _, _, _, T, by omega, by go_num, HN, HROW2, HT2, hT, HF⟩, by simp [intOf]; omega⟩
      · have g3 : ¬ (c : Int) < 3 := by omega
        have HC : Hid (c = 3) := Lib.hid (by omega)
        have HN2 : Hid (DN wr w.heap.size w.heap.size D fb rb S gv gl tv (S.many + 1)) := Lib.hid (by
          have := HT.out
          rw [HC.out, tcl_last] at this
          rw [← this]; exact HN.out)
        have HROW3 : Hid (∀ q, q < 3 * S.k → gl[q]? = some (asc (frs S (q / 3) (q % 3)) (mny S (q % 3)))) := Lib.hid (fun q hq => by
          rw [HROW.out q hq, HC.out]
          unfold rowP
          rw [if_pos (by omega)])
        clear HN HT HROW
        go_wp2_with fail
        go_ret
        obtain ⟨Q, hDR, hDB⟩ := HN2.out.done
        exact ⟨D, rfl, fb, rb, Q, gv, gl, tv, hDR, HROW3.out, hDB, HF.out⟩
end Go.Proofs.Ytichhieopnbgpaa
