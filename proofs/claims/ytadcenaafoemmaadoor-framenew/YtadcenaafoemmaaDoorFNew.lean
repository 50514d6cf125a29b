/-
  haymowlaw12.FrameNew returns true for every function, path, arguments and futures. No condition.
-/
import Derived.Test.YtadcenaafoemmaaDoorF25
import Derived.Test.YtadcenaafoemmaaDoorApp
import Derived.Test.YtadcenaafoemmaaDoorFrU
import Derived.Deep.CutBlock
import Derived.Test.YtadcenaafoemmaaDoorRows
import Derived.Test.YtadcenaafoemmaaDoorTie
import Derived.Test.YtadcenaafoemmaaDoorCards
namespace Go.Proofs.YtadcenaafoemmaaDoor.frameNew
open Go.ChangeShapes Go.WideShapes Go.ChangeAt Go.RowKit

theorem add_at (b off j : Nat) : (⟨b, off, none⟩ : Addr).add j = ⟨b, off + j, none⟩ := by unfold Addr.add; split <;> simp_all

set_option maxHeartbeats 16000000 in
set_option maxRecDepth 100000 in
theorem walk_f (w : World) (hT : FieldsAt w) (fn : Int) (P : Option Addr) (path : List Int) (pc : Nat) (A : Option Addr) (args : List Int) (ac : Nat) (q0 q1 q2 q3 : Int) (hP : IntsA w P path) (hA : IntsA w A args) (hpl : path.length ≤ 9223372036854775807) (hal : args.length ≤ 9223372036854775807) :
    Calls Tryd.prog 4 #[.agg #[.int .i64 fn, .slice P path.length pc, .slice A args.length ac, .int .i64 q0, .int .i64 q1, .int .i64 q2, .int .i64 q3]] w fun e w' => e = .returned (.bool true) ∧ Fr None' w w' := by
  have HT := Lib.hid hT
  have HP := Lib.hid hP
  have HA := Lib.hid hA
  clear hT hP hA
  go_enter Tryd.func4, Tryd.ntmps4
  go_upto_region 1 with (fail)
  generalize hW : w.alloc (.cells _ 57) = W
  have hF : Fr None' w W := by rw [← hW]; exact (Fr.refl _ _).alloc _
  have hZ : Blk W w.heap.size 57 #[.int .i64 fn, .slice P path.length pc, .slice A args.length ac, .int .i64 q0, .int .i64 q1, .int .i64 q2, .int .i64 q3] := by rw [← hW]; exact Blk.new _ _ _
  have HZ := Lib.hid hZ.drew
  have HF := Lib.hid hF.drew
  clear hW hF hZ
  have HS : (fun w' : World => w'.cell? ⟨w.heap.size, 0, none⟩ = some (.int .i64 fn) ∧ w'.cell? ⟨w.heap.size, 1, none⟩ = some (.slice P path.length pc) ∧ w'.cell? ⟨w.heap.size, 2, none⟩ = some (.slice A args.length ac) ∧ w'.cell? ⟨w.heap.size, 3, none⟩ = some (.int .i64 q0) ∧ w'.cell? ⟨w.heap.size, 4, none⟩ = some (.int .i64 q1) ∧ w'.cell? ⟨w.heap.size, 5, none⟩ = some (.int .i64 q2) ∧ w'.cell? ⟨w.heap.size, 6, none⟩ = some (.int .i64 q3)) W.drew := ⟨by rw [HZ.out.cell]; rfl, by rw [HZ.out.cell]; rfl, by rw [HZ.out.cell]; rfl, by rw [HZ.out.cell]; rfl, by rw [HZ.out.cell]; rfl, by rw [HZ.out.cell]; rfl, by rw [HZ.out.cell]; rfl⟩
  refine region_K 12 (fun w' : World => w'.cell? ⟨w.heap.size, 0, none⟩ = some (.int .i64 fn) ∧ w'.cell? ⟨w.heap.size, 1, none⟩ = some (.slice P path.length pc) ∧ w'.cell? ⟨w.heap.size, 2, none⟩ = some (.slice A args.length ac) ∧ w'.cell? ⟨w.heap.size, 3, none⟩ = some (.int .i64 q0) ∧ w'.cell? ⟨w.heap.size, 4, none⟩ = some (.int .i64 q1) ∧ w'.cell? ⟨w.heap.size, 5, none⟩ = some (.int .i64 q2) ∧ w'.cell? ⟨w.heap.size, 6, none⟩ = some (.int .i64 q3)) (by kernel_rfl) ?_
  generalize W.drew = V at *
  refine AnyK.take (i := 0) rfl (by decide) (by kernel_rfl) (by kernel_rfl) (by kernel_rfl) (fun _ _ _ _ h => h) HS (fun K hK => ?_)
  go_simp
  refine hK.out _ ⟨_, by rfl, Or.inl ⟨by rfl, by intro w' hSw; (try dsimp only at hSw); go_simp⟩, ?_⟩
  clear hK K
  refine AnyK.take (i := 1) rfl (by decide) (by kernel_rfl) (by kernel_rfl) (by kernel_rfl) (fun _ _ _ _ h => h) HS (fun K hK => ?_)
  go_simp
  refine hK.out _ ⟨_, by rfl, Or.inl ⟨by rfl, by intro w' hSw; (try dsimp only at hSw); go_simp⟩, ?_⟩
  clear hK K
  refine AnyK.take (i := 2) rfl (by decide) (by kernel_rfl) (by kernel_rfl) (by kernel_rfl) (fun _ _ _ _ h => h) HS (fun K hK => ?_)
  go_simp
  refine hK.out _ ⟨_, by rfl, Or.inl ⟨by rfl, by intro w' hSw; (try dsimp only at hSw); go_simp⟩, ?_⟩
  clear hK K
  refine AnyK.take (i := 3) rfl (by decide) (by kernel_rfl) (by kernel_rfl) (by kernel_rfl) (fun _ _ _ _ h => h) HS (fun K hK => ?_)
  go_simp
  refine hK.out _ ⟨_, by rfl, Or.inl ⟨by rfl, by intro w' hSw; (try dsimp only at hSw); go_simp⟩, ?_⟩
  clear hK K
  refine AnyK.take (i := 4) rfl (by decide) (by kernel_rfl) (by kernel_rfl) (by kernel_rfl) (fun _ _ _ _ h => h) HS (fun K hK => ?_)
  go_simp
  refine hK.out _ ⟨_, by rfl, Or.inl ⟨by rfl, by intro w' hSw; (try dsimp only at hSw); go_simp⟩, ?_⟩
  clear hK K
  refine AnyK.take (i := 5) rfl (by decide) (by kernel_rfl) (by kernel_rfl) (by kernel_rfl) (fun _ _ _ _ h => h) HS (fun K hK => ?_)
  go_simp
  refine hK.out _ ⟨_, by rfl, Or.inl ⟨by rfl, by intro w' hSw; (try dsimp only at hSw); go_simp⟩, ?_⟩
  clear hK K
  refine AnyK.take (i := 6) rfl (by decide) (by kernel_rfl) (by kernel_rfl) (by kernel_rfl) (fun _ _ _ _ h => h) HS (fun K hK => ?_)
  go_simp
  refine hK.out _ ⟨_, by rfl, Or.inl ⟨by rfl, by intro w' hSw; (try dsimp only at hSw); go_simp⟩, ?_⟩
  clear hK K
  refine AnyK.take (i := 7) rfl (by decide) (by kernel_rfl) (by kernel_rfl) (by kernel_rfl) (fun _ _ _ _ h => h) HS (fun K hK => ?_)
  go_simp
  refine hK.out _ ⟨_, by rfl, Or.inl ⟨by rfl, by intro w' hSw; (try dsimp only at hSw); go_simp⟩, ?_⟩
  clear hK K
  refine AnyK.one (i := 8) rfl (by kernel_rfl) (fun K hK => ?_)
  go_simp
  generalize hW2 : V.alloc (.cells _ 25) = V2
  have hF2 : Fr None' V V2 := by rw [← hW2]; exact (Fr.refl _ _).alloc _
  have hH : Blk V2 V.heap.size 25 #[.int .i64 0, .int .i64 0, .int .i64 0, .int .i64 0] := by rw [← hW2]; exact Blk.new _ _ _
  have HZ2 := Lib.hid (HZ.out.fr hF2 (fun h => h))
  have HF2 := Lib.hid (HF.out.trans hF2)
  have hgt : w.heap.size < V.heap.size := HZ.out.lt
  have HH := Lib.hid hH
  have HS : (fun w' : World => w'.cell? ⟨w.heap.size, 0, none⟩ = some (.int .i64 fn) ∧ w'.cell? ⟨w.heap.size, 1, none⟩ = some (.slice P path.length pc) ∧ w'.cell? ⟨w.heap.size, 2, none⟩ = some (.slice A args.length ac) ∧ w'.cell? ⟨w.heap.size, 3, none⟩ = some (.int .i64 q0) ∧ w'.cell? ⟨w.heap.size, 4, none⟩ = some (.int .i64 q1) ∧ w'.cell? ⟨w.heap.size, 5, none⟩ = some (.int .i64 q2) ∧ w'.cell? ⟨w.heap.size, 6, none⟩ = some (.int .i64 q3)) V2 := ⟨by rw [HZ2.out.cell]; rfl, by rw [HZ2.out.cell]; rfl, by rw [HZ2.out.cell]; rfl, by rw [HZ2.out.cell]; rfl, by rw [HZ2.out.cell]; rfl, by rw [HZ2.out.cell]; rfl, by rw [HZ2.out.cell]; rfl⟩
  clear hW2 hF2 hH HZ HF
  generalize V.heap.size = h at *
  refine hK.out _ _ (fun _ => HS) ?_
  clear hK K
  refine AnyK.one (i := 9) rfl (by kernel_rfl) (fun K hK => ?_)
  go_simp
  refine hK.out _ _ (fun _ => HS) ?_
  clear hK K
  refine AnyK.one (i := 10) rfl (by kernel_rfl) (fun K hK => ?_)
  go_simp
  refine hK.out _ _ (fun _ => HS) ?_
  clear hK K
  refine AnyK.one (i := 11) rfl (by kernel_rfl) (fun K hK => ?_)
  go_simp
  refine hK.out _ _ (fun _ => HS) ?_
  clear hK K
  have h0 : V2.cell? ⟨h, 0, none⟩ = some (.int .i64 0) := by rw [HH.out.cell]; rfl
  have h1 : V2.cell? ⟨h, 1, none⟩ = some (.int .i64 0) := by rw [HH.out.cell]; rfl
  have h2 : V2.cell? ⟨h, 2, none⟩ = some (.int .i64 0) := by rw [HH.out.cell]; rfl
  have h3 : V2.cell? ⟨h, 3, none⟩ = some (.int .i64 0) := by rw [HH.out.cell]; rfl
  have z0 := HH.out.frozen 0
  have z1 := HH.out.frozen 1
  have z2 := HH.out.frozen 2
  have z3 := HH.out.frozen 3
  refine AnyK.one (i := 12) rfl (by kernel_rfl) (fun K hK => ?_)
  go_simp
  generalize hW3 : (((V2.setCell ⟨h, 0, none⟩ (.int .i64 q0)).setCell ⟨h, 1, none⟩ (.int .i64 q1)).setCell ⟨h, 2, none⟩ (.int .i64 q2)).setCell ⟨h, 3, none⟩ (.int .i64 q3) = V3
  have hF3 : Fr None' w V3 := by rw [← hW3]; exact ((((HF2.out).setCell (p := ⟨h, 0, none⟩) (.inr (by show w.heap.size ≤ h; omega)) _).setCell (p := ⟨h, 1, none⟩) (.inr (by show w.heap.size ≤ h; omega)) _).setCell (p := ⟨h, 2, none⟩) (.inr (by show w.heap.size ≤ h; omega)) _).setCell (p := ⟨h, 3, none⟩) (.inr (by show w.heap.size ≤ h; omega)) _
  have hH3 : Blk V3 h 25 #[.int .i64 q0, .int .i64 q1, .int .i64 q2, .int .i64 q3] := by rw [← hW3]; exact (((HH.out.set_ 0 _).set_ 1 _).set_ 2 _).set_ 3 _
  have HF3 := Lib.hid hF3
  have HH3 := Lib.hid hH3
  clear hW3 hF3 hH3 h0 h1 h2 h3 z0 z1 z2 z3 HH HF2 HZ2 HS
  refine hK.out _ _ (fun h => absurd (h.symm.trans (by kernel_rfl : _ = true)) (by decide)) ?_
  clear hK K
  refine AnyK.done (by kernel_rfl) ?_ _
  by_cases b1 : path.length ≤ 50
  · by_cases b2 : args.length ≤ 50
    · have c1 : decide ((50 : Int) < (path.length : Int)) = false := decide_eq_false (by omega)
      have c2 : decide ((50 : Int) < (args.length : Int)) = false := decide_eq_false (by omega)
      go_upto_region 4 with (fail)
      have KEY : Hid (∀ (W : World) (v : Value), Fr None' w W → Blk W h 25 #[.int .i64 q0, .int .i64 q1, .int .i64 q2, .int .i64 q3] → W.ownsRow w.heap.size 3 1 v path.length (ints path) → ∃ (A' : Option Addr) (c' : Nat), v = .slice A' path.length c' ∧ IntsA W A' path ∧ (A' = none → c' = 0)) := Lib.hid (fun W v hF hH ho => by
        obtain ⟨P', pc', hv, h1, h2, h3⟩ := PInts.of_own ho
        exact ⟨P', pc', hv, h3.a, h2⟩)
      clear c1 c2
      go_cut [7] (fun v wx => ∃ (A' : Option Addr) (c' : Nat), v = .slice A' path.length c' ∧ Fr None' w wx ∧ Blk wx h 25 #[.int .i64 q0, .int .i64 q1, .int .i64 q2, .int .i64 q3] ∧ wx.ownsRow w.heap.size 3 1 (.slice A' path.length c') path.length (ints path))
      case first =>
        obtain ⟨i0, hi0, hz0, hz1, hz2⟩ := info3 info_int
        have HRD : Rd (V3.alloc (.cells #[] 3)) (fun _ => True) 1 P path.length (ints path) := ⟨by simp [ints], fun h0 => by
          obtain ⟨b, off, e, hc⟩ := HP.out (by simpa using h0)
          refine ⟨b, off, e, trivial, fun j u hu => ?_⟩
          rw [ints, List.getElem?_map] at hu
          obtain ⟨x, hx, rfl⟩ := Option.map_eq_some_iff.1 hu
          exact (HF3.out.alloc _).held (hc j x hx) (fun h => h)⟩
        have HRD := Lib.hid HRD
        have hsz := HF3.out.size
        go_wp2_with (first | (at_builtin; refine app_list _ rfl (.tmp 28) (.tmp 29) 23 rfl w.heap.size 3 i0 (.int .i64 0) 1 8 Tryd.underlying23 hi0 hz0 hz1 hz2 rfl (by decide) (.slice (some ⟨V3.heap.size, 0, none⟩) 0 0) 0 [] rfl ⟨rfl, .inr ⟨V3.heap.size, 0, #[], rfl, hsz, heap_alloc_new V3 _, Nat.le_refl _, by decide, rfl, rfl⟩⟩ (fun _ => True) P path.length pc (ints path) rfl HRD.out ?c1 ?c2 ?c3 ?c4 ?_) | fail)
        case c1 =>
          intro u hu
          obtain ⟨x, _, rfl⟩ := List.mem_map.1 hu
          rfl
        case c2 => unfold maxLen; omega
        case c3 => omega
        case c4 => simp; omega
        intro v' w' hown hgr _
        have hFg : Fr None' w w' := (HF3.out.alloc _).grow hgr (fun g hg => by have hg' : some V3.heap.size = some g := hg; cases hg'; exact hsz)
        have hHg : Blk w' h 25 #[.int .i64 q0, .int .i64 q1, .int .i64 q2, .int .i64 q3] := (HH3.out.alloc _).fr (Fr.grown hgr) (fun hg => by have hg' : some h = some V3.heap.size := hg; cases hg'; exact absurd HH3.out.lt (Nat.lt_irrefl _))
        go_wp2_with fail
        go_meet
        obtain ⟨A', c', rfl⟩ := own_slice hown
        exact ⟨A', c', rfl, hFg, hHg, hown⟩
      case rest =>
        obtain ⟨A', c', rfl, hFc, hHc, hown⟩ := hcut
        have hsc := hFc.size
        have hhc := hHc.lt
        obtain ⟨A2, c2, hv2, hAi, hNn⟩ := KEY.out wc _ hFc hHc hown
        cases hv2
        clear KEY
        have a0 : wc.cell? ⟨h, 0, none⟩ = some (.int .i64 q0) := by rw [hHc.cell]; rfl
        have a1 : wc.cell? ⟨h, 1, none⟩ = some (.int .i64 q1) := by rw [hHc.cell]; rfl
        have a2 : wc.cell? ⟨h, 2, none⟩ = some (.int .i64 q2) := by rw [hHc.cell]; rfl
        have a3 : wc.cell? ⟨h, 3, none⟩ = some (.int .i64 q3) := by rw [hHc.cell]; rfl
        have HNW := Lib.hid (new_any wc fn A' A path args c' ac q0 q1 q2 q3 hNn hAi (HA.out.fr hFc) (by omega))
        have HFc := Lib.hid hFc
        have HHc := Lib.hid hHc
        have HOc := Lib.hid hown
        clear hFc hHc hown hAi hNn HF3 HH3
        go_wp2_with fail
        refine HNW.out.mono ?_
        rintro e w1 ⟨F, hgF, rfl, v, hB, hrow, hvF, hF1⟩
        have hH1 := HHc.out.fr hF1 (fun h => h)
        have a0 : w1.cell? ⟨h, 0, none⟩ = some (.int .i64 q0) := by rw [hH1.cell]; rfl
        have a1 : w1.cell? ⟨h, 1, none⟩ = some (.int .i64 q1) := by rw [hH1.cell]; rfl
        have a2 : w1.cell? ⟨h, 2, none⟩ = some (.int .i64 q2) := by rw [hH1.cell]; rfl
        have a3 : w1.cell? ⟨h, 3, none⟩ = some (.int .i64 q3) := by rw [hH1.cell]; rfl
        have HB1 := Lib.hid hB
        have HR1 := Lib.hid hrow
        have HO1 := Lib.hid (own_fr HOc.out hF1 (fun _ _ h => h))
        have HOL : Hid (∀ g, (Value.slice A' path.length c').ownBlock = some g → w.heap.size ≤ g ∧ g < wc.heap.size) := Lib.hid (fun g hg => HOc.out.lt g hg)
        have HF1 := Lib.hid (HFc.out.trans hF1)
        have hs1 : wc.heap.size ≤ w1.heap.size := hF1.size
        have hFl : F < w1.heap.size := hB.lt
        clear hB hrow hF1 hH1 HHc HOc HFc HNW
        go_upto_block 0 with (fail)
        generalize hW2 : World.alloc w1 _ = w2
        have hF2 : Fr None' w1 w2 := by rw [← hW2]; exact (Fr.refl _ _).alloc _
        have hD2 : Blk w2 w1.heap.size 27 (frL fn 0 0 0 (.slice P path.length pc) [0, 0, 0, 0, 0, 0, 0, 0] [q0, q1, q2, q3]).toArray := by rw [← hW2]; exact Blk.new _ _ _
        have hgD : wc.heap.size ≤ w1.heap.size := hs1
        have HB2 := Lib.hid (HB1.out.fr hF2 (fun h => h))
        have HR2 := Lib.hid (own_fr HR1.out hF2 (fun _ _ h => h))
        have HO2 := Lib.hid (own_fr HO1.out hF2 (fun _ _ h => h))
        have HF2 := Lib.hid (HF1.out.trans hF2)
        have HD2 := Lib.hid hD2
        clear a0 a1 a2 a3 hF2 hD2 hW2 HB1 HR1 HO1 HF1
        generalize w1.heap.size = D at *
        obtain ⟨N0, hN0⟩ : ∃ N0, N0 = wc.heap.size := ⟨_, rfl⟩
        rw [← hN0] at HOL hgF hgD hs1 HR2 hsc hhc
        clear hN0
        go_cut [10] (fun i wx => Blk wx D 27 (frL fn 0 0 0 (.slice P path.length pc) (reg8 args) [q0, q1, q2, q3]).toArray ∧ Fr (At D) w2 wx)
        case first =>
          go_wp2_with fail
          go_loopw [10] (fun i wx => ∃ k : Nat, k ≤ 8 ∧ k ≤ args.length ∧ i = .int .i64 k ∧ Hid (Blk wx D 27 (frL fn 0 0 0 (.slice P path.length pc) (regK args k) [q0, q1, q2, q3]).toArray) ∧ Hid (Fr (At D) w2 wx)) (fun i _ => 9 - (intOf i).toNat)
          case atStart => exact ⟨0, by omega, by omega, rfl, Lib.hid HD2.out, Lib.hid (Fr.refl _ _)⟩
          case round =>
            obtain ⟨k, hk8, hkl, rfl, HDk, HFk⟩ := hrel
            by_cases hka : k < args.length
            · have g1 : decide ((k : Int) < (args.length : Int)) = true := decide_eq_true (by omega)
              by_cases hk : k < 8
              · have g2 : decide ((k : Int) < 8) = true := decide_eq_true (by omega)
                obtain ⟨x, hx⟩ : ∃ x, args[k]? = some x := ⟨_, List.getElem?_eq_getElem hka⟩
                obtain ⟨b, off, rfl, hc⟩ := HA.out (by omega)
                have hbw : b < w.heap.size := cell_lt (hc k x hx)
                have e1 : wr.cell? ⟨b, off + k, none⟩ = some (.int .i64 x) := HFk.out.held (HF2.out.held (hc k x hx) (fun h => h)) (by show ¬ b = D; omega)
                have e2 : wr.cell? ⟨D, 5 + k, none⟩ = some (.int .i64 ((regK args k).getD k 0)) := by rw [HDk.out.cell]; exact fr_atK (regK_len hk8 hkl) hk
                have y2 : wr.frozen? ⟨D, 5 + k, none⟩ = false := HDk.out.frozen _
                have HX := Lib.hid hx
                have hki : (k : Int) < (args.length : Int) := by omega
                have hk8i : (k : Int) < 8 := by omega
                clear hc hx
                go_wp2_with fail
                refine ⟨⟨k + 1, by omega, by omega, by go_num, Lib.hid ?_, Lib.hid ?_⟩, by simp [intOf]; omega⟩
                · have h := HDk.out.set_ (5 + k) (.int .i64 x)
                  rw [fr_setK (regK_len hk8 hkl) hk, regK_next hk HX.out] at h
                  exact h
                · exact HFk.out.setCell (p := ⟨D, 5 + k, none⟩) (.inl rfl) _
              · have g2 : decide ((k : Int) < 8) = false := decide_eq_false (by omega)
                go_wp2_with fail
                go_meet
                rw [regK_end hk8 hkl (.inr hk)] at HDk
                exact ⟨HDk.out, HFk.out⟩
            · have g1 : decide ((k : Int) < (args.length : Int)) = false := decide_eq_false (by omega)
              go_wp2_with fail
              go_meet
              rw [regK_end hk8 hkl (.inl hka)] at HDk
              exact ⟨HDk.out, HFk.out⟩
        case rest =>
          obtain ⟨hDk, hFk⟩ := hcut
          generalize wc = W3 at *
          have HDk := Lib.hid hDk
          have HFk := Lib.hid hFk
          have HB3 := Lib.hid (HB2.out.fr HFk.out (by show ¬ F = D; omega))
          have HR3 := Lib.hid (own_fr HR2.out HFk.out (fun g hg hg' => own_ne HR2.out HD2.out (by decide) (by rw [hg]; exact congrArg some hg')))
          have HO3 := Lib.hid (own_fr HO2.out HFk.out (fun g hg hg' => own_ne HO2.out HD2.out (by decide) (by rw [hg]; exact congrArg some hg')))
          have HF3 : Hid (Fr None' w W3) := Lib.hid (HF2.out.then HFk.out (fun i hi => .inr (by have hi : i = D := hi; omega)))
          clear HB2 HR2 HO2 HF2 HFk HD2 hDk hFk
          go_wp2_with fail
          go_loopw [11] (fun i wx => ∃ (m : Nat) (xs : List Int), m ≤ path.length ∧ i = .int .i64 m ∧ xs.length = path.length ∧ Hid (wx.ownsRow w.heap.size 3 1 (.slice A' path.length c') path.length (ints xs)) ∧ Hid (Fr (fun g => (Value.slice A' path.length c').ownBlock = some g) W3 wx)) (fun i _ => path.length - (intOf i).toNat)
          case atStart => exact ⟨0, path, by omega, rfl, rfl, Lib.hid HO3.out, Lib.hid (Fr.refl _ _)⟩
          case round =>
            obtain ⟨m, xs, hm, rfl, hxs, HOm, HFm⟩ := hrel
            by_cases hml : m < path.length
            · obtain ⟨x, hx⟩ : ∃ x, xs[m]? = some x := ⟨_, List.getElem?_eq_getElem (by omega)⟩
              obtain ⟨g, cap, hv, hgb, hgl⟩ := HOm.out.form (by omega)
              injection hv with hv1 hv2 hv3
              subst hv1
              have hrow := HOm.out
              have hc : wr.cell? ⟨g, m, none⟩ = some (.int .i64 x) := by
                have h := hrow.cells (g := g) rfl m (.int .i64 x) (ints_at hx)
                rw [add_at, Nat.zero_add] at h
                exact h
              have hy : wr.frozen? ⟨g, m, none⟩ = false := by
                rcases hrow.2 with ⟨h1, _⟩ | ⟨g1, cap1, cur, h1, _, h2, _⟩
                · cases h1
                · cases h1
                  exact Blk.frozen (t := 3) h2 _
              have hmi : (m : Int) < (path.length : Int) := by omega
              have HC := Lib.hid hrow
              clear hrow hx
              go_wp2_with fail
              refine ⟨⟨m + 1, _, by omega, by go_num, ?_, Lib.hid (own_putI HC.out _), Lib.hid (HFm.out.setCell (p := ⟨g, m, none⟩) (.inl rfl) _)⟩, by simp [intOf]; omega⟩
              rw [List.length_set]
              exact hxs
            · obtain rfl : m = path.length := by omega
              have hwr : w.heap.size ≤ W3.heap.size := HF3.out.size
              have hne : ∀ g, (Value.slice A' path.length c').ownBlock = some g → w.heap.size ≤ g ∧ g < N0 := HOL.out
              have HB4 := Lib.hid (HB3.out.fr HFm.out (fun h => by have := (hne F h).2; omega))
              have HD4 := Lib.hid (HDk.out.fr HFm.out (fun h => by have := (hne D h).2; omega))
              have HR4 := Lib.hid (own_fr HR3.out HFm.out (fun g hg hg' => by have h1 := own_low HR3.out g hg; have := (hne g hg').2; omega))
              have HF4 : Hid (Fr None' w wr) := Lib.hid (HF3.out.then HFm.out (fun i hi => .inr (hne i hi).1))
              clear HB3 HDk HR3 HF3 HFm HOm HO3
              obtain ⟨P', pc', hv', h1', h2', h3'⟩ := PInts.of_own HR4.out
              subst hv'
              obtain ⟨s0, s1, s2, s3, s4, s5, s6, s7, hs⟩ : ∃ s0 s1 s2 s3 s4 s5 s6 s7, reg8 args = [s0, s1, s2, s3, s4, s5, s6, s7] := by
                match h : reg8 args, reg8_len args with
                | [s0, s1, s2, s3, s4, s5, s6, s7], _ => exact ⟨_, _, _, _, _, _, _, _, rfl⟩
              have hFA : FrameAt wr F ⟨fn, 0, 0, 0, path, [s0, s1, s2, s3, s4, s5, s6, s7], [q0, q1, q2, q3]⟩ := ⟨⟨P', pc', by rw [← hs]; exact HB4.out, h3', h1', h2'⟩, rfl, rfl, by show (-9223372036854775808 : Int) ≤ 0; decide⟩
              have hAL := alike_same wr F _ hFA P pc (HP.out.fr HF4.out) (by show path.length ≤ 1000; omega)
              have HAL := Lib.hid hAL
              have HAW := Lib.hid (fun W (hF : Fr None' w W) => awake_any W (HT.out.fr hF (fun h => h)))
              have hD := HD4.out
              rw [hs] at hD
              have d0 : wr.cell? ⟨D, 0, none⟩ = some (.int .i64 fn) := by rw [hD.cell]; rfl
              have d1 : wr.cell? ⟨D, 1, none⟩ = some (.int .i64 0) := by rw [hD.cell]; rfl
              have d2 : wr.cell? ⟨D, 2, none⟩ = some (.int .i64 0) := by rw [hD.cell]; rfl
              have d3 : wr.cell? ⟨D, 3, none⟩ = some (.int .i64 0) := by rw [hD.cell]; rfl
              have d4 : wr.cell? ⟨D, 4, none⟩ = some (.slice P path.length pc) := by rw [hD.cell]; rfl
              have d5 : wr.cell? ⟨D, 5, none⟩ = some (.int .i64 s0) := by rw [hD.cell]; rfl
              have d6 : wr.cell? ⟨D, 6, none⟩ = some (.int .i64 s1) := by rw [hD.cell]; rfl
              have d7 : wr.cell? ⟨D, 7, none⟩ = some (.int .i64 s2) := by rw [hD.cell]; rfl
              have d8 : wr.cell? ⟨D, 8, none⟩ = some (.int .i64 s3) := by rw [hD.cell]; rfl
              have d9 : wr.cell? ⟨D, 9, none⟩ = some (.int .i64 s4) := by rw [hD.cell]; rfl
              have d10 : wr.cell? ⟨D, 10, none⟩ = some (.int .i64 s5) := by rw [hD.cell]; rfl
              have d11 : wr.cell? ⟨D, 11, none⟩ = some (.int .i64 s6) := by rw [hD.cell]; rfl
              have d12 : wr.cell? ⟨D, 12, none⟩ = some (.int .i64 s7) := by rw [hD.cell]; rfl
              have d13 : wr.cell? ⟨D, 13, none⟩ = some (.int .i64 q0) := by rw [hD.cell]; rfl
              have d14 : wr.cell? ⟨D, 14, none⟩ = some (.int .i64 q1) := by rw [hD.cell]; rfl
              have d15 : wr.cell? ⟨D, 15, none⟩ = some (.int .i64 q2) := by rw [hD.cell]; rfl
              have d16 : wr.cell? ⟨D, 16, none⟩ = some (.int .i64 q3) := by rw [hD.cell]; rfl
              clear hD hFA hAL h1' h2' h3'
              go_wp2_with fail
              refine HAL.out.mono ?_
              rintro e w5 ⟨rfl, hF5⟩
              have HF5 := Lib.hid (HF4.out.trans hF5)
              clear hF5 HF4 HAL
              go_wp2_with fail
              refine (HAW.out _ HF5.out).mono ?_
              rintro e w6 ⟨rfl, hF6⟩
              go_wp2_with fail
              go_ret
              exact ⟨rfl, HF5.out.trans hF6⟩
    · have c1 : decide ((50 : Int) < (path.length : Int)) = false := decide_eq_false (by omega)
      have c2 : decide ((50 : Int) < (args.length : Int)) = true := decide_eq_true (by omega)
      go_wp2_with fail
      go_ret
      exact ⟨rfl, HF3.out⟩
  · have c1 : decide ((50 : Int) < (path.length : Int)) = true := decide_eq_true (by omega)
    go_wp2_with fail
    go_ret
    exact ⟨rfl, HF3.out⟩

/-- What a new frame is made of. -/
structure FreshV where
  fn : Int
  P : Option Addr
  path : List Int
  pc : Nat
  A : Option Addr
  args : List Int
  ac : Nat
  q0 : Int
  q1 : Int
  q2 : Int
  q3 : Int
def FreshV.val (z : FreshV) : Value := .agg #[.int .i64 z.fn, .slice z.P z.path.length z.pc, .slice z.A z.args.length z.ac, .int .i64 z.q0, .int .i64 z.q1, .int .i64 z.q2, .int .i64 z.q3]
def FreshAt (w : World) (z : FreshV) : Prop := IntsA w z.P z.path ∧ IntsA w z.A z.args ∧ z.path.length ≤ 9223372036854775807 ∧ z.args.length ≤ 9223372036854775807
set_option maxRecDepth 100000 in
theorem open_fresh {H : Type} {enc : TypeId × Value → H} {W : World} {base b0 : Nat} {spare : Nat → Bool} {held : Bool} {r : Reach} {v : Value} {d : DataW H} {p : List MemPlace} (hv : Value.okWide Tryd.prog W r b0 57 v) (h : DataW.Trod enc Tryd.prog W base spare held 57 v d p) :
    ∃ z : FreshV, v = z.val ∧ FreshAt W z := by
  have ht := Tryd.underlying57
  simp only [Value.okWide, ht] at hv
  obtain ⟨cs, rfl, hsz, _⟩ := hv
  have hc : Tryd.prog.cellsOf 57 = 7 := by kernel_rfl
  rw [hc] at hsz
  obtain ⟨l⟩ := cs
  have hl : l.length = 7 := by simpa using hsz
  obtain ⟨fuel, hf⟩ := h
  simp only [Value.cells, List.toList_toArray] at hf
  obtain ⟨xs, m, _, _, _, hlen, hg⟩ := DataW.trod_struct ht hf
  have c1 : Tryd.prog.cellsOf 3 = 1 := by kernel_rfl
  have c4 : Tryd.prog.cellsOf 25 = 4 := by kernel_rfl
  obtain ⟨u0, y0, e0, t0⟩ := field_one hlen hg (i := 0) rfl rfl c1 (by omega)
  obtain ⟨u1, y1, e1, t1⟩ := field_one hlen hg (i := 1) rfl rfl (by kernel_rfl) (by omega)
  obtain ⟨u2, y2, e2, t2⟩ := field_one hlen hg (i := 2) rfl rfl (by kernel_rfl) (by omega)
  have t3 := hg 3 _ rfl
  rw [List.getElem?_eq_getElem (by rw [hlen]; decide)] at t3
  change DataW.trod enc Tryd.prog W base spare held m 25 ((l.drop 3).take (Tryd.prog.cellsOf 25)) = _ at t3
  rw [c4] at t3
  obtain ⟨l3, n3, m3, _⟩ := open_array Tryd.underlying25 Tryd.underlying3 (by kernel_rfl) (by simp; omega) t3
  obtain ⟨a0, f0, _⟩ := open_num Tryd.underlying3 _ _ _ rfl t0
  obtain ⟨A1, cp1, l1, f1, h1, _, k1, k1'⟩ := open_nums Tryd.underlying23 Tryd.underlying3 (by kernel_rfl) t1
  obtain ⟨A2, cp2, l2, f2, h2, _, k2, k2'⟩ := open_nums Tryd.underlying34 Tryd.underlying2 (by kernel_rfl) t2
  simp only [List.cons.injEq, and_true] at f0 f1 f2
  subst f0 f1 f2
  match l3, n3 with
  | [q0, q1, q2, q3], _ =>
    refine ⟨⟨a0, A1, l1, cp1, A2, l2, cp2, q0, q1, q2, q3⟩, ?_, h1, h2, by show l1.length ≤ _; unfold maxLen at *; omega, by show l2.length ≤ _; unfold maxLen at *; omega⟩
    match l, hl with
    | [v0, v1, v2, v3, v4, v5, v6], _ =>
      simp at e0 e1 e2
      subst e0 e1 e2
      have m3' : [v3, v4, v5, v6] = ints [q0, q1, q2, q3] := m3
      simp only [ints, List.map_cons, List.map_nil, List.cons.injEq, and_true] at m3'
      obtain ⟨rfl, rfl, rfl, rfl⟩ := m3'
      rfl

theorem walked {w : World} (z : FreshV) (hz : FreshAt w z) (hT : FieldsAt w) :
    Calls Tryd.prog 4 #[z.val] w fun e w' => e = .returned (.bool true) ∧ Below w.heap.size w w' :=
  (walk_f w hT z.fn z.P z.path z.pc z.A z.args z.ac z.q0 z.q1 z.q2 z.q3 hz.1 hz.2.1 hz.2.2.1 hz.2.2.2).mono fun _ _ ⟨he, hf⟩ => ⟨he, hf.below (Nat.le_refl _) (fun _ h => h.elim)⟩

set_option maxRecDepth 100000 in
theorem lifted (os : Os) (started : os.Started) (H : Type) (enc : TypeId × Value → H) :
    ReturnsInHanded {} Tryd.checked os 4 .any (fun w args => (Rows.frameNewSpec.pre enc Tryd.prog Tryd.f4 [] false w args ∧ laidMetH Tryd.prog laidN w) ∧ sizedMet enc Tryd.prog Tryd.f4 (OpenSpec.ofChange Rows.frameNewSpec) false w args)
      (Rows.frameNewSpec.post enc Tryd.prog Tryd.f4 false true false false) := by
  refine returnsInHanded_of_change_and (C := Tryd.checked) (X := fun w _ => laidMetH Tryd.prog laidN w) (fun _ _ _ hh h => h.of_heap hh) own started (by kernel_rfl) Tryd.func4
    (ChangeSpec.witness_shaped (enc := enc) (C := Tryd.checked) (os := os) (X := fun w _ => laidMetH Tryd.prog laidN w) false (World.doorLaid Tryd.prog 400 os) #[.agg #[.int .i64 0, .slice none 0 0, .slice none 0 0, .int .i64 0, .int .i64 0, .int .i64 0, .int .i64 0]] 8 rfl (World.shaped_of_RefB (by kernel_rfl) (by kernel_rfl)) (by kernel_rfl) (by kernel_rfl) (by kernel_rfl) (door_met os _)) ?_
  intro W base args ds gs before hval0 hW _ _ hL _
  have hval : ∀ (j : Nat) t v, Tryd.f4.params[j]? = some t → args[j]? = some v → Value.okWide Tryd.prog W .any base t v := hval0
  have hW' := hW
  obtain ⟨p, q, hA0, hV, rfl, hfz, hnd⟩ := hW
  have hA : DataW.TrodAll enc Tryd.prog W 0 (fun _ => true) true Tryd.f4.params.toList args.toList ds p := hA0
  rw [Tryd.params4] at hA hval
  obtain ⟨v0, vs0, d0, ds0, p0, q0, hargs, rfl, rfl, h0, r0⟩ := trodAll_cons hA
  obtain ⟨rfl, rfl, rfl⟩ := trodAll_nil r0
  obtain rfl : args = #[v0] := by cases args; simp_all
  obtain ⟨rfl, rfl⟩ := trodVars_none hV
  have k0 := h0
  have lt0 : ∀ x ∈ p0, x.block < W.heap.size := by obtain ⟨m, hm⟩ := k0; exact DataW.trod_lt m _ _ _ hm
  obtain ⟨z0, rfl, w0⟩ := open_fresh (hval 0 57 v0 rfl rfl) h0
  clear hA0 hval0
  refine (walked (w := W) z0 w0 (of_laid hL)).mono fun e W' ⟨he, bel⟩ => ?_
  subst he
  exact ⟨_, rfl, _, _, _, [], _, [], hW', trodAll_mk1 (shut_bool Tryd.underlying4 _), (trodAll_cons_mk (Below.trod laidOut (by kernel_rfl) (of_decide_eq_true (by kernel_rfl)) k0 bel lt0) trodAll_mk0), rfl, bel.frame _, fun h => by cases h⟩

theorem over : Rows.FrameNewSaid :=
  OpenClaim.holds_of_wide 4 Tryd.f4 rfl rfl rfl rfl rfl rfl rfl ⟨rfl, rfl, rfl, rfl, rfl⟩ rfl rfl rfl rfl rfl (by kernel_rfl) Tryd.func4 (by kernel_rfl)
    (of_decide_eq_true (by kernel_rfl)) (by unfold Func.isWrapper; first | (rw [if_pos (by decide +kernel)]; kernel_rfl) | (rw [if_neg (by decide +kernel)]; exact ⟨rfl, rfl⟩))
    (fun os started H enc _ => lifted os started H enc)

/-- The statement: the row, and what it lists tied to the program's text. -/
theorem proved : Rows.FrameNewCardSaid :=
  Claim7.holds_tied_plain_at .later [] [.data] true (true, "b153ba6c92dccebf2ef61313fca4816a80f60c00a694c8625512765b05d36f05") true
    over (fun _ h => by cases h) (by kernel_rfl) (fun _ h => by cases h) frameNew_row_tie rfl ⟨rfl, rfl⟩ (by kernel_rfl) rfl
    (fun f fn hf hfn => by
      obtain rfl : f = 4 := Option.some.inj ((show Tryd.prog.funcNamed "haymow/haymowlaw12.FrameNew" = some 4 by kernel_rfl).symm.trans hf) |>.symm
      obtain rfl : fn = Tryd.f4 := (Option.some.inj (Tryd.func4.symm.trans hfn)).symm
      exact ⟨by kernel_rfl, fun j t ht => by
        rw [Tryd.params4] at ht
        match j, ht with
        | 0, ht =>
          obtain rfl : t = 57 := by simpa using ht.symm
          exact (show Tryd.prog.wantsStandIn 57 = false by kernel_rfl)
        | j + 1, ht => simp at ht⟩)
    (by kernel_rfl)
#print axioms proved
end Go.Proofs.YtadcenaafoemmaaDoor.frameNew
