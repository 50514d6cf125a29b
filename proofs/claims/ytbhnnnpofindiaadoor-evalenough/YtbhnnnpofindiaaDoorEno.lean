/-
  haymowlaw06.EvalEnough returns true for every job and number, with the table of fields as it was laid.
-/
import Derived.Test.YtbhnnnpofindiaaDoorNum
import Derived.Test.YtbhnnnpofindiaaDoorLaidV
import Derived.Test.YtbhnnnpofindiaaDoorTie
import Derived.Test.YtbhnnnpofindiaaDoorCards
import Derived.ShutString
import Derived.ChangeOld
import Derived.SevenTiedAt
import Derived.Deep.DeepCutAuto
namespace Go.Proofs.YtbhnnnpofindiaaDoor.evalEnough
open Go.ChangeShapes Go.WideShapes Go.ChangeAt Go.RowKit
open Go.ChangeMaps (open_string shut_string)

theorem i64_small (x : Int) (h1 : -1000000 ≤ x) (h2 : x ≤ 1000000) : IntKind.i64.wrap x = x := IntWalk.i64_in x (by omega)

set_option maxHeartbeats 32000000 in
set_option maxRecDepth 100000 in
theorem walk (w : World) (hT : FieldsAt w) (z : JobV) (L : List LFn) (hL : L.length = z.n) (hR : FnRow w (fun b => b < w.heap.size) z.PA L) (xs : List Int) (hxl : xs.length = z.m) (hA : IntsA w z.AA xs) (mr : Nat) (hmr : mr < 256) :
    Calls Tryd.prog 5 #[z.val, .int .u8 mr] w fun e w' => e = .returned (.bool true) ∧ Fr None' w w' := by
  have hF0 : Fr None' w (w.alloc (.cells #[.slice z.PA z.n z.c, .slice z.AA z.m z.d, .int .i64 z.bud, .int .i64 z.dep] 25)) := (Fr.refl _ _).alloc _
  have hB0 := Blk.new w 25 #[.slice z.PA z.n z.c, .slice z.AA z.m z.d, .int .i64 z.bud, .int .i64 z.dep]
  have hB1 := Blk.new (w.alloc (.cells #[.slice z.PA z.n z.c, .slice z.AA z.m z.d, .int .i64 z.bud, .int .i64 z.dep] 25)) 37 #[.int .i64 z.bud, .int .i64 z.dep]
  rw [sz] at hB1
  have hlt := light_any _ _ z.PA z.c L (hR.fr hF0 (fun _ _ h => h))
  rw [hL] at hlt
  have HLT := Lib.hid hlt
  have HR := Lib.hid hR
  have HT := Lib.hid hT
  have HA := Lib.hid hA
  have HB0 := Lib.hid (hB0.alloc (.cells #[.int .i64 z.bud, .int .i64 z.dep] 37))
  have HB1 := Lib.hid hB1
  have HF0 := Lib.hid hF0
  clear hlt hR hT hA hB0 hF0 hB1
  go_enter Tryd.func5, Tryd.ntmps5
  unfold JobV.val
  go_wp2_with fail
  refine HLT.out.mono ?_
  rintro e w1 ⟨t, rfl, ht, rfl⟩
  cases t with
  | false =>
    go_wp2_with fail
    go_ret
    exact ⟨rfl, HF0.out⟩
  | true =>
    obtain ⟨hn, hp⟩ := ht rfl
    clear HLT ht
    by_cases hm : (20 : Int) < (z.m : Int)
    · go_wp2_with fail
      go_ret
      exact ⟨rfl, HF0.out⟩
    · have HOF0 := Lib.hid (of_ok w z L hL HR.out (by omega) hp)
      have HEV0 := Lib.hid (ev_of w z (fns L) xs HT.out (by omega) hxl (by omega) HA.out)
      have hmd : decide ((20 : Int) < (z.m : Int)) = false := by simpa using hm
      go_upto_region 4 with (fail)
      have z0 : ((w.alloc (.cells #[.slice z.PA z.n z.c, .slice z.AA z.m z.d, .int .i64 z.bud, .int .i64 z.dep] 25)).alloc (.cells #[.int .i64 z.bud, .int .i64 z.dep] 37)).cell? ⟨w.heap.size, 0, none⟩ = some (.slice z.PA z.n z.c) := by rw [HB0.out.cell]; rfl
      have z1 : ((w.alloc (.cells #[.slice z.PA z.n z.c, .slice z.AA z.m z.d, .int .i64 z.bud, .int .i64 z.dep] 25)).alloc (.cells #[.int .i64 z.bud, .int .i64 z.dep] 37)).cell? ⟨w.heap.size, 1, none⟩ = some (.slice z.AA z.m z.d) := by rw [HB0.out.cell]; rfl
      have z2 : ((w.alloc (.cells #[.slice z.PA z.n z.c, .slice z.AA z.m z.d, .int .i64 z.bud, .int .i64 z.dep] 25)).alloc (.cells #[.int .i64 z.bud, .int .i64 z.dep] 37)).cell? ⟨w.heap.size + 1, 0, none⟩ = some (.int .i64 z.bud) := by rw [HB1.out.cell]; rfl
      have z3 : ((w.alloc (.cells #[.slice z.PA z.n z.c, .slice z.AA z.m z.d, .int .i64 z.bud, .int .i64 z.dep] 25)).alloc (.cells #[.int .i64 z.bud, .int .i64 z.dep] 37)).cell? ⟨w.heap.size + 1, 1, none⟩ = some (.int .i64 z.dep) := by rw [HB1.out.cell]; rfl
      have HF1 := Lib.hid (HF0.out.alloc (.cells #[.int .i64 z.bud, .int .i64 z.dep] 37))
      generalize hW0 : (w.alloc (.cells #[.slice z.PA z.n z.c, .slice z.AA z.m z.d, .int .i64 z.bud, .int .i64 z.dep] 25)).alloc (.cells #[.int .i64 z.bud, .int .i64 z.dep] 37) = W0 at *
      clear hW0 HB0 HB1
      have HOF := Lib.hid (HOF0.out.on HF1.out)
      have HEV := Lib.hid (HEV0.out.on HF1.out)
      go_cut [6, 7] (fun rv ev wx => ∃ g tA tc lA lc base, rv = .pointer (some ⟨g, 0, none⟩) ∧ ev = .int .i64 (evalR (fns L) xs z.bud z.dep 3000).e ∧ Blk wx g 30 #[.int .i64 (evalR (fns L) xs z.bud z.dep 3000).v, .int .i64 (evalR (fns L) xs z.bud z.dep 3000).f, .slice tA (evalR (fns L) xs z.bud z.dep 3000).told.length tc, .slice lA (evalR (fns L) xs z.bud z.dep 3000).log.length lc] ∧ ResAt wx base (.slice tA (evalR (fns L) xs z.bud z.dep 3000).told.length tc) (.slice lA (evalR (fns L) xs z.bud z.dep 3000).log.length lc) (evalR (fns L) xs z.bud z.dep 3000).told (evalR (fns L) xs z.bud z.dep 3000).log ∧ Fr None' W0 wx ∧ (fun w' : World => w'.cell? ⟨w.heap.size, 0, none⟩ = some (.slice z.PA z.n z.c) ∧ w'.cell? ⟨w.heap.size, 1, none⟩ = some (.slice z.AA z.m z.d) ∧ w'.cell? ⟨w.heap.size + 1, 0, none⟩ = some (.int .i64 z.bud) ∧ w'.cell? ⟨w.heap.size + 1, 1, none⟩ = some (.int .i64 z.dep)) wx)
      case first =>
        have q0 : w.heap.size < W0.heap.size := cell_lt z0
        have q1 : w.heap.size < W0.heap.size := cell_lt z1
        have q2 : w.heap.size + 1 < W0.heap.size := cell_lt z2
        have q3 : w.heap.size + 1 < W0.heap.size := cell_lt z3
        refine region_K 13 (fun w' : World => w'.cell? ⟨w.heap.size, 0, none⟩ = some (.slice z.PA z.n z.c) ∧ w'.cell? ⟨w.heap.size, 1, none⟩ = some (.slice z.AA z.m z.d) ∧ w'.cell? ⟨w.heap.size + 1, 0, none⟩ = some (.int .i64 z.bud) ∧ w'.cell? ⟨w.heap.size + 1, 1, none⟩ = some (.int .i64 z.dep)) (by kernel_rfl) ?_
        have HS : (fun w' : World => w'.cell? ⟨w.heap.size, 0, none⟩ = some (.slice z.PA z.n z.c) ∧ w'.cell? ⟨w.heap.size, 1, none⟩ = some (.slice z.AA z.m z.d) ∧ w'.cell? ⟨w.heap.size + 1, 0, none⟩ = some (.int .i64 z.bud) ∧ w'.cell? ⟨w.heap.size + 1, 1, none⟩ = some (.int .i64 z.dep)) (W0).drew := ⟨z0, z1, z2, z3⟩
        refine AnyK.take (i := 0) rfl (by decide) (by kernel_rfl) (by kernel_rfl) (by kernel_rfl) (fun _ _ _ _ h => h) HS (fun K hK => ?_)
        go_simp
        refine hK.out _ ⟨_, by rfl, Or.inl ⟨by rfl, by intro w hSw; (try dsimp only at hSw); go_simp⟩, ?_⟩
        clear hK K
        refine AnyK.take (i := 1) rfl (by decide) (by kernel_rfl) (by kernel_rfl) (by kernel_rfl) (fun _ _ _ _ h => h) HS (fun K hK => ?_)
        go_simp
        refine hK.out _ ⟨_, by rfl, Or.inl ⟨by rfl, by intro w hSw; (try dsimp only at hSw); go_simp⟩, ?_⟩
        clear hK K
        refine AnyK.take (i := 3) rfl (by decide) (by kernel_rfl) (by kernel_rfl) (by kernel_rfl) (fun _ _ _ _ h => h) HS (fun K hK => ?_)
        go_simp
        refine hK.out _ ⟨_, by rfl, Or.inl ⟨by rfl, by intro w hSw; (try dsimp only at hSw); go_simp⟩, ?_⟩
        clear hK K
        refine AnyK.take (i := 4) rfl (by decide) (by kernel_rfl) (by kernel_rfl) (by kernel_rfl) (fun _ _ _ _ h => h) HS (fun K hK => ?_)
        go_simp
        refine hK.out _ ⟨_, by rfl, Or.inl ⟨by rfl, by intro w hSw; (try dsimp only at hSw); go_simp⟩, ?_⟩
        clear hK K
        refine AnyK.take (i := 5) rfl (by decide) (by kernel_rfl) (by kernel_rfl) (by kernel_rfl) (fun _ _ _ _ h => h) HS (fun K hK => ?_)
        go_simp
        refine hK.out _ ⟨_, by rfl, Or.inl ⟨by rfl, by intro w hSw; (try dsimp only at hSw); go_simp⟩, ?_⟩
        clear hK K
        refine AnyK.two (i := 2) (j := 10) rfl rfl (by kernel_rfl) (fun K hK => ?_) (fun K hK => ?_)
        · go_simp
          refine (HOF.out _ ((Fr.refl None' W0).drew)).mono ?_
          rintro e w1 ⟨A, c, rfl, hL, hF_w1⟩
          have HL := Lib.hid hL
          have F_w1 := Lib.hid (Fr.trans ((Fr.refl None' W0).drew) hF_w1)
          have HS : (fun w' : World => w'.cell? ⟨w.heap.size, 0, none⟩ = some (.slice z.PA z.n z.c) ∧ w'.cell? ⟨w.heap.size, 1, none⟩ = some (.slice z.AA z.m z.d) ∧ w'.cell? ⟨w.heap.size + 1, 0, none⟩ = some (.int .i64 z.bud) ∧ w'.cell? ⟨w.heap.size + 1, 1, none⟩ = some (.int .i64 z.dep)) w1 := ⟨hF_w1.held HS.1 (fun h => h), hF_w1.held HS.2.1 (fun h => h), hF_w1.held HS.2.2.1 (fun h => h), hF_w1.held HS.2.2.2 (fun h => h)⟩
          refine hK.out _ _ (fun _ => HS) ?_
          clear hK K hL
          refine AnyK.two (i := 6) (j := 10) rfl rfl (by kernel_rfl) (fun K hK => ?_) (fun K hK => ?_)
          · go_simp
            refine (HEV.out _ A c 3000 F_w1.out (by decide) HL.out).mono ?_
            rintro e w2 ⟨tA, tc, lA, lc, rfl, hres, hF_w2⟩
            have HR := Lib.hid hres
            have F_w2 := Lib.hid (Fr.trans F_w1.out hF_w2)
            have HS : (fun w' : World => w'.cell? ⟨w.heap.size, 0, none⟩ = some (.slice z.PA z.n z.c) ∧ w'.cell? ⟨w.heap.size, 1, none⟩ = some (.slice z.AA z.m z.d) ∧ w'.cell? ⟨w.heap.size + 1, 0, none⟩ = some (.int .i64 z.bud) ∧ w'.cell? ⟨w.heap.size + 1, 1, none⟩ = some (.int .i64 z.dep)) w2 := ⟨hF_w2.held HS.1 (fun h => h), hF_w2.held HS.2.1 (fun h => h), hF_w2.held HS.2.2.1 (fun h => h), hF_w2.held HS.2.2.2 (fun h => h)⟩
            refine hK.out _ _ (fun _ => HS) ?_
            clear hK K hres
            refine AnyK.take (i := 7) rfl (by decide) (by kernel_rfl) (by kernel_rfl) (by kernel_rfl) (fun _ _ _ _ h => h) HS (fun K hK => ?_)
            go_simp
            refine hK.out _ ⟨_, by rfl, Or.inl ⟨by rfl, by intro w hSw; (try dsimp only at hSw); go_simp⟩, ?_⟩
            clear hK K
            refine AnyK.take (i := 8) rfl (by decide) (by kernel_rfl) (by kernel_rfl) (by kernel_rfl) (fun _ _ _ _ h => h) HS (fun K hK => ?_)
            go_simp
            refine hK.out _ ⟨_, by rfl, Or.inl ⟨by rfl, by intro w hSw; (try dsimp only at hSw); go_simp⟩, ?_⟩
            clear hK K
            refine AnyK.take (i := 9) rfl (by decide) (by kernel_rfl) (by kernel_rfl) (by kernel_rfl) (fun _ _ _ _ h => h) HS (fun K hK => ?_)
            go_simp
            refine hK.out _ ⟨_, by rfl, Or.inl ⟨by rfl, by intro w hSw; (try dsimp only at hSw); go_simp⟩, ?_⟩
            clear hK K
            refine AnyK.one (i := 10) rfl (by kernel_rfl) (fun K hK => ?_)
            go_simp
            have hF_w3 : Fr None' (w2) ((w2).alloc (.cells #[.int .i64 0, .int .i64 0, .slice none 0 0, .slice none 0 0] 30)) := ((Fr.refl _ _).alloc _)
            have hB_w3 : Blk ((w2).alloc (.cells #[.int .i64 0, .int .i64 0, .slice none 0 0, .slice none 0 0] 30)) (w2).heap.size 30 #[.int .i64 0, .int .i64 0, .slice none 0 0, .slice none 0 0] := Blk.new (w2) _ _
            have F_w3 := Lib.hid (Fr.trans F_w2.out hF_w3)
            have HS : (fun w' : World => w'.cell? ⟨w.heap.size, 0, none⟩ = some (.slice z.PA z.n z.c) ∧ w'.cell? ⟨w.heap.size, 1, none⟩ = some (.slice z.AA z.m z.d) ∧ w'.cell? ⟨w.heap.size + 1, 0, none⟩ = some (.int .i64 z.bud) ∧ w'.cell? ⟨w.heap.size + 1, 1, none⟩ = some (.int .i64 z.dep)) ((w2).alloc (.cells #[.int .i64 0, .int .i64 0, .slice none 0 0, .slice none 0 0] 30)) := ⟨hF_w3.held HS.1 (fun h => h), hF_w3.held HS.2.1 (fun h => h), hF_w3.held HS.2.2.1 (fun h => h), hF_w3.held HS.2.2.2 (fun h => h)⟩
            refine hK.out _ _ (fun _ => HS) ?_
            clear hK K
            generalize ((w2).alloc (.cells #[.int .i64 0, .int .i64 0, .slice none 0 0, .slice none 0 0] 30)) = w3 at *
            refine AnyK.one (i := 11) rfl (by kernel_rfl) (fun K hK => ?_)
            have hB := hB_w3
            have b0 : w3.cell? ⟨w2.heap.size, 0, none⟩ = some (.int .i64 0) := by rw [hB.cell]; rfl
            have b1 : w3.cell? ⟨w2.heap.size, 1, none⟩ = some (.int .i64 0) := by rw [hB.cell]; rfl
            have b2 : w3.cell? ⟨w2.heap.size, 2, none⟩ = some (.slice none 0 0) := by rw [hB.cell]; rfl
            have b3 : w3.cell? ⟨w2.heap.size, 3, none⟩ = some (.slice none 0 0) := by rw [hB.cell]; rfl
            have y0 := hB.frozen 0
            have y1 := hB.frozen 1
            have y2 := hB.frozen 2
            have y3 := hB.frozen 3
            go_simp
            have hFs : Fr (fun k => k = w2.heap.size) w3 ((((w3.setCell ⟨w2.heap.size, 0, none⟩ (.int .i64 (evalR (fns L) xs z.bud z.dep 3000).v)).setCell ⟨w2.heap.size, 1, none⟩ (.int .i64 (evalR (fns L) xs z.bud z.dep 3000).f)).setCell ⟨w2.heap.size, 2, none⟩ (.slice tA (evalR (fns L) xs z.bud z.dep 3000).told.length tc)).setCell ⟨w2.heap.size, 3, none⟩ (.slice lA (evalR (fns L) xs z.bud z.dep 3000).log.length lc)) := ((((Fr.refl (fun k => k = w2.heap.size) w3).setCell (p := ⟨w2.heap.size, 0, none⟩) (.inl rfl) _).setCell (p := ⟨w2.heap.size, 1, none⟩) (.inl rfl) _).setCell (p := ⟨w2.heap.size, 2, none⟩) (.inl rfl) _).setCell (p := ⟨w2.heap.size, 3, none⟩) (.inl rfl) _
            have hBs : Blk ((((w3.setCell ⟨w2.heap.size, 0, none⟩ (.int .i64 (evalR (fns L) xs z.bud z.dep 3000).v)).setCell ⟨w2.heap.size, 1, none⟩ (.int .i64 (evalR (fns L) xs z.bud z.dep 3000).f)).setCell ⟨w2.heap.size, 2, none⟩ (.slice tA (evalR (fns L) xs z.bud z.dep 3000).told.length tc)).setCell ⟨w2.heap.size, 3, none⟩ (.slice lA (evalR (fns L) xs z.bud z.dep 3000).log.length lc)) (w2.heap.size) 30 #[.int .i64 (evalR (fns L) xs z.bud z.dep 3000).v, .int .i64 (evalR (fns L) xs z.bud z.dep 3000).f, .slice tA (evalR (fns L) xs z.bud z.dep 3000).told.length tc, .slice lA (evalR (fns L) xs z.bud z.dep 3000).log.length lc] := (((hB.set_ 0 _).set_ 1 _).set_ 2 _).set_ 3 _
            have hRs := ResAt.at_ (HR.out.fr hF_w3) hB hFs
            have hge : W0.heap.size ≤ w2.heap.size := F_w2.out.size
            have HS : (fun w' : World => w'.cell? ⟨w.heap.size, 0, none⟩ = some (.slice z.PA z.n z.c) ∧ w'.cell? ⟨w.heap.size, 1, none⟩ = some (.slice z.AA z.m z.d) ∧ w'.cell? ⟨w.heap.size + 1, 0, none⟩ = some (.int .i64 z.bud) ∧ w'.cell? ⟨w.heap.size + 1, 1, none⟩ = some (.int .i64 z.dep)) ((((w3.setCell ⟨w2.heap.size, 0, none⟩ (.int .i64 (evalR (fns L) xs z.bud z.dep 3000).v)).setCell ⟨w2.heap.size, 1, none⟩ (.int .i64 (evalR (fns L) xs z.bud z.dep 3000).f)).setCell ⟨w2.heap.size, 2, none⟩ (.slice tA (evalR (fns L) xs z.bud z.dep 3000).told.length tc)).setCell ⟨w2.heap.size, 3, none⟩ (.slice lA (evalR (fns L) xs z.bud z.dep 3000).log.length lc)) := ⟨hFs.held HS.1 (by show ¬ w.heap.size = _; omega), hFs.held HS.2.1 (by show ¬ w.heap.size = _; omega), hFs.held HS.2.2.1 (by show ¬ w.heap.size + 1 = _; omega), hFs.held HS.2.2.2 (by show ¬ w.heap.size + 1 = _; omega)⟩
            refine hK.out _ _ (fun _ => HS) ?_
            clear hK K
            have hFw : Fr None' W0 ((((w3.setCell ⟨w2.heap.size, 0, none⟩ (.int .i64 (evalR (fns L) xs z.bud z.dep 3000).v)).setCell ⟨w2.heap.size, 1, none⟩ (.int .i64 (evalR (fns L) xs z.bud z.dep 3000).f)).setCell ⟨w2.heap.size, 2, none⟩ (.slice tA (evalR (fns L) xs z.bud z.dep 3000).told.length tc)).setCell ⟨w2.heap.size, 3, none⟩ (.slice lA (evalR (fns L) xs z.bud z.dep 3000).log.length lc)) := Fr.then F_w3.out hFs (fun i hi => .inr (by omega))
            refine AnyK.one (i := 12) rfl (by kernel_rfl) (fun K hK => ?_)
            go_simp
            refine hK.out _ _ (fun _ => HS) ?_
            clear hK K
            refine AnyK.done (by kernel_rfl) ?_ _
            go_wp2_with fail
            go_meet
            exact ⟨_, tA, tc, lA, lc, _, rfl, rfl, hBs, hRs, hFw, HS⟩
          · go_simp
            have hF_w3 : Fr None' (w1) ((w1).alloc (.cells #[.int .i64 0, .int .i64 0, .slice none 0 0, .slice none 0 0] 30)) := ((Fr.refl _ _).alloc _)
            have hB_w3 : Blk ((w1).alloc (.cells #[.int .i64 0, .int .i64 0, .slice none 0 0, .slice none 0 0] 30)) (w1).heap.size 30 #[.int .i64 0, .int .i64 0, .slice none 0 0, .slice none 0 0] := Blk.new (w1) _ _
            have F_w3 := Lib.hid (Fr.trans F_w1.out hF_w3)
            have HS : (fun w' : World => w'.cell? ⟨w.heap.size, 0, none⟩ = some (.slice z.PA z.n z.c) ∧ w'.cell? ⟨w.heap.size, 1, none⟩ = some (.slice z.AA z.m z.d) ∧ w'.cell? ⟨w.heap.size + 1, 0, none⟩ = some (.int .i64 z.bud) ∧ w'.cell? ⟨w.heap.size + 1, 1, none⟩ = some (.int .i64 z.dep)) ((w1).alloc (.cells #[.int .i64 0, .int .i64 0, .slice none 0 0, .slice none 0 0] 30)) := ⟨hF_w3.held HS.1 (fun h => h), hF_w3.held HS.2.1 (fun h => h), hF_w3.held HS.2.2.1 (fun h => h), hF_w3.held HS.2.2.2 (fun h => h)⟩
            refine hK.out _ _ (fun _ => HS) ?_
            clear hK K
            generalize ((w1).alloc (.cells #[.int .i64 0, .int .i64 0, .slice none 0 0, .slice none 0 0] 30)) = w3 at *
            refine AnyK.one (i := 6) rfl (by kernel_rfl) (fun K hK => ?_)
            go_simp
            refine (HEV.out _ A c 3000 F_w3.out (by decide) (rows_fr HL.out hF_w3)).mono ?_
            rintro e w2 ⟨tA, tc, lA, lc, rfl, hres, hF_w2⟩
            have HR := Lib.hid hres
            have F_w2 := Lib.hid (Fr.trans F_w3.out hF_w2)
            have HS : (fun w' : World => w'.cell? ⟨w.heap.size, 0, none⟩ = some (.slice z.PA z.n z.c) ∧ w'.cell? ⟨w.heap.size, 1, none⟩ = some (.slice z.AA z.m z.d) ∧ w'.cell? ⟨w.heap.size + 1, 0, none⟩ = some (.int .i64 z.bud) ∧ w'.cell? ⟨w.heap.size + 1, 1, none⟩ = some (.int .i64 z.dep)) w2 := ⟨hF_w2.held HS.1 (fun h => h), hF_w2.held HS.2.1 (fun h => h), hF_w2.held HS.2.2.1 (fun h => h), hF_w2.held HS.2.2.2 (fun h => h)⟩
            refine hK.out _ _ (fun _ => HS) ?_
            clear hK K hres
            refine AnyK.take (i := 7) rfl (by decide) (by kernel_rfl) (by kernel_rfl) (by kernel_rfl) (fun _ _ _ _ h => h) HS (fun K hK => ?_)
            go_simp
            refine hK.out _ ⟨_, by rfl, Or.inl ⟨by rfl, by intro w hSw; (try dsimp only at hSw); go_simp⟩, ?_⟩
            clear hK K
            refine AnyK.take (i := 8) rfl (by decide) (by kernel_rfl) (by kernel_rfl) (by kernel_rfl) (fun _ _ _ _ h => h) HS (fun K hK => ?_)
            go_simp
            refine hK.out _ ⟨_, by rfl, Or.inl ⟨by rfl, by intro w hSw; (try dsimp only at hSw); go_simp⟩, ?_⟩
            clear hK K
            refine AnyK.take (i := 9) rfl (by decide) (by kernel_rfl) (by kernel_rfl) (by kernel_rfl) (fun _ _ _ _ h => h) HS (fun K hK => ?_)
            go_simp
            refine hK.out _ ⟨_, by rfl, Or.inl ⟨by rfl, by intro w hSw; (try dsimp only at hSw); go_simp⟩, ?_⟩
            clear hK K
            refine AnyK.one (i := 11) rfl (by kernel_rfl) (fun K hK => ?_)
            have hB := hB_w3.fr hF_w2 (fun h => h)
            have b0 : w2.cell? ⟨w1.heap.size, 0, none⟩ = some (.int .i64 0) := by rw [hB.cell]; rfl
            have b1 : w2.cell? ⟨w1.heap.size, 1, none⟩ = some (.int .i64 0) := by rw [hB.cell]; rfl
            have b2 : w2.cell? ⟨w1.heap.size, 2, none⟩ = some (.slice none 0 0) := by rw [hB.cell]; rfl
            have b3 : w2.cell? ⟨w1.heap.size, 3, none⟩ = some (.slice none 0 0) := by rw [hB.cell]; rfl
            have y0 := hB.frozen 0
            have y1 := hB.frozen 1
            have y2 := hB.frozen 2
            have y3 := hB.frozen 3
            go_simp
            have hFs : Fr (fun k => k = w1.heap.size) w2 ((((w2.setCell ⟨w1.heap.size, 0, none⟩ (.int .i64 (evalR (fns L) xs z.bud z.dep 3000).v)).setCell ⟨w1.heap.size, 1, none⟩ (.int .i64 (evalR (fns L) xs z.bud z.dep 3000).f)).setCell ⟨w1.heap.size, 2, none⟩ (.slice tA (evalR (fns L) xs z.bud z.dep 3000).told.length tc)).setCell ⟨w1.heap.size, 3, none⟩ (.slice lA (evalR (fns L) xs z.bud z.dep 3000).log.length lc)) := ((((Fr.refl (fun k => k = w1.heap.size) w2).setCell (p := ⟨w1.heap.size, 0, none⟩) (.inl rfl) _).setCell (p := ⟨w1.heap.size, 1, none⟩) (.inl rfl) _).setCell (p := ⟨w1.heap.size, 2, none⟩) (.inl rfl) _).setCell (p := ⟨w1.heap.size, 3, none⟩) (.inl rfl) _
            have hBs : Blk ((((w2.setCell ⟨w1.heap.size, 0, none⟩ (.int .i64 (evalR (fns L) xs z.bud z.dep 3000).v)).setCell ⟨w1.heap.size, 1, none⟩ (.int .i64 (evalR (fns L) xs z.bud z.dep 3000).f)).setCell ⟨w1.heap.size, 2, none⟩ (.slice tA (evalR (fns L) xs z.bud z.dep 3000).told.length tc)).setCell ⟨w1.heap.size, 3, none⟩ (.slice lA (evalR (fns L) xs z.bud z.dep 3000).log.length lc)) (w1.heap.size) 30 #[.int .i64 (evalR (fns L) xs z.bud z.dep 3000).v, .int .i64 (evalR (fns L) xs z.bud z.dep 3000).f, .slice tA (evalR (fns L) xs z.bud z.dep 3000).told.length tc, .slice lA (evalR (fns L) xs z.bud z.dep 3000).log.length lc] := (((hB.set_ 0 _).set_ 1 _).set_ 2 _).set_ 3 _
            have hRs := ResAt.at_ HR.out hB hFs
            have hge : W0.heap.size ≤ w1.heap.size := F_w1.out.size
            have HS : (fun w' : World => w'.cell? ⟨w.heap.size, 0, none⟩ = some (.slice z.PA z.n z.c) ∧ w'.cell? ⟨w.heap.size, 1, none⟩ = some (.slice z.AA z.m z.d) ∧ w'.cell? ⟨w.heap.size + 1, 0, none⟩ = some (.int .i64 z.bud) ∧ w'.cell? ⟨w.heap.size + 1, 1, none⟩ = some (.int .i64 z.dep)) ((((w2.setCell ⟨w1.heap.size, 0, none⟩ (.int .i64 (evalR (fns L) xs z.bud z.dep 3000).v)).setCell ⟨w1.heap.size, 1, none⟩ (.int .i64 (evalR (fns L) xs z.bud z.dep 3000).f)).setCell ⟨w1.heap.size, 2, none⟩ (.slice tA (evalR (fns L) xs z.bud z.dep 3000).told.length tc)).setCell ⟨w1.heap.size, 3, none⟩ (.slice lA (evalR (fns L) xs z.bud z.dep 3000).log.length lc)) := ⟨hFs.held HS.1 (by show ¬ w.heap.size = _; omega), hFs.held HS.2.1 (by show ¬ w.heap.size = _; omega), hFs.held HS.2.2.1 (by show ¬ w.heap.size + 1 = _; omega), hFs.held HS.2.2.2 (by show ¬ w.heap.size + 1 = _; omega)⟩
            refine hK.out _ _ (fun _ => HS) ?_
            clear hK K
            have hFw : Fr None' W0 ((((w2.setCell ⟨w1.heap.size, 0, none⟩ (.int .i64 (evalR (fns L) xs z.bud z.dep 3000).v)).setCell ⟨w1.heap.size, 1, none⟩ (.int .i64 (evalR (fns L) xs z.bud z.dep 3000).f)).setCell ⟨w1.heap.size, 2, none⟩ (.slice tA (evalR (fns L) xs z.bud z.dep 3000).told.length tc)).setCell ⟨w1.heap.size, 3, none⟩ (.slice lA (evalR (fns L) xs z.bud z.dep 3000).log.length lc)) := Fr.then F_w2.out hFs (fun i hi => .inr (by omega))
            refine AnyK.one (i := 12) rfl (by kernel_rfl) (fun K hK => ?_)
            go_simp
            refine hK.out _ _ (fun _ => HS) ?_
            clear hK K
            refine AnyK.done (by kernel_rfl) ?_ _
            go_wp2_with fail
            go_meet
            exact ⟨_, tA, tc, lA, lc, _, rfl, rfl, hBs, hRs, hFw, HS⟩
        · go_simp
          have hF_w3 : Fr None' (W0) ((W0).alloc (.cells #[.int .i64 0, .int .i64 0, .slice none 0 0, .slice none 0 0] 30)).drew := ((Fr.refl _ _).alloc _).drew
          have hB_w3 : Blk ((W0).alloc (.cells #[.int .i64 0, .int .i64 0, .slice none 0 0, .slice none 0 0] 30)).drew (W0).heap.size 30 #[.int .i64 0, .int .i64 0, .slice none 0 0, .slice none 0 0] := Blk.new (W0) _ _
          have F_w3 := Lib.hid (Fr.trans (Fr.refl None' W0) hF_w3)
          have HS : (fun w' : World => w'.cell? ⟨w.heap.size, 0, none⟩ = some (.slice z.PA z.n z.c) ∧ w'.cell? ⟨w.heap.size, 1, none⟩ = some (.slice z.AA z.m z.d) ∧ w'.cell? ⟨w.heap.size + 1, 0, none⟩ = some (.int .i64 z.bud) ∧ w'.cell? ⟨w.heap.size + 1, 1, none⟩ = some (.int .i64 z.dep)) ((W0).alloc (.cells #[.int .i64 0, .int .i64 0, .slice none 0 0, .slice none 0 0] 30)).drew := ⟨hF_w3.held HS.1 (fun h => h), hF_w3.held HS.2.1 (fun h => h), hF_w3.held HS.2.2.1 (fun h => h), hF_w3.held HS.2.2.2 (fun h => h)⟩
          refine hK.out _ _ (fun _ => HS) ?_
          clear hK K
          generalize ((W0).alloc (.cells #[.int .i64 0, .int .i64 0, .slice none 0 0, .slice none 0 0] 30)).drew = w3 at *
          refine AnyK.one (i := 2) rfl (by kernel_rfl) (fun K hK => ?_)
          go_simp
          refine (HOF.out _ F_w3.out).mono ?_
          rintro e w1 ⟨A, c, rfl, hL, hF_w1⟩
          have HL := Lib.hid hL
          have F_w1 := Lib.hid (Fr.trans F_w3.out hF_w1)
          have HS : (fun w' : World => w'.cell? ⟨w.heap.size, 0, none⟩ = some (.slice z.PA z.n z.c) ∧ w'.cell? ⟨w.heap.size, 1, none⟩ = some (.slice z.AA z.m z.d) ∧ w'.cell? ⟨w.heap.size + 1, 0, none⟩ = some (.int .i64 z.bud) ∧ w'.cell? ⟨w.heap.size + 1, 1, none⟩ = some (.int .i64 z.dep)) w1 := ⟨hF_w1.held HS.1 (fun h => h), hF_w1.held HS.2.1 (fun h => h), hF_w1.held HS.2.2.1 (fun h => h), hF_w1.held HS.2.2.2 (fun h => h)⟩
          refine hK.out _ _ (fun _ => HS) ?_
          clear hK K hL
          refine AnyK.one (i := 6) rfl (by kernel_rfl) (fun K hK => ?_)
          go_simp
          refine (HEV.out _ A c 3000 F_w1.out (by decide) HL.out).mono ?_
          rintro e w2 ⟨tA, tc, lA, lc, rfl, hres, hF_w2⟩
          have HR := Lib.hid hres
          have F_w2 := Lib.hid (Fr.trans F_w1.out hF_w2)
          have HS : (fun w' : World => w'.cell? ⟨w.heap.size, 0, none⟩ = some (.slice z.PA z.n z.c) ∧ w'.cell? ⟨w.heap.size, 1, none⟩ = some (.slice z.AA z.m z.d) ∧ w'.cell? ⟨w.heap.size + 1, 0, none⟩ = some (.int .i64 z.bud) ∧ w'.cell? ⟨w.heap.size + 1, 1, none⟩ = some (.int .i64 z.dep)) w2 := ⟨hF_w2.held HS.1 (fun h => h), hF_w2.held HS.2.1 (fun h => h), hF_w2.held HS.2.2.1 (fun h => h), hF_w2.held HS.2.2.2 (fun h => h)⟩
          refine hK.out _ _ (fun _ => HS) ?_
          clear hK K hres
          refine AnyK.take (i := 7) rfl (by decide) (by kernel_rfl) (by kernel_rfl) (by kernel_rfl) (fun _ _ _ _ h => h) HS (fun K hK => ?_)
          go_simp
          refine hK.out _ ⟨_, by rfl, Or.inl ⟨by rfl, by intro w hSw; (try dsimp only at hSw); go_simp⟩, ?_⟩
          clear hK K
          refine AnyK.take (i := 8) rfl (by decide) (by kernel_rfl) (by kernel_rfl) (by kernel_rfl) (fun _ _ _ _ h => h) HS (fun K hK => ?_)
          go_simp
          refine hK.out _ ⟨_, by rfl, Or.inl ⟨by rfl, by intro w hSw; (try dsimp only at hSw); go_simp⟩, ?_⟩
          clear hK K
          refine AnyK.take (i := 9) rfl (by decide) (by kernel_rfl) (by kernel_rfl) (by kernel_rfl) (fun _ _ _ _ h => h) HS (fun K hK => ?_)
          go_simp
          refine hK.out _ ⟨_, by rfl, Or.inl ⟨by rfl, by intro w hSw; (try dsimp only at hSw); go_simp⟩, ?_⟩
          clear hK K
          refine AnyK.one (i := 11) rfl (by kernel_rfl) (fun K hK => ?_)
          have hB := (hB_w3.fr hF_w1 (fun h => h)).fr hF_w2 (fun h => h)
          have b0 : w2.cell? ⟨W0.heap.size, 0, none⟩ = some (.int .i64 0) := by rw [hB.cell]; rfl
          have b1 : w2.cell? ⟨W0.heap.size, 1, none⟩ = some (.int .i64 0) := by rw [hB.cell]; rfl
          have b2 : w2.cell? ⟨W0.heap.size, 2, none⟩ = some (.slice none 0 0) := by rw [hB.cell]; rfl
          have b3 : w2.cell? ⟨W0.heap.size, 3, none⟩ = some (.slice none 0 0) := by rw [hB.cell]; rfl
          have y0 := hB.frozen 0
          have y1 := hB.frozen 1
          have y2 := hB.frozen 2
          have y3 := hB.frozen 3
          go_simp
          have hFs : Fr (fun k => k = W0.heap.size) w2 ((((w2.setCell ⟨W0.heap.size, 0, none⟩ (.int .i64 (evalR (fns L) xs z.bud z.dep 3000).v)).setCell ⟨W0.heap.size, 1, none⟩ (.int .i64 (evalR (fns L) xs z.bud z.dep 3000).f)).setCell ⟨W0.heap.size, 2, none⟩ (.slice tA (evalR (fns L) xs z.bud z.dep 3000).told.length tc)).setCell ⟨W0.heap.size, 3, none⟩ (.slice lA (evalR (fns L) xs z.bud z.dep 3000).log.length lc)) := ((((Fr.refl (fun k => k = W0.heap.size) w2).setCell (p := ⟨W0.heap.size, 0, none⟩) (.inl rfl) _).setCell (p := ⟨W0.heap.size, 1, none⟩) (.inl rfl) _).setCell (p := ⟨W0.heap.size, 2, none⟩) (.inl rfl) _).setCell (p := ⟨W0.heap.size, 3, none⟩) (.inl rfl) _
          have hBs : Blk ((((w2.setCell ⟨W0.heap.size, 0, none⟩ (.int .i64 (evalR (fns L) xs z.bud z.dep 3000).v)).setCell ⟨W0.heap.size, 1, none⟩ (.int .i64 (evalR (fns L) xs z.bud z.dep 3000).f)).setCell ⟨W0.heap.size, 2, none⟩ (.slice tA (evalR (fns L) xs z.bud z.dep 3000).told.length tc)).setCell ⟨W0.heap.size, 3, none⟩ (.slice lA (evalR (fns L) xs z.bud z.dep 3000).log.length lc)) (W0.heap.size) 30 #[.int .i64 (evalR (fns L) xs z.bud z.dep 3000).v, .int .i64 (evalR (fns L) xs z.bud z.dep 3000).f, .slice tA (evalR (fns L) xs z.bud z.dep 3000).told.length tc, .slice lA (evalR (fns L) xs z.bud z.dep 3000).log.length lc] := (((hB.set_ 0 _).set_ 1 _).set_ 2 _).set_ 3 _
          have hRs := ResAt.at_ HR.out hB hFs
          have hge : W0.heap.size ≤ W0.heap.size := Nat.le_refl _
          have HS : (fun w' : World => w'.cell? ⟨w.heap.size, 0, none⟩ = some (.slice z.PA z.n z.c) ∧ w'.cell? ⟨w.heap.size, 1, none⟩ = some (.slice z.AA z.m z.d) ∧ w'.cell? ⟨w.heap.size + 1, 0, none⟩ = some (.int .i64 z.bud) ∧ w'.cell? ⟨w.heap.size + 1, 1, none⟩ = some (.int .i64 z.dep)) ((((w2.setCell ⟨W0.heap.size, 0, none⟩ (.int .i64 (evalR (fns L) xs z.bud z.dep 3000).v)).setCell ⟨W0.heap.size, 1, none⟩ (.int .i64 (evalR (fns L) xs z.bud z.dep 3000).f)).setCell ⟨W0.heap.size, 2, none⟩ (.slice tA (evalR (fns L) xs z.bud z.dep 3000).told.length tc)).setCell ⟨W0.heap.size, 3, none⟩ (.slice lA (evalR (fns L) xs z.bud z.dep 3000).log.length lc)) := ⟨hFs.held HS.1 (by show ¬ w.heap.size = _; omega), hFs.held HS.2.1 (by show ¬ w.heap.size = _; omega), hFs.held HS.2.2.1 (by show ¬ w.heap.size + 1 = _; omega), hFs.held HS.2.2.2 (by show ¬ w.heap.size + 1 = _; omega)⟩
          refine hK.out _ _ (fun _ => HS) ?_
          clear hK K
          have hFw : Fr None' W0 ((((w2.setCell ⟨W0.heap.size, 0, none⟩ (.int .i64 (evalR (fns L) xs z.bud z.dep 3000).v)).setCell ⟨W0.heap.size, 1, none⟩ (.int .i64 (evalR (fns L) xs z.bud z.dep 3000).f)).setCell ⟨W0.heap.size, 2, none⟩ (.slice tA (evalR (fns L) xs z.bud z.dep 3000).told.length tc)).setCell ⟨W0.heap.size, 3, none⟩ (.slice lA (evalR (fns L) xs z.bud z.dep 3000).log.length lc)) := Fr.then F_w2.out hFs (fun i hi => .inr (by omega))
          refine AnyK.one (i := 12) rfl (by kernel_rfl) (fun K hK => ?_)
          go_simp
          refine hK.out _ _ (fun _ => HS) ?_
          clear hK K
          refine AnyK.done (by kernel_rfl) ?_ _
          go_wp2_with fail
          go_meet
          exact ⟨_, tA, tc, lA, lc, _, rfl, rfl, hBs, hRs, hFw, HS⟩
      case rest =>
        obtain ⟨W1, rfl⟩ : ∃ W1, wc = W1 := ⟨_, rfl⟩
        obtain ⟨g, tA, tc, lA, lc, base, rfl, rfl, hBl, hRs, hFw, hz0, hz1, hz2, hz3⟩ := hcut
        have HFW := Lib.hid (HF1.out.trans hFw)
        clear HOF HEV z0 z1 z2 z3 HF0 HF1 HR HA hp hmd hFw
        have r0 : wc.cell? ⟨g, 0, none⟩ = some (.int .i64 (evalR (fns L) xs z.bud z.dep 3000).v) := by rw [hBl.cell]; rfl
        have r1 : wc.cell? ⟨g, 1, none⟩ = some (.int .i64 (evalR (fns L) xs z.bud z.dep 3000).f) := by rw [hBl.cell]; rfl
        have r2 : wc.cell? ⟨g, 2, none⟩ = some (.slice tA (evalR (fns L) xs z.bud z.dep 3000).told.length tc) := by rw [hBl.cell]; rfl
        have r3 : wc.cell? ⟨g, 3, none⟩ = some (.slice lA (evalR (fns L) xs z.bud z.dep 3000).log.length lc) := by rw [hBl.cell]; rfl
        have HLF := Lib.hid (fun h0 => hRs.log_form h0)
        have HTI := Lib.hid hRs.told_ints
        have htm := hRs.told_max
        have hmx := hRs.log_max
        unfold maxLen at hmx htm
        clear hBl hRs
        by_cases he : (evalR (fns L) xs z.bud z.dep 3000).e = 0
        · have hb := evalR_bound (by decide) he
          obtain ⟨hlim, _, _, _, hlog, -⟩ := evalR_ok he
          have hnn : Nng (evalR (fns L) xs z.bud z.dep 3000).log := hlog ▸ runF_nng (fns L) z.bud z.dep 3000 _ _
          have hall : sumS (evalR (fns L) xs z.bud z.dep 3000).log ≤ 3000 := by
            have h1 := hb.all
            have h2 := hb.nonneg
            rw [← hlog] at h1
            omega
          have he0 := he
          clear hb hlog
          generalize hRE : evalR (fns L) xs z.bud z.dep 3000 = RE at r0 r1 r2 r3 HLF HTI htm hmx he hnn hall ⊢
          have HMO : Hid (∀ m : Nat, evalR (fns L) xs z.bud z.dep (sumS RE.log + m) = RE) := Lib.hid (fun m => by rw [← hRE]; exact evalR_enough (by decide) he0 m)
          have HSH : Hid (evalR (fns L) xs z.bud z.dep (sumS RE.log - 1) = ⟨0, 0, [], [], 3⟩) := Lib.hid (by rw [← hRE]; exact evalR_short (by decide) he0)
          have HNN := Lib.hid hnn
          clear hRE he0 hnn
          rw [he]
          go_wp2_with fail
          go_loopw [8, 9] (fun nv iv wx => ∃ k : Nat, k ≤ RE.log.length ∧ iv = .int .i64 k ∧ nv = .int .i64 (sumS (RE.log.take k)) ∧ wx = wc) (fun _ iv _ => RE.log.length - (intOf iv).toNat)
          case atStart => exact ⟨0, by omega, rfl, rfl, rfl⟩
          case round =>
            obtain ⟨k, hk, rfl, rfl, rfl⟩ := hrel
            by_cases hkl : k < RE.log.length
            · obtain ⟨⟨p, s⟩, hps⟩ : ∃ x, RE.log[k]? = some x := ⟨_, List.getElem?_eq_getElem hkl⟩
              have hki : (k : Int) < (RE.log.length : Int) := by omega
              obtain ⟨lg, lc', hq, llt, lcell⟩ := HLF.out (by omega)
              cases hq
              obtain ⟨A, ac, l0, l1, -⟩ := lcell k p s hps
              have hs1 := sumS_take HNN.out k
              have hs2 := sumS_take HNN.out (k + 1)
              have HST := Lib.hid (sumS_step hps)
              obtain ⟨T, hTT⟩ : ∃ T, T = sumS (RE.log.take k) := ⟨_, rfl⟩
              rw [← hTT] at hs1 HST ⊢
              rw [HST.out] at hs2
              have hw : wrap64 (T + s) = T + s := by unfold wrap64; omega
              clear lcell hTT hps
              go_wp2_with fail
              exact ⟨⟨k + 1, by omega, by go_num, by rw [HST.out], by first | exact rfl | trivial⟩, by simp [intOf]; omega⟩
            · obtain rfl : k = RE.log.length := by omega
              rw [List.take_length]
              have hs1 := sumS_nng HNN.out
              obtain ⟨T, hTT⟩ : ∃ T, T = sumS RE.log := ⟨_, rfl⟩
              rw [← hTT] at HMO HSH hall hs1 ⊢
              clear hTT
              have HOF := Lib.hid (HOF0.out.on HFW.out)
              have HEV := Lib.hid (HEV0.out.on HFW.out)
              have hw4 : IntKind.i64.wrap (T + (mr : Int)) = T + (mr : Int) := i64_small (T + (mr : Int)) (by omega) (by omega)
              have hw5 : IntKind.i64.wrap (mr : Int) = (mr : Int) := i64_small (mr : Int) (by omega) (by omega)
              have hw6 : IntKind.i64.wrap (T - 1) = T - 1 := i64_small (T - 1) (by omega) (by omega)
              go_upto_region 12 with (fail)
              go_cut [10, 11] (fun rv ev wx => ∃ g tA tc lA lc base, rv = .pointer (some ⟨g, 0, none⟩) ∧ ev = .int .i64 (evalR (fns L) xs z.bud z.dep (T + mr)).e ∧ Blk wx g 30 #[.int .i64 (evalR (fns L) xs z.bud z.dep (T + mr)).v, .int .i64 (evalR (fns L) xs z.bud z.dep (T + mr)).f, .slice tA (evalR (fns L) xs z.bud z.dep (T + mr)).told.length tc, .slice lA (evalR (fns L) xs z.bud z.dep (T + mr)).log.length lc] ∧ ResAt wx base (.slice tA (evalR (fns L) xs z.bud z.dep (T + mr)).told.length tc) (.slice lA (evalR (fns L) xs z.bud z.dep (T + mr)).log.length lc) (evalR (fns L) xs z.bud z.dep (T + mr)).told (evalR (fns L) xs z.bud z.dep (T + mr)).log ∧ Fr None' wr wx ∧ (fun w' : World => w'.cell? ⟨w.heap.size, 0, none⟩ = some (.slice z.PA z.n z.c) ∧ w'.cell? ⟨w.heap.size, 1, none⟩ = some (.slice z.AA z.m z.d) ∧ w'.cell? ⟨w.heap.size + 1, 0, none⟩ = some (.int .i64 z.bud) ∧ w'.cell? ⟨w.heap.size + 1, 1, none⟩ = some (.int .i64 z.dep)) wx)
              case first =>
                have q0 : w.heap.size < wr.heap.size := cell_lt hz0
                have q1 : w.heap.size < wr.heap.size := cell_lt hz1
                have q2 : w.heap.size + 1 < wr.heap.size := cell_lt hz2
                have q3 : w.heap.size + 1 < wr.heap.size := cell_lt hz3
                refine region_K 17 (fun w' : World => w'.cell? ⟨w.heap.size, 0, none⟩ = some (.slice z.PA z.n z.c) ∧ w'.cell? ⟨w.heap.size, 1, none⟩ = some (.slice z.AA z.m z.d) ∧ w'.cell? ⟨w.heap.size + 1, 0, none⟩ = some (.int .i64 z.bud) ∧ w'.cell? ⟨w.heap.size + 1, 1, none⟩ = some (.int .i64 z.dep)) (by kernel_rfl) ?_
                have HS : (fun w' : World => w'.cell? ⟨w.heap.size, 0, none⟩ = some (.slice z.PA z.n z.c) ∧ w'.cell? ⟨w.heap.size, 1, none⟩ = some (.slice z.AA z.m z.d) ∧ w'.cell? ⟨w.heap.size + 1, 0, none⟩ = some (.int .i64 z.bud) ∧ w'.cell? ⟨w.heap.size + 1, 1, none⟩ = some (.int .i64 z.dep)) (wr).drew := ⟨hz0, hz1, hz2, hz3⟩
                refine AnyK.take (i := 0) rfl (by decide) (by kernel_rfl) (by kernel_rfl) (by kernel_rfl) (fun _ _ _ _ h => h) HS (fun K hK => ?_)
                go_simp
                refine hK.out _ ⟨_, by rfl, Or.inl ⟨by rfl, by intro w hSw; (try dsimp only at hSw); go_simp⟩, ?_⟩
                clear hK K
                refine AnyK.take (i := 1) rfl (by decide) (by kernel_rfl) (by kernel_rfl) (by kernel_rfl) (fun _ _ _ _ h => h) HS (fun K hK => ?_)
                go_simp
                refine hK.out _ ⟨_, by rfl, Or.inl ⟨by rfl, by intro w hSw; (try dsimp only at hSw); go_simp⟩, ?_⟩
                clear hK K
                refine AnyK.take (i := 3) rfl (by decide) (by kernel_rfl) (by kernel_rfl) (by kernel_rfl) (fun _ _ _ _ h => h) HS (fun K hK => ?_)
                go_simp
                refine hK.out _ ⟨_, by rfl, Or.inl ⟨by rfl, by intro w hSw; (try dsimp only at hSw); go_simp⟩, ?_⟩
                clear hK K
                refine AnyK.take (i := 4) rfl (by decide) (by kernel_rfl) (by kernel_rfl) (by kernel_rfl) (fun _ _ _ _ h => h) HS (fun K hK => ?_)
                go_simp
                refine hK.out _ ⟨_, by rfl, Or.inl ⟨by rfl, by intro w hSw; (try dsimp only at hSw); go_simp⟩, ?_⟩
                clear hK K
                refine AnyK.take (i := 5) rfl (by decide) (by kernel_rfl) (by kernel_rfl) (by kernel_rfl) (fun _ _ _ _ h => h) HS (fun K hK => ?_)
                go_simp
                refine hK.out _ ⟨_, by rfl, Or.inl ⟨by rfl, by intro w hSw; (try dsimp only at hSw); go_simp⟩, ?_⟩
                clear hK K
                refine AnyK.take (i := 6) rfl (by decide) (by kernel_rfl) (by kernel_rfl) (by kernel_rfl) (fun _ _ _ _ h => h) HS (fun K hK => ?_)
                go_simp
                refine hK.out _ ⟨_, by rfl, Or.inl ⟨by rfl, by intro w hSw; (try dsimp only at hSw); go_simp⟩, ?_⟩
                clear hK K
                refine AnyK.take (i := 7) rfl (by decide) (by kernel_rfl) (by kernel_rfl) (by kernel_rfl) (fun _ _ _ _ h => h) HS (fun K hK => ?_)
                go_simp
                refine hK.out _ ⟨_, by rfl, Or.inl ⟨by rfl, by intro w hSw; (try dsimp only at hSw); go_simp⟩, ?_⟩
                clear hK K
                refine AnyK.take (i := 8) rfl (by decide) (by kernel_rfl) (by kernel_rfl) (by kernel_rfl) (fun _ _ _ _ h => h) HS (fun K hK => ?_)
                go_simp
                refine hK.out _ ⟨_, by rfl, Or.inl ⟨by rfl, by intro w hSw; (try dsimp only at hSw); go_simp⟩, ?_⟩
                clear hK K
                refine AnyK.take (i := 9) rfl (by decide) (by kernel_rfl) (by kernel_rfl) (by kernel_rfl) (fun _ _ _ _ h => h) HS (fun K hK => ?_)
                go_simp
                refine hK.out _ ⟨_, by rfl, Or.inl ⟨by rfl, by intro w hSw; (try dsimp only at hSw); go_simp⟩, ?_⟩
                clear hK K
                refine AnyK.two (i := 2) (j := 14) rfl rfl (by kernel_rfl) (fun K hK => ?_) (fun K hK => ?_)
                · go_simp
                  refine (HOF.out _ ((Fr.refl None' wr).drew)).mono ?_
                  rintro e w1 ⟨A, c, rfl, hL, hF_w1⟩
                  have HL := Lib.hid hL
                  have F_w1 := Lib.hid (Fr.trans ((Fr.refl None' wr).drew) hF_w1)
                  have HS : (fun w' : World => w'.cell? ⟨w.heap.size, 0, none⟩ = some (.slice z.PA z.n z.c) ∧ w'.cell? ⟨w.heap.size, 1, none⟩ = some (.slice z.AA z.m z.d) ∧ w'.cell? ⟨w.heap.size + 1, 0, none⟩ = some (.int .i64 z.bud) ∧ w'.cell? ⟨w.heap.size + 1, 1, none⟩ = some (.int .i64 z.dep)) w1 := ⟨hF_w1.held HS.1 (fun h => h), hF_w1.held HS.2.1 (fun h => h), hF_w1.held HS.2.2.1 (fun h => h), hF_w1.held HS.2.2.2 (fun h => h)⟩
                  refine hK.out _ _ (fun _ => HS) ?_
                  clear hK K hL
                  refine AnyK.two (i := 10) (j := 14) rfl rfl (by kernel_rfl) (fun K hK => ?_) (fun K hK => ?_)
                  · go_simp
                    refine (HEV.out _ A c _ F_w1.out (by omega) HL.out).mono ?_
                    rintro e w2 ⟨tA, tc, lA, lc, rfl, hres, hF_w2⟩
                    have HR := Lib.hid hres
                    have F_w2 := Lib.hid (Fr.trans F_w1.out hF_w2)
                    have HS : (fun w' : World => w'.cell? ⟨w.heap.size, 0, none⟩ = some (.slice z.PA z.n z.c) ∧ w'.cell? ⟨w.heap.size, 1, none⟩ = some (.slice z.AA z.m z.d) ∧ w'.cell? ⟨w.heap.size + 1, 0, none⟩ = some (.int .i64 z.bud) ∧ w'.cell? ⟨w.heap.size + 1, 1, none⟩ = some (.int .i64 z.dep)) w2 := ⟨hF_w2.held HS.1 (fun h => h), hF_w2.held HS.2.1 (fun h => h), hF_w2.held HS.2.2.1 (fun h => h), hF_w2.held HS.2.2.2 (fun h => h)⟩
                    refine hK.out _ _ (fun _ => HS) ?_
                    clear hK K hres
                    refine AnyK.take (i := 11) rfl (by decide) (by kernel_rfl) (by kernel_rfl) (by kernel_rfl) (fun _ _ _ _ h => h) HS (fun K hK => ?_)
                    go_simp
                    refine hK.out _ ⟨_, by rfl, Or.inl ⟨by rfl, by intro w hSw; (try dsimp only at hSw); go_simp⟩, ?_⟩
                    clear hK K
                    refine AnyK.take (i := 12) rfl (by decide) (by kernel_rfl) (by kernel_rfl) (by kernel_rfl) (fun _ _ _ _ h => h) HS (fun K hK => ?_)
                    go_simp
                    refine hK.out _ ⟨_, by rfl, Or.inl ⟨by rfl, by intro w hSw; (try dsimp only at hSw); go_simp⟩, ?_⟩
                    clear hK K
                    refine AnyK.take (i := 13) rfl (by decide) (by kernel_rfl) (by kernel_rfl) (by kernel_rfl) (fun _ _ _ _ h => h) HS (fun K hK => ?_)
                    go_simp
                    refine hK.out _ ⟨_, by rfl, Or.inl ⟨by rfl, by intro w hSw; (try dsimp only at hSw); go_simp⟩, ?_⟩
                    clear hK K
                    refine AnyK.one (i := 14) rfl (by kernel_rfl) (fun K hK => ?_)
                    go_simp
                    have hF_w3 : Fr None' (w2) ((w2).alloc (.cells #[.int .i64 0, .int .i64 0, .slice none 0 0, .slice none 0 0] 30)) := ((Fr.refl _ _).alloc _)
                    have hB_w3 : Blk ((w2).alloc (.cells #[.int .i64 0, .int .i64 0, .slice none 0 0, .slice none 0 0] 30)) (w2).heap.size 30 #[.int .i64 0, .int .i64 0, .slice none 0 0, .slice none 0 0] := Blk.new (w2) _ _
                    have F_w3 := Lib.hid (Fr.trans F_w2.out hF_w3)
                    have HS : (fun w' : World => w'.cell? ⟨w.heap.size, 0, none⟩ = some (.slice z.PA z.n z.c) ∧ w'.cell? ⟨w.heap.size, 1, none⟩ = some (.slice z.AA z.m z.d) ∧ w'.cell? ⟨w.heap.size + 1, 0, none⟩ = some (.int .i64 z.bud) ∧ w'.cell? ⟨w.heap.size + 1, 1, none⟩ = some (.int .i64 z.dep)) ((w2).alloc (.cells #[.int .i64 0, .int .i64 0, .slice none 0 0, .slice none 0 0] 30)) := ⟨hF_w3.held HS.1 (fun h => h), hF_w3.held HS.2.1 (fun h => h), hF_w3.held HS.2.2.1 (fun h => h), hF_w3.held HS.2.2.2 (fun h => h)⟩
                    refine hK.out _ _ (fun _ => HS) ?_
                    clear hK K
                    generalize ((w2).alloc (.cells #[.int .i64 0, .int .i64 0, .slice none 0 0, .slice none 0 0] 30)) = w3 at *
                    refine AnyK.one (i := 15) rfl (by kernel_rfl) (fun K hK => ?_)
                    have hB := hB_w3
                    have b0 : w3.cell? ⟨w2.heap.size, 0, none⟩ = some (.int .i64 0) := by rw [hB.cell]; rfl
                    have b1 : w3.cell? ⟨w2.heap.size, 1, none⟩ = some (.int .i64 0) := by rw [hB.cell]; rfl
                    have b2 : w3.cell? ⟨w2.heap.size, 2, none⟩ = some (.slice none 0 0) := by rw [hB.cell]; rfl
                    have b3 : w3.cell? ⟨w2.heap.size, 3, none⟩ = some (.slice none 0 0) := by rw [hB.cell]; rfl
                    have y0 := hB.frozen 0
                    have y1 := hB.frozen 1
                    have y2 := hB.frozen 2
                    have y3 := hB.frozen 3
                    go_simp
                    have hFs : Fr (fun k => k = w2.heap.size) w3 ((((w3.setCell ⟨w2.heap.size, 0, none⟩ (.int .i64 (evalR (fns L) xs z.bud z.dep (T + mr)).v)).setCell ⟨w2.heap.size, 1, none⟩ (.int .i64 (evalR (fns L) xs z.bud z.dep (T + mr)).f)).setCell ⟨w2.heap.size, 2, none⟩ (.slice tA (evalR (fns L) xs z.bud z.dep (T + mr)).told.length tc)).setCell ⟨w2.heap.size, 3, none⟩ (.slice lA (evalR (fns L) xs z.bud z.dep (T + mr)).log.length lc)) := ((((Fr.refl (fun k => k = w2.heap.size) w3).setCell (p := ⟨w2.heap.size, 0, none⟩) (.inl rfl) _).setCell (p := ⟨w2.heap.size, 1, none⟩) (.inl rfl) _).setCell (p := ⟨w2.heap.size, 2, none⟩) (.inl rfl) _).setCell (p := ⟨w2.heap.size, 3, none⟩) (.inl rfl) _
                    have hBs : Blk ((((w3.setCell ⟨w2.heap.size, 0, none⟩ (.int .i64 (evalR (fns L) xs z.bud z.dep (T + mr)).v)).setCell ⟨w2.heap.size, 1, none⟩ (.int .i64 (evalR (fns L) xs z.bud z.dep (T + mr)).f)).setCell ⟨w2.heap.size, 2, none⟩ (.slice tA (evalR (fns L) xs z.bud z.dep (T + mr)).told.length tc)).setCell ⟨w2.heap.size, 3, none⟩ (.slice lA (evalR (fns L) xs z.bud z.dep (T + mr)).log.length lc)) (w2.heap.size) 30 #[.int .i64 (evalR (fns L) xs z.bud z.dep (T + mr)).v, .int .i64 (evalR (fns L) xs z.bud z.dep (T + mr)).f, .slice tA (evalR (fns L) xs z.bud z.dep (T + mr)).told.length tc, .slice lA (evalR (fns L) xs z.bud z.dep (T + mr)).log.length lc] := (((hB.set_ 0 _).set_ 1 _).set_ 2 _).set_ 3 _
                    have hRs := ResAt.at_ (HR.out.fr hF_w3) hB hFs
                    have hge : wr.heap.size ≤ w2.heap.size := F_w2.out.size
                    have HS : (fun w' : World => w'.cell? ⟨w.heap.size, 0, none⟩ = some (.slice z.PA z.n z.c) ∧ w'.cell? ⟨w.heap.size, 1, none⟩ = some (.slice z.AA z.m z.d) ∧ w'.cell? ⟨w.heap.size + 1, 0, none⟩ = some (.int .i64 z.bud) ∧ w'.cell? ⟨w.heap.size + 1, 1, none⟩ = some (.int .i64 z.dep)) ((((w3.setCell ⟨w2.heap.size, 0, none⟩ (.int .i64 (evalR (fns L) xs z.bud z.dep (T + mr)).v)).setCell ⟨w2.heap.size, 1, none⟩ (.int .i64 (evalR (fns L) xs z.bud z.dep (T + mr)).f)).setCell ⟨w2.heap.size, 2, none⟩ (.slice tA (evalR (fns L) xs z.bud z.dep (T + mr)).told.length tc)).setCell ⟨w2.heap.size, 3, none⟩ (.slice lA (evalR (fns L) xs z.bud z.dep (T + mr)).log.length lc)) := ⟨hFs.held HS.1 (by show ¬ w.heap.size = _; omega), hFs.held HS.2.1 (by show ¬ w.heap.size = _; omega), hFs.held HS.2.2.1 (by show ¬ w.heap.size + 1 = _; omega), hFs.held HS.2.2.2 (by show ¬ w.heap.size + 1 = _; omega)⟩
                    refine hK.out _ _ (fun _ => HS) ?_
                    clear hK K
                    have hFw : Fr None' wr ((((w3.setCell ⟨w2.heap.size, 0, none⟩ (.int .i64 (evalR (fns L) xs z.bud z.dep (T + mr)).v)).setCell ⟨w2.heap.size, 1, none⟩ (.int .i64 (evalR (fns L) xs z.bud z.dep (T + mr)).f)).setCell ⟨w2.heap.size, 2, none⟩ (.slice tA (evalR (fns L) xs z.bud z.dep (T + mr)).told.length tc)).setCell ⟨w2.heap.size, 3, none⟩ (.slice lA (evalR (fns L) xs z.bud z.dep (T + mr)).log.length lc)) := Fr.then F_w3.out hFs (fun i hi => .inr (by omega))
                    refine AnyK.one (i := 16) rfl (by kernel_rfl) (fun K hK => ?_)
                    go_simp
                    refine hK.out _ _ (fun _ => HS) ?_
                    clear hK K
                    refine AnyK.done (by kernel_rfl) ?_ _
                    go_wp2_with fail
                    go_meet
                    exact ⟨_, tA, tc, lA, lc, _, rfl, rfl, hBs, hRs, hFw, HS⟩
                  · go_simp
                    have hF_w3 : Fr None' (w1) ((w1).alloc (.cells #[.int .i64 0, .int .i64 0, .slice none 0 0, .slice none 0 0] 30)) := ((Fr.refl _ _).alloc _)
                    have hB_w3 : Blk ((w1).alloc (.cells #[.int .i64 0, .int .i64 0, .slice none 0 0, .slice none 0 0] 30)) (w1).heap.size 30 #[.int .i64 0, .int .i64 0, .slice none 0 0, .slice none 0 0] := Blk.new (w1) _ _
                    have F_w3 := Lib.hid (Fr.trans F_w1.out hF_w3)
                    have HS : (fun w' : World => w'.cell? ⟨w.heap.size, 0, none⟩ = some (.slice z.PA z.n z.c) ∧ w'.cell? ⟨w.heap.size, 1, none⟩ = some (.slice z.AA z.m z.d) ∧ w'.cell? ⟨w.heap.size + 1, 0, none⟩ = some (.int .i64 z.bud) ∧ w'.cell? ⟨w.heap.size + 1, 1, none⟩ = some (.int .i64 z.dep)) ((w1).alloc (.cells #[.int .i64 0, .int .i64 0, .slice none 0 0, .slice none 0 0] 30)) := ⟨hF_w3.held HS.1 (fun h => h), hF_w3.held HS.2.1 (fun h => h), hF_w3.held HS.2.2.1 (fun h => h), hF_w3.held HS.2.2.2 (fun h => h)⟩
                    refine hK.out _ _ (fun _ => HS) ?_
                    clear hK K
                    generalize ((w1).alloc (.cells #[.int .i64 0, .int .i64 0, .slice none 0 0, .slice none 0 0] 30)) = w3 at *
                    refine AnyK.one (i := 10) rfl (by kernel_rfl) (fun K hK => ?_)
                    go_simp
                    refine (HEV.out _ A c _ F_w3.out (by omega) (rows_fr HL.out hF_w3)).mono ?_
                    rintro e w2 ⟨tA, tc, lA, lc, rfl, hres, hF_w2⟩
                    have HR := Lib.hid hres
                    have F_w2 := Lib.hid (Fr.trans F_w3.out hF_w2)
                    have HS : (fun w' : World => w'.cell? ⟨w.heap.size, 0, none⟩ = some (.slice z.PA z.n z.c) ∧ w'.cell? ⟨w.heap.size, 1, none⟩ = some (.slice z.AA z.m z.d) ∧ w'.cell? ⟨w.heap.size + 1, 0, none⟩ = some (.int .i64 z.bud) ∧ w'.cell? ⟨w.heap.size + 1, 1, none⟩ = some (.int .i64 z.dep)) w2 := ⟨hF_w2.held HS.1 (fun h => h), hF_w2.held HS.2.1 (fun h => h), hF_w2.held HS.2.2.1 (fun h => h), hF_w2.held HS.2.2.2 (fun h => h)⟩
                    refine hK.out _ _ (fun _ => HS) ?_
                    clear hK K hres
                    refine AnyK.take (i := 11) rfl (by decide) (by kernel_rfl) (by kernel_rfl) (by kernel_rfl) (fun _ _ _ _ h => h) HS (fun K hK => ?_)
                    go_simp
                    refine hK.out _ ⟨_, by rfl, Or.inl ⟨by rfl, by intro w hSw; (try dsimp only at hSw); go_simp⟩, ?_⟩
                    clear hK K
                    refine AnyK.take (i := 12) rfl (by decide) (by kernel_rfl) (by kernel_rfl) (by kernel_rfl) (fun _ _ _ _ h => h) HS (fun K hK => ?_)
                    go_simp
                    refine hK.out _ ⟨_, by rfl, Or.inl ⟨by rfl, by intro w hSw; (try dsimp only at hSw); go_simp⟩, ?_⟩
                    clear hK K
                    refine AnyK.take (i := 13) rfl (by decide) (by kernel_rfl) (by kernel_rfl) (by kernel_rfl) (fun _ _ _ _ h => h) HS (fun K hK => ?_)
                    go_simp
                    refine hK.out _ ⟨_, by rfl, Or.inl ⟨by rfl, by intro w hSw; (try dsimp only at hSw); go_simp⟩, ?_⟩
                    clear hK K
                    refine AnyK.one (i := 15) rfl (by kernel_rfl) (fun K hK => ?_)
                    have hB := hB_w3.fr hF_w2 (fun h => h)
                    have b0 : w2.cell? ⟨w1.heap.size, 0, none⟩ = some (.int .i64 0) := by rw [hB.cell]; rfl
                    have b1 : w2.cell? ⟨w1.heap.size, 1, none⟩ = some (.int .i64 0) := by rw [hB.cell]; rfl
                    have b2 : w2.cell? ⟨w1.heap.size, 2, none⟩ = some (.slice none 0 0) := by rw [hB.cell]; rfl
                    have b3 : w2.cell? ⟨w1.heap.size, 3, none⟩ = some (.slice none 0 0) := by rw [hB.cell]; rfl
                    have y0 := hB.frozen 0
                    have y1 := hB.frozen 1
                    have y2 := hB.frozen 2
                    have y3 := hB.frozen 3
                    go_simp
                    have hFs : Fr (fun k => k = w1.heap.size) w2 ((((w2.setCell ⟨w1.heap.size, 0, none⟩ (.int .i64 (evalR (fns L) xs z.bud z.dep (T + mr)).v)).setCell ⟨w1.heap.size, 1, none⟩ (.int .i64 (evalR (fns L) xs z.bud z.dep (T + mr)).f)).setCell ⟨w1.heap.size, 2, none⟩ (.slice tA (evalR (fns L) xs z.bud z.dep (T + mr)).told.length tc)).setCell ⟨w1.heap.size, 3, none⟩ (.slice lA (evalR (fns L) xs z.bud z.dep (T + mr)).log.length lc)) := ((((Fr.refl (fun k => k = w1.heap.size) w2).setCell (p := ⟨w1.heap.size, 0, none⟩) (.inl rfl) _).setCell (p := ⟨w1.heap.size, 1, none⟩) (.inl rfl) _).setCell (p := ⟨w1.heap.size, 2, none⟩) (.inl rfl) _).setCell (p := ⟨w1.heap.size, 3, none⟩) (.inl rfl) _
                    have hBs : Blk ((((w2.setCell ⟨w1.heap.size, 0, none⟩ (.int .i64 (evalR (fns L) xs z.bud z.dep (T + mr)).v)).setCell ⟨w1.heap.size, 1, none⟩ (.int .i64 (evalR (fns L) xs z.bud z.dep (T + mr)).f)).setCell ⟨w1.heap.size, 2, none⟩ (.slice tA (evalR (fns L) xs z.bud z.dep (T + mr)).told.length tc)).setCell ⟨w1.heap.size, 3, none⟩ (.slice lA (evalR (fns L) xs z.bud z.dep (T + mr)).log.length lc)) (w1.heap.size) 30 #[.int .i64 (evalR (fns L) xs z.bud z.dep (T + mr)).v, .int .i64 (evalR (fns L) xs z.bud z.dep (T + mr)).f, .slice tA (evalR (fns L) xs z.bud z.dep (T + mr)).told.length tc, .slice lA (evalR (fns L) xs z.bud z.dep (T + mr)).log.length lc] := (((hB.set_ 0 _).set_ 1 _).set_ 2 _).set_ 3 _
                    have hRs := ResAt.at_ HR.out hB hFs
                    have hge : wr.heap.size ≤ w1.heap.size := F_w1.out.size
                    have HS : (fun w' : World => w'.cell? ⟨w.heap.size, 0, none⟩ = some (.slice z.PA z.n z.c) ∧ w'.cell? ⟨w.heap.size, 1, none⟩ = some (.slice z.AA z.m z.d) ∧ w'.cell? ⟨w.heap.size + 1, 0, none⟩ = some (.int .i64 z.bud) ∧ w'.cell? ⟨w.heap.size + 1, 1, none⟩ = some (.int .i64 z.dep)) ((((w2.setCell ⟨w1.heap.size, 0, none⟩ (.int .i64 (evalR (fns L) xs z.bud z.dep (T + mr)).v)).setCell ⟨w1.heap.size, 1, none⟩ (.int .i64 (evalR (fns L) xs z.bud z.dep (T + mr)).f)).setCell ⟨w1.heap.size, 2, none⟩ (.slice tA (evalR (fns L) xs z.bud z.dep (T + mr)).told.length tc)).setCell ⟨w1.heap.size, 3, none⟩ (.slice lA (evalR (fns L) xs z.bud z.dep (T + mr)).log.length lc)) := ⟨hFs.held HS.1 (by show ¬ w.heap.size = _; omega), hFs.held HS.2.1 (by show ¬ w.heap.size = _; omega), hFs.held HS.2.2.1 (by show ¬ w.heap.size + 1 = _; omega), hFs.held HS.2.2.2 (by show ¬ w.heap.size + 1 = _; omega)⟩
                    refine hK.out _ _ (fun _ => HS) ?_
                    clear hK K
                    have hFw : Fr None' wr ((((w2.setCell ⟨w1.heap.size, 0, none⟩ (.int .i64 (evalR (fns L) xs z.bud z.dep (T + mr)).v)).setCell ⟨w1.heap.size, 1, none⟩ (.int .i64 (evalR (fns L) xs z.bud z.dep (T + mr)).f)).setCell ⟨w1.heap.size, 2, none⟩ (.slice tA (evalR (fns L) xs z.bud z.dep (T + mr)).told.length tc)).setCell ⟨w1.heap.size, 3, none⟩ (.slice lA (evalR (fns L) xs z.bud z.dep (T + mr)).log.length lc)) := Fr.then F_w2.out hFs (fun i hi => .inr (by omega))
                    refine AnyK.one (i := 16) rfl (by kernel_rfl) (fun K hK => ?_)
                    go_simp
                    refine hK.out _ _ (fun _ => HS) ?_
                    clear hK K
                    refine AnyK.done (by kernel_rfl) ?_ _
                    go_wp2_with fail
                    go_meet
                    exact ⟨_, tA, tc, lA, lc, _, rfl, rfl, hBs, hRs, hFw, HS⟩
                · go_simp
                  have hF_w3 : Fr None' (wr) ((wr).alloc (.cells #[.int .i64 0, .int .i64 0, .slice none 0 0, .slice none 0 0] 30)).drew := ((Fr.refl _ _).alloc _).drew
                  have hB_w3 : Blk ((wr).alloc (.cells #[.int .i64 0, .int .i64 0, .slice none 0 0, .slice none 0 0] 30)).drew (wr).heap.size 30 #[.int .i64 0, .int .i64 0, .slice none 0 0, .slice none 0 0] := Blk.new (wr) _ _
                  have F_w3 := Lib.hid (Fr.trans (Fr.refl None' wr) hF_w3)
                  have HS : (fun w' : World => w'.cell? ⟨w.heap.size, 0, none⟩ = some (.slice z.PA z.n z.c) ∧ w'.cell? ⟨w.heap.size, 1, none⟩ = some (.slice z.AA z.m z.d) ∧ w'.cell? ⟨w.heap.size + 1, 0, none⟩ = some (.int .i64 z.bud) ∧ w'.cell? ⟨w.heap.size + 1, 1, none⟩ = some (.int .i64 z.dep)) ((wr).alloc (.cells #[.int .i64 0, .int .i64 0, .slice none 0 0, .slice none 0 0] 30)).drew := ⟨hF_w3.held HS.1 (fun h => h), hF_w3.held HS.2.1 (fun h => h), hF_w3.held HS.2.2.1 (fun h => h), hF_w3.held HS.2.2.2 (fun h => h)⟩
                  refine hK.out _ _ (fun _ => HS) ?_
                  clear hK K
                  generalize ((wr).alloc (.cells #[.int .i64 0, .int .i64 0, .slice none 0 0, .slice none 0 0] 30)).drew = w3 at *
                  refine AnyK.one (i := 2) rfl (by kernel_rfl) (fun K hK => ?_)
                  go_simp
                  refine (HOF.out _ F_w3.out).mono ?_
                  rintro e w1 ⟨A, c, rfl, hL, hF_w1⟩
                  have HL := Lib.hid hL
                  have F_w1 := Lib.hid (Fr.trans F_w3.out hF_w1)
                  have HS : (fun w' : World => w'.cell? ⟨w.heap.size, 0, none⟩ = some (.slice z.PA z.n z.c) ∧ w'.cell? ⟨w.heap.size, 1, none⟩ = some (.slice z.AA z.m z.d) ∧ w'.cell? ⟨w.heap.size + 1, 0, none⟩ = some (.int .i64 z.bud) ∧ w'.cell? ⟨w.heap.size + 1, 1, none⟩ = some (.int .i64 z.dep)) w1 := ⟨hF_w1.held HS.1 (fun h => h), hF_w1.held HS.2.1 (fun h => h), hF_w1.held HS.2.2.1 (fun h => h), hF_w1.held HS.2.2.2 (fun h => h)⟩
                  refine hK.out _ _ (fun _ => HS) ?_
                  clear hK K hL
                  refine AnyK.one (i := 10) rfl (by kernel_rfl) (fun K hK => ?_)
                  go_simp
                  refine (HEV.out _ A c _ F_w1.out (by omega) HL.out).mono ?_
                  rintro e w2 ⟨tA, tc, lA, lc, rfl, hres, hF_w2⟩
                  have HR := Lib.hid hres
                  have F_w2 := Lib.hid (Fr.trans F_w1.out hF_w2)
                  have HS : (fun w' : World => w'.cell? ⟨w.heap.size, 0, none⟩ = some (.slice z.PA z.n z.c) ∧ w'.cell? ⟨w.heap.size, 1, none⟩ = some (.slice z.AA z.m z.d) ∧ w'.cell? ⟨w.heap.size + 1, 0, none⟩ = some (.int .i64 z.bud) ∧ w'.cell? ⟨w.heap.size + 1, 1, none⟩ = some (.int .i64 z.dep)) w2 := ⟨hF_w2.held HS.1 (fun h => h), hF_w2.held HS.2.1 (fun h => h), hF_w2.held HS.2.2.1 (fun h => h), hF_w2.held HS.2.2.2 (fun h => h)⟩
                  refine hK.out _ _ (fun _ => HS) ?_
                  clear hK K hres
                  refine AnyK.take (i := 11) rfl (by decide) (by kernel_rfl) (by kernel_rfl) (by kernel_rfl) (fun _ _ _ _ h => h) HS (fun K hK => ?_)
                  go_simp
                  refine hK.out _ ⟨_, by rfl, Or.inl ⟨by rfl, by intro w hSw; (try dsimp only at hSw); go_simp⟩, ?_⟩
                  clear hK K
                  refine AnyK.take (i := 12) rfl (by decide) (by kernel_rfl) (by kernel_rfl) (by kernel_rfl) (fun _ _ _ _ h => h) HS (fun K hK => ?_)
                  go_simp
                  refine hK.out _ ⟨_, by rfl, Or.inl ⟨by rfl, by intro w hSw; (try dsimp only at hSw); go_simp⟩, ?_⟩
                  clear hK K
                  refine AnyK.take (i := 13) rfl (by decide) (by kernel_rfl) (by kernel_rfl) (by kernel_rfl) (fun _ _ _ _ h => h) HS (fun K hK => ?_)
                  go_simp
                  refine hK.out _ ⟨_, by rfl, Or.inl ⟨by rfl, by intro w hSw; (try dsimp only at hSw); go_simp⟩, ?_⟩
                  clear hK K
                  refine AnyK.one (i := 15) rfl (by kernel_rfl) (fun K hK => ?_)
                  have hB := (hB_w3.fr hF_w1 (fun h => h)).fr hF_w2 (fun h => h)
                  have b0 : w2.cell? ⟨wr.heap.size, 0, none⟩ = some (.int .i64 0) := by rw [hB.cell]; rfl
                  have b1 : w2.cell? ⟨wr.heap.size, 1, none⟩ = some (.int .i64 0) := by rw [hB.cell]; rfl
                  have b2 : w2.cell? ⟨wr.heap.size, 2, none⟩ = some (.slice none 0 0) := by rw [hB.cell]; rfl
                  have b3 : w2.cell? ⟨wr.heap.size, 3, none⟩ = some (.slice none 0 0) := by rw [hB.cell]; rfl
                  have y0 := hB.frozen 0
                  have y1 := hB.frozen 1
                  have y2 := hB.frozen 2
                  have y3 := hB.frozen 3
                  go_simp
                  have hFs : Fr (fun k => k = wr.heap.size) w2 ((((w2.setCell ⟨wr.heap.size, 0, none⟩ (.int .i64 (evalR (fns L) xs z.bud z.dep (T + mr)).v)).setCell ⟨wr.heap.size, 1, none⟩ (.int .i64 (evalR (fns L) xs z.bud z.dep (T + mr)).f)).setCell ⟨wr.heap.size, 2, none⟩ (.slice tA (evalR (fns L) xs z.bud z.dep (T + mr)).told.length tc)).setCell ⟨wr.heap.size, 3, none⟩ (.slice lA (evalR (fns L) xs z.bud z.dep (T + mr)).log.length lc)) := ((((Fr.refl (fun k => k = wr.heap.size) w2).setCell (p := ⟨wr.heap.size, 0, none⟩) (.inl rfl) _).setCell (p := ⟨wr.heap.size, 1, none⟩) (.inl rfl) _).setCell (p := ⟨wr.heap.size, 2, none⟩) (.inl rfl) _).setCell (p := ⟨wr.heap.size, 3, none⟩) (.inl rfl) _
                  have hBs : Blk ((((w2.setCell ⟨wr.heap.size, 0, none⟩ (.int .i64 (evalR (fns L) xs z.bud z.dep (T + mr)).v)).setCell ⟨wr.heap.size, 1, none⟩ (.int .i64 (evalR (fns L) xs z.bud z.dep (T + mr)).f)).setCell ⟨wr.heap.size, 2, none⟩ (.slice tA (evalR (fns L) xs z.bud z.dep (T + mr)).told.length tc)).setCell ⟨wr.heap.size, 3, none⟩ (.slice lA (evalR (fns L) xs z.bud z.dep (T + mr)).log.length lc)) (wr.heap.size) 30 #[.int .i64 (evalR (fns L) xs z.bud z.dep (T + mr)).v, .int .i64 (evalR (fns L) xs z.bud z.dep (T + mr)).f, .slice tA (evalR (fns L) xs z.bud z.dep (T + mr)).told.length tc, .slice lA (evalR (fns L) xs z.bud z.dep (T + mr)).log.length lc] := (((hB.set_ 0 _).set_ 1 _).set_ 2 _).set_ 3 _
                  have hRs := ResAt.at_ HR.out hB hFs
                  have hge : wr.heap.size ≤ wr.heap.size := Nat.le_refl _
                  have HS : (fun w' : World => w'.cell? ⟨w.heap.size, 0, none⟩ = some (.slice z.PA z.n z.c) ∧ w'.cell? ⟨w.heap.size, 1, none⟩ = some (.slice z.AA z.m z.d) ∧ w'.cell? ⟨w.heap.size + 1, 0, none⟩ = some (.int .i64 z.bud) ∧ w'.cell? ⟨w.heap.size + 1, 1, none⟩ = some (.int .i64 z.dep)) ((((w2.setCell ⟨wr.heap.size, 0, none⟩ (.int .i64 (evalR (fns L) xs z.bud z.dep (T + mr)).v)).setCell ⟨wr.heap.size, 1, none⟩ (.int .i64 (evalR (fns L) xs z.bud z.dep (T + mr)).f)).setCell ⟨wr.heap.size, 2, none⟩ (.slice tA (evalR (fns L) xs z.bud z.dep (T + mr)).told.length tc)).setCell ⟨wr.heap.size, 3, none⟩ (.slice lA (evalR (fns L) xs z.bud z.dep (T + mr)).log.length lc)) := ⟨hFs.held HS.1 (by show ¬ w.heap.size = _; omega), hFs.held HS.2.1 (by show ¬ w.heap.size = _; omega), hFs.held HS.2.2.1 (by show ¬ w.heap.size + 1 = _; omega), hFs.held HS.2.2.2 (by show ¬ w.heap.size + 1 = _; omega)⟩
                  refine hK.out _ _ (fun _ => HS) ?_
                  clear hK K
                  have hFw : Fr None' wr ((((w2.setCell ⟨wr.heap.size, 0, none⟩ (.int .i64 (evalR (fns L) xs z.bud z.dep (T + mr)).v)).setCell ⟨wr.heap.size, 1, none⟩ (.int .i64 (evalR (fns L) xs z.bud z.dep (T + mr)).f)).setCell ⟨wr.heap.size, 2, none⟩ (.slice tA (evalR (fns L) xs z.bud z.dep (T + mr)).told.length tc)).setCell ⟨wr.heap.size, 3, none⟩ (.slice lA (evalR (fns L) xs z.bud z.dep (T + mr)).log.length lc)) := Fr.then F_w2.out hFs (fun i hi => .inr (by omega))
                  refine AnyK.one (i := 16) rfl (by kernel_rfl) (fun K hK => ?_)
                  go_simp
                  refine hK.out _ _ (fun _ => HS) ?_
                  clear hK K
                  refine AnyK.done (by kernel_rfl) ?_ _
                  go_wp2_with fail
                  go_meet
                  exact ⟨_, tA, tc, lA, lc, _, rfl, rfl, hBs, hRs, hFw, HS⟩
              case rest =>
                obtain ⟨g2, tA2, tc2, lA2, lc2, base2, rfl, rfl, hBl2, hRs2, hFw2, hy0, hy1, hy2, hy3⟩ := hcut
                rw [HMO.out mr] at hBl2 hRs2 ⊢
                rw [he]
                have HFW2 := Lib.hid (HFW.out.trans hFw2)
                have s0 := hFw2.held r0 (fun h => h)
                have s1 := hFw2.held r1 (fun h => h)
                have s2 := hFw2.held r2 (fun h => h)
                have HTI2 := Lib.hid (ints_fr HTI.out hFw2)
                have HTA := Lib.hid hRs2.told_ints
                have HB2 := Lib.hid hBl2
                clear HOF HEV r0 r1 r2 r3 HTI HLF hz0 hz1 hz2 hz3 hFw2 hBl2 hRs2 HMO
                have HOF := Lib.hid (HOF0.out.on HFW2.out)
                have HEV := Lib.hid (HEV0.out.on HFW2.out)
                clear hw4 hw5
                go_upto_region 13 with (fail)
                go_cut [12, 13] (fun rv ev wx => ∃ g tA tc lA lc base, rv = .pointer (some ⟨g, 0, none⟩) ∧ ev = .int .i64 (evalR (fns L) xs z.bud z.dep (T - 1)).e ∧ Blk wx g 30 #[.int .i64 (evalR (fns L) xs z.bud z.dep (T - 1)).v, .int .i64 (evalR (fns L) xs z.bud z.dep (T - 1)).f, .slice tA (evalR (fns L) xs z.bud z.dep (T - 1)).told.length tc, .slice lA (evalR (fns L) xs z.bud z.dep (T - 1)).log.length lc] ∧ ResAt wx base (.slice tA (evalR (fns L) xs z.bud z.dep (T - 1)).told.length tc) (.slice lA (evalR (fns L) xs z.bud z.dep (T - 1)).log.length lc) (evalR (fns L) xs z.bud z.dep (T - 1)).told (evalR (fns L) xs z.bud z.dep (T - 1)).log ∧ Fr None' wc wx ∧ (fun w' : World => w'.cell? ⟨w.heap.size, 0, none⟩ = some (.slice z.PA z.n z.c) ∧ w'.cell? ⟨w.heap.size, 1, none⟩ = some (.slice z.AA z.m z.d) ∧ w'.cell? ⟨w.heap.size + 1, 0, none⟩ = some (.int .i64 z.bud) ∧ w'.cell? ⟨w.heap.size + 1, 1, none⟩ = some (.int .i64 z.dep)) wx)
                case first =>
                  have q0 : w.heap.size < wc.heap.size := cell_lt hy0
                  have q1 : w.heap.size < wc.heap.size := cell_lt hy1
                  have q2 : w.heap.size + 1 < wc.heap.size := cell_lt hy2
                  have q3 : w.heap.size + 1 < wc.heap.size := cell_lt hy3
                  refine region_K 15 (fun w' : World => w'.cell? ⟨w.heap.size, 0, none⟩ = some (.slice z.PA z.n z.c) ∧ w'.cell? ⟨w.heap.size, 1, none⟩ = some (.slice z.AA z.m z.d) ∧ w'.cell? ⟨w.heap.size + 1, 0, none⟩ = some (.int .i64 z.bud) ∧ w'.cell? ⟨w.heap.size + 1, 1, none⟩ = some (.int .i64 z.dep)) (by kernel_rfl) ?_
                  have HS : (fun w' : World => w'.cell? ⟨w.heap.size, 0, none⟩ = some (.slice z.PA z.n z.c) ∧ w'.cell? ⟨w.heap.size, 1, none⟩ = some (.slice z.AA z.m z.d) ∧ w'.cell? ⟨w.heap.size + 1, 0, none⟩ = some (.int .i64 z.bud) ∧ w'.cell? ⟨w.heap.size + 1, 1, none⟩ = some (.int .i64 z.dep)) (wc).drew := ⟨hy0, hy1, hy2, hy3⟩
                  refine AnyK.take (i := 0) rfl (by decide) (by kernel_rfl) (by kernel_rfl) (by kernel_rfl) (fun _ _ _ _ h => h) HS (fun K hK => ?_)
                  go_simp
                  refine hK.out _ ⟨_, by rfl, Or.inl ⟨by rfl, by intro w hSw; (try dsimp only at hSw); go_simp⟩, ?_⟩
                  clear hK K
                  refine AnyK.take (i := 1) rfl (by decide) (by kernel_rfl) (by kernel_rfl) (by kernel_rfl) (fun _ _ _ _ h => h) HS (fun K hK => ?_)
                  go_simp
                  refine hK.out _ ⟨_, by rfl, Or.inl ⟨by rfl, by intro w hSw; (try dsimp only at hSw); go_simp⟩, ?_⟩
                  clear hK K
                  refine AnyK.take (i := 3) rfl (by decide) (by kernel_rfl) (by kernel_rfl) (by kernel_rfl) (fun _ _ _ _ h => h) HS (fun K hK => ?_)
                  go_simp
                  refine hK.out _ ⟨_, by rfl, Or.inl ⟨by rfl, by intro w hSw; (try dsimp only at hSw); go_simp⟩, ?_⟩
                  clear hK K
                  refine AnyK.take (i := 4) rfl (by decide) (by kernel_rfl) (by kernel_rfl) (by kernel_rfl) (fun _ _ _ _ h => h) HS (fun K hK => ?_)
                  go_simp
                  refine hK.out _ ⟨_, by rfl, Or.inl ⟨by rfl, by intro w hSw; (try dsimp only at hSw); go_simp⟩, ?_⟩
                  clear hK K
                  refine AnyK.take (i := 5) rfl (by decide) (by kernel_rfl) (by kernel_rfl) (by kernel_rfl) (fun _ _ _ _ h => h) HS (fun K hK => ?_)
                  go_simp
                  refine hK.out _ ⟨_, by rfl, Or.inl ⟨by rfl, by intro w hSw; (try dsimp only at hSw); go_simp⟩, ?_⟩
                  clear hK K
                  refine AnyK.take (i := 6) rfl (by decide) (by kernel_rfl) (by kernel_rfl) (by kernel_rfl) (fun _ _ _ _ h => h) HS (fun K hK => ?_)
                  go_simp
                  refine hK.out _ ⟨_, by rfl, Or.inl ⟨by rfl, by intro w hSw; (try dsimp only at hSw); go_simp⟩, ?_⟩
                  clear hK K
                  refine AnyK.take (i := 7) rfl (by decide) (by kernel_rfl) (by kernel_rfl) (by kernel_rfl) (fun _ _ _ _ h => h) HS (fun K hK => ?_)
                  go_simp
                  refine hK.out _ ⟨_, by rfl, Or.inl ⟨by rfl, by intro w hSw; (try dsimp only at hSw); go_simp⟩, ?_⟩
                  clear hK K
                  refine AnyK.two (i := 2) (j := 12) rfl rfl (by kernel_rfl) (fun K hK => ?_) (fun K hK => ?_)
                  · go_simp
                    refine (HOF.out _ ((Fr.refl None' wc).drew)).mono ?_
                    rintro e w1 ⟨A, c, rfl, hL, hF_w1⟩
                    have HL := Lib.hid hL
                    have F_w1 := Lib.hid (Fr.trans ((Fr.refl None' wc).drew) hF_w1)
                    have HS : (fun w' : World => w'.cell? ⟨w.heap.size, 0, none⟩ = some (.slice z.PA z.n z.c) ∧ w'.cell? ⟨w.heap.size, 1, none⟩ = some (.slice z.AA z.m z.d) ∧ w'.cell? ⟨w.heap.size + 1, 0, none⟩ = some (.int .i64 z.bud) ∧ w'.cell? ⟨w.heap.size + 1, 1, none⟩ = some (.int .i64 z.dep)) w1 := ⟨hF_w1.held HS.1 (fun h => h), hF_w1.held HS.2.1 (fun h => h), hF_w1.held HS.2.2.1 (fun h => h), hF_w1.held HS.2.2.2 (fun h => h)⟩
                    refine hK.out _ _ (fun _ => HS) ?_
                    clear hK K hL
                    refine AnyK.two (i := 8) (j := 12) rfl rfl (by kernel_rfl) (fun K hK => ?_) (fun K hK => ?_)
                    · go_simp
                      refine (HEV.out _ A c _ F_w1.out (by omega) HL.out).mono ?_
                      rintro e w2 ⟨tA, tc, lA, lc, rfl, hres, hF_w2⟩
                      have HR := Lib.hid hres
                      have F_w2 := Lib.hid (Fr.trans F_w1.out hF_w2)
                      have HS : (fun w' : World => w'.cell? ⟨w.heap.size, 0, none⟩ = some (.slice z.PA z.n z.c) ∧ w'.cell? ⟨w.heap.size, 1, none⟩ = some (.slice z.AA z.m z.d) ∧ w'.cell? ⟨w.heap.size + 1, 0, none⟩ = some (.int .i64 z.bud) ∧ w'.cell? ⟨w.heap.size + 1, 1, none⟩ = some (.int .i64 z.dep)) w2 := ⟨hF_w2.held HS.1 (fun h => h), hF_w2.held HS.2.1 (fun h => h), hF_w2.held HS.2.2.1 (fun h => h), hF_w2.held HS.2.2.2 (fun h => h)⟩
                      refine hK.out _ _ (fun _ => HS) ?_
                      clear hK K hres
                      refine AnyK.take (i := 9) rfl (by decide) (by kernel_rfl) (by kernel_rfl) (by kernel_rfl) (fun _ _ _ _ h => h) HS (fun K hK => ?_)
                      go_simp
                      refine hK.out _ ⟨_, by rfl, Or.inl ⟨by rfl, by intro w hSw; (try dsimp only at hSw); go_simp⟩, ?_⟩
                      clear hK K
                      refine AnyK.take (i := 10) rfl (by decide) (by kernel_rfl) (by kernel_rfl) (by kernel_rfl) (fun _ _ _ _ h => h) HS (fun K hK => ?_)
                      go_simp
                      refine hK.out _ ⟨_, by rfl, Or.inl ⟨by rfl, by intro w hSw; (try dsimp only at hSw); go_simp⟩, ?_⟩
                      clear hK K
                      refine AnyK.take (i := 11) rfl (by decide) (by kernel_rfl) (by kernel_rfl) (by kernel_rfl) (fun _ _ _ _ h => h) HS (fun K hK => ?_)
                      go_simp
                      refine hK.out _ ⟨_, by rfl, Or.inl ⟨by rfl, by intro w hSw; (try dsimp only at hSw); go_simp⟩, ?_⟩
                      clear hK K
                      refine AnyK.one (i := 12) rfl (by kernel_rfl) (fun K hK => ?_)
                      go_simp
                      have hF_w3 : Fr None' (w2) ((w2).alloc (.cells #[.int .i64 0, .int .i64 0, .slice none 0 0, .slice none 0 0] 30)) := ((Fr.refl _ _).alloc _)
                      have hB_w3 : Blk ((w2).alloc (.cells #[.int .i64 0, .int .i64 0, .slice none 0 0, .slice none 0 0] 30)) (w2).heap.size 30 #[.int .i64 0, .int .i64 0, .slice none 0 0, .slice none 0 0] := Blk.new (w2) _ _
                      have F_w3 := Lib.hid (Fr.trans F_w2.out hF_w3)
                      have HS : (fun w' : World => w'.cell? ⟨w.heap.size, 0, none⟩ = some (.slice z.PA z.n z.c) ∧ w'.cell? ⟨w.heap.size, 1, none⟩ = some (.slice z.AA z.m z.d) ∧ w'.cell? ⟨w.heap.size + 1, 0, none⟩ = some (.int .i64 z.bud) ∧ w'.cell? ⟨w.heap.size + 1, 1, none⟩ = some (.int .i64 z.dep)) ((w2).alloc (.cells #[.int .i64 0, .int .i64 0, .slice none 0 0, .slice none 0 0] 30)) := ⟨hF_w3.held HS.1 (fun h => h), hF_w3.held HS.2.1 (fun h => h), hF_w3.held HS.2.2.1 (fun h => h), hF_w3.held HS.2.2.2 (fun h => h)⟩
                      refine hK.out _ _ (fun _ => HS) ?_
                      clear hK K
                      generalize ((w2).alloc (.cells #[.int .i64 0, .int .i64 0, .slice none 0 0, .slice none 0 0] 30)) = w3 at *
                      refine AnyK.one (i := 13) rfl (by kernel_rfl) (fun K hK => ?_)
                      have hB := hB_w3
                      have b0 : w3.cell? ⟨w2.heap.size, 0, none⟩ = some (.int .i64 0) := by rw [hB.cell]; rfl
                      have b1 : w3.cell? ⟨w2.heap.size, 1, none⟩ = some (.int .i64 0) := by rw [hB.cell]; rfl
                      have b2 : w3.cell? ⟨w2.heap.size, 2, none⟩ = some (.slice none 0 0) := by rw [hB.cell]; rfl
                      have b3 : w3.cell? ⟨w2.heap.size, 3, none⟩ = some (.slice none 0 0) := by rw [hB.cell]; rfl
                      have y0 := hB.frozen 0
                      have y1 := hB.frozen 1
                      have y2 := hB.frozen 2
                      have y3 := hB.frozen 3
                      go_simp
                      have hFs : Fr (fun k => k = w2.heap.size) w3 ((((w3.setCell ⟨w2.heap.size, 0, none⟩ (.int .i64 (evalR (fns L) xs z.bud z.dep (T - 1)).v)).setCell ⟨w2.heap.size, 1, none⟩ (.int .i64 (evalR (fns L) xs z.bud z.dep (T - 1)).f)).setCell ⟨w2.heap.size, 2, none⟩ (.slice tA (evalR (fns L) xs z.bud z.dep (T - 1)).told.length tc)).setCell ⟨w2.heap.size, 3, none⟩ (.slice lA (evalR (fns L) xs z.bud z.dep (T - 1)).log.length lc)) := ((((Fr.refl (fun k => k = w2.heap.size) w3).setCell (p := ⟨w2.heap.size, 0, none⟩) (.inl rfl) _).setCell (p := ⟨w2.heap.size, 1, none⟩) (.inl rfl) _).setCell (p := ⟨w2.heap.size, 2, none⟩) (.inl rfl) _).setCell (p := ⟨w2.heap.size, 3, none⟩) (.inl rfl) _
                      have hBs : Blk ((((w3.setCell ⟨w2.heap.size, 0, none⟩ (.int .i64 (evalR (fns L) xs z.bud z.dep (T - 1)).v)).setCell ⟨w2.heap.size, 1, none⟩ (.int .i64 (evalR (fns L) xs z.bud z.dep (T - 1)).f)).setCell ⟨w2.heap.size, 2, none⟩ (.slice tA (evalR (fns L) xs z.bud z.dep (T - 1)).told.length tc)).setCell ⟨w2.heap.size, 3, none⟩ (.slice lA (evalR (fns L) xs z.bud z.dep (T - 1)).log.length lc)) (w2.heap.size) 30 #[.int .i64 (evalR (fns L) xs z.bud z.dep (T - 1)).v, .int .i64 (evalR (fns L) xs z.bud z.dep (T - 1)).f, .slice tA (evalR (fns L) xs z.bud z.dep (T - 1)).told.length tc, .slice lA (evalR (fns L) xs z.bud z.dep (T - 1)).log.length lc] := (((hB.set_ 0 _).set_ 1 _).set_ 2 _).set_ 3 _
                      have hRs := ResAt.at_ (HR.out.fr hF_w3) hB hFs
                      have hge : wc.heap.size ≤ w2.heap.size := F_w2.out.size
                      have HS : (fun w' : World => w'.cell? ⟨w.heap.size, 0, none⟩ = some (.slice z.PA z.n z.c) ∧ w'.cell? ⟨w.heap.size, 1, none⟩ = some (.slice z.AA z.m z.d) ∧ w'.cell? ⟨w.heap.size + 1, 0, none⟩ = some (.int .i64 z.bud) ∧ w'.cell? ⟨w.heap.size + 1, 1, none⟩ = some (.int .i64 z.dep)) ((((w3.setCell ⟨w2.heap.size, 0, none⟩ (.int .i64 (evalR (fns L) xs z.bud z.dep (T - 1)).v)).setCell ⟨w2.heap.size, 1, none⟩ (.int .i64 (evalR (fns L) xs z.bud z.dep (T - 1)).f)).setCell ⟨w2.heap.size, 2, none⟩ (.slice tA (evalR (fns L) xs z.bud z.dep (T - 1)).told.length tc)).setCell ⟨w2.heap.size, 3, none⟩ (.slice lA (evalR (fns L) xs z.bud z.dep (T - 1)).log.length lc)) := ⟨hFs.held HS.1 (by show ¬ w.heap.size = _; omega), hFs.held HS.2.1 (by show ¬ w.heap.size = _; omega), hFs.held HS.2.2.1 (by show ¬ w.heap.size + 1 = _; omega), hFs.held HS.2.2.2 (by show ¬ w.heap.size + 1 = _; omega)⟩
                      refine hK.out _ _ (fun _ => HS) ?_
                      clear hK K
                      have hFw : Fr None' wc ((((w3.setCell ⟨w2.heap.size, 0, none⟩ (.int .i64 (evalR (fns L) xs z.bud z.dep (T - 1)).v)).setCell ⟨w2.heap.size, 1, none⟩ (.int .i64 (evalR (fns L) xs z.bud z.dep (T - 1)).f)).setCell ⟨w2.heap.size, 2, none⟩ (.slice tA (evalR (fns L) xs z.bud z.dep (T - 1)).told.length tc)).setCell ⟨w2.heap.size, 3, none⟩ (.slice lA (evalR (fns L) xs z.bud z.dep (T - 1)).log.length lc)) := Fr.then F_w3.out hFs (fun i hi => .inr (by omega))
                      refine AnyK.one (i := 14) rfl (by kernel_rfl) (fun K hK => ?_)
                      go_simp
                      refine hK.out _ _ (fun _ => HS) ?_
                      clear hK K
                      refine AnyK.done (by kernel_rfl) ?_ _
                      go_wp2_with fail
                      go_meet
                      exact ⟨_, tA, tc, lA, lc, _, rfl, rfl, hBs, hRs, hFw, HS⟩
                    · go_simp
                      have hF_w3 : Fr None' (w1) ((w1).alloc (.cells #[.int .i64 0, .int .i64 0, .slice none 0 0, .slice none 0 0] 30)) := ((Fr.refl _ _).alloc _)
                      have hB_w3 : Blk ((w1).alloc (.cells #[.int .i64 0, .int .i64 0, .slice none 0 0, .slice none 0 0] 30)) (w1).heap.size 30 #[.int .i64 0, .int .i64 0, .slice none 0 0, .slice none 0 0] := Blk.new (w1) _ _
                      have F_w3 := Lib.hid (Fr.trans F_w1.out hF_w3)
                      have HS : (fun w' : World => w'.cell? ⟨w.heap.size, 0, none⟩ = some (.slice z.PA z.n z.c) ∧ w'.cell? ⟨w.heap.size, 1, none⟩ = some (.slice z.AA z.m z.d) ∧ w'.cell? ⟨w.heap.size + 1, 0, none⟩ = some (.int .i64 z.bud) ∧ w'.cell? ⟨w.heap.size + 1, 1, none⟩ = some (.int .i64 z.dep)) ((w1).alloc (.cells #[.int .i64 0, .int .i64 0, .slice none 0 0, .slice none 0 0] 30)) := ⟨hF_w3.held HS.1 (fun h => h), hF_w3.held HS.2.1 (fun h => h), hF_w3.held HS.2.2.1 (fun h => h), hF_w3.held HS.2.2.2 (fun h => h)⟩
                      refine hK.out _ _ (fun _ => HS) ?_
                      clear hK K
                      generalize ((w1).alloc (.cells #[.int .i64 0, .int .i64 0, .slice none 0 0, .slice none 0 0] 30)) = w3 at *
                      refine AnyK.one (i := 8) rfl (by kernel_rfl) (fun K hK => ?_)
                      go_simp
                      refine (HEV.out _ A c _ F_w3.out (by omega) (rows_fr HL.out hF_w3)).mono ?_
                      rintro e w2 ⟨tA, tc, lA, lc, rfl, hres, hF_w2⟩
                      have HR := Lib.hid hres
                      have F_w2 := Lib.hid (Fr.trans F_w3.out hF_w2)
                      have HS : (fun w' : World => w'.cell? ⟨w.heap.size, 0, none⟩ = some (.slice z.PA z.n z.c) ∧ w'.cell? ⟨w.heap.size, 1, none⟩ = some (.slice z.AA z.m z.d) ∧ w'.cell? ⟨w.heap.size + 1, 0, none⟩ = some (.int .i64 z.bud) ∧ w'.cell? ⟨w.heap.size + 1, 1, none⟩ = some (.int .i64 z.dep)) w2 := ⟨hF_w2.held HS.1 (fun h => h), hF_w2.held HS.2.1 (fun h => h), hF_w2.held HS.2.2.1 (fun h => h), hF_w2.held HS.2.2.2 (fun h => h)⟩
                      refine hK.out _ _ (fun _ => HS) ?_
                      clear hK K hres
                      refine AnyK.take (i := 9) rfl (by decide) (by kernel_rfl) (by kernel_rfl) (by kernel_rfl) (fun _ _ _ _ h => h) HS (fun K hK => ?_)
                      go_simp
                      refine hK.out _ ⟨_, by rfl, Or.inl ⟨by rfl, by intro w hSw; (try dsimp only at hSw); go_simp⟩, ?_⟩
                      clear hK K
                      refine AnyK.take (i := 10) rfl (by decide) (by kernel_rfl) (by kernel_rfl) (by kernel_rfl) (fun _ _ _ _ h => h) HS (fun K hK => ?_)
                      go_simp
                      refine hK.out _ ⟨_, by rfl, Or.inl ⟨by rfl, by intro w hSw; (try dsimp only at hSw); go_simp⟩, ?_⟩
                      clear hK K
                      refine AnyK.take (i := 11) rfl (by decide) (by kernel_rfl) (by kernel_rfl) (by kernel_rfl) (fun _ _ _ _ h => h) HS (fun K hK => ?_)
                      go_simp
                      refine hK.out _ ⟨_, by rfl, Or.inl ⟨by rfl, by intro w hSw; (try dsimp only at hSw); go_simp⟩, ?_⟩
                      clear hK K
                      refine AnyK.one (i := 13) rfl (by kernel_rfl) (fun K hK => ?_)
                      have hB := hB_w3.fr hF_w2 (fun h => h)
                      have b0 : w2.cell? ⟨w1.heap.size, 0, none⟩ = some (.int .i64 0) := by rw [hB.cell]; rfl
                      have b1 : w2.cell? ⟨w1.heap.size, 1, none⟩ = some (.int .i64 0) := by rw [hB.cell]; rfl
                      have b2 : w2.cell? ⟨w1.heap.size, 2, none⟩ = some (.slice none 0 0) := by rw [hB.cell]; rfl
                      have b3 : w2.cell? ⟨w1.heap.size, 3, none⟩ = some (.slice none 0 0) := by rw [hB.cell]; rfl
                      have y0 := hB.frozen 0
                      have y1 := hB.frozen 1
                      have y2 := hB.frozen 2
                      have y3 := hB.frozen 3
                      go_simp
                      have hFs : Fr (fun k => k = w1.heap.size) w2 ((((w2.setCell ⟨w1.heap.size, 0, none⟩ (.int .i64 (evalR (fns L) xs z.bud z.dep (T - 1)).v)).setCell ⟨w1.heap.size, 1, none⟩ (.int .i64 (evalR (fns L) xs z.bud z.dep (T - 1)).f)).setCell ⟨w1.heap.size, 2, none⟩ (.slice tA (evalR (fns L) xs z.bud z.dep (T - 1)).told.length tc)).setCell ⟨w1.heap.size, 3, none⟩ (.slice lA (evalR (fns L) xs z.bud z.dep (T - 1)).log.length lc)) := ((((Fr.refl (fun k => k = w1.heap.size) w2).setCell (p := ⟨w1.heap.size, 0, none⟩) (.inl rfl) _).setCell (p := ⟨w1.heap.size, 1, none⟩) (.inl rfl) _).setCell (p := ⟨w1.heap.size, 2, none⟩) (.inl rfl) _).setCell (p := ⟨w1.heap.size, 3, none⟩) (.inl rfl) _
                      have hBs : Blk ((((w2.setCell ⟨w1.heap.size, 0, none⟩ (.int .i64 (evalR (fns L) xs z.bud z.dep (T - 1)).v)).setCell ⟨w1.heap.size, 1, none⟩ (.int .i64 (evalR (fns L) xs z.bud z.dep (T - 1)).f)).setCell ⟨w1.heap.size, 2, none⟩ (.slice tA (evalR (fns L) xs z.bud z.dep (T - 1)).told.length tc)).setCell ⟨w1.heap.size, 3, none⟩ (.slice lA (evalR (fns L) xs z.bud z.dep (T - 1)).log.length lc)) (w1.heap.size) 30 #[.int .i64 (evalR (fns L) xs z.bud z.dep (T - 1)).v, .int .i64 (evalR (fns L) xs z.bud z.dep (T - 1)).f, .slice tA (evalR (fns L) xs z.bud z.dep (T - 1)).told.length tc, .slice lA (evalR (fns L) xs z.bud z.dep (T - 1)).log.length lc] := (((hB.set_ 0 _).set_ 1 _).set_ 2 _).set_ 3 _
                      have hRs := ResAt.at_ HR.out hB hFs
                      have hge : wc.heap.size ≤ w1.heap.size := F_w1.out.size
                      have HS : (fun w' : World => w'.cell? ⟨w.heap.size, 0, none⟩ = some (.slice z.PA z.n z.c) ∧ w'.cell? ⟨w.heap.size, 1, none⟩ = some (.slice z.AA z.m z.d) ∧ w'.cell? ⟨w.heap.size + 1, 0, none⟩ = some (.int .i64 z.bud) ∧ w'.cell? ⟨w.heap.size + 1, 1, none⟩ = some (.int .i64 z.dep)) ((((w2.setCell ⟨w1.heap.size, 0, none⟩ (.int .i64 (evalR (fns L) xs z.bud z.dep (T - 1)).v)).setCell ⟨w1.heap.size, 1, none⟩ (.int .i64 (evalR (fns L) xs z.bud z.dep (T - 1)).f)).setCell ⟨w1.heap.size, 2, none⟩ (.slice tA (evalR (fns L) xs z.bud z.dep (T - 1)).told.length tc)).setCell ⟨w1.heap.size, 3, none⟩ (.slice lA (evalR (fns L) xs z.bud z.dep (T - 1)).log.length lc)) := ⟨hFs.held HS.1 (by show ¬ w.heap.size = _; omega), hFs.held HS.2.1 (by show ¬ w.heap.size = _; omega), hFs.held HS.2.2.1 (by show ¬ w.heap.size + 1 = _; omega), hFs.held HS.2.2.2 (by show ¬ w.heap.size + 1 = _; omega)⟩
                      refine hK.out _ _ (fun _ => HS) ?_
                      clear hK K
                      have hFw : Fr None' wc ((((w2.setCell ⟨w1.heap.size, 0, none⟩ (.int .i64 (evalR (fns L) xs z.bud z.dep (T - 1)).v)).setCell ⟨w1.heap.size, 1, none⟩ (.int .i64 (evalR (fns L) xs z.bud z.dep (T - 1)).f)).setCell ⟨w1.heap.size, 2, none⟩ (.slice tA (evalR (fns L) xs z.bud z.dep (T - 1)).told.length tc)).setCell ⟨w1.heap.size, 3, none⟩ (.slice lA (evalR (fns L) xs z.bud z.dep (T - 1)).log.length lc)) := Fr.then F_w2.out hFs (fun i hi => .inr (by omega))
                      refine AnyK.one (i := 14) rfl (by kernel_rfl) (fun K hK => ?_)
                      go_simp
                      refine hK.out _ _ (fun _ => HS) ?_
                      clear hK K
                      refine AnyK.done (by kernel_rfl) ?_ _
                      go_wp2_with fail
                      go_meet
                      exact ⟨_, tA, tc, lA, lc, _, rfl, rfl, hBs, hRs, hFw, HS⟩
                  · go_simp
                    have hF_w3 : Fr None' (wc) ((wc).alloc (.cells #[.int .i64 0, .int .i64 0, .slice none 0 0, .slice none 0 0] 30)).drew := ((Fr.refl _ _).alloc _).drew
                    have hB_w3 : Blk ((wc).alloc (.cells #[.int .i64 0, .int .i64 0, .slice none 0 0, .slice none 0 0] 30)).drew (wc).heap.size 30 #[.int .i64 0, .int .i64 0, .slice none 0 0, .slice none 0 0] := Blk.new (wc) _ _
                    have F_w3 := Lib.hid (Fr.trans (Fr.refl None' wc) hF_w3)
                    have HS : (fun w' : World => w'.cell? ⟨w.heap.size, 0, none⟩ = some (.slice z.PA z.n z.c) ∧ w'.cell? ⟨w.heap.size, 1, none⟩ = some (.slice z.AA z.m z.d) ∧ w'.cell? ⟨w.heap.size + 1, 0, none⟩ = some (.int .i64 z.bud) ∧ w'.cell? ⟨w.heap.size + 1, 1, none⟩ = some (.int .i64 z.dep)) ((wc).alloc (.cells #[.int .i64 0, .int .i64 0, .slice none 0 0, .slice none 0 0] 30)).drew := ⟨hF_w3.held HS.1 (fun h => h), hF_w3.held HS.2.1 (fun h => h), hF_w3.held HS.2.2.1 (fun h => h), hF_w3.held HS.2.2.2 (fun h => h)⟩
                    refine hK.out _ _ (fun _ => HS) ?_
                    clear hK K
                    generalize ((wc).alloc (.cells #[.int .i64 0, .int .i64 0, .slice none 0 0, .slice none 0 0] 30)).drew = w3 at *
                    refine AnyK.one (i := 2) rfl (by kernel_rfl) (fun K hK => ?_)
                    go_simp
                    refine (HOF.out _ F_w3.out).mono ?_
                    rintro e w1 ⟨A, c, rfl, hL, hF_w1⟩
                    have HL := Lib.hid hL
                    have F_w1 := Lib.hid (Fr.trans F_w3.out hF_w1)
                    have HS : (fun w' : World => w'.cell? ⟨w.heap.size, 0, none⟩ = some (.slice z.PA z.n z.c) ∧ w'.cell? ⟨w.heap.size, 1, none⟩ = some (.slice z.AA z.m z.d) ∧ w'.cell? ⟨w.heap.size + 1, 0, none⟩ = some (.int .i64 z.bud) ∧ w'.cell? ⟨w.heap.size + 1, 1, none⟩ = some (.int .i64 z.dep)) w1 := ⟨hF_w1.held HS.1 (fun h => h), hF_w1.held HS.2.1 (fun h => h), hF_w1.held HS.2.2.1 (fun h => h), hF_w1.held HS.2.2.2 (fun h => h)⟩
                    refine hK.out _ _ (fun _ => HS) ?_
                    clear hK K hL
                    refine AnyK.one (i := 8) rfl (by kernel_rfl) (fun K hK => ?_)
                    go_simp
                    refine (HEV.out _ A c _ F_w1.out (by omega) HL.out).mono ?_
                    rintro e w2 ⟨tA, tc, lA, lc, rfl, hres, hF_w2⟩
                    have HR := Lib.hid hres
                    have F_w2 := Lib.hid (Fr.trans F_w1.out hF_w2)
                    have HS : (fun w' : World => w'.cell? ⟨w.heap.size, 0, none⟩ = some (.slice z.PA z.n z.c) ∧ w'.cell? ⟨w.heap.size, 1, none⟩ = some (.slice z.AA z.m z.d) ∧ w'.cell? ⟨w.heap.size + 1, 0, none⟩ = some (.int .i64 z.bud) ∧ w'.cell? ⟨w.heap.size + 1, 1, none⟩ = some (.int .i64 z.dep)) w2 := ⟨hF_w2.held HS.1 (fun h => h), hF_w2.held HS.2.1 (fun h => h), hF_w2.held HS.2.2.1 (fun h => h), hF_w2.held HS.2.2.2 (fun h => h)⟩
                    refine hK.out _ _ (fun _ => HS) ?_
                    clear hK K hres
                    refine AnyK.take (i := 9) rfl (by decide) (by kernel_rfl) (by kernel_rfl) (by kernel_rfl) (fun _ _ _ _ h => h) HS (fun K hK => ?_)
                    go_simp
                    refine hK.out _ ⟨_, by rfl, Or.inl ⟨by rfl, by intro w hSw; (try dsimp only at hSw); go_simp⟩, ?_⟩
                    clear hK K
                    refine AnyK.take (i := 10) rfl (by decide) (by kernel_rfl) (by kernel_rfl) (by kernel_rfl) (fun _ _ _ _ h => h) HS (fun K hK => ?_)
                    go_simp
                    refine hK.out _ ⟨_, by rfl, Or.inl ⟨by rfl, by intro w hSw; (try dsimp only at hSw); go_simp⟩, ?_⟩
                    clear hK K
                    refine AnyK.take (i := 11) rfl (by decide) (by kernel_rfl) (by kernel_rfl) (by kernel_rfl) (fun _ _ _ _ h => h) HS (fun K hK => ?_)
                    go_simp
                    refine hK.out _ ⟨_, by rfl, Or.inl ⟨by rfl, by intro w hSw; (try dsimp only at hSw); go_simp⟩, ?_⟩
                    clear hK K
                    refine AnyK.one (i := 13) rfl (by kernel_rfl) (fun K hK => ?_)
                    have hB := (hB_w3.fr hF_w1 (fun h => h)).fr hF_w2 (fun h => h)
                    have b0 : w2.cell? ⟨wc.heap.size, 0, none⟩ = some (.int .i64 0) := by rw [hB.cell]; rfl
                    have b1 : w2.cell? ⟨wc.heap.size, 1, none⟩ = some (.int .i64 0) := by rw [hB.cell]; rfl
                    have b2 : w2.cell? ⟨wc.heap.size, 2, none⟩ = some (.slice none 0 0) := by rw [hB.cell]; rfl
                    have b3 : w2.cell? ⟨wc.heap.size, 3, none⟩ = some (.slice none 0 0) := by rw [hB.cell]; rfl
                    have y0 := hB.frozen 0
                    have y1 := hB.frozen 1
                    have y2 := hB.frozen 2
                    have y3 := hB.frozen 3
                    go_simp
                    have hFs : Fr (fun k => k = wc.heap.size) w2 ((((w2.setCell ⟨wc.heap.size, 0, none⟩ (.int .i64 (evalR (fns L) xs z.bud z.dep (T - 1)).v)).setCell ⟨wc.heap.size, 1, none⟩ (.int .i64 (evalR (fns L) xs z.bud z.dep (T - 1)).f)).setCell ⟨wc.heap.size, 2, none⟩ (.slice tA (evalR (fns L) xs z.bud z.dep (T - 1)).told.length tc)).setCell ⟨wc.heap.size, 3, none⟩ (.slice lA (evalR (fns L) xs z.bud z.dep (T - 1)).log.length lc)) := ((((Fr.refl (fun k => k = wc.heap.size) w2).setCell (p := ⟨wc.heap.size, 0, none⟩) (.inl rfl) _).setCell (p := ⟨wc.heap.size, 1, none⟩) (.inl rfl) _).setCell (p := ⟨wc.heap.size, 2, none⟩) (.inl rfl) _).setCell (p := ⟨wc.heap.size, 3, none⟩) (.inl rfl) _
                    have hBs : Blk ((((w2.setCell ⟨wc.heap.size, 0, none⟩ (.int .i64 (evalR (fns L) xs z.bud z.dep (T - 1)).v)).setCell ⟨wc.heap.size, 1, none⟩ (.int .i64 (evalR (fns L) xs z.bud z.dep (T - 1)).f)).setCell ⟨wc.heap.size, 2, none⟩ (.slice tA (evalR (fns L) xs z.bud z.dep (T - 1)).told.length tc)).setCell ⟨wc.heap.size, 3, none⟩ (.slice lA (evalR (fns L) xs z.bud z.dep (T - 1)).log.length lc)) (wc.heap.size) 30 #[.int .i64 (evalR (fns L) xs z.bud z.dep (T - 1)).v, .int .i64 (evalR (fns L) xs z.bud z.dep (T - 1)).f, .slice tA (evalR (fns L) xs z.bud z.dep (T - 1)).told.length tc, .slice lA (evalR (fns L) xs z.bud z.dep (T - 1)).log.length lc] := (((hB.set_ 0 _).set_ 1 _).set_ 2 _).set_ 3 _
                    have hRs := ResAt.at_ HR.out hB hFs
                    have hge : wc.heap.size ≤ wc.heap.size := Nat.le_refl _
                    have HS : (fun w' : World => w'.cell? ⟨w.heap.size, 0, none⟩ = some (.slice z.PA z.n z.c) ∧ w'.cell? ⟨w.heap.size, 1, none⟩ = some (.slice z.AA z.m z.d) ∧ w'.cell? ⟨w.heap.size + 1, 0, none⟩ = some (.int .i64 z.bud) ∧ w'.cell? ⟨w.heap.size + 1, 1, none⟩ = some (.int .i64 z.dep)) ((((w2.setCell ⟨wc.heap.size, 0, none⟩ (.int .i64 (evalR (fns L) xs z.bud z.dep (T - 1)).v)).setCell ⟨wc.heap.size, 1, none⟩ (.int .i64 (evalR (fns L) xs z.bud z.dep (T - 1)).f)).setCell ⟨wc.heap.size, 2, none⟩ (.slice tA (evalR (fns L) xs z.bud z.dep (T - 1)).told.length tc)).setCell ⟨wc.heap.size, 3, none⟩ (.slice lA (evalR (fns L) xs z.bud z.dep (T - 1)).log.length lc)) := ⟨hFs.held HS.1 (by show ¬ w.heap.size = _; omega), hFs.held HS.2.1 (by show ¬ w.heap.size = _; omega), hFs.held HS.2.2.1 (by show ¬ w.heap.size + 1 = _; omega), hFs.held HS.2.2.2 (by show ¬ w.heap.size + 1 = _; omega)⟩
                    refine hK.out _ _ (fun _ => HS) ?_
                    clear hK K
                    have hFw : Fr None' wc ((((w2.setCell ⟨wc.heap.size, 0, none⟩ (.int .i64 (evalR (fns L) xs z.bud z.dep (T - 1)).v)).setCell ⟨wc.heap.size, 1, none⟩ (.int .i64 (evalR (fns L) xs z.bud z.dep (T - 1)).f)).setCell ⟨wc.heap.size, 2, none⟩ (.slice tA (evalR (fns L) xs z.bud z.dep (T - 1)).told.length tc)).setCell ⟨wc.heap.size, 3, none⟩ (.slice lA (evalR (fns L) xs z.bud z.dep (T - 1)).log.length lc)) := Fr.then F_w2.out hFs (fun i hi => .inr (by omega))
                    refine AnyK.one (i := 14) rfl (by kernel_rfl) (fun K hK => ?_)
                    go_simp
                    refine hK.out _ _ (fun _ => HS) ?_
                    clear hK K
                    refine AnyK.done (by kernel_rfl) ?_ _
                    go_wp2_with fail
                    go_meet
                    exact ⟨_, tA, tc, lA, lc, _, rfl, rfl, hBs, hRs, hFw, HS⟩
                case rest =>
                  obtain ⟨g3, tA3, tc3, lA3, lc3, base3, rfl, rfl, -, -, hFw3, -⟩ := hcut
                  rw [HSH.out]
                  have HFW3 := Lib.hid (HFW2.out.trans hFw3)
                  have t0 := hFw3.held s0 (fun h => h)
                  have t1 := hFw3.held s1 (fun h => h)
                  have t2 := hFw3.held s2 (fun h => h)
                  have HTI3 := Lib.hid (ints_fr HTI2.out hFw3)
                  have HTA3 := Lib.hid (ints_fr HTA.out hFw3)
                  have hB3 := HB2.out.fr hFw3 (fun h => h)
                  have a0 : wc.cell? ⟨g2, 0, none⟩ = some (.int .i64 RE.v) := by rw [hB3.cell]; rfl
                  have a1 : wc.cell? ⟨g2, 1, none⟩ = some (.int .i64 RE.f) := by rw [hB3.cell]; rfl
                  have a2 : wc.cell? ⟨g2, 2, none⟩ = some (.slice tA2 RE.told.length tc2) := by rw [hB3.cell]; rfl
                  have v1 : (RE.v == RE.v) = true := by simp
                  have v2 : (RE.f == RE.f) = true := by simp
                  clear HOF HEV s0 s1 s2 HTI2 HTA HB2 hB3 hFw3 hy0 hy1 hy2 hy3 HSH hw6
                  go_wp2_with fail
                  refine (numbers_same _ tA2 tA tc2 tc RE.told _ rfl HTA3.out HTI3.out (by omega)).mono ?_
                  rintro e w2 ⟨rfl, q, rfl⟩
                  go_wp2_with fail
                  refine (awake_any _ (HT.out.fr (HFW3.out.drewN q) (fun h => h))).mono ?_
                  rintro e w3 ⟨rfl, hF3⟩
                  have HF3 := Lib.hid (Fr.trans (HFW3.out.drewN q) hF3)
                  clear hF3
                  go_wp2_with fail
                  go_ret
                  exact ⟨rfl, HF3.out⟩
        · have heb : ((evalR (fns L) xs z.bud z.dep 3000).e != 0) = true := by simpa using he
          go_wp2_with fail
          refine (awake_any _ (HT.out.fr HFW.out (fun h => h))).mono ?_
          rintro e w3 ⟨rfl, hF3⟩
          have HF3 := Lib.hid (Fr.trans HFW.out hF3)
          clear hF3
          go_wp2_with fail
          go_ret
          exact ⟨rfl, HF3.out⟩

theorem walked {w : World} (z : JobV) (hz : JobAt w z) (x : Int) (hx : (Lit.int .u8 x).wf = true) (hT : FieldsAt w) :
    Calls Tryd.prog 5 #[z.val, .int .u8 x] w fun e w' => e = .returned (.bool true) ∧ Below w.heap.size w w' := by
  obtain ⟨⟨L, hL, hR⟩, xs, hxl, hA⟩ := hz
  have hb := bounds_u8 hx
  obtain ⟨y, rfl⟩ : ∃ y : Nat, x = y := ⟨x.toNat, by omega⟩
  exact (walk w hT z L hL hR xs hxl hA y (by omega)).mono fun _ _ ⟨he, hF⟩ => ⟨he, hF.below (Nat.le_refl _) (fun _ h => h.elim)⟩

set_option maxRecDepth 100000 in
theorem lifted (os : Os) (started : os.Started) (H : Type) (enc : TypeId × Value → H) :
    ReturnsInHanded {} Tryd.checked os 5 .any (fun w args => (Rows.evalEnoughSpec.pre enc Tryd.prog Tryd.f5 [] false w args ∧ laidMetH Tryd.prog laidN w) ∧ sizedMet enc Tryd.prog Tryd.f5 (OpenSpec.ofChange Rows.evalEnoughSpec) false w args)
      (Rows.evalEnoughSpec.post enc Tryd.prog Tryd.f5 false true false false) := by
  refine returnsInHanded_of_change_and (C := Tryd.checked) (X := fun w _ => laidMetH Tryd.prog laidN w) (fun _ _ _ hh h => h.of_heap hh) own started (by kernel_rfl) Tryd.func5
    (ChangeSpec.witness_shaped (enc := enc) (C := Tryd.checked) (os := os) (X := fun w _ => laidMetH Tryd.prog laidN w) false (World.doorLaid Tryd.prog 400 os) #[.agg #[.slice none 0 0, .slice none 0 0, .int .i64 0, .int .i64 0], .int .u8 0] 8 rfl (World.shaped_of_RefB (by kernel_rfl) (by kernel_rfl)) (by kernel_rfl) (by kernel_rfl) (by kernel_rfl) (door_met os _)) ?_
  intro W base args ds gs before hval0 hW _ _ hL _
  have hval : ∀ (j : Nat) t v, Tryd.f5.params[j]? = some t → args[j]? = some v → Value.okWide Tryd.prog W .any base t v := hval0
  have hW' := hW
  obtain ⟨p, q, hA0, hV, rfl, hfz, hnd⟩ := hW
  have hA : DataW.TrodAll enc Tryd.prog W 0 (fun _ => true) true Tryd.f5.params.toList args.toList ds p := hA0
  rw [Tryd.params5] at hA hval
  obtain ⟨v0, vs0, d0, ds0, p0, q0, hargs, rfl, rfl, h0, r0⟩ := trodAll_cons hA
  obtain ⟨v1, vs1, d1, ds1, p1, q1, rfl, rfl, rfl, h1, r1⟩ := trodAll_cons r0
  obtain ⟨rfl, rfl, rfl⟩ := trodAll_nil r1
  obtain rfl : args = #[v0, v1] := by cases args; simp_all
  obtain ⟨rfl, rfl⟩ := trodVars_none hV
  have k0 := h0
  have lt0 : ∀ x ∈ p0, x.block < W.heap.size := by obtain ⟨m, hm⟩ := k0; exact DataW.trod_lt m _ _ _ hm
  obtain ⟨z0, rfl, w0⟩ := open_job (hval 0 25 v0 rfl rfl) h0
  obtain ⟨a1, rfl, rfl, rfl, w1⟩ := open_int Tryd.underlying5 (hval 1 5 v1 rfl rfl) h1
  clear hA0 hval0
  refine (walked (w := W) z0 w0 a1 w1 (of_laid hL)).mono fun e W' ⟨he, bel⟩ => ?_
  subst he
  exact ⟨_, rfl, _, _, _, [], _, [], hW', trodAll_mk1 (shut_bool Tryd.underlying4 _), (trodAll_cons_mk (Below.trod laidOut (by kernel_rfl) (of_decide_eq_true (by kernel_rfl)) k0 bel lt0) (trodAll_cons_mk (shut_int Tryd.underlying5 w1) trodAll_mk0)), rfl, bel.frame _, fun h => by cases h⟩

theorem over : Rows.EvalEnoughSaid :=
  OpenClaim.holds_of_wide 5 Tryd.f5 rfl rfl rfl rfl rfl rfl rfl ⟨rfl, rfl, rfl, rfl, rfl⟩ rfl rfl rfl rfl rfl (by kernel_rfl) Tryd.func5 (by kernel_rfl)
    (of_decide_eq_true (by kernel_rfl)) (by unfold Func.isWrapper; first | (rw [if_pos (by decide +kernel)]; kernel_rfl) | (rw [if_neg (by decide +kernel)]; exact ⟨rfl, rfl⟩))
    (fun os started H enc _ => lifted os started H enc)

/-- The statement: the row, and what it lists tied to the program's text. -/
theorem proved : Rows.EvalEnoughCardSaid :=
  Claim7.holds_tied_plain_at .later [] [.data] true (true, "4aa17e3d60f3d84dd4c16a934e022370534363df738d391e78b403ada7e39e40") true
    over (fun _ h => by cases h) (by kernel_rfl) (fun _ h => by cases h) evalEnough_row_tie rfl ⟨rfl, rfl⟩ (by kernel_rfl) rfl
    (fun f fn hf hfn => by
      obtain rfl : f = 5 := Option.some.inj ((show Tryd.prog.funcNamed "haymow/haymowlaw06.EvalEnough" = some 5 by kernel_rfl).symm.trans hf) |>.symm
      obtain rfl : fn = Tryd.f5 := (Option.some.inj (Tryd.func5.symm.trans hfn)).symm
      exact ⟨by kernel_rfl, fun j t ht => by
        rw [Tryd.params5] at ht
        match j, ht with
        | 0, ht =>
          obtain rfl : t = 25 := by simpa using ht.symm
          exact (show Tryd.prog.wantsStandIn 25 = false by kernel_rfl)
        | 1, ht =>
          obtain rfl : t = 5 := by simpa using ht.symm
          exact (show Tryd.prog.wantsStandIn 5 = false by kernel_rfl)
        | j + 2, ht => simp at ht⟩)
    (by kernel_rfl)
#print axioms proved
end Go.Proofs.YtbhnnnpofindiaaDoor.evalEnough
