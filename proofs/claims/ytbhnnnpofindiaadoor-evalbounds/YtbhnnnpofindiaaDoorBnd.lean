/-
  haymowlaw06.EvalBounds returns true for every job, with the table of fields as it was laid.
-/
import Derived.Test.YtbhnnnpofindiaaDoorJobs
import Derived.Test.YtbhnnnpofindiaaDoorLaidV
import Derived.Test.YtbhnnnpofindiaaDoorTie
import Derived.Test.YtbhnnnpofindiaaDoorCards
import Derived.ShutString
import Derived.ChangeOld
import Derived.SevenTiedAt
import Derived.Deep.DeepCutAuto
namespace Go.Proofs.YtbhnnnpofindiaaDoor.evalBounds
open Go.ChangeShapes Go.WideShapes Go.ChangeAt Go.RowKit
open Go.ChangeMaps (open_string shut_string)

set_option maxHeartbeats 16000000 in
set_option maxRecDepth 100000 in
theorem walk (w : World) (hT : FieldsAt w) (z : JobV) (L : List LFn) (hL : L.length = z.n) (hR : FnRow w (fun b => b < w.heap.size) z.PA L) (xs : List Int) (hxl : xs.length = z.m) (hA : IntsA w z.AA xs) :
    Calls Tryd.prog 4 #[z.val] w fun e w' => e = .returned (.bool true) ∧ Fr None' w w' := by
  have hF0 : Fr None' w (w.alloc (.cells #[.slice z.PA z.n z.c, .slice z.AA z.m z.d, .int .i64 z.bud, .int .i64 z.dep] 25)) := (Fr.refl _ _).alloc _
  have hB0 := Blk.new w 25 #[.slice z.PA z.n z.c, .slice z.AA z.m z.d, .int .i64 z.bud, .int .i64 z.dep]
  have hlt := light_any _ _ z.PA z.c L (hR.fr hF0 (fun _ _ h => h))
  rw [hL] at hlt
  have HLT := Lib.hid hlt
  have HR := Lib.hid hR
  have HT := Lib.hid hT
  have HA := Lib.hid hA
  have HB0 := Lib.hid hB0
  have HF0 := Lib.hid hF0
  clear hlt hR hT hA hB0 hF0
  go_enter Tryd.func4, Tryd.ntmps4
  unfold JobV.val
  go_wp2_with fail
  refine HLT.out.mono ?_
  rintro e w1 ⟨t, rfl, ht, rfl⟩
  cases t with
  | false =>
    go_wp2_with fail
    go_ret
    exact ⟨rfl, HF0.out⟩
  | true =>
    obtain ⟨hn, hp⟩ := ht rfl
    clear HLT ht
    by_cases hm : (20 : Int) < (z.m : Int)
    · go_wp2_with fail
      go_ret
      exact ⟨rfl, HF0.out⟩
    · have HOF := Lib.hid (of_ok w z L hL HR.out (by omega) hp)
      have HEV := Lib.hid (ev_of w z (fns L) xs HT.out (by omega) hxl (by omega) HA.out)
      have hmd : decide ((20 : Int) < (z.m : Int)) = false := by simpa using hm
      have z0 : (w.alloc (.cells #[.slice z.PA z.n z.c, .slice z.AA z.m z.d, .int .i64 z.bud, .int .i64 z.dep] 25)).cell? ⟨w.heap.size, 0, none⟩ = some (.slice z.PA z.n z.c) := by rw [HB0.out.cell]; rfl
      have z1 : (w.alloc (.cells #[.slice z.PA z.n z.c, .slice z.AA z.m z.d, .int .i64 z.bud, .int .i64 z.dep] 25)).cell? ⟨w.heap.size, 1, none⟩ = some (.slice z.AA z.m z.d) := by rw [HB0.out.cell]; rfl
      have z2 : (w.alloc (.cells #[.slice z.PA z.n z.c, .slice z.AA z.m z.d, .int .i64 z.bud, .int .i64 z.dep] 25)).cell? ⟨w.heap.size, 2, none⟩ = some (.int .i64 z.bud) := by rw [HB0.out.cell]; rfl
      have z3 : (w.alloc (.cells #[.slice z.PA z.n z.c, .slice z.AA z.m z.d, .int .i64 z.bud, .int .i64 z.dep] 25)).cell? ⟨w.heap.size, 3, none⟩ = some (.int .i64 z.dep) := by rw [HB0.out.cell]; rfl
      generalize hW0 : w.alloc (.cells #[.slice z.PA z.n z.c, .slice z.AA z.m z.d, .int .i64 z.bud, .int .i64 z.dep] 25) = W0 at *
      clear hW0
      go_upto_region 3 with (fail)
      go_cut [3, 4] (fun rv ev wx => ∃ g tA tc lA lc base, rv = .pointer (some ⟨g, 0, none⟩) ∧ ev = .int .i64 (evalR (fns L) xs z.bud z.dep 3000).e ∧ Blk wx g 30 #[.int .i64 (evalR (fns L) xs z.bud z.dep 3000).v, .int .i64 (evalR (fns L) xs z.bud z.dep 3000).f, .slice tA (evalR (fns L) xs z.bud z.dep 3000).told.length tc, .slice lA (evalR (fns L) xs z.bud z.dep 3000).log.length lc] ∧ ResAt wx base (.slice tA (evalR (fns L) xs z.bud z.dep 3000).told.length tc) (.slice lA (evalR (fns L) xs z.bud z.dep 3000).log.length lc) (evalR (fns L) xs z.bud z.dep 3000).told (evalR (fns L) xs z.bud z.dep 3000).log ∧ Fr None' w wx ∧ (fun w' : World => w'.cell? ⟨w.heap.size, 0, none⟩ = some (.slice z.PA z.n z.c) ∧ w'.cell? ⟨w.heap.size, 1, none⟩ = some (.slice z.AA z.m z.d) ∧ w'.cell? ⟨w.heap.size, 2, none⟩ = some (.int .i64 z.bud) ∧ w'.cell? ⟨w.heap.size, 3, none⟩ = some (.int .i64 z.dep)) wx)
      case first =>
        refine region_K 17 (fun w' : World => w'.cell? ⟨w.heap.size, 0, none⟩ = some (.slice z.PA z.n z.c) ∧ w'.cell? ⟨w.heap.size, 1, none⟩ = some (.slice z.AA z.m z.d) ∧ w'.cell? ⟨w.heap.size, 2, none⟩ = some (.int .i64 z.bud) ∧ w'.cell? ⟨w.heap.size, 3, none⟩ = some (.int .i64 z.dep)) (by kernel_rfl) ?_
        have HS : (fun w' : World => w'.cell? ⟨w.heap.size, 0, none⟩ = some (.slice z.PA z.n z.c) ∧ w'.cell? ⟨w.heap.size, 1, none⟩ = some (.slice z.AA z.m z.d) ∧ w'.cell? ⟨w.heap.size, 2, none⟩ = some (.int .i64 z.bud) ∧ w'.cell? ⟨w.heap.size, 3, none⟩ = some (.int .i64 z.dep)) (W0).drew := ⟨z0, z1, z2, z3⟩
        refine AnyK.take (i := 0) rfl (by decide) (by kernel_rfl) (by kernel_rfl) (by kernel_rfl) (fun _ _ _ _ h => h) HS (fun K hK => ?_)
        go_simp
        refine hK.out _ ⟨_, by rfl, Or.inl ⟨by rfl, by intro w hSw; (try dsimp only at hSw); go_simp⟩, ?_⟩
        clear hK K
        refine AnyK.take (i := 1) rfl (by decide) (by kernel_rfl) (by kernel_rfl) (by kernel_rfl) (fun _ _ _ _ h => h) HS (fun K hK => ?_)
        go_simp
        refine hK.out _ ⟨_, by rfl, Or.inl ⟨by rfl, by intro w hSw; (try dsimp only at hSw); go_simp⟩, ?_⟩
        clear hK K
        refine AnyK.take (i := 3) rfl (by decide) (by kernel_rfl) (by kernel_rfl) (by kernel_rfl) (fun _ _ _ _ h => h) HS (fun K hK => ?_)
        go_simp
        refine hK.out _ ⟨_, by rfl, Or.inl ⟨by rfl, by intro w hSw; (try dsimp only at hSw); go_simp⟩, ?_⟩
        clear hK K
        refine AnyK.take (i := 4) rfl (by decide) (by kernel_rfl) (by kernel_rfl) (by kernel_rfl) (fun _ _ _ _ h => h) HS (fun K hK => ?_)
        go_simp
        refine hK.out _ ⟨_, by rfl, Or.inl ⟨by rfl, by intro w hSw; (try dsimp only at hSw); go_simp⟩, ?_⟩
        clear hK K
        refine AnyK.take (i := 5) rfl (by decide) (by kernel_rfl) (by kernel_rfl) (by kernel_rfl) (fun _ _ _ _ h => h) HS (fun K hK => ?_)
        go_simp
        refine hK.out _ ⟨_, by rfl, Or.inl ⟨by rfl, by intro w hSw; (try dsimp only at hSw); go_simp⟩, ?_⟩
        clear hK K
        refine AnyK.take (i := 6) rfl (by decide) (by kernel_rfl) (by kernel_rfl) (by kernel_rfl) (fun _ _ _ _ h => h) HS (fun K hK => ?_)
        go_simp
        refine hK.out _ ⟨_, by rfl, Or.inl ⟨by rfl, by intro w hSw; (try dsimp only at hSw); go_simp⟩, ?_⟩
        clear hK K
        refine AnyK.take (i := 7) rfl (by decide) (by kernel_rfl) (by kernel_rfl) (by kernel_rfl) (fun _ _ _ _ h => h) HS (fun K hK => ?_)
        go_simp
        refine hK.out _ ⟨_, by rfl, Or.inl ⟨by rfl, by intro w hSw; (try dsimp only at hSw); go_simp⟩, ?_⟩
        clear hK K
        refine AnyK.take (i := 8) rfl (by decide) (by kernel_rfl) (by kernel_rfl) (by kernel_rfl) (fun _ _ _ _ h => h) HS (fun K hK => ?_)
        go_simp
        refine hK.out _ ⟨_, by rfl, Or.inl ⟨by rfl, by intro w hSw; (try dsimp only at hSw); go_simp⟩, ?_⟩
        clear hK K
        refine AnyK.take (i := 9) rfl (by decide) (by kernel_rfl) (by kernel_rfl) (by kernel_rfl) (fun _ _ _ _ h => h) HS (fun K hK => ?_)
        go_simp
        refine hK.out _ ⟨_, by rfl, Or.inl ⟨by rfl, by intro w hSw; (try dsimp only at hSw); go_simp⟩, ?_⟩
        clear hK K
        refine AnyK.two (i := 2) (j := 14) rfl rfl (by kernel_rfl) (fun K hK => ?_) (fun K hK => ?_)
        · go_simp
          refine (HOF.out _ HF0.out.drew).mono ?_
          rintro e w1 ⟨A, c, rfl, hL, hF_w1⟩
          have HL := Lib.hid hL
          have F_w1 := Lib.hid (Fr.trans HF0.out.drew hF_w1)
          have HS : (fun w' : World => w'.cell? ⟨w.heap.size, 0, none⟩ = some (.slice z.PA z.n z.c) ∧ w'.cell? ⟨w.heap.size, 1, none⟩ = some (.slice z.AA z.m z.d) ∧ w'.cell? ⟨w.heap.size, 2, none⟩ = some (.int .i64 z.bud) ∧ w'.cell? ⟨w.heap.size, 3, none⟩ = some (.int .i64 z.dep)) w1 := ⟨hF_w1.held HS.1 (fun h => h), hF_w1.held HS.2.1 (fun h => h), hF_w1.held HS.2.2.1 (fun h => h), hF_w1.held HS.2.2.2 (fun h => h)⟩
          refine hK.out _ _ (fun _ => HS) ?_
          clear hK K hL
          refine AnyK.two (i := 10) (j := 14) rfl rfl (by kernel_rfl) (fun K hK => ?_) (fun K hK => ?_)
          · go_simp
            refine (HEV.out _ A c 3000 F_w1.out (by decide) HL.out).mono ?_
            rintro e w2 ⟨tA, tc, lA, lc, rfl, hres, hF_w2⟩
            have HR := Lib.hid hres
            have F_w2 := Lib.hid (Fr.trans F_w1.out hF_w2)
            have HS : (fun w' : World => w'.cell? ⟨w.heap.size, 0, none⟩ = some (.slice z.PA z.n z.c) ∧ w'.cell? ⟨w.heap.size, 1, none⟩ = some (.slice z.AA z.m z.d) ∧ w'.cell? ⟨w.heap.size, 2, none⟩ = some (.int .i64 z.bud) ∧ w'.cell? ⟨w.heap.size, 3, none⟩ = some (.int .i64 z.dep)) w2 := ⟨hF_w2.held HS.1 (fun h => h), hF_w2.held HS.2.1 (fun h => h), hF_w2.held HS.2.2.1 (fun h => h), hF_w2.held HS.2.2.2 (fun h => h)⟩
            refine hK.out _ _ (fun _ => HS) ?_
            clear hK K hres
            refine AnyK.take (i := 11) rfl (by decide) (by kernel_rfl) (by kernel_rfl) (by kernel_rfl) (fun _ _ _ _ h => h) HS (fun K hK => ?_)
            go_simp
            refine hK.out _ ⟨_, by rfl, Or.inl ⟨by rfl, by intro w hSw; (try dsimp only at hSw); go_simp⟩, ?_⟩
            clear hK K
            refine AnyK.take (i := 12) rfl (by decide) (by kernel_rfl) (by kernel_rfl) (by kernel_rfl) (fun _ _ _ _ h => h) HS (fun K hK => ?_)
            go_simp
            refine hK.out _ ⟨_, by rfl, Or.inl ⟨by rfl, by intro w hSw; (try dsimp only at hSw); go_simp⟩, ?_⟩
            clear hK K
            refine AnyK.take (i := 13) rfl (by decide) (by kernel_rfl) (by kernel_rfl) (by kernel_rfl) (fun _ _ _ _ h => h) HS (fun K hK => ?_)
            go_simp
            refine hK.out _ ⟨_, by rfl, Or.inl ⟨by rfl, by intro w hSw; (try dsimp only at hSw); go_simp⟩, ?_⟩
            clear hK K
            refine AnyK.one (i := 14) rfl (by kernel_rfl) (fun K hK => ?_)
            go_simp
            have hF_w3 : Fr None' (w2) ((w2).alloc (.cells #[.int .i64 0, .int .i64 0, .slice none 0 0, .slice none 0 0] 30)) := ((Fr.refl _ _).alloc _)
            have hB_w3 : Blk ((w2).alloc (.cells #[.int .i64 0, .int .i64 0, .slice none 0 0, .slice none 0 0] 30)) (w2).heap.size 30 #[.int .i64 0, .int .i64 0, .slice none 0 0, .slice none 0 0] := Blk.new (w2) _ _
            have F_w3 := Lib.hid (Fr.trans F_w2.out hF_w3)
            have hz_w3 : w.heap.size < (w2).heap.size := cell_lt HS.1
            have HS : (fun w' : World => w'.cell? ⟨w.heap.size, 0, none⟩ = some (.slice z.PA z.n z.c) ∧ w'.cell? ⟨w.heap.size, 1, none⟩ = some (.slice z.AA z.m z.d) ∧ w'.cell? ⟨w.heap.size, 2, none⟩ = some (.int .i64 z.bud) ∧ w'.cell? ⟨w.heap.size, 3, none⟩ = some (.int .i64 z.dep)) ((w2).alloc (.cells #[.int .i64 0, .int .i64 0, .slice none 0 0, .slice none 0 0] 30)) := ⟨hF_w3.held HS.1 (fun h => h), hF_w3.held HS.2.1 (fun h => h), hF_w3.held HS.2.2.1 (fun h => h), hF_w3.held HS.2.2.2 (fun h => h)⟩
            refine hK.out _ _ (fun _ => HS) ?_
            clear hK K
            generalize ((w2).alloc (.cells #[.int .i64 0, .int .i64 0, .slice none 0 0, .slice none 0 0] 30)) = w3 at *
            refine AnyK.one (i := 15) rfl (by kernel_rfl) (fun K hK => ?_)
            have hB := hB_w3
            have b0 : w3.cell? ⟨w2.heap.size, 0, none⟩ = some (.int .i64 0) := by rw [hB.cell]; rfl
            have b1 : w3.cell? ⟨w2.heap.size, 1, none⟩ = some (.int .i64 0) := by rw [hB.cell]; rfl
            have b2 : w3.cell? ⟨w2.heap.size, 2, none⟩ = some (.slice none 0 0) := by rw [hB.cell]; rfl
            have b3 : w3.cell? ⟨w2.heap.size, 3, none⟩ = some (.slice none 0 0) := by rw [hB.cell]; rfl
            have y0 := hB.frozen 0
            have y1 := hB.frozen 1
            have y2 := hB.frozen 2
            have y3 := hB.frozen 3
            go_simp
            have hFs : Fr (fun k => k = w2.heap.size) w3 ((((w3.setCell ⟨w2.heap.size, 0, none⟩ (.int .i64 (evalR (fns L) xs z.bud z.dep 3000).v)).setCell ⟨w2.heap.size, 1, none⟩ (.int .i64 (evalR (fns L) xs z.bud z.dep 3000).f)).setCell ⟨w2.heap.size, 2, none⟩ (.slice tA (evalR (fns L) xs z.bud z.dep 3000).told.length tc)).setCell ⟨w2.heap.size, 3, none⟩ (.slice lA (evalR (fns L) xs z.bud z.dep 3000).log.length lc)) := ((((Fr.refl (fun k => k = w2.heap.size) w3).setCell (p := ⟨w2.heap.size, 0, none⟩) (.inl rfl) _).setCell (p := ⟨w2.heap.size, 1, none⟩) (.inl rfl) _).setCell (p := ⟨w2.heap.size, 2, none⟩) (.inl rfl) _).setCell (p := ⟨w2.heap.size, 3, none⟩) (.inl rfl) _
            have hBs : Blk ((((w3.setCell ⟨w2.heap.size, 0, none⟩ (.int .i64 (evalR (fns L) xs z.bud z.dep 3000).v)).setCell ⟨w2.heap.size, 1, none⟩ (.int .i64 (evalR (fns L) xs z.bud z.dep 3000).f)).setCell ⟨w2.heap.size, 2, none⟩ (.slice tA (evalR (fns L) xs z.bud z.dep 3000).told.length tc)).setCell ⟨w2.heap.size, 3, none⟩ (.slice lA (evalR (fns L) xs z.bud z.dep 3000).log.length lc)) (w2.heap.size) 30 #[.int .i64 (evalR (fns L) xs z.bud z.dep 3000).v, .int .i64 (evalR (fns L) xs z.bud z.dep 3000).f, .slice tA (evalR (fns L) xs z.bud z.dep 3000).told.length tc, .slice lA (evalR (fns L) xs z.bud z.dep 3000).log.length lc] := (((hB.set_ 0 _).set_ 1 _).set_ 2 _).set_ 3 _
            have hRs := ResAt.at_ (HR.out.fr hF_w3) hB hFs
            have hlo : w.heap.size < w2.heap.size := hz_w3
            have HS : (fun w' : World => w'.cell? ⟨w.heap.size, 0, none⟩ = some (.slice z.PA z.n z.c) ∧ w'.cell? ⟨w.heap.size, 1, none⟩ = some (.slice z.AA z.m z.d) ∧ w'.cell? ⟨w.heap.size, 2, none⟩ = some (.int .i64 z.bud) ∧ w'.cell? ⟨w.heap.size, 3, none⟩ = some (.int .i64 z.dep)) ((((w3.setCell ⟨w2.heap.size, 0, none⟩ (.int .i64 (evalR (fns L) xs z.bud z.dep 3000).v)).setCell ⟨w2.heap.size, 1, none⟩ (.int .i64 (evalR (fns L) xs z.bud z.dep 3000).f)).setCell ⟨w2.heap.size, 2, none⟩ (.slice tA (evalR (fns L) xs z.bud z.dep 3000).told.length tc)).setCell ⟨w2.heap.size, 3, none⟩ (.slice lA (evalR (fns L) xs z.bud z.dep 3000).log.length lc)) := ⟨hFs.held HS.1 (by show ¬ w.heap.size = _; omega), hFs.held HS.2.1 (by show ¬ w.heap.size = _; omega), hFs.held HS.2.2.1 (by show ¬ w.heap.size = _; omega), hFs.held HS.2.2.2 (by show ¬ w.heap.size = _; omega)⟩
            refine hK.out _ _ (fun _ => HS) ?_
            clear hK K
            have hFw : Fr None' w ((((w3.setCell ⟨w2.heap.size, 0, none⟩ (.int .i64 (evalR (fns L) xs z.bud z.dep 3000).v)).setCell ⟨w2.heap.size, 1, none⟩ (.int .i64 (evalR (fns L) xs z.bud z.dep 3000).f)).setCell ⟨w2.heap.size, 2, none⟩ (.slice tA (evalR (fns L) xs z.bud z.dep 3000).told.length tc)).setCell ⟨w2.heap.size, 3, none⟩ (.slice lA (evalR (fns L) xs z.bud z.dep 3000).log.length lc)) := Fr.then F_w3.out hFs (fun i hi => .inr (by omega))
            refine AnyK.one (i := 16) rfl (by kernel_rfl) (fun K hK => ?_)
            go_simp
            refine hK.out _ _ (fun _ => HS) ?_
            clear hK K
            refine AnyK.done (by kernel_rfl) ?_ _
            go_wp2_with fail
            go_meet
            exact ⟨_, tA, tc, lA, lc, _, rfl, rfl, hBs, hRs, hFw, HS⟩
          · go_simp
            have hF_w3 : Fr None' (w1) ((w1).alloc (.cells #[.int .i64 0, .int .i64 0, .slice none 0 0, .slice none 0 0] 30)) := ((Fr.refl _ _).alloc _)
            have hB_w3 : Blk ((w1).alloc (.cells #[.int .i64 0, .int .i64 0, .slice none 0 0, .slice none 0 0] 30)) (w1).heap.size 30 #[.int .i64 0, .int .i64 0, .slice none 0 0, .slice none 0 0] := Blk.new (w1) _ _
            have F_w3 := Lib.hid (Fr.trans F_w1.out hF_w3)
            have hz_w3 : w.heap.size < (w1).heap.size := cell_lt HS.1
            have HS : (fun w' : World => w'.cell? ⟨w.heap.size, 0, none⟩ = some (.slice z.PA z.n z.c) ∧ w'.cell? ⟨w.heap.size, 1, none⟩ = some (.slice z.AA z.m z.d) ∧ w'.cell? ⟨w.heap.size, 2, none⟩ = some (.int .i64 z.bud) ∧ w'.cell? ⟨w.heap.size, 3, none⟩ = some (.int .i64 z.dep)) ((w1).alloc (.cells #[.int .i64 0, .int .i64 0, .slice none 0 0, .slice none 0 0] 30)) := ⟨hF_w3.held HS.1 (fun h => h), hF_w3.held HS.2.1 (fun h => h), hF_w3.held HS.2.2.1 (fun h => h), hF_w3.held HS.2.2.2 (fun h => h)⟩
            refine hK.out _ _ (fun _ => HS) ?_
            clear hK K
            generalize ((w1).alloc (.cells #[.int .i64 0, .int .i64 0, .slice none 0 0, .slice none 0 0] 30)) = w3 at *
            refine AnyK.one (i := 10) rfl (by kernel_rfl) (fun K hK => ?_)
            go_simp
            refine (HEV.out _ A c 3000 F_w3.out (by decide) (rows_fr HL.out hF_w3)).mono ?_
            rintro e w2 ⟨tA, tc, lA, lc, rfl, hres, hF_w2⟩
            have HR := Lib.hid hres
            have F_w2 := Lib.hid (Fr.trans F_w3.out hF_w2)
            have HS : (fun w' : World => w'.cell? ⟨w.heap.size, 0, none⟩ = some (.slice z.PA z.n z.c) ∧ w'.cell? ⟨w.heap.size, 1, none⟩ = some (.slice z.AA z.m z.d) ∧ w'.cell? ⟨w.heap.size, 2, none⟩ = some (.int .i64 z.bud) ∧ w'.cell? ⟨w.heap.size, 3, none⟩ = some (.int .i64 z.dep)) w2 := ⟨hF_w2.held HS.1 (fun h => h), hF_w2.held HS.2.1 (fun h => h), hF_w2.held HS.2.2.1 (fun h => h), hF_w2.held HS.2.2.2 (fun h => h)⟩
            refine hK.out _ _ (fun _ => HS) ?_
            clear hK K hres
            refine AnyK.take (i := 11) rfl (by decide) (by kernel_rfl) (by kernel_rfl) (by kernel_rfl) (fun _ _ _ _ h => h) HS (fun K hK => ?_)
            go_simp
            refine hK.out _ ⟨_, by rfl, Or.inl ⟨by rfl, by intro w hSw; (try dsimp only at hSw); go_simp⟩, ?_⟩
            clear hK K
            refine AnyK.take (i := 12) rfl (by decide) (by kernel_rfl) (by kernel_rfl) (by kernel_rfl) (fun _ _ _ _ h => h) HS (fun K hK => ?_)
            go_simp
            refine hK.out _ ⟨_, by rfl, Or.inl ⟨by rfl, by intro w hSw; (try dsimp only at hSw); go_simp⟩, ?_⟩
            clear hK K
            refine AnyK.take (i := 13) rfl (by decide) (by kernel_rfl) (by kernel_rfl) (by kernel_rfl) (fun _ _ _ _ h => h) HS (fun K hK => ?_)
            go_simp
            refine hK.out _ ⟨_, by rfl, Or.inl ⟨by rfl, by intro w hSw; (try dsimp only at hSw); go_simp⟩, ?_⟩
            clear hK K
            refine AnyK.one (i := 15) rfl (by kernel_rfl) (fun K hK => ?_)
            have hB := hB_w3.fr hF_w2 (fun h => h)
            have b0 : w2.cell? ⟨w1.heap.size, 0, none⟩ = some (.int .i64 0) := by rw [hB.cell]; rfl
            have b1 : w2.cell? ⟨w1.heap.size, 1, none⟩ = some (.int .i64 0) := by rw [hB.cell]; rfl
            have b2 : w2.cell? ⟨w1.heap.size, 2, none⟩ = some (.slice none 0 0) := by rw [hB.cell]; rfl
            have b3 : w2.cell? ⟨w1.heap.size, 3, none⟩ = some (.slice none 0 0) := by rw [hB.cell]; rfl
            have y0 := hB.frozen 0
            have y1 := hB.frozen 1
            have y2 := hB.frozen 2
            have y3 := hB.frozen 3
            go_simp
            have hFs : Fr (fun k => k = w1.heap.size) w2 ((((w2.setCell ⟨w1.heap.size, 0, none⟩ (.int .i64 (evalR (fns L) xs z.bud z.dep 3000).v)).setCell ⟨w1.heap.size, 1, none⟩ (.int .i64 (evalR (fns L) xs z.bud z.dep 3000).f)).setCell ⟨w1.heap.size, 2, none⟩ (.slice tA (evalR (fns L) xs z.bud z.dep 3000).told.length tc)).setCell ⟨w1.heap.size, 3, none⟩ (.slice lA (evalR (fns L) xs z.bud z.dep 3000).log.length lc)) := ((((Fr.refl (fun k => k = w1.heap.size) w2).setCell (p := ⟨w1.heap.size, 0, none⟩) (.inl rfl) _).setCell (p := ⟨w1.heap.size, 1, none⟩) (.inl rfl) _).setCell (p := ⟨w1.heap.size, 2, none⟩) (.inl rfl) _).setCell (p := ⟨w1.heap.size, 3, none⟩) (.inl rfl) _
            have hBs : Blk ((((w2.setCell ⟨w1.heap.size, 0, none⟩ (.int .i64 (evalR (fns L) xs z.bud z.dep 3000).v)).setCell ⟨w1.heap.size, 1, none⟩ (.int .i64 (evalR (fns L) xs z.bud z.dep 3000).f)).setCell ⟨w1.heap.size, 2, none⟩ (.slice tA (evalR (fns L) xs z.bud z.dep 3000).told.length tc)).setCell ⟨w1.heap.size, 3, none⟩ (.slice lA (evalR (fns L) xs z.bud z.dep 3000).log.length lc)) (w1.heap.size) 30 #[.int .i64 (evalR (fns L) xs z.bud z.dep 3000).v, .int .i64 (evalR (fns L) xs z.bud z.dep 3000).f, .slice tA (evalR (fns L) xs z.bud z.dep 3000).told.length tc, .slice lA (evalR (fns L) xs z.bud z.dep 3000).log.length lc] := (((hB.set_ 0 _).set_ 1 _).set_ 2 _).set_ 3 _
            have hRs := ResAt.at_ HR.out hB hFs
            have hlo : w.heap.size < w1.heap.size := hz_w3
            have HS : (fun w' : World => w'.cell? ⟨w.heap.size, 0, none⟩ = some (.slice z.PA z.n z.c) ∧ w'.cell? ⟨w.heap.size, 1, none⟩ = some (.slice z.AA z.m z.d) ∧ w'.cell? ⟨w.heap.size, 2, none⟩ = some (.int .i64 z.bud) ∧ w'.cell? ⟨w.heap.size, 3, none⟩ = some (.int .i64 z.dep)) ((((w2.setCell ⟨w1.heap.size, 0, none⟩ (.int .i64 (evalR (fns L) xs z.bud z.dep 3000).v)).setCell ⟨w1.heap.size, 1, none⟩ (.int .i64 (evalR (fns L) xs z.bud z.dep 3000).f)).setCell ⟨w1.heap.size, 2, none⟩ (.slice tA (evalR (fns L) xs z.bud z.dep 3000).told.length tc)).setCell ⟨w1.heap.size, 3, none⟩ (.slice lA (evalR (fns L) xs z.bud z.dep 3000).log.length lc)) := ⟨hFs.held HS.1 (by show ¬ w.heap.size = _; omega), hFs.held HS.2.1 (by show ¬ w.heap.size = _; omega), hFs.held HS.2.2.1 (by show ¬ w.heap.size = _; omega), hFs.held HS.2.2.2 (by show ¬ w.heap.size = _; omega)⟩
            refine hK.out _ _ (fun _ => HS) ?_
            clear hK K
            have hFw : Fr None' w ((((w2.setCell ⟨w1.heap.size, 0, none⟩ (.int .i64 (evalR (fns L) xs z.bud z.dep 3000).v)).setCell ⟨w1.heap.size, 1, none⟩ (.int .i64 (evalR (fns L) xs z.bud z.dep 3000).f)).setCell ⟨w1.heap.size, 2, none⟩ (.slice tA (evalR (fns L) xs z.bud z.dep 3000).told.length tc)).setCell ⟨w1.heap.size, 3, none⟩ (.slice lA (evalR (fns L) xs z.bud z.dep 3000).log.length lc)) := Fr.then F_w2.out hFs (fun i hi => .inr (by omega))
            refine AnyK.one (i := 16) rfl (by kernel_rfl) (fun K hK => ?_)
            go_simp
            refine hK.out _ _ (fun _ => HS) ?_
            clear hK K
            refine AnyK.done (by kernel_rfl) ?_ _
            go_wp2_with fail
            go_meet
            exact ⟨_, tA, tc, lA, lc, _, rfl, rfl, hBs, hRs, hFw, HS⟩
        · go_simp
          have hF_w3 : Fr None' (W0) ((W0).alloc (.cells #[.int .i64 0, .int .i64 0, .slice none 0 0, .slice none 0 0] 30)).drew := ((Fr.refl _ _).alloc _).drew
          have hB_w3 : Blk ((W0).alloc (.cells #[.int .i64 0, .int .i64 0, .slice none 0 0, .slice none 0 0] 30)).drew (W0).heap.size 30 #[.int .i64 0, .int .i64 0, .slice none 0 0, .slice none 0 0] := Blk.new (W0) _ _
          have F_w3 := Lib.hid (Fr.trans HF0.out hF_w3)
          have hz_w3 : w.heap.size < (W0).heap.size := cell_lt HS.1
          have HS : (fun w' : World => w'.cell? ⟨w.heap.size, 0, none⟩ = some (.slice z.PA z.n z.c) ∧ w'.cell? ⟨w.heap.size, 1, none⟩ = some (.slice z.AA z.m z.d) ∧ w'.cell? ⟨w.heap.size, 2, none⟩ = some (.int .i64 z.bud) ∧ w'.cell? ⟨w.heap.size, 3, none⟩ = some (.int .i64 z.dep)) ((W0).alloc (.cells #[.int .i64 0, .int .i64 0, .slice none 0 0, .slice none 0 0] 30)).drew := ⟨hF_w3.held HS.1 (fun h => h), hF_w3.held HS.2.1 (fun h => h), hF_w3.held HS.2.2.1 (fun h => h), hF_w3.held HS.2.2.2 (fun h => h)⟩
          refine hK.out _ _ (fun _ => HS) ?_
          clear hK K
          generalize ((W0).alloc (.cells #[.int .i64 0, .int .i64 0, .slice none 0 0, .slice none 0 0] 30)).drew = w3 at *
          refine AnyK.one (i := 2) rfl (by kernel_rfl) (fun K hK => ?_)
          go_simp
          refine (HOF.out _ F_w3.out).mono ?_
          rintro e w1 ⟨A, c, rfl, hL, hF_w1⟩
          have HL := Lib.hid hL
          have F_w1 := Lib.hid (Fr.trans F_w3.out hF_w1)
          have HS : (fun w' : World => w'.cell? ⟨w.heap.size, 0, none⟩ = some (.slice z.PA z.n z.c) ∧ w'.cell? ⟨w.heap.size, 1, none⟩ = some (.slice z.AA z.m z.d) ∧ w'.cell? ⟨w.heap.size, 2, none⟩ = some (.int .i64 z.bud) ∧ w'.cell? ⟨w.heap.size, 3, none⟩ = some (.int .i64 z.dep)) w1 := ⟨hF_w1.held HS.1 (fun h => h), hF_w1.held HS.2.1 (fun h => h), hF_w1.held HS.2.2.1 (fun h => h), hF_w1.held HS.2.2.2 (fun h => h)⟩
          refine hK.out _ _ (fun _ => HS) ?_
          clear hK K hL
          refine AnyK.one (i := 10) rfl (by kernel_rfl) (fun K hK => ?_)
          go_simp
          refine (HEV.out _ A c 3000 F_w1.out (by decide) HL.out).mono ?_
          rintro e w2 ⟨tA, tc, lA, lc, rfl, hres, hF_w2⟩
          have HR := Lib.hid hres
          have F_w2 := Lib.hid (Fr.trans F_w1.out hF_w2)
          have HS : (fun w' : World => w'.cell? ⟨w.heap.size, 0, none⟩ = some (.slice z.PA z.n z.c) ∧ w'.cell? ⟨w.heap.size, 1, none⟩ = some (.slice z.AA z.m z.d) ∧ w'.cell? ⟨w.heap.size, 2, none⟩ = some (.int .i64 z.bud) ∧ w'.cell? ⟨w.heap.size, 3, none⟩ = some (.int .i64 z.dep)) w2 := ⟨hF_w2.held HS.1 (fun h => h), hF_w2.held HS.2.1 (fun h => h), hF_w2.held HS.2.2.1 (fun h => h), hF_w2.held HS.2.2.2 (fun h => h)⟩
          refine hK.out _ _ (fun _ => HS) ?_
          clear hK K hres
          refine AnyK.take (i := 11) rfl (by decide) (by kernel_rfl) (by kernel_rfl) (by kernel_rfl) (fun _ _ _ _ h => h) HS (fun K hK => ?_)
          go_simp
          refine hK.out _ ⟨_, by rfl, Or.inl ⟨by rfl, by intro w hSw; (try dsimp only at hSw); go_simp⟩, ?_⟩
          clear hK K
          refine AnyK.take (i := 12) rfl (by decide) (by kernel_rfl) (by kernel_rfl) (by kernel_rfl) (fun _ _ _ _ h => h) HS (fun K hK => ?_)
          go_simp
          refine hK.out _ ⟨_, by rfl, Or.inl ⟨by rfl, by intro w hSw; (try dsimp only at hSw); go_simp⟩, ?_⟩
          clear hK K
          refine AnyK.take (i := 13) rfl (by decide) (by kernel_rfl) (by kernel_rfl) (by kernel_rfl) (fun _ _ _ _ h => h) HS (fun K hK => ?_)
          go_simp
          refine hK.out _ ⟨_, by rfl, Or.inl ⟨by rfl, by intro w hSw; (try dsimp only at hSw); go_simp⟩, ?_⟩
          clear hK K
          refine AnyK.one (i := 15) rfl (by kernel_rfl) (fun K hK => ?_)
          have hB := (hB_w3.fr hF_w1 (fun h => h)).fr hF_w2 (fun h => h)
          have b0 : w2.cell? ⟨W0.heap.size, 0, none⟩ = some (.int .i64 0) := by rw [hB.cell]; rfl
          have b1 : w2.cell? ⟨W0.heap.size, 1, none⟩ = some (.int .i64 0) := by rw [hB.cell]; rfl
          have b2 : w2.cell? ⟨W0.heap.size, 2, none⟩ = some (.slice none 0 0) := by rw [hB.cell]; rfl
          have b3 : w2.cell? ⟨W0.heap.size, 3, none⟩ = some (.slice none 0 0) := by rw [hB.cell]; rfl
          have y0 := hB.frozen 0
          have y1 := hB.frozen 1
          have y2 := hB.frozen 2
          have y3 := hB.frozen 3
          go_simp
          have hFs : Fr (fun k => k = W0.heap.size) w2 ((((w2.setCell ⟨W0.heap.size, 0, none⟩ (.int .i64 (evalR (fns L) xs z.bud z.dep 3000).v)).setCell ⟨W0.heap.size, 1, none⟩ (.int .i64 (evalR (fns L) xs z.bud z.dep 3000).f)).setCell ⟨W0.heap.size, 2, none⟩ (.slice tA (evalR (fns L) xs z.bud z.dep 3000).told.length tc)).setCell ⟨W0.heap.size, 3, none⟩ (.slice lA (evalR (fns L) xs z.bud z.dep 3000).log.length lc)) := ((((Fr.refl (fun k => k = W0.heap.size) w2).setCell (p := ⟨W0.heap.size, 0, none⟩) (.inl rfl) _).setCell (p := ⟨W0.heap.size, 1, none⟩) (.inl rfl) _).setCell (p := ⟨W0.heap.size, 2, none⟩) (.inl rfl) _).setCell (p := ⟨W0.heap.size, 3, none⟩) (.inl rfl) _
          have hBs : Blk ((((w2.setCell ⟨W0.heap.size, 0, none⟩ (.int .i64 (evalR (fns L) xs z.bud z.dep 3000).v)).setCell ⟨W0.heap.size, 1, none⟩ (.int .i64 (evalR (fns L) xs z.bud z.dep 3000).f)).setCell ⟨W0.heap.size, 2, none⟩ (.slice tA (evalR (fns L) xs z.bud z.dep 3000).told.length tc)).setCell ⟨W0.heap.size, 3, none⟩ (.slice lA (evalR (fns L) xs z.bud z.dep 3000).log.length lc)) (W0.heap.size) 30 #[.int .i64 (evalR (fns L) xs z.bud z.dep 3000).v, .int .i64 (evalR (fns L) xs z.bud z.dep 3000).f, .slice tA (evalR (fns L) xs z.bud z.dep 3000).told.length tc, .slice lA (evalR (fns L) xs z.bud z.dep 3000).log.length lc] := (((hB.set_ 0 _).set_ 1 _).set_ 2 _).set_ 3 _
          have hRs := ResAt.at_ HR.out hB hFs
          have hlo : w.heap.size < W0.heap.size := hz_w3
          have HS : (fun w' : World => w'.cell? ⟨w.heap.size, 0, none⟩ = some (.slice z.PA z.n z.c) ∧ w'.cell? ⟨w.heap.size, 1, none⟩ = some (.slice z.AA z.m z.d) ∧ w'.cell? ⟨w.heap.size, 2, none⟩ = some (.int .i64 z.bud) ∧ w'.cell? ⟨w.heap.size, 3, none⟩ = some (.int .i64 z.dep)) ((((w2.setCell ⟨W0.heap.size, 0, none⟩ (.int .i64 (evalR (fns L) xs z.bud z.dep 3000).v)).setCell ⟨W0.heap.size, 1, none⟩ (.int .i64 (evalR (fns L) xs z.bud z.dep 3000).f)).setCell ⟨W0.heap.size, 2, none⟩ (.slice tA (evalR (fns L) xs z.bud z.dep 3000).told.length tc)).setCell ⟨W0.heap.size, 3, none⟩ (.slice lA (evalR (fns L) xs z.bud z.dep 3000).log.length lc)) := ⟨hFs.held HS.1 (by show ¬ w.heap.size = _; omega), hFs.held HS.2.1 (by show ¬ w.heap.size = _; omega), hFs.held HS.2.2.1 (by show ¬ w.heap.size = _; omega), hFs.held HS.2.2.2 (by show ¬ w.heap.size = _; omega)⟩
          refine hK.out _ _ (fun _ => HS) ?_
          clear hK K
          have hFw : Fr None' w ((((w2.setCell ⟨W0.heap.size, 0, none⟩ (.int .i64 (evalR (fns L) xs z.bud z.dep 3000).v)).setCell ⟨W0.heap.size, 1, none⟩ (.int .i64 (evalR (fns L) xs z.bud z.dep 3000).f)).setCell ⟨W0.heap.size, 2, none⟩ (.slice tA (evalR (fns L) xs z.bud z.dep 3000).told.length tc)).setCell ⟨W0.heap.size, 3, none⟩ (.slice lA (evalR (fns L) xs z.bud z.dep 3000).log.length lc)) := Fr.then F_w2.out hFs (fun i hi => .inr (by omega))
          refine AnyK.one (i := 16) rfl (by kernel_rfl) (fun K hK => ?_)
          go_simp
          refine hK.out _ _ (fun _ => HS) ?_
          clear hK K
          refine AnyK.done (by kernel_rfl) ?_ _
          go_wp2_with fail
          go_meet
          exact ⟨_, tA, tc, lA, lc, _, rfl, rfl, hBs, hRs, hFw, HS⟩
      case rest =>
        obtain ⟨g, tA, tc, lA, lc, base, rfl, rfl, hBl, hRs, hFw, hz0, hz1, hz2, hz3⟩ := hcut
        clear HOF HEV z0 z1 z2 z3 HB0 HF0 HR HA hp hmd
        have r0 : wc.cell? ⟨g, 0, none⟩ = some (.int .i64 (evalR (fns L) xs z.bud z.dep 3000).v) := by rw [hBl.cell]; rfl
        have r1 : wc.cell? ⟨g, 1, none⟩ = some (.int .i64 (evalR (fns L) xs z.bud z.dep 3000).f) := by rw [hBl.cell]; rfl
        have r3 : wc.cell? ⟨g, 3, none⟩ = some (.slice lA (evalR (fns L) xs z.bud z.dep 3000).log.length lc) := by rw [hBl.cell]; rfl
        have HFw := Lib.hid hFw
        have HLF := Lib.hid (fun h0 => hRs.log_form h0)
        have hmx := hRs.log_max
        unfold maxLen at hmx
        clear hBl hRs hFw
        by_cases he : (evalR (fns L) xs z.bud z.dep 3000).e = 0
        · have hb := evalR_bound (by decide) he
          obtain ⟨hlim, _, _, _, hlog, hfv⟩ := evalR_ok he
          obtain ⟨log, hlg⟩ : ∃ log, log = (evalR (fns L) xs z.bud z.dep 3000).log := ⟨_, rfl⟩
          obtain ⟨v, hv⟩ : ∃ v, v = (evalR (fns L) xs z.bud z.dep 3000).v := ⟨_, rfl⟩
          obtain ⟨f, hf⟩ : ∃ f, f = (evalR (fns L) xs z.bud z.dep 3000).f := ⟨_, rfl⟩
          obtain ⟨e, hee⟩ : ∃ e, e = (evalR (fns L) xs z.bud z.dep 3000).e := ⟨_, rfl⟩
          rw [← hlg] at hlog r3 HLF hmx
          rw [← hv] at hfv r0
          rw [← hf] at hfv r1
          rw [← hee] at he ⊢
          have hin : InB z.bud z.dep log := hlog ▸ hb.inb
          have hrise : (log.map Prod.fst).Pairwise (· < ·) := hlog ▸ hb.rise
          have hroot : [[]] <+: log.map Prod.fst := hlog ▸ hb.root
          have hnn : Nng log := hlog ▸ runF_nng (fns L) z.bud z.dep 3000 _ _
          have hall : sumS log ≤ 3000 := by
            have h1 := hb.all
            have h2 := hb.nonneg
            rw [← hlog] at h1
            omega
          subst he
          clear hb hlog hlg hv hf hee
          obtain ⟨s0, l', hl'⟩ : ∃ s0 l', log = ([], s0) :: l' := by
            cases log with
            | nil => obtain ⟨t, ht⟩ := hroot; cases ht
            | cons x l' =>
              obtain ⟨t, ht⟩ := hroot
              obtain ⟨p, s⟩ := x
              simp at ht
              exact ⟨s, l', by rw [ht.1]⟩
          have hlen : 0 < log.length := by rw [hl']; simp
          have HL' := Lib.hid hl'
          clear hl'
          obtain ⟨lg, lc', hq, llt, lcell⟩ := HLF.out hlen
          cases hq
          have HLC := Lib.hid lcell
          have HIN := Lib.hid hin
          have HRI := Lib.hid hrise
          have HNN := Lib.hid hnn
          clear lcell hin hrise hroot HLF hnn
          go_wp2_with fail
          go_loopw [5, 6] (fun nv iv wx => ∃ k : Nat, k ≤ log.length ∧ iv = .int .i64 k ∧ nv = .int .i64 (sumS (log.take k)) ∧ ∃ q, wx = wc.drewN q) (fun _ iv _ => log.length - (intOf iv).toNat)
          case atStart => exact ⟨0, by omega, rfl, rfl, 0, rfl⟩
          case round =>
            obtain ⟨k, hk, rfl, rfl, q, rfl⟩ := hrel
            by_cases hkl : k < log.length
            · obtain ⟨⟨p, s⟩, hps⟩ : ∃ x, log[k]? = some x := ⟨_, List.getElem?_eq_getElem hkl⟩
              have hki : (k : Int) < (log.length : Int) := by omega
              obtain ⟨A, ac, l0, l1, hpi⟩ := HLC.out k p s hps
              have hib := HIN.out (p, s) (List.mem_of_getElem? hps)
              have hs1 := sumS_take HNN.out k
              have hs2 := sumS_take HNN.out (k + 1)
              have hst := sumS_step hps
              have g1 : decide (z.bud < s) = false := decide_eq_false (by have h2 : s ≤ z.bud := hib.1; omega)
              have g2 : decide (z.dep < (p.length : Int)) = false := decide_eq_false (by have h2 : (p.length : Int) ≤ z.dep := hib.2; omega)
              have HPI := Lib.hid hpi
              have HST := Lib.hid hst
              have hpl : p.length ≤ 30 := by have h2 : (p.length : Int) ≤ z.dep := hib.2; omega
              obtain ⟨T, hTT⟩ : ∃ T, T = sumS (log.take k) := ⟨_, rfl⟩
              rw [← hTT] at hs1 HST ⊢
              rw [HST.out] at hs2
              have hw : wrap64 (T + s) = T + s := by unfold wrap64; omega
              clear hpi hst hib hTT
              cases k with
              | zero =>
                clear hps
                go_wp2_with fail
                go_quiet (fail)
                go_wp2_with fail
                exact ⟨⟨1, by omega, by go_num, by rw [HST.out], _, by first | exact rfl | rw [World.drewN_drewN]⟩, by simp [intOf]; omega⟩
              | succ k =>
                obtain ⟨⟨p', s'⟩, hps'⟩ : ∃ x, log[k]? = some x := ⟨_, List.getElem?_eq_getElem (by omega)⟩
                obtain ⟨A', ac', m0, m1, hpi'⟩ := HLC.out k p' s' hps'
                have hib' := HIN.out (p', s') (List.mem_of_getElem? hps')
                have hpl' : p'.length ≤ 30 := by have h2 : (p'.length : Int) ≤ z.dep := hib'.2; omega
                have hcm : cmpL p' p = -1 := cmpL_lt (rise_at HRI.out hps' hps)
                have HCM : Hid (∀ n, Calls Tryd.prog 19 #[.slice A' p'.length ac', .slice A p.length ac] (wc.drewN (q + n)) fun e w' => e = .returned (.int .i64 (-1)) ∧ ∃ m, w' = wc.drewN (q + m)) := Lib.hid (fun n => by
                  rw [← hcm]
                  refine (rcmp_any _ A' ac' p' p'.length (hpi'.ints.fr ((Fr.refl None' wc).drewN (q + n))) A ac p p.length (HPI.out.ints.fr ((Fr.refl None' wc).drewN (q + n))) (by omega) (by omega)).mono ?_
                  rintro e w' ⟨rfl, m, rfl⟩
                  exact ⟨rfl, n + m, by rw [World.drewN_drewN, Nat.add_assoc]⟩)
                clear hpi' hib' hps hps' hcm m1
                obtain ⟨J, hJ⟩ : ∃ J, J = k + 1 := ⟨_, rfl⟩
                rw [← hJ] at l0 l1 HST hk hkl hki ⊢
                have j1 : (0 : Int) < (J : Int) := by omega
                have j2 : (J : Int) - 1 = (k : Int) := by omega
                have j3 : (k : Int) < (log.length : Int) := by omega
                have j4 : wrap64 ((J : Int) - 1) = (k : Int) := by rw [j2]; unfold wrap64; omega
                have j5 : 0 < J := by omega
                have j6 : decide ((0 : Int) < (J : Int)) = true := decide_eq_true j1
                have j7 : decide (0 < J) = true := decide_eq_true j5
                have j8 : IntKind.i64.wrap (k : Int) = k := IntWalk.i64_in _ (by omega)
                have HJ := Lib.hid hJ
                clear hJ
                go_wp2_with fail
                go_quiet ((exact HCM.out _))
                go_wp2_with fail
                exact ⟨⟨J + 1, by omega, by go_num, by rw [HST.out], _, by first | exact rfl | rw [World.drewN_drewN]⟩, by simp [intOf]; omega⟩
            · obtain rfl : k = log.length := by omega
              have hall' : sumS (log.take log.length) ≤ 3000 := by rw [List.take_length]; exact hall
              obtain ⟨T, hTT⟩ : ∃ T, T = sumS (log.take log.length) := ⟨_, rfl⟩
              rw [← hTT] at hall' ⊢
              obtain ⟨A, ac, l0, l1, -⟩ := HLC.out 0 [] s0 (by rw [HL'.out]; rfl)
              have g1 : (1 : Int) ≤ (log.length : Int) := by omega
              have HFz : Fr None' w (wc.drewN q) := HFw.out.drewN q
              clear hTT
              by_cases hf0 : f = 0
              · subst hf0
                go_wp2_with fail
                refine (awake_any _ (HT.out.fr HFz (fun h => h))).mono ?_
                rintro e w3 ⟨rfl, hF3⟩
                have HF3 := Lib.hid (HFz.trans hF3)
                clear hF3
                go_wp2_with fail
                go_ret
                exact ⟨rfl, HF3.out⟩
              · obtain rfl : v = 0 := hfv.resolve_left hf0
                have gf : (f == 0) = false := by simpa using hf0
                go_wp2_with fail
                refine (awake_any _ (HT.out.fr HFz (fun h => h))).mono ?_
                rintro e w3 ⟨rfl, hF3⟩
                have HF3 := Lib.hid (HFz.trans hF3)
                clear hF3
                go_wp2_with fail
                go_ret
                exact ⟨rfl, HF3.out⟩
        · have heb : ((evalR (fns L) xs z.bud z.dep 3000).e != 0) = true := by simpa using he
          go_wp2_with fail
          refine (awake_any _ (HT.out.fr HFw.out (fun h => h))).mono ?_
          rintro e w3 ⟨rfl, hF3⟩
          have HF3 := Lib.hid (HFw.out.trans hF3)
          clear hF3
          go_wp2_with fail
          go_ret
          exact ⟨rfl, HF3.out⟩

theorem walked {w : World} (z : JobV) (hz : JobAt w z) (hT : FieldsAt w) :
    Calls Tryd.prog 4 #[z.val] w fun e w' => e = .returned (.bool true) ∧ Below w.heap.size w w' := by
  obtain ⟨⟨L, hL, hR⟩, xs, hxl, hA⟩ := hz
  exact (walk w hT z L hL hR xs hxl hA).mono fun _ _ ⟨he, hF⟩ => ⟨he, hF.below (Nat.le_refl _) (fun _ h => h.elim)⟩

set_option maxRecDepth 100000 in
theorem lifted (os : Os) (started : os.Started) (H : Type) (enc : TypeId × Value → H) :
    ReturnsInHanded {} Tryd.checked os 4 .any (fun w args => (Rows.evalBoundsSpec.pre enc Tryd.prog Tryd.f4 [] false w args ∧ laidMetH Tryd.prog laidN w) ∧ sizedMet enc Tryd.prog Tryd.f4 (OpenSpec.ofChange Rows.evalBoundsSpec) false w args)
      (Rows.evalBoundsSpec.post enc Tryd.prog Tryd.f4 false true false false) := by
  refine returnsInHanded_of_change_and (C := Tryd.checked) (X := fun w _ => laidMetH Tryd.prog laidN w) (fun _ _ _ hh h => h.of_heap hh) own started (by kernel_rfl) Tryd.func4
    (ChangeSpec.witness_shaped (enc := enc) (C := Tryd.checked) (os := os) (X := fun w _ => laidMetH Tryd.prog laidN w) false (World.doorLaid Tryd.prog 400 os) #[.agg #[.slice none 0 0, .slice none 0 0, .int .i64 0, .int .i64 0]] 8 rfl (World.shaped_of_RefB (by kernel_rfl) (by kernel_rfl)) (by kernel_rfl) (by kernel_rfl) (by kernel_rfl) (door_met os _)) ?_
  intro W base args ds gs before hval0 hW _ _ hL _
  have hval : ∀ (j : Nat) t v, Tryd.f4.params[j]? = some t → args[j]? = some v → Value.okWide Tryd.prog W .any base t v := hval0
  have hW' := hW
  obtain ⟨p, q, hA0, hV, rfl, hfz, hnd⟩ := hW
  have hA : DataW.TrodAll enc Tryd.prog W 0 (fun _ => true) true Tryd.f4.params.toList args.toList ds p := hA0
  rw [Tryd.params4] at hA hval
  obtain ⟨v0, vs0, d0, ds0, p0, q0, hargs, rfl, rfl, h0, r0⟩ := trodAll_cons hA
  obtain ⟨rfl, rfl, rfl⟩ := trodAll_nil r0
  obtain rfl : args = #[v0] := by cases args; simp_all
  obtain ⟨rfl, rfl⟩ := trodVars_none hV
  have k0 := h0
  have lt0 : ∀ x ∈ p0, x.block < W.heap.size := by obtain ⟨m, hm⟩ := k0; exact DataW.trod_lt m _ _ _ hm
  obtain ⟨z0, rfl, w0⟩ := open_job (hval 0 25 v0 rfl rfl) h0
  clear hA0 hval0
  refine (walked (w := W) z0 w0 (of_laid hL)).mono fun e W' ⟨he, bel⟩ => ?_
  subst he
  exact ⟨_, rfl, _, _, _, [], _, [], hW', trodAll_mk1 (shut_bool Tryd.underlying4 _), (trodAll_cons_mk (Below.trod laidOut (by kernel_rfl) (of_decide_eq_true (by kernel_rfl)) k0 bel lt0) trodAll_mk0), rfl, bel.frame _, fun h => by cases h⟩

theorem over : Rows.EvalBoundsSaid :=
  OpenClaim.holds_of_wide 4 Tryd.f4 rfl rfl rfl rfl rfl rfl rfl ⟨rfl, rfl, rfl, rfl, rfl⟩ rfl rfl rfl rfl rfl (by kernel_rfl) Tryd.func4 (by kernel_rfl)
    (of_decide_eq_true (by kernel_rfl)) (by unfold Func.isWrapper; first | (rw [if_pos (by decide +kernel)]; kernel_rfl) | (rw [if_neg (by decide +kernel)]; exact ⟨rfl, rfl⟩))
    (fun os started H enc _ => lifted os started H enc)

/-- The statement: the row, and what it lists tied to the program's text. -/
theorem proved : Rows.EvalBoundsCardSaid :=
  Claim7.holds_tied_plain_at .later [] [.data] true (true, "4aa17e3d60f3d84dd4c16a934e022370534363df738d391e78b403ada7e39e40") true
    over (fun _ h => by cases h) (by kernel_rfl) (fun _ h => by cases h) evalBounds_row_tie rfl ⟨rfl, rfl⟩ (by kernel_rfl) rfl
    (fun f fn hf hfn => by
      obtain rfl : f = 4 := Option.some.inj ((show Tryd.prog.funcNamed "haymow/haymowlaw06.EvalBounds" = some 4 by kernel_rfl).symm.trans hf) |>.symm
      obtain rfl : fn = Tryd.f4 := (Option.some.inj (Tryd.func4.symm.trans hfn)).symm
      exact ⟨by kernel_rfl, fun j t ht => by
        rw [Tryd.params4] at ht
        match j, ht with
        | 0, ht =>
          obtain rfl : t = 25 := by simpa using ht.symm
          exact (show Tryd.prog.wantsStandIn 25 = false by kernel_rfl)
        | j + 1, ht => simp at ht⟩)
    (by kernel_rfl)
#print axioms proved
end Go.Proofs.YtbhnnnpofindiaaDoor.evalBounds
