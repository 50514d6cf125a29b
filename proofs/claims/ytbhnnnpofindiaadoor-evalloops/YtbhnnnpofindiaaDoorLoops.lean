/-
  haymowlaw06.EvalLoops returns true for every number and budget, with the table of fields as it was laid.
-/
import Derived.Test.YtbhnnnpofindiaaDoorLits
import Derived.Test.YtbhnnnpofindiaaDoorLaidV
import Derived.Test.YtbhnnnpofindiaaDoorTie
import Derived.Test.YtbhnnnpofindiaaDoorCards
import Derived.ShutString
import Derived.ChangeOld
import Derived.SevenTiedAt
namespace Go.Proofs.YtbhnnnpofindiaaDoor.evalLoops
open Go.ChangeShapes Go.WideShapes Go.ChangeAt Go.RowKit
open Go.ChangeMaps (open_string shut_string)

theorem prog_ok (b : Int) (h1 : 1 ≤ b) (h2 : b ≤ 1000) : rightB loopP 1 b 0 = true := by
  have h : limB b 0 = true := by unfold limB; exact decide_eq_true (by omega)
  unfold rightB
  rw [h]
  show _ = _
  kernel_rfl

theorem val (k : Nat) (hk : k < 100) (b : Int) (h1 : 1 ≤ b) (h2 : b ≤ 1000) :
    (5 * (k : Int) + 2 ≤ b → evalR loopP [(k : Int)] b 0 2000 = ⟨0, 0, downs k, [([], 5 * (k : Int) + 2)], 0⟩) ∧
    (b < 5 * (k : Int) + 2 → ∃ T, T.length ≤ k ∧ evalR loopP [(k : Int)] b 0 2000 = ⟨0, 3, T, [([], b)], 0⟩) := by
  have hb : begun loopP [(k : Int)] b 0 2000 = run loopP b 0 2001 loopC [] 0 (lst 0 k 0) (lsh 2000 [] 0) := rfl
  have hl := loop_any b k (by omega) 2001 2000 0 0 [] (by omega) (by omega) (by omega)
  rw [evalR_begun (show rightB loopP [(k : Int)].length b 0 = true from prog_ok b h1 h2), hb]
  refine ⟨fun h => ?_, fun h => ?_⟩
  · rw [hl.1 (by omega), Int.zero_add, List.nil_append]
    rfl
  · obtain ⟨T, l, h3, h4⟩ := hl.2 (by omega)
    rw [h3]
    exact ⟨T, by simpa using h4, rfl⟩

set_option maxHeartbeats 8000000 in
set_option maxRecDepth 100000 in
theorem walk (w : World) (hT : FieldsAt w) (x y k c : Nat) (hx : (wrap64 (x : Int)).tmod 100 = k) (hy : (wrap64 (y : Int)).tmod 1000 = c) (hk : k < 100) (hc : c < 1000) :
    Calls Tryd.prog 7 #[.int .u8 x, .int .u16 y] w fun e w' => e = .returned (.bool true) ∧ Fr None' w w' := by
  have hval := val k hk ((c : Int) + 1) (by omega) (by omega)
  have hb1 := Blk.new w 55 (loopC.flatMap Ins.cells).toArray
  have hb2 := Blk.new (w.alloc (.cells (loopC.flatMap Ins.cells).toArray 55)) 58 #[.int .i64 1, .slice (some ⟨w.heap.size, 0, none⟩) 6 6]
  have hb3 := Blk.new ((w.alloc (.cells (loopC.flatMap Ins.cells).toArray 55)).alloc (.cells #[.int .i64 1, .slice (some ⟨w.heap.size, 0, none⟩) 6 6] 58)) 2 #[.int .i64 k]
  rw [sz] at hb2
  rw [sz, sz] at hb3
  have hc1 := (hb1.alloc (.cells #[.int .i64 1, .slice (some ⟨w.heap.size, 0, none⟩) 6 6] 58)).alloc (.cells #[.int .i64 k] 2)
  have hc2 := hb2.alloc (.cells #[.int .i64 k] 2)
  have hF0 : Fr None' w (((w.alloc (.cells (loopC.flatMap Ins.cells).toArray 55)).alloc (.cells #[.int .i64 1, .slice (some ⟨w.heap.size, 0, none⟩) 6 6] 58)).alloc (.cells #[.int .i64 k] 2)) := (((Fr.refl _ _).alloc _).alloc _).alloc _
  have hrow := fn_row (L := [⟨⟨1, loopC⟩, some ⟨w.heap.size, 0, none⟩, 6⟩]) hc2 (fun y hy => by rw [List.mem_singleton.1 hy]; exact ins_row hc1)
  have hev := eval_any _ _ 1 _ hrow (hT.fr hF0 (fun h => h)) (by simp) _ [(k : Int)] 1 (ints_row (xs := [(k : Int)]) hb3) (by simp) ((c : Int) + 1) 0 2000 (by decide)
  rw [show fns [(⟨⟨1, loopC⟩, some ⟨w.heap.size, 0, none⟩, 6⟩ : LFn)] = loopP from rfl] at hev
  have HF0 := Lib.hid hF0
  have HT := Lib.hid hT
  clear hb1 hb2 hb3 hc1 hc2 hrow hF0 hT
  by_cases hlt : (c : Int) + 1 < 5 * (k : Int) + 2
  · obtain ⟨T, hTl, hv⟩ := hval.2 hlt
    rw [hv] at hev
    have HEV := Lib.hid hev
    clear hval hv hev
    go_enter Tryd.func7, Tryd.ntmps7
    go_wp2_with fail

    refine HEV.out.mono ?_
    rintro e w1 ⟨tv, lv, rfl, hres, hF1⟩
    obtain ⟨tA, tc, rfl⟩ := own_slice hres.1
    obtain ⟨lg, lc, rfl, llt, lcell⟩ := hres.log_form (by simp)
    obtain ⟨A0, k0, l0, l1, _⟩ := lcell 0 _ _ rfl
    rw [← World.cell?_alloc_lt w1 (.cells #[.int .i64 0, .int .i64 3, .slice tA T.length tc, .slice (some ⟨lg, 0, none⟩) 1 lc] 30) ⟨lg, 0 * 2 + 1, none⟩ llt] at l1
    have HF1 := Lib.hid (HF0.out.trans hF1)
    clear hres hF1 lcell HEV HF0 l0
    have g1 : (T.length : Int) ≤ (k : Int) := by omega
    have q1 : ((c : Int) + 1 == (c : Int) + 1) = true := by simp
    go_wp2_with fail
    refine (awake_any _ (HT.out.fr (HF1.out.alloc _) (fun h => h))).mono ?_
    rintro e w3 ⟨rfl, hF3⟩
    have HF3 := Lib.hid ((HF1.out.alloc _).trans hF3)
    clear hF3
    go_wp2_with fail
    go_ret
    exact ⟨rfl, HF3.out⟩
  · have hv := hval.1 (by omega)
    rw [hv] at hev
    have HEV := Lib.hid hev
    clear hval hv hev
    go_enter Tryd.func7, Tryd.ntmps7
    go_wp2_with fail
    refine HEV.out.mono ?_
    rintro e w1 ⟨tv, lv, rfl, hres, hF1⟩
    obtain ⟨tA, tc, htv⟩ := own_slice hres.1
    obtain ⟨lg, lc, rfl, llt, lcell⟩ := hres.log_form (by simp)
    obtain ⟨A0, k0, l0, l1, _⟩ := lcell 0 _ _ rfl
    have TF := Lib.hid (fun h0 => hres.told_form h0)
    rw [downs_len] at htv
    subst htv
    rw [← World.cell?_alloc_lt w1 (.cells #[.int .i64 0, .int .i64 0, .slice tA k tc, .slice (some ⟨lg, 0, none⟩) 1 lc] 30) ⟨lg, 0 * 2 + 1, none⟩ llt] at l1
    have HF1 := Lib.hid (HF0.out.trans hF1)
    clear hres hF1 lcell HEV HF0 l0 hx hy
    go_wp2_with fail
    go_loopw [11] (fun i wx => ∃ j : Nat, j ≤ k ∧ i = .int .i64 j ∧ wx = w1.alloc (.cells #[.int .i64 0, .int .i64 0, .slice tA k tc, .slice (some ⟨lg, 0, none⟩) 1 lc] 30)) (fun i _ => k - (intOf i).toNat)
    case atStart => exact ⟨0, by omega, rfl, rfl⟩
    case round =>
      obtain ⟨j, hj, rfl, rfl⟩ := hrel
      by_cases hjk : j < k
      · have hji : (j : Int) < (k : Int) := by omega
        obtain ⟨tg, tc', hq, tlt, tcell⟩ := TF.out (by rw [downs_len]; omega)
        rw [downs_len] at hq
        cases hq
        have t0 := tcell j _ (downs_at k j hjk)
        rw [← World.cell?_alloc_lt w1 (.cells #[.int .i64 0, .int .i64 0, .slice (some ⟨tg, 0, none⟩) k tc, .slice (some ⟨lg, 0, none⟩) 1 lc] 30) ⟨tg, j, none⟩ tlt] at t0
        have q1 : ((k : Int) - (j : Int) != (k : Int) - (j : Int)) = false := by simp
        clear tcell
        go_wp2_with fail
        exact ⟨⟨j + 1, by omega, by go_num, trivial⟩, by simp [intOf]; omega⟩
      · obtain rfl : j = k := by omega
        have q1 : (5 * (j : Int) + 2 == 5 * (j : Int) + 2) = true := by simp
        have q2 : ((j : Int) == (j : Int)) = true := by simp
        go_wp2_with fail
        refine (awake_any _ (HT.out.fr (HF1.out.alloc _) (fun h => h))).mono ?_
        rintro e w3 ⟨rfl, hF3⟩
        have HF3 := Lib.hid ((HF1.out.alloc _).trans hF3)
        clear hF3
        go_wp2_with fail
        go_ret
        exact ⟨rfl, HF3.out⟩

theorem walked (x : Int) (hx : (Lit.int .u8 x).wf = true) (y : Int) (hy : (Lit.int .u16 y).wf = true) (w : World) (hT : FieldsAt w) :
    Calls Tryd.prog 7 #[.int .u8 x, .int .u16 y] w fun e w' => e = .returned (.bool true) ∧ Below w.heap.size w w' := by
  obtain ⟨x, k, rfl, h1, h2⟩ := rem_u8 x hx 100 (by decide)
  obtain ⟨y, c, rfl, h3, h4⟩ := rem_u16 y hy 1000 (by decide)
  exact (walk w hT x y k c h1 h3 h2 h4).mono fun _ _ ⟨he, hF⟩ => ⟨he, hF.below (Nat.le_refl _) (fun _ h => h.elim)⟩

set_option maxRecDepth 100000 in
theorem lifted (os : Os) (started : os.Started) (H : Type) (enc : TypeId × Value → H) :
    ReturnsInHanded {} Tryd.checked os 7 .any (fun w args => (Rows.evalLoopsSpec.pre enc Tryd.prog Tryd.f7 [] false w args ∧ laidMetH Tryd.prog laidN w) ∧ sizedMet enc Tryd.prog Tryd.f7 (OpenSpec.ofChange Rows.evalLoopsSpec) false w args)
      (Rows.evalLoopsSpec.post enc Tryd.prog Tryd.f7 false true false false) := by
  refine returnsInHanded_of_change_and (C := Tryd.checked) (X := fun w _ => laidMetH Tryd.prog laidN w) (fun _ _ _ hh h => h.of_heap hh) own started (by kernel_rfl) Tryd.func7
    (ChangeSpec.witness_shaped (enc := enc) (C := Tryd.checked) (os := os) (X := fun w _ => laidMetH Tryd.prog laidN w) false (World.doorLaid Tryd.prog 400 os) #[.int .u8 0, .int .u16 0] 8 rfl (World.shaped_of_RefB (by kernel_rfl) (by kernel_rfl)) (by kernel_rfl) (by kernel_rfl) (by kernel_rfl) (door_met os _)) ?_
  intro W base args ds gs before hval0 hW _ _ hL _
  have hval : ∀ (j : Nat) t v, Tryd.f7.params[j]? = some t → args[j]? = some v → Value.okWide Tryd.prog W .any base t v := hval0
  have hW' := hW
  obtain ⟨p, q, hA0, hV, rfl, hfz, hnd⟩ := hW
  have hA : DataW.TrodAll enc Tryd.prog W 0 (fun _ => true) true Tryd.f7.params.toList args.toList ds p := hA0
  rw [Tryd.params7] at hA hval
  obtain ⟨v0, vs0, d0, ds0, p0, q0, hargs, rfl, rfl, h0, r0⟩ := trodAll_cons hA
  obtain ⟨v1, vs1, d1, ds1, p1, q1, rfl, rfl, rfl, h1, r1⟩ := trodAll_cons r0
  obtain ⟨rfl, rfl, rfl⟩ := trodAll_nil r1
  obtain rfl : args = #[v0, v1] := by cases args; simp_all
  obtain ⟨rfl, rfl⟩ := trodVars_none hV
  obtain ⟨a0, rfl, rfl, rfl, w0⟩ := open_int Tryd.underlying5 (hval 0 5 v0 rfl rfl) h0
  obtain ⟨a1, rfl, rfl, rfl, w1⟩ := open_int Tryd.underlying26 (hval 1 26 v1 rfl rfl) h1
  clear hA0 hval0
  refine (walked a0 w0 a1 w1 W (of_laid hL)).mono fun e W' ⟨he, bel⟩ => ?_
  subst he
  exact ⟨_, rfl, _, _, _, [], _, [], hW', trodAll_mk1 (shut_bool Tryd.underlying4 _), (trodAll_cons_mk (shut_int Tryd.underlying5 w0) (trodAll_cons_mk (shut_int Tryd.underlying26 w1) trodAll_mk0)), rfl, bel.frame _, fun h => by cases h⟩

theorem over : Rows.EvalLoopsSaid :=
  OpenClaim.holds_of_wide 7 Tryd.f7 rfl rfl rfl rfl rfl rfl rfl ⟨rfl, rfl, rfl, rfl, rfl⟩ rfl rfl rfl rfl rfl (by kernel_rfl) Tryd.func7 (by kernel_rfl)
    (of_decide_eq_true (by kernel_rfl)) (by unfold Func.isWrapper; first | (rw [if_pos (by decide +kernel)]; kernel_rfl) | (rw [if_neg (by decide +kernel)]; exact ⟨rfl, rfl⟩))
    (fun os started H enc _ => lifted os started H enc)

/-- The statement: the row, and what it lists tied to the program's text. -/
theorem proved : Rows.EvalLoopsCardSaid :=
  Claim7.holds_tied_plain_at .later [] [.data] true (true, "4aa17e3d60f3d84dd4c16a934e022370534363df738d391e78b403ada7e39e40") true
    over (fun _ h => by cases h) (by kernel_rfl) (fun _ h => by cases h) evalLoops_row_tie rfl ⟨rfl, rfl⟩ (by kernel_rfl) rfl
    (fun f fn hf hfn => by
      obtain rfl : f = 7 := Option.some.inj ((show Tryd.prog.funcNamed "haymow/haymowlaw06.EvalLoops" = some 7 by kernel_rfl).symm.trans hf) |>.symm
      obtain rfl : fn = Tryd.f7 := (Option.some.inj (Tryd.func7.symm.trans hfn)).symm
      exact ⟨by kernel_rfl, fun j t ht => by
        rw [Tryd.params7] at ht
        match j, ht with
        | 0, ht =>
          obtain rfl : t = 5 := by simpa using ht.symm
          exact (show Tryd.prog.wantsStandIn 5 = false by kernel_rfl)
        | 1, ht =>
          obtain rfl : t = 26 := by simpa using ht.symm
          exact (show Tryd.prog.wantsStandIn 26 = false by kernel_rfl)
        | j + 2, ht => simp at ht⟩)
    (by kernel_rfl)
#print axioms proved
end Go.Proofs.YtbhnnnpofindiaaDoor.evalLoops
