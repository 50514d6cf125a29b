/-
  haymowlaw06.EvalTouches returns true for every number, future and order, with the table of fields as it was laid.
-/
import Derived.Test.YtbhnnnpofindiaaDoorLits
import Derived.Test.YtbhnnnpofindiaaDoorLaidV
import Derived.Test.YtbhnnnpofindiaaDoorTie
import Derived.Test.YtbhnnnpofindiaaDoorCards
import Derived.ShutString
import Derived.ChangeOld
import Derived.SevenTiedAt
namespace Go.Proofs.YtbhnnnpofindiaaDoor.evalTouches
open Go.ChangeShapes Go.WideShapes Go.ChangeAt Go.RowKit
open Go.ChangeMaps (open_string shut_string)

theorem prog_ok (h : Nat) (hh : h < 4) (ahead : Bool) : rightB (touchP h ahead) 1 9 1 = true := by
  have : h = 0 ∨ h = 1 ∨ h = 2 ∨ h = 3 := by omega
  rcases this with rfl | rfl | rfl | rfl <;> cases ahead <;> show _ = _ <;> kernel_rfl
theorem val_ahead (h : Nat) (hh : h < 4) (v : Int) : evalR (touchP h true) [v] 9 1 99 = ⟨0, 2, [v], [([], 1), ([0], 2)], 0⟩ := by
  rw [evalR_begun (show rightB (touchP h true) [v].length 9 1 = true from prog_ok h hh true), touch_ahead h hh v]
  rfl
theorem val_behind (h : Nat) (hh : h < 4) (v : Int) : evalR (touchP h false) [v] 9 1 99 = ⟨wrap64 (v + v), 0, [v], [([], 4), ([0], 2), ([1], 3)], 0⟩ := by
  rw [evalR_begun (show rightB (touchP h false) [v].length 9 1 = true from prog_ok h hh false), touch_behind h hh v]
  rfl

set_option maxHeartbeats 8000000 in
set_option maxRecDepth 100000 in
theorem walk_behind (w : World) (hT : FieldsAt w) (v : Int) (hv1 : -2147483648 ≤ v) (hv2 : v ≤ 2147483647) (x h : Nat) (hx : (wrap64 (x : Int)).tmod 4 = h) (hh : h < 4) :
    Calls Tryd.prog 10 #[.int .i32 v, .int .u8 x, .bool false] w fun e w' => e = .returned (.bool true) ∧ Fr None' w w' := by
  obtain ⟨i5, hi5, hz50, hz51, hz52⟩ := info_parts info_ins
  have HT := Lib.hid hT
  clear hT
  go_enter Tryd.func10, Tryd.ntmps10
  go_wp2_with (at_builtin; go_loud (refine wpList_append_lies _ rfl (.tmp 24) (.tmp 27) 56 rfl w.heap.size 55 i5 (.agg #[.int .i64 0, .int .i64 0, .int .i64 0, .int .i64 0, .int .i64 0]) 5 40 Tryd.underlying56 hi5 hz50 hz51 hz52 rfl (by decide) (.slice (some ⟨w.heap.size, 0, none⟩) 2 2) 2 (([⟨13, h, 0, 1, 0⟩, ⟨11, 2, 0, 2, 0⟩] : List Ins).flatMap Ins.cells) rfl (own_fr (World.ownsRow_lit w (([⟨13, h, 0, 1, 0⟩, ⟨11, 2, 0, 2, 0⟩] : List Ins).flatMap Ins.cells).toArray 2 (Nat.le_refl _) (by decide) rfl) ((Fr.refl (fun _ => False) _).alloc _) (fun _ _ h => h)) ⟨w.heap.size + 1, 0, none⟩ 2 2 (([⟨12, 0, 0, 0, 0⟩, ⟨17, 2, 0, 0, 0⟩] : List Ins).flatMap Ins.cells) rfl rfl ?c1 ?c2 (by decide) ?c3 ?c4 ?c5 (w.heap.size + 1 + 1) ?c6 ?_))
  case c1 =>
    intro i u hi
    refine World.news_of_block (cs := (([⟨12, 0, 0, 0, 0⟩, ⟨17, 2, 0, 0, 0⟩] : List Ins).flatMap Ins.cells).toArray) (t := 55) (fr := (0, 0)) ?_ i u hi
    have := heap_alloc_new (w.alloc (.cells (([⟨13, h, 0, 1, 0⟩, ⟨11, 2, 0, 2, 0⟩] : List Ins).flatMap Ins.cells).toArray 55)) (.cells (([⟨12, 0, 0, 0, 0⟩, ⟨17, 2, 0, 0, 0⟩] : List Ins).flatMap Ins.cells).toArray 55)
    rw [sz] at this
    exact this
  case c2 => exact ins_one _
  case c3 => decide
  case c4 => decide
  case c5 => simp; omega
  case c6 => simp
  intro g cap w1 hown1 hg1 _ hlt1
  have hF1 : Fr None' w w1 := (((Fr.refl None' w).alloc _).alloc _).grow hg1 (fun k hk => by cases hk; exact Nat.le_refl _)
  have hr3 := row3 w1 w.heap.size (some ⟨g, 0, none⟩) 4 cap [⟨13, h, 0, 1, 0⟩, ⟨11, 2, 0, 2, 0⟩, ⟨12, 0, 0, 0, 0⟩, ⟨17, 2, 0, 0, 0⟩] [⟨3, 1, 0, 0, 0⟩, ⟨17, 1, 0, 0, 0⟩] [⟨15, 0, 0, 0, 0⟩, ⟨14, 3, h, 0, 0⟩, ⟨17, 3, 0, 0, 0⟩] 2 3 _ _ _ (.int .i64 v) _ hown1 rfl rfl rfl rfl rfl rfl rfl
  have hev := eval_any _ _ 3 _ hr3.1 ((HT.out.fr hF1 (fun h => h)).fr hr3.2.2 (fun h => h)) (by simp) _ [v] 1 (ints_row (xs := [v]) hr3.2.1) (by simp) 9 1 99 (by decide)
  rw [show fns [(⟨⟨1, [⟨13, h, 0, 1, 0⟩, ⟨11, 2, 0, 2, 0⟩, ⟨12, 0, 0, 0, 0⟩, ⟨17, 2, 0, 0, 0⟩]⟩, some ⟨g, 0, none⟩, cap⟩ : LFn), ⟨⟨1, [⟨3, 1, 0, 0, 0⟩, ⟨17, 1, 0, 0, 0⟩]⟩, some ⟨w1.heap.size, 0, none⟩, 2⟩, ⟨⟨1, [⟨15, 0, 0, 0, 0⟩, ⟨14, 3, h, 0, 0⟩, ⟨17, 3, 0, 0, 0⟩]⟩, some ⟨w1.heap.size + 1, 0, none⟩, 3⟩] = touchP h false from rfl, val_behind h hh v] at hev
  have HEV := Lib.hid hev
  have HF0 := Lib.hid (hF1.trans hr3.2.2)
  clear hown1 hg1 hF1 hr3 hev
  go_wp2_with fail
  refine HEV.out.mono ?_
  rintro e w2 ⟨tv, lv, rfl, hres, hF2⟩
  obtain ⟨tg, tc, rfl, tlt, -⟩ := hres.told_form (by simp)
  obtain ⟨lg, lc, rfl, llt, -⟩ := hres.log_form (by simp)
  have HF2 := Lib.hid (HF0.out.trans hF2)
  clear hres hF2 HEV HF0
  have hw1 : wrap64 (v + v) = v + v := by unfold wrap64; omega
  have hw2 : (v + v == 2 * v) = true := by simp; omega
  rw [hw1]
  go_wp2_with fail
  refine (awake_any _ (HT.out.fr (HF2.out.alloc _) (fun h => h))).mono ?_
  rintro e w3 ⟨rfl, hF3⟩
  have HF3 := Lib.hid ((HF2.out.alloc _).trans hF3)
  clear hF3
  go_wp2_with fail
  go_ret
  exact ⟨rfl, HF3.out⟩
/-- A literal behind another one. -/
theorem lit_up (w : World) (h : Nat) : ((w.alloc (.cells (([⟨13, h, 0, 1, 0⟩, ⟨11, 2, 0, 2, 0⟩] : List Ins).flatMap Ins.cells).toArray 55)).alloc (.cells (([⟨11, 2, 0, 2, 0⟩, ⟨13, h, 0, 1, 0⟩] : List Ins).flatMap Ins.cells).toArray 55)).ownsRow w.heap.size 55 5 (.slice (some ⟨w.heap.size + 1, 0, none⟩) 2 2) 2 (([⟨11, 2, 0, 2, 0⟩, ⟨13, h, 0, 1, 0⟩] : List Ins).flatMap Ins.cells) := by
  have := World.ownsRow_lit (base := w.heap.size) (e := 55) (size := 5) (w.alloc (.cells (([⟨13, h, 0, 1, 0⟩, ⟨11, 2, 0, 2, 0⟩] : List Ins).flatMap Ins.cells).toArray 55)) (([⟨11, 2, 0, 2, 0⟩, ⟨13, h, 0, 1, 0⟩] : List Ins).flatMap Ins.cells).toArray 2 (by rw [sz]; omega) (by decide) rfl
  rw [sz] at this
  exact this

set_option maxHeartbeats 8000000 in
set_option maxRecDepth 100000 in
theorem walk_ahead (w : World) (hT : FieldsAt w) (v : Int) (hv1 : -2147483648 ≤ v) (hv2 : v ≤ 2147483647) (x h : Nat) (hx : (wrap64 (x : Int)).tmod 4 = h) (hh : h < 4) :
    Calls Tryd.prog 10 #[.int .i32 v, .int .u8 x, .bool true] w fun e w' => e = .returned (.bool true) ∧ Fr None' w w' := by
  obtain ⟨i5, hi5, hz50, hz51, hz52⟩ := info_parts info_ins
  have HT := Lib.hid hT
  clear hT
  go_enter Tryd.func10, Tryd.ntmps10
  go_wp2_with (at_builtin; go_loud (refine wpList_append_lies _ rfl (.tmp 24) (.tmp 27) 56 rfl w.heap.size 55 i5 (.agg #[.int .i64 0, .int .i64 0, .int .i64 0, .int .i64 0, .int .i64 0]) 5 40 Tryd.underlying56 hi5 hz50 hz51 hz52 rfl (by decide) (.slice (some ⟨w.heap.size + 1, 0, none⟩) 2 2) 2 (([⟨11, 2, 0, 2, 0⟩, ⟨13, h, 0, 1, 0⟩] : List Ins).flatMap Ins.cells) rfl (own_fr (lit_up w h) ((Fr.refl (fun _ => False) _).alloc _) (fun _ _ h => h)) ⟨w.heap.size + 1 + 1, 0, none⟩ 2 2 (([⟨12, 0, 0, 0, 0⟩, ⟨17, 2, 0, 0, 0⟩] : List Ins).flatMap Ins.cells) rfl rfl ?c1 ?c2 (by decide) ?c3 ?c4 ?c5 (w.heap.size + 1 + 1 + 1) ?c6 ?_))
  case c1 =>
    intro i u hi
    refine World.news_of_block (cs := (([⟨12, 0, 0, 0, 0⟩, ⟨17, 2, 0, 0, 0⟩] : List Ins).flatMap Ins.cells).toArray) (t := 55) (fr := (0, 0)) ?_ i u hi
    have := heap_alloc_new ((w.alloc (.cells (([⟨13, h, 0, 1, 0⟩, ⟨11, 2, 0, 2, 0⟩] : List Ins).flatMap Ins.cells).toArray 55)).alloc (.cells (([⟨11, 2, 0, 2, 0⟩, ⟨13, h, 0, 1, 0⟩] : List Ins).flatMap Ins.cells).toArray 55)) (.cells (([⟨12, 0, 0, 0, 0⟩, ⟨17, 2, 0, 0, 0⟩] : List Ins).flatMap Ins.cells).toArray 55)
    rw [sz, sz] at this
    exact this
  case c2 => exact ins_one _
  case c3 => decide
  case c4 => decide
  case c5 => simp; omega
  case c6 => simp
  intro g cap w1 hown1 hg1 _ hlt1
  have hF1 : Fr None' w w1 := ((((Fr.refl None' w).alloc _).alloc _).alloc _).grow hg1 (fun k hk => by cases hk; exact Nat.le_succ _)
  have hr3 := row3 w1 w.heap.size (some ⟨g, 0, none⟩) 4 cap [⟨11, 2, 0, 2, 0⟩, ⟨13, h, 0, 1, 0⟩, ⟨12, 0, 0, 0, 0⟩, ⟨17, 2, 0, 0, 0⟩] [⟨3, 1, 0, 0, 0⟩, ⟨17, 1, 0, 0, 0⟩] [⟨15, 0, 0, 0, 0⟩, ⟨14, 3, h, 0, 0⟩, ⟨17, 3, 0, 0, 0⟩] 2 3 _ _ _ (.int .i64 v) _ hown1 rfl rfl rfl rfl rfl rfl rfl
  have hev := eval_any _ _ 3 _ hr3.1 ((HT.out.fr hF1 (fun h => h)).fr hr3.2.2 (fun h => h)) (by simp) _ [v] 1 (ints_row (xs := [v]) hr3.2.1) (by simp) 9 1 99 (by decide)
  rw [show fns [(⟨⟨1, [⟨11, 2, 0, 2, 0⟩, ⟨13, h, 0, 1, 0⟩, ⟨12, 0, 0, 0, 0⟩, ⟨17, 2, 0, 0, 0⟩]⟩, some ⟨g, 0, none⟩, cap⟩ : LFn), ⟨⟨1, [⟨3, 1, 0, 0, 0⟩, ⟨17, 1, 0, 0, 0⟩]⟩, some ⟨w1.heap.size, 0, none⟩, 2⟩, ⟨⟨1, [⟨15, 0, 0, 0, 0⟩, ⟨14, 3, h, 0, 0⟩, ⟨17, 3, 0, 0, 0⟩]⟩, some ⟨w1.heap.size + 1, 0, none⟩, 3⟩] = touchP h true from rfl, val_ahead h hh v] at hev
  have HEV := Lib.hid hev
  have HF0 := Lib.hid (hF1.trans hr3.2.2)
  clear hown1 hg1 hF1 hr3 hev
  go_wp2_with fail
  refine HEV.out.mono ?_
  rintro e w2 ⟨tv, lv, rfl, hres, hF2⟩
  obtain ⟨tg, tc, rfl, tlt, -⟩ := hres.told_form (by simp)
  obtain ⟨lg, lc, rfl, llt, -⟩ := hres.log_form (by simp)
  have HF2 := Lib.hid (HF0.out.trans hF2)
  clear hres hF2 HEV HF0
  go_wp2_with fail
  refine (awake_any _ (HT.out.fr (HF2.out.alloc _) (fun h => h))).mono ?_
  rintro e w3 ⟨rfl, hF3⟩
  have HF3 := Lib.hid ((HF2.out.alloc _).trans hF3)
  clear hF3
  go_wp2_with fail
  go_ret
  exact ⟨rfl, HF3.out⟩

theorem walked (v : Int) (hv : (Lit.int .i32 v).wf = true) (x : Int) (hx : (Lit.int .u8 x).wf = true) (b : Bool) (w : World) (hT : FieldsAt w) :
    Calls Tryd.prog 10 #[.int .i32 v, .int .u8 x, .bool b] w fun e w' => e = .returned (.bool true) ∧ Below w.heap.size w w' := by
  obtain ⟨y, d, rfl, h1, h2⟩ := rem_u8 x hx 4 (by decide)
  have hb := bounds_i32 hv
  cases b
  · exact (walk_behind w hT v (by omega) (by omega) y d h1 h2).mono fun _ _ ⟨he, hF⟩ => ⟨he, hF.below (Nat.le_refl _) (fun _ h => h.elim)⟩
  · exact (walk_ahead w hT v (by omega) (by omega) y d h1 h2).mono fun _ _ ⟨he, hF⟩ => ⟨he, hF.below (Nat.le_refl _) (fun _ h => h.elim)⟩

set_option maxRecDepth 100000 in
theorem lifted (os : Os) (started : os.Started) (H : Type) (enc : TypeId × Value → H) :
    ReturnsInHanded {} Tryd.checked os 10 .any (fun w args => (Rows.evalTouchesSpec.pre enc Tryd.prog Tryd.f10 [] false w args ∧ laidMetH Tryd.prog laidN w) ∧ sizedMet enc Tryd.prog Tryd.f10 (OpenSpec.ofChange Rows.evalTouchesSpec) false w args)
      (Rows.evalTouchesSpec.post enc Tryd.prog Tryd.f10 false true false false) := by
  refine returnsInHanded_of_change_and (C := Tryd.checked) (X := fun w _ => laidMetH Tryd.prog laidN w) (fun _ _ _ hh h => h.of_heap hh) own started (by kernel_rfl) Tryd.func10
    (ChangeSpec.witness_shaped (enc := enc) (C := Tryd.checked) (os := os) (X := fun w _ => laidMetH Tryd.prog laidN w) false (World.doorLaid Tryd.prog 400 os) #[.int .i32 0, .int .u8 0, .bool false] 8 rfl (World.shaped_of_RefB (by kernel_rfl) (by kernel_rfl)) (by kernel_rfl) (by kernel_rfl) (by kernel_rfl) (door_met os _)) ?_
  intro W base args ds gs before hval0 hW _ _ hL _
  have hval : ∀ (j : Nat) t v, Tryd.f10.params[j]? = some t → args[j]? = some v → Value.okWide Tryd.prog W .any base t v := hval0
  have hW' := hW
  obtain ⟨p, q, hA0, hV, rfl, hfz, hnd⟩ := hW
  have hA : DataW.TrodAll enc Tryd.prog W 0 (fun _ => true) true Tryd.f10.params.toList args.toList ds p := hA0
  rw [Tryd.params10] at hA hval
  obtain ⟨v0, vs0, d0, ds0, p0, q0, hargs, rfl, rfl, h0, r0⟩ := trodAll_cons hA
  obtain ⟨v1, vs1, d1, ds1, p1, q1, rfl, rfl, rfl, h1, r1⟩ := trodAll_cons r0
  obtain ⟨v2, vs2, d2, ds2, p2, q2, rfl, rfl, rfl, h2, r2⟩ := trodAll_cons r1
  obtain ⟨rfl, rfl, rfl⟩ := trodAll_nil r2
  obtain rfl : args = #[v0, v1, v2] := by cases args; simp_all
  obtain ⟨rfl, rfl⟩ := trodVars_none hV
  obtain ⟨a0, rfl, rfl, rfl, w0⟩ := open_int Tryd.underlying21 (hval 0 21 v0 rfl rfl) h0
  obtain ⟨a1, rfl, rfl, rfl, w1⟩ := open_int Tryd.underlying5 (hval 1 5 v1 rfl rfl) h1
  obtain ⟨a2, rfl, rfl, rfl⟩ := open_bool Tryd.underlying4 (hval 2 4 v2 rfl rfl) h2
  clear hA0 hval0
  refine (walked a0 w0 a1 w1 a2 W (of_laid hL)).mono fun e W' ⟨he, bel⟩ => ?_
  subst he
  exact ⟨_, rfl, _, _, _, [], _, [], hW', trodAll_mk1 (shut_bool Tryd.underlying4 _), (trodAll_cons_mk (shut_int Tryd.underlying21 w0) (trodAll_cons_mk (shut_int Tryd.underlying5 w1) (trodAll_cons_mk (shut_bool Tryd.underlying4 _) trodAll_mk0))), rfl, bel.frame _, fun h => by cases h⟩

theorem over : Rows.EvalTouchesSaid :=
  OpenClaim.holds_of_wide 10 Tryd.f10 rfl rfl rfl rfl rfl rfl rfl ⟨rfl, rfl, rfl, rfl, rfl⟩ rfl rfl rfl rfl rfl (by kernel_rfl) Tryd.func10 (by kernel_rfl)
    (of_decide_eq_true (by kernel_rfl)) (by unfold Func.isWrapper; first | (rw [if_pos (by decide +kernel)]; kernel_rfl) | (rw [if_neg (by decide +kernel)]; exact ⟨rfl, rfl⟩))
    (fun os started H enc _ => lifted os started H enc)

/-- The statement: the row, and what it lists tied to the program's text. -/
theorem proved : Rows.EvalTouchesCardSaid :=
  Claim7.holds_tied_plain_at .later [] [.data] true (true, "4aa17e3d60f3d84dd4c16a934e022370534363df738d391e78b403ada7e39e40") true
    over (fun _ h => by cases h) (by kernel_rfl) (fun _ h => by cases h) evalTouches_row_tie rfl ⟨rfl, rfl⟩ (by kernel_rfl) rfl
    (fun f fn hf hfn => by
      obtain rfl : f = 10 := Option.some.inj ((show Tryd.prog.funcNamed "haymow/haymowlaw06.EvalTouches" = some 10 by kernel_rfl).symm.trans hf) |>.symm
      obtain rfl : fn = Tryd.f10 := (Option.some.inj (Tryd.func10.symm.trans hfn)).symm
      exact ⟨by kernel_rfl, fun j t ht => by
        rw [Tryd.params10] at ht
        match j, ht with
        | 0, ht =>
          obtain rfl : t = 21 := by simpa using ht.symm
          exact (show Tryd.prog.wantsStandIn 21 = false by kernel_rfl)
        | 1, ht =>
          obtain rfl : t = 5 := by simpa using ht.symm
          exact (show Tryd.prog.wantsStandIn 5 = false by kernel_rfl)
        | 2, ht =>
          obtain rfl : t = 4 := by simpa using ht.symm
          exact (show Tryd.prog.wantsStandIn 4 = false by kernel_rfl)
        | j + 3, ht => simp at ht⟩)
    (by kernel_rfl)
#print axioms proved
end Go.Proofs.YtbhnnnpofindiaaDoor.evalTouches
