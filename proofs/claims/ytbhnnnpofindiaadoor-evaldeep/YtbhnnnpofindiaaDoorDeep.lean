/-
  haymowlaw06.EvalDeep returns true for every depth, with the table of fields as it was laid.
-/
import Derived.Test.YtbhnnnpofindiaaDoorLits
import Derived.Test.YtbhnnnpofindiaaDoorLaidV
import Derived.Test.YtbhnnnpofindiaaDoorTie
import Derived.Test.YtbhnnnpofindiaaDoorCards
import Derived.ShutString
import Derived.ChangeOld
import Derived.SevenTiedAt
namespace Go.Proofs.YtbhnnnpofindiaaDoor.evalDeep
open Go.ChangeShapes Go.WideShapes Go.ChangeAt Go.RowKit
open Go.ChangeMaps (open_string shut_string)

theorem prog_ok (futures : Bool) (d : Nat) (hd : d < 31) : rightB (deepP (if futures then 13 else 11)) 1 9 d = true := by
  have h1 : limB 9 d = true := by unfold limB; exact decide_eq_true (by omega)
  unfold rightB
  rw [h1]
  cases futures <;> show _ = _ <;> kernel_rfl

abbrev toldL (d : Nat) : List Int := (List.range (d + 1)).map Int.ofNat
abbrev logL (d : Nat) : List (List Int × Int) := (List.range (d + 1)).map fun i => (List.replicate i 0, 4)
theorem val (futures : Bool) (d : Nat) (hd : d < 31) : evalR (deepP (if futures then 13 else 11)) [0] 9 d 2000 = ⟨0, 4, toldL d, logL d, 0⟩ := by
  rw [evalR_begun (prog_ok futures d hd), deep_any futures d hd]
  rfl

set_option maxHeartbeats 8000000 in
set_option maxRecDepth 100000 in
theorem walk_op (op : Int) (futures : Bool) (ho : op = if futures then 13 else 11) (w : World) (hT : FieldsAt w) (x d : Nat) (hx : (wrap64 (x : Int)).tmod 31 = d) (hd : d < 31) :
    Calls Tryd.prog 8 #[.int .u8 x, .bool futures] w fun e w' => e = .returned (.bool true) ∧ Fr None' w w' := by
  have hval := val futures d hd
  rw [← ho] at hval
  obtain ⟨cs, hcs⟩ : ∃ cs : List Ins, cs = [⟨15, 0, 0, 0, 0⟩, ⟨1, 1, 0, 0, 1⟩, ⟨3, 2, 0, 1, 0⟩, ⟨op, 3, 2, 0, 0⟩, ⟨17, 0, 0, 0, 0⟩] := ⟨_, rfl⟩
  have hb1 := Blk.new w 55 (cs.flatMap Ins.cells).toArray
  have hb2 := Blk.new (w.alloc (.cells (cs.flatMap Ins.cells).toArray 55)) 58 #[.int .i64 1, .slice (some ⟨w.heap.size, 0, none⟩) 5 5]
  have hb3 := Blk.new ((w.alloc (.cells (cs.flatMap Ins.cells).toArray 55)).alloc (.cells #[.int .i64 1, .slice (some ⟨w.heap.size, 0, none⟩) 5 5] 58)) 2 #[.int .i64 0]
  rw [sz] at hb2
  rw [sz, sz] at hb3
  have hc1 := (hb1.alloc (.cells #[.int .i64 1, .slice (some ⟨w.heap.size, 0, none⟩) 5 5] 58)).alloc (.cells #[.int .i64 0] 2)
  have hc2 := hb2.alloc (.cells #[.int .i64 0] 2)
  have hF0 : Fr None' w (((w.alloc (.cells (cs.flatMap Ins.cells).toArray 55)).alloc (.cells #[.int .i64 1, .slice (some ⟨w.heap.size, 0, none⟩) 5 5] 58)).alloc (.cells #[.int .i64 0] 2)) := (((Fr.refl _ _).alloc _).alloc _).alloc _
  subst hcs
  have hrow := fn_row (L := [⟨⟨1, [⟨15, 0, 0, 0, 0⟩, ⟨1, 1, 0, 0, 1⟩, ⟨3, 2, 0, 1, 0⟩, ⟨op, 3, 2, 0, 0⟩, ⟨17, 0, 0, 0, 0⟩]⟩, some ⟨w.heap.size, 0, none⟩, 5⟩]) hc2 (fun y hy => by rw [List.mem_singleton.1 hy]; exact ins_row hc1)
  have hev := eval_any _ _ 1 _ hrow (hT.fr hF0 (fun h => h)) (by simp) _ [0] 1 (ints_row (xs := [0]) hb3) (by simp) 9 d 2000 (by decide)
  rw [show fns [(⟨⟨1, [⟨15, 0, 0, 0, 0⟩, ⟨1, 1, 0, 0, 1⟩, ⟨3, 2, 0, 1, 0⟩, ⟨op, 3, 2, 0, 0⟩, ⟨17, 0, 0, 0, 0⟩]⟩, some ⟨w.heap.size, 0, none⟩, 5⟩ : LFn)] = deepP op from rfl, hval] at hev
  have HEV := Lib.hid hev
  have HF0 := Lib.hid hF0
  have HT := Lib.hid hT
  have HO := Lib.hid ho
  clear hval hb1 hb2 hb3 hc1 hc2 hrow hev hF0 hT ho
  have n1 : (((d + 1 : Nat) : Int) != (d : Int) + 1) = false := by simp
  cases futures
  all_goals
    first | obtain rfl : op = 11 := HO.out | obtain rfl : op = 13 := HO.out
    go_enter Tryd.func8, Tryd.ntmps8
    go_wp2_with fail
    refine HEV.out.mono ?_
    rintro e w1 ⟨tv, lv, rfl, hres, hF1⟩
    obtain ⟨tg, tc, rfl, tlt, tcell⟩ := hres.told_form (by simp)
    obtain ⟨lg, lc, rfl, llt, lcell⟩ := hres.log_form (by simp)
    rw [show (toldL d).length = d + 1 by simp, show (logL d).length = d + 1 by simp]
    have TC := Lib.hid tcell
    have LC := Lib.hid lcell
    have HF1 := Lib.hid (HF0.out.trans hF1)
    clear hres hF1 tcell lcell HEV HF0 HO
    go_wp2_with fail
    clear hx
    go_loopw [10] (fun i wx => ∃ k : Nat, k ≤ d + 1 ∧ i = .int .i64 k ∧ wx = w1.alloc (.cells #[.int .i64 0, .int .i64 4, .slice (some ⟨tg, 0, none⟩) (d + 1) tc, .slice (some ⟨lg, 0, none⟩) (d + 1) lc] 30)) (fun i _ => d + 1 - (intOf i).toNat)
    case atStart => exact ⟨0, by omega, rfl, rfl⟩
    case round =>
      obtain ⟨k, hk, rfl, rfl⟩ := hrel
      by_cases hkd : k ≤ d
      · have hki : (k : Int) ≤ (d : Int) := by omega
        have t0 := TC.out k k (by rw [List.getElem?_map, List.getElem?_range (by omega)]; rfl)
        obtain ⟨A, kc, l0, l1, -⟩ := LC.out k (List.replicate k 0) 4 (by rw [List.getElem?_map, List.getElem?_range (by omega)]; rfl)
        rw [List.length_replicate] at l0
        rw [← World.cell?_alloc_lt w1 (.cells #[.int .i64 0, .int .i64 4, .slice (some ⟨tg, 0, none⟩) (d + 1) tc, .slice (some ⟨lg, 0, none⟩) (d + 1) lc] 30) ⟨tg, k, none⟩ tlt] at t0
        rw [← World.cell?_alloc_lt w1 (.cells #[.int .i64 0, .int .i64 4, .slice (some ⟨tg, 0, none⟩) (d + 1) tc, .slice (some ⟨lg, 0, none⟩) (d + 1) lc] 30) ⟨lg, k * 2, none⟩ llt] at l0
        rw [← World.cell?_alloc_lt w1 (.cells #[.int .i64 0, .int .i64 4, .slice (some ⟨tg, 0, none⟩) (d + 1) tc, .slice (some ⟨lg, 0, none⟩) (d + 1) lc] 30) ⟨lg, k * 2 + 1, none⟩ llt] at l1
        have g1 : (k : Int) < ((d + 1 : Nat) : Int) := by omega
        have q1 : ((k : Int) != (k : Int)) = false := by simp
        go_wp2_with fail
        exact ⟨⟨k + 1, by omega, by go_num, trivial⟩, by simp [intOf]; omega⟩
      · have hki : ¬ (k : Int) ≤ (d : Int) := by omega
        have hkd' : decide ((k : Int) ≤ (d : Int)) = false := by simpa using hki
        go_wp2_with fail
        refine (awake_any _ (HT.out.fr (HF1.out.alloc _) (fun h => h))).mono ?_
        rintro e w2 ⟨rfl, hF2⟩
        have HF2 := Lib.hid ((HF1.out.alloc _).trans hF2)
        clear hF2
        go_wp2_with fail
        go_ret
        exact ⟨rfl, HF2.out⟩

theorem walked (x : Int) (hx : (Lit.int .u8 x).wf = true) (b : Bool) (w : World) (hT : FieldsAt w) :
    Calls Tryd.prog 8 #[.int .u8 x, .bool b] w fun e w' => e = .returned (.bool true) ∧ Below w.heap.size w w' := by
  obtain ⟨y, d, rfl, h1, h2⟩ := rem_u8 x hx 31 (by decide)
  exact (walk_op _ b rfl w hT y d h1 h2).mono fun _ _ ⟨he, hF⟩ => ⟨he, hF.below (Nat.le_refl _) (fun _ h => h.elim)⟩

set_option maxRecDepth 100000 in
theorem lifted (os : Os) (started : os.Started) (H : Type) (enc : TypeId × Value → H) :
    ReturnsInHanded {} Tryd.checked os 8 .any (fun w args => (Rows.evalDeepSpec.pre enc Tryd.prog Tryd.f8 [] false w args ∧ laidMetH Tryd.prog laidN w) ∧ sizedMet enc Tryd.prog Tryd.f8 (OpenSpec.ofChange Rows.evalDeepSpec) false w args)
      (Rows.evalDeepSpec.post enc Tryd.prog Tryd.f8 false true false false) := by
  refine returnsInHanded_of_change_and (C := Tryd.checked) (X := fun w _ => laidMetH Tryd.prog laidN w) (fun _ _ _ hh h => h.of_heap hh) own started (by kernel_rfl) Tryd.func8
    (ChangeSpec.witness_shaped (enc := enc) (C := Tryd.checked) (os := os) (X := fun w _ => laidMetH Tryd.prog laidN w) false (World.doorLaid Tryd.prog 400 os) #[.int .u8 0, .bool false] 8 rfl (World.shaped_of_RefB (by kernel_rfl) (by kernel_rfl)) (by kernel_rfl) (by kernel_rfl) (by kernel_rfl) (door_met os _)) ?_
  intro W base args ds gs before hval0 hW _ _ hL _
  have hval : ∀ (j : Nat) t v, Tryd.f8.params[j]? = some t → args[j]? = some v → Value.okWide Tryd.prog W .any base t v := hval0
  have hW' := hW
  obtain ⟨p, q, hA0, hV, rfl, hfz, hnd⟩ := hW
  have hA : DataW.TrodAll enc Tryd.prog W 0 (fun _ => true) true Tryd.f8.params.toList args.toList ds p := hA0
  rw [Tryd.params8] at hA hval
  obtain ⟨v0, vs0, d0, ds0, p0, q0, hargs, rfl, rfl, h0, r0⟩ := trodAll_cons hA
  obtain ⟨v1, vs1, d1, ds1, p1, q1, rfl, rfl, rfl, h1, r1⟩ := trodAll_cons r0
  obtain ⟨rfl, rfl, rfl⟩ := trodAll_nil r1
  obtain rfl : args = #[v0, v1] := by cases args; simp_all
  obtain ⟨rfl, rfl⟩ := trodVars_none hV
  obtain ⟨a0, rfl, rfl, rfl, w0⟩ := open_int Tryd.underlying5 (hval 0 5 v0 rfl rfl) h0
  obtain ⟨a1, rfl, rfl, rfl⟩ := open_bool Tryd.underlying4 (hval 1 4 v1 rfl rfl) h1
  clear hA0 hval0
  refine (walked a0 w0 a1 W (of_laid hL)).mono fun e W' ⟨he, bel⟩ => ?_
  subst he
  exact ⟨_, rfl, _, _, _, [], _, [], hW', trodAll_mk1 (shut_bool Tryd.underlying4 _), (trodAll_cons_mk (shut_int Tryd.underlying5 w0) (trodAll_cons_mk (shut_bool Tryd.underlying4 _) trodAll_mk0)), rfl, bel.frame _, fun h => by cases h⟩

theorem over : Rows.EvalDeepSaid :=
  OpenClaim.holds_of_wide 8 Tryd.f8 rfl rfl rfl rfl rfl rfl rfl ⟨rfl, rfl, rfl, rfl, rfl⟩ rfl rfl rfl rfl rfl (by kernel_rfl) Tryd.func8 (by kernel_rfl)
    (of_decide_eq_true (by kernel_rfl)) (by unfold Func.isWrapper; first | (rw [if_pos (by decide +kernel)]; kernel_rfl) | (rw [if_neg (by decide +kernel)]; exact ⟨rfl, rfl⟩))
    (fun os started H enc _ => lifted os started H enc)

/-- The statement: the row, and what it lists tied to the program's text. -/
theorem proved : Rows.EvalDeepCardSaid :=
  Claim7.holds_tied_plain_at .later [] [.data] true (true, "4aa17e3d60f3d84dd4c16a934e022370534363df738d391e78b403ada7e39e40") true
    over (fun _ h => by cases h) (by kernel_rfl) (fun _ h => by cases h) evalDeep_row_tie rfl ⟨rfl, rfl⟩ (by kernel_rfl) rfl
    (fun f fn hf hfn => by
      obtain rfl : f = 8 := Option.some.inj ((show Tryd.prog.funcNamed "haymow/haymowlaw06.EvalDeep" = some 8 by kernel_rfl).symm.trans hf) |>.symm
      obtain rfl : fn = Tryd.f8 := (Option.some.inj (Tryd.func8.symm.trans hfn)).symm
      exact ⟨by kernel_rfl, fun j t ht => by
        rw [Tryd.params8] at ht
        match j, ht with
        | 0, ht =>
          obtain rfl : t = 5 := by simpa using ht.symm
          exact (show Tryd.prog.wantsStandIn 5 = false by kernel_rfl)
        | 1, ht =>
          obtain rfl : t = 4 := by simpa using ht.symm
          exact (show Tryd.prog.wantsStandIn 4 = false by kernel_rfl)
        | j + 2, ht => simp at ht⟩)
    (by kernel_rfl)
#print axioms proved
end Go.Proofs.YtbhnnnpofindiaaDoor.evalDeep
