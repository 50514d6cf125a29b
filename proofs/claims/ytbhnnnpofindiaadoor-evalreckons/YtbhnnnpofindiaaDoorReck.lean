/-
  haymowlaw06.EvalReckons returns true for every two numbers, with the table of fields as it was laid.
-/
import Derived.Test.YtbhnnnpofindiaaDoorAwkE
import Derived.Test.YtbhnnnpofindiaaDoorLaidV
import Derived.Test.YtbhnnnpofindiaaDoorTie
import Derived.Test.YtbhnnnpofindiaaDoorCards
import Derived.ShutString
import Derived.ChangeOld
import Derived.SevenTiedAt
namespace Go.Proofs.YtbhnnnpofindiaaDoor.evalReckons
open Go.ChangeShapes Go.WideShapes Go.ChangeAt Go.RowKit
open Go.ChangeMaps (open_string shut_string)

/-- A number of two, by an operation. -/
def rk (op : Nat) (a b : Int) : Int := match op with
  | 3 => wrap64 (a + b)
  | 4 => wrap64 (a - b)
  | 5 => wrap64 (a * b)
  | 6 => wrap64 (a.tdiv b)
  | 7 => bI (decide (a < b))
  | _ => bI (a == b)

abbrev prog (op : Nat) : List Fn := [⟨2, [⟨op, 2, 0, 1, 0⟩, ⟨17, 2, 0, 0, 0⟩]⟩]
theorem prog_ok (op : Nat) (h3 : 3 ≤ op) (h8 : op ≤ 8) : rightB (prog op) 2 9 0 = true := by
  have : op = 3 ∨ op = 4 ∨ op = 5 ∨ op = 6 ∨ op = 7 ∨ op = 8 := by omega
  rcases this with rfl | rfl | rfl | rfl | rfl | rfl <;> rfl

def t1 (a b : Int) : Tk := { newTk [a, b] futs0 with pc := 1 }
theorem exec_rk (op : Nat) (h3 : 3 ≤ op) (h8 : op ≤ 8) (a b : Int) (hz : ¬ (op = 6 ∧ b = 0)) : exec ⟨op, 2, 0, 1, 0⟩ (t1 a b) = .next (setR (t1 a b) 2 (rk op a b)) := by
  have : op = 3 ∨ op = 4 ∨ op = 5 ∨ op = 6 ∨ op = 7 ∨ op = 8 := by omega
  rcases this with rfl | rfl | rfl | rfl | rfl | rfl
  case inr.inr.inr.inl =>
    have hb : ¬ b = 0 := fun h => hz ⟨rfl, h⟩
    show (if b = 0 then Stp.fail 1 else Stp.next (setR (t1 a b) 2 (wrap64 (a.tdiv b)))) = _
    rw [if_neg hb]
    rfl
  all_goals rfl
theorem run_rk (op : Nat) (h3 : 3 ≤ op) (h8 : op ≤ 8) (a b : Int) (hz : ¬ (op = 6 ∧ b = 0)) : runP (prog op) [a, b] 9 0 9 = (.ok (rk op a b), ⟨7, [], [([], 2)]⟩) := by
  have e1 : runP (prog op) [a, b] 9 0 9 = thenR (prog op) 9 0 [⟨op, 2, 0, 1, 0⟩, ⟨17, 2, 0, 0, 0⟩] [] 0 (stepR (prog op) 9 0 [⟨op, 2, 0, 1, 0⟩, ⟨17, 2, 0, 0, 0⟩] [] 0 (newTk [a, b] futs0) (enter ⟨9, [], []⟩ [])) := runF_stepR _ _ _ _ _ _ _ _ (by show 0 < 2; decide)
  have e2 : stepR (prog op) 9 0 [⟨op, 2, 0, 1, 0⟩, ⟨17, 2, 0, 0, 0⟩] [] 0 (newTk [a, b] futs0) (enter ⟨9, [], []⟩ []) = doR (prog op) 9 0 [] ⟨op, 2, 0, 1, 0⟩ (t1 a b) ⟨8, [], [([], 1)]⟩ := rfl
  have e3 : doR (prog op) 9 0 [] ⟨op, 2, 0, 1, 0⟩ (t1 a b) ⟨8, [], [([], 1)]⟩ = .next (setR (t1 a b) 2 (rk op a b)) ⟨8, [], [([], 1)]⟩ := by
    unfold doR
    rw [exec_rk op h3 h8 a b hz]
  rw [e1, e2, e3]
  generalize rk op a b = v
  rfl
theorem run_zero (a : Int) : runP (prog 6) [a, 0] 9 0 9 = (.fail 1, ⟨8, [], [([], 1)]⟩) := rfl

/-- What Eval comes to. -/
def RV (op : Nat) (a b : Int) : Int × Int := if op = 6 ∧ b = 0 then (0, 1) else (rk op a b, 0)
theorem eval_rk (op : Nat) (h3 : 3 ≤ op) (h8 : op ≤ 8) (a b : Int) : ∃ s, evalR (prog op) [a, b] 9 0 9 = ⟨(RV op a b).1, (RV op a b).2, [], [([], s)], 0⟩ := by
  unfold evalR RV
  rw [if_pos (show rightB (prog op) [a, b].length 9 0 = true from prog_ok op h3 h8)]
  by_cases hz : op = 6 ∧ b = 0
  · obtain ⟨rfl, rfl⟩ := hz
    rw [run_zero]
    exact ⟨1, rfl⟩
  · rw [if_neg hz, run_rk op h3 h8 a b hz]
    exact ⟨2, rfl⟩

set_option maxHeartbeats 2000000 in
theorem reck_no (w : World) (a : Int) : Calls Tryd.prog 21 #[.int .i64 6, .int .i64 a, .int .i64 0] w fun e w' => e = .returned (.tuple #[.int .i64 0, .bool false]) ∧ w' = w := by
  go_enter Tryd.func21, Tryd.ntmps21
  go_wp2_with fail
  go_ret2
  exact ⟨rfl, rfl⟩

set_option maxHeartbeats 4000000 in
theorem reck_any (w : World) (op : Nat) (h3 : 3 ≤ op) (h8 : op ≤ 8) (a b : Int) (hz : ¬ (op = 6 ∧ b = 0)) : Calls Tryd.prog 21 #[.int .i64 op, .int .i64 a, .int .i64 b] w fun e w' => e = .returned (.tuple #[.int .i64 (rk op a b), .bool true]) ∧ w' = w := by
  have : op = 3 ∨ op = 4 ∨ op = 5 ∨ op = 6 ∨ op = 7 ∨ op = 8 := by omega
  rcases this with rfl | rfl | rfl | rfl | rfl | rfl
  · go_enter Tryd.func21, Tryd.ntmps21
    go_wp2_with fail
    go_ret2
    exact ⟨rfl, rfl⟩
  · go_enter Tryd.func21, Tryd.ntmps21
    go_wp2_with fail
    go_ret2
    exact ⟨rfl, rfl⟩
  · go_enter Tryd.func21, Tryd.ntmps21
    go_wp2_with fail
    go_ret2
    exact ⟨rfl, rfl⟩
  · have hb : (b == 0) = false := by rw [beq_eq_false_iff_ne]; exact fun h => hz ⟨rfl, h⟩
    have hb' : b ≠ 0 := fun h => hz ⟨rfl, h⟩
    clear hz
    by_cases h1 : b = -1
    · subst h1
      have HE : Hid (rk 6 a (-1) = wrap64 (0 - a)) := Lib.hid (by show wrap64 (a.tdiv (-1)) = _; rw [Int.tdiv_neg, Int.tdiv_one, Int.zero_sub])
      go_enter Tryd.func21, Tryd.ntmps21
      go_wp2_with fail
      go_ret2
      refine ⟨?_, rfl⟩
      rw [HE.out]
      simp
    · have hb2 : (b == -1) = false := by rw [beq_eq_false_iff_ne]; exact h1
      have HE : Hid (rk 6 a b = wrap64 (a.tdiv b)) := Lib.hid rfl
      clear h1
      go_enter Tryd.func21, Tryd.ntmps21
      go_wp2_with fail
      go_ret2
      refine ⟨?_, rfl⟩
      rw [HE.out]
      rfl
  · by_cases h : a < b
    · have HE : Hid (rk 7 a b = 1) := Lib.hid (by show bI (decide (a < b)) = 1; simp [bI, h])
      go_enter Tryd.func21, Tryd.ntmps21
      go_wp2_with fail
      go_ret2
      exact ⟨by rw [HE.out]; rfl, rfl⟩
    · have HE : Hid (rk 7 a b = 0) := Lib.hid (by show bI (decide (a < b)) = 0; simp [bI, h])
      go_enter Tryd.func21, Tryd.ntmps21
      go_wp2_with fail
      go_ret2
      exact ⟨by rw [HE.out]; rfl, rfl⟩
  · by_cases h : a = b
    · subst h
      have HE : Hid (rk 8 a a = 1) := Lib.hid (by show bI (a == a) = 1; simp [bI])
      have hq : (a == a) = true := by simp
      go_enter Tryd.func21, Tryd.ntmps21
      go_wp2_with fail
      go_ret2
      exact ⟨by rw [HE.out]; rfl, rfl⟩
    · have HE : Hid (rk 8 a b = 0) := Lib.hid (by show bI (a == b) = 0; simp [bI, h])
      have hq : (a == b) = false := by simpa using h
      go_enter Tryd.func21, Tryd.ntmps21
      go_wp2_with fail
      go_ret2
      exact ⟨by rw [HE.out]; rfl, rfl⟩

set_option maxHeartbeats 8000000 in
set_option maxRecDepth 100000 in
theorem walk (w : World) (hT : FieldsAt w) (a b : Int) :
    Calls Tryd.prog 9 #[.int .i64 a, .int .i64 b] w fun e w' => e = .returned (.bool true) ∧ Fr None' w w' := by
  have HT := Lib.hid hT
  clear hT
  go_enter Tryd.func9, Tryd.ntmps9
  go_wp2_with fail
  go_loopw [5] (fun i wx => ∃ k : Nat, 3 ≤ k ∧ k ≤ 9 ∧ i = .int .i64 k ∧ Hid (Fr None' w wx)) (fun i _ => 9 - (intOf i).toNat)
  case atStart => exact ⟨3, by omega, by omega, rfl, Lib.hid (Fr.refl _ _)⟩
  case round =>
    obtain ⟨k, hk3, hk9, rfl, HF⟩ := hrel
    by_cases hk : k ≤ 8
    · have hki : (k : Int) ≤ 8 := by omega
      obtain ⟨s, hval⟩ := eval_rk k hk3 hk a b
      have hrow := lit_row wr 2 [⟨(k : Int), 2, 0, 1, 0⟩, ⟨17, 2, 0, 0, 0⟩] _ rfl 2 rfl
      have hF0 : Fr None' wr (((wr.alloc (.cells ((([⟨(k : Int), 2, 0, 1, 0⟩, ⟨17, 2, 0, 0, 0⟩] : List Ins).flatMap Ins.cells).toArray) 55)).alloc (.cells #[.int .i64 2, .slice (some ⟨wr.heap.size, 0, none⟩) 2 2] 58)).alloc (.cells #[.int .i64 a, .int .i64 b] 2)) := (((Fr.refl _ _).alloc _).alloc _).alloc _
      have hrow2 := (hrow.fr ((Fr.refl None' _).alloc (.cells #[.int .i64 a, .int .i64 b] 2)) (fun _ _ h => h)).mono (Q' := fun b' => b' < (((wr.alloc (.cells ((([⟨(k : Int), 2, 0, 1, 0⟩, ⟨17, 2, 0, 0, 0⟩] : List Ins).flatMap Ins.cells).toArray) 55)).alloc (.cells #[.int .i64 2, .slice (some ⟨wr.heap.size, 0, none⟩) 2 2] 58)).alloc (.cells #[.int .i64 a, .int .i64 b] 2)).heap.size) (fun b' hb' => by simp at hb' ⊢; omega)
      have hargs : IntsA (((wr.alloc (.cells ((([⟨(k : Int), 2, 0, 1, 0⟩, ⟨17, 2, 0, 0, 0⟩] : List Ins).flatMap Ins.cells).toArray) 55)).alloc (.cells #[.int .i64 2, .slice (some ⟨wr.heap.size, 0, none⟩) 2 2] 58)).alloc (.cells #[.int .i64 a, .int .i64 b] 2)) (some ⟨wr.heap.size + 1 + 1, 0, none⟩) [a, b] := fun _ => by
        have hB := Blk.new ((wr.alloc (.cells ((([⟨(k : Int), 2, 0, 1, 0⟩, ⟨17, 2, 0, 0, 0⟩] : List Ins).flatMap Ins.cells).toArray) 55)).alloc (.cells #[.int .i64 2, .slice (some ⟨wr.heap.size, 0, none⟩) 2 2] 58)) 2 #[.int .i64 a, .int .i64 b]
        rw [show ((wr.alloc (.cells ((([⟨(k : Int), 2, 0, 1, 0⟩, ⟨17, 2, 0, 0, 0⟩] : List Ins).flatMap Ins.cells).toArray) 55)).alloc (.cells #[.int .i64 2, .slice (some ⟨wr.heap.size, 0, none⟩) 2 2] 58)).heap.size = wr.heap.size + 1 + 1 by simp] at hB
        refine ⟨_, 0, rfl, fun j x hx => ?_⟩
        rw [Nat.zero_add, hB.cell]
        match j, hx with
        | 0, hx => simp at hx; subst hx; rfl
        | 1, hx => simp at hx; subst hx; rfl
        | j + 2, hx => simp at hx
      have hev := eval_any _ (some ⟨wr.heap.size + 1, 0, none⟩) 1 _ hrow2 ((HT.out.fr HF.out (fun h => h)).fr hF0 (fun h => h)) (by simp) _ [a, b] 2 hargs (by simp) 9 0 9 (by decide)
      rw [show fns [(⟨⟨2, [⟨(k : Int), 2, 0, 1, 0⟩, ⟨17, 2, 0, 0, 0⟩]⟩, some ⟨wr.heap.size, 0, none⟩, 2⟩ : LFn)] = prog k from rfl, hval] at hev
      have HEV := Lib.hid hev
      have HF0 := Lib.hid (HF.out.trans hF0)
      clear hrow hF0 hrow2 hargs hev hval
      by_cases hz : k = 6 ∧ b = 0
      · obtain ⟨rfl, rfl⟩ := hz
        rw [show RV 6 a 0 = (0, 1) from rfl] at HEV
        go_wp2_with fail
        refine HEV.out.mono ?_
        rintro e w1 ⟨tv, lv, rfl, hres, hF1⟩
        obtain ⟨tA, tc, rfl⟩ := own_slice hres.1
        obtain ⟨ll, _, hlo, _⟩ := hres.2
        obtain ⟨lA, lc, rfl⟩ := own_slice hlo
        have HF1 := Lib.hid (HF0.out.trans hF1)
        clear hres hF1 hlo
        go_wp2_with fail
        refine (reck_no _ a).mono ?_
        rintro e w2 ⟨rfl, rfl⟩
        go_wp2_with fail
        exact ⟨⟨7, by omega, by omega, by go_num, Lib.hid (HF1.out.alloc _)⟩, by simp [intOf]⟩
      · have hRV : RV k a b = (rk k a b, 0) := if_neg hz
        rw [hRV] at HEV
        have HZ := Lib.hid hz
        obtain ⟨v, hv⟩ : ∃ v, rk k a b = v := ⟨_, rfl⟩
        have hrc := fun W => reck_any W k hk3 hk a b hz
        rw [hv] at HEV hrc
        have HRC := Lib.hid hrc
        have hvv : (v != v) = false := by simp
        clear hRV hz hv hrc
        go_wp2_with fail
        refine HEV.out.mono ?_
        rintro e w1 ⟨tv, lv, rfl, hres, hF1⟩
        obtain ⟨tA, tc, rfl⟩ := own_slice hres.1
        obtain ⟨ll, _, hlo, _⟩ := hres.2
        obtain ⟨lA, lc, rfl⟩ := own_slice hlo
        have HF1 := Lib.hid (HF0.out.trans hF1)
        clear hres hF1 hlo
        go_wp2_with fail
        refine (HRC.out _).mono ?_
        rintro e w2 ⟨rfl, rfl⟩
        go_wp2_with fail
        exact ⟨⟨k + 1, by omega, by omega, by go_num, Lib.hid (HF1.out.alloc _)⟩, by simp [intOf]; omega⟩
    · have hki : ¬ (k : Int) ≤ 8 := by omega
      have hkd : decide ((k : Int) ≤ 8) = false := by simpa using hki
      go_wp2_with fail
      refine (awake_any _ (HT.out.fr HF.out (fun h => h))).mono ?_
      rintro e w1 ⟨rfl, hF1⟩
      have HF1 := Lib.hid (HF.out.trans hF1)
      clear hF1
      go_wp2_with fail
      go_ret
      exact ⟨rfl, HF1.out⟩

theorem walked (x : Int) (_ : (Lit.int .i64 x).wf = true) (y : Int) (_ : (Lit.int .i64 y).wf = true) (w : World) (hT : FieldsAt w) :
    Calls Tryd.prog 9 #[.int .i64 x, .int .i64 y] w fun e w' => e = .returned (.bool true) ∧ Below w.heap.size w w' :=
  (walk w hT x y).mono fun _ _ ⟨he, hF⟩ => ⟨he, hF.below (Nat.le_refl _) (fun _ h => h.elim)⟩

set_option maxRecDepth 100000 in
theorem lifted (os : Os) (started : os.Started) (H : Type) (enc : TypeId × Value → H) :
    ReturnsInHanded {} Tryd.checked os 9 .any (fun w args => (Rows.evalReckonsSpec.pre enc Tryd.prog Tryd.f9 [] false w args ∧ laidMetH Tryd.prog laidN w) ∧ sizedMet enc Tryd.prog Tryd.f9 (OpenSpec.ofChange Rows.evalReckonsSpec) false w args)
      (Rows.evalReckonsSpec.post enc Tryd.prog Tryd.f9 false true false false) := by
  refine returnsInHanded_of_change_and (C := Tryd.checked) (X := fun w _ => laidMetH Tryd.prog laidN w) (fun _ _ _ hh h => h.of_heap hh) own started (by kernel_rfl) Tryd.func9
    (ChangeSpec.witness_shaped (enc := enc) (C := Tryd.checked) (os := os) (X := fun w _ => laidMetH Tryd.prog laidN w) false (World.doorLaid Tryd.prog 400 os) #[.int .i64 0, .int .i64 0] 8 rfl (World.shaped_of_RefB (by kernel_rfl) (by kernel_rfl)) (by kernel_rfl) (by kernel_rfl) (by kernel_rfl) (door_met os _)) ?_
  intro W base args ds gs before hval0 hW _ _ hL _
  have hval : ∀ (j : Nat) t v, Tryd.f9.params[j]? = some t → args[j]? = some v → Value.okWide Tryd.prog W .any base t v := hval0
  have hW' := hW
  obtain ⟨p, q, hA0, hV, rfl, hfz, hnd⟩ := hW
  have hA : DataW.TrodAll enc Tryd.prog W 0 (fun _ => true) true Tryd.f9.params.toList args.toList ds p := hA0
  rw [Tryd.params9] at hA hval
  obtain ⟨v0, vs0, d0, ds0, p0, q0, hargs, rfl, rfl, h0, r0⟩ := trodAll_cons hA
  obtain ⟨v1, vs1, d1, ds1, p1, q1, rfl, rfl, rfl, h1, r1⟩ := trodAll_cons r0
  obtain ⟨rfl, rfl, rfl⟩ := trodAll_nil r1
  obtain rfl : args = #[v0, v1] := by cases args; simp_all
  obtain ⟨rfl, rfl⟩ := trodVars_none hV
  obtain ⟨a0, rfl, rfl, rfl, w0⟩ := open_int Tryd.underlying2 (hval 0 2 v0 rfl rfl) h0
  obtain ⟨a1, rfl, rfl, rfl, w1⟩ := open_int Tryd.underlying2 (hval 1 2 v1 rfl rfl) h1
  clear hA0 hval0
  refine (walked a0 w0 a1 w1 W (of_laid hL)).mono fun e W' ⟨he, bel⟩ => ?_
  subst he
  exact ⟨_, rfl, _, _, _, [], _, [], hW', trodAll_mk1 (shut_bool Tryd.underlying4 _), (trodAll_cons_mk (shut_int Tryd.underlying2 w0) (trodAll_cons_mk (shut_int Tryd.underlying2 w1) trodAll_mk0)), rfl, bel.frame _, fun h => by cases h⟩

theorem over : Rows.EvalReckonsSaid :=
  OpenClaim.holds_of_wide 9 Tryd.f9 rfl rfl rfl rfl rfl rfl rfl ⟨rfl, rfl, rfl, rfl, rfl⟩ rfl rfl rfl rfl rfl (by kernel_rfl) Tryd.func9 (by kernel_rfl)
    (of_decide_eq_true (by kernel_rfl)) (by unfold Func.isWrapper; first | (rw [if_pos (by decide +kernel)]; kernel_rfl) | (rw [if_neg (by decide +kernel)]; exact ⟨rfl, rfl⟩))
    (fun os started H enc _ => lifted os started H enc)

/-- The statement: the row, and what it lists tied to the program's text. -/
theorem proved : Rows.EvalReckonsCardSaid :=
  Claim7.holds_tied_plain_at .later [] [.data] true (true, "4aa17e3d60f3d84dd4c16a934e022370534363df738d391e78b403ada7e39e40") true
    over (fun _ h => by cases h) (by kernel_rfl) (fun _ h => by cases h) evalReckons_row_tie rfl ⟨rfl, rfl⟩ (by kernel_rfl) rfl
    (fun f fn hf hfn => by
      obtain rfl : f = 9 := Option.some.inj ((show Tryd.prog.funcNamed "haymow/haymowlaw06.EvalReckons" = some 9 by kernel_rfl).symm.trans hf) |>.symm
      obtain rfl : fn = Tryd.f9 := (Option.some.inj (Tryd.func9.symm.trans hfn)).symm
      exact ⟨by kernel_rfl, fun j t ht => by
        rw [Tryd.params9] at ht
        match j, ht with
        | 0, ht =>
          obtain rfl : t = 2 := by simpa using ht.symm
          exact (show Tryd.prog.wantsStandIn 2 = false by kernel_rfl)
        | 1, ht =>
          obtain rfl : t = 2 := by simpa using ht.symm
          exact (show Tryd.prog.wantsStandIn 2 = false by kernel_rfl)
        | j + 2, ht => simp at ht⟩)
    (by kernel_rfl)
#print axioms proved
end Go.Proofs.YtbhnnnpofindiaaDoor.evalReckons
