/-
  haymowlaw09.DequeNew returns true for every three numbers.
-/
import Derived.Test.YtfcboacmailfiaaDq13
import Derived.Test.YtfcboacmailfiaaRows
import Derived.ProofKit
import Derived.OpenShut
import Derived.ShutString
import Derived.ChangeOld
namespace Go.Proofs.Ytfcboacmailfiaa.dequeNew
open Go.ChangeShapes Go.WideShapes Go.ChangeAt Go.RowKit
open Go.ChangeMaps (open_string shut_string)

theorem turnR_ok (ws : List (Bool × Int)) (a n : Int) (live : Bool) (A N : Nat) (ha : a = A) (hn : n = N) (h : A + N ≤ ws.length) (hall : ∀ j, j < N → ∃ m, ws[A + j]? = some (!live, m)) : turnR ws a n live = (0, setR ws A N (live, 0)) := by
  subst ha hn
  unfold turnR
  rw [if_pos (by omega), if_neg]
  · simp only [Int.toNat_natCast]
  · simp only [Int.toNat_natCast, anyLive, List.any_eq_true, List.mem_range, beq_iff_eq, List.getD_eq_getElem?_getD]
    rintro ⟨j, hj, he⟩
    obtain ⟨m, hm⟩ := hall j hj
    rw [hm] at he
    cases live <;> simp at he
theorem turnR_hit (ws : List (Bool × Int)) (a n : Int) (live : Bool) (A N : Nat) (ha : a = A) (hn : n = N) (h : A + N ≤ ws.length) (j : Nat) (hj : j < N) (m : Int) (hm : ws[A + j]? = some (live, m)) : turnR ws a n live = (11, ws) := by
  subst ha hn
  unfold turnR
  rw [if_pos (by omega), if_pos]
  simp only [Int.toNat_natCast, anyLive, List.any_eq_true, List.mem_range, beq_iff_eq, List.getD_eq_getElem?_getD]
  exact ⟨j, hj, by rw [hm]; rfl⟩
theorem turnR_out (ws : List (Bool × Int)) (a n : Int) (live : Bool) (h : ¬ (0 ≤ n ∧ 0 ≤ a ∧ n ≤ (ws.length : Int) - a)) : turnR ws a n live = (6, ws) := by
  unfold turnR
  rw [if_neg h]


abbrev F0 : Nat → Prop := fun _ => False
/-- A memory of 1100 words. -/
theorem mem_any (w : World) : Calls Try.prog 14 #[.int .i64 1100] w fun e w' => e = .returned (.tuple #[.pointer (some ⟨w.heap.size + 1, 0, none⟩), .int .i64 0]) ∧ MI w' (w.heap.size + 1) w.heap.size (List.replicate 1100 (false, 0)) 0 ∧ Fr F0 w w' :=
  (new_yes 1100 (by decide) w).mono fun _ _ ⟨he, hm, hf⟩ => ⟨he, ⟨0, hm, by omega, by omega⟩, hf⟩

set_option maxHeartbeats 8000000 in
set_option maxRecDepth 100000 in
theorem walk_arg (w : World) (kind base room n : Int) (hw : ∀ W, Calls Try.prog 16 #[.int .i64 room] W fun e w' => e = .returned (.int .i64 n) ∧ w' = W) (hbad : kind < 1 ∨ 3 < kind ∨ n = 0)
    (hn : (n = 0 ∧ (room < 1 ∨ 1000 < room)) ∨ (n = room + 2 ∧ 1 ≤ room ∧ room ≤ 1000)) :
    Calls Try.prog 4 #[.int .i64 kind, .int .i64 base, .int .i64 room] w fun e w' => e = .returned (.bool true) ∧ Fr F0 w w' := by
  have HNEW := Lib.hid (fun W => New_arg W (w.heap.size + 1) kind base room n hw hbad)
  have HW := Lib.hid hw
  have HBAD := Lib.hid hbad
  clear hw hbad
  go_enter Try.func4, Try.ntmps4
  go_wp2_with fail
  refine (mem_any w).mono ?_
  rintro e w1 ⟨rfl, -, hF1⟩
  have HF1 := Lib.hid hF1
  clear hF1
  go_wp2_with fail
  refine (HNEW.out _).mono ?_
  rintro e w2 ⟨rfl, hF2⟩
  have HF2 := Lib.hid (HF1.out.trans hF2)
  clear hF2
  rcases hn with ⟨rfl, hr⟩ | ⟨rfl, hr1, hr2⟩
  · by_cases hr1 : room < 1
    · have g1 : decide (1 ≤ room) = false := decide_eq_false (by omega)
      have g1' : ¬ 1 ≤ room := by omega
      clear hr
      go_wp2_with fail
      refine (HW.out _).mono ?_
      rintro e w3 ⟨rfl, rfl⟩
      have HFZ : Fr F0 w (w2.alloc (.cells #[.int .i64 0, .int .i64 0, .int .i64 0] 36)) := HF2.out.alloc _
      by_cases h1 : kind < 1
      · have q1 : decide (kind < 1) = true := decide_eq_true h1
        go_wp2_with fail
        refine (awake_any _).mono ?_
        rintro e w9 ⟨rfl, hF9⟩
        have HF9 := Lib.hid (HFZ.trans hF9)
        clear hF9
        go_wp2_with fail
        go_ret
        exact ⟨rfl, HF9.out⟩
      · have q1 : decide (kind < 1) = false := decide_eq_false h1
        by_cases h3 : 3 < kind
        · have q2 : decide (3 < kind) = true := decide_eq_true h3
          go_wp2_with fail
          refine (awake_any _).mono ?_
          rintro e w9 ⟨rfl, hF9⟩
          have HF9 := Lib.hid (HFZ.trans hF9)
          clear hF9
          go_wp2_with fail
          go_ret
          exact ⟨rfl, HF9.out⟩
        · have q2 : decide (3 < kind) = false := decide_eq_false h3
          go_wp2_with fail
          refine (awake_any _).mono ?_
          rintro e w9 ⟨rfl, hF9⟩
          have HF9 := Lib.hid (HFZ.trans hF9)
          clear hF9
          go_wp2_with fail
          go_ret
          exact ⟨rfl, HF9.out⟩

    · have g1 : decide (1 ≤ room) = true := decide_eq_true (by omega)
      have g2 : decide (room ≤ 1000) = false := decide_eq_false (by omega)
      have g1' : 1 ≤ room := by omega
      have g2' : ¬ room ≤ 1000 := by omega
      clear hr
      go_wp2_with fail
      refine (HW.out _).mono ?_
      rintro e w3 ⟨rfl, rfl⟩
      have HFZ : Fr F0 w (w2.alloc (.cells #[.int .i64 0, .int .i64 0, .int .i64 0] 36)) := HF2.out.alloc _
      by_cases h1 : kind < 1
      · have q1 : decide (kind < 1) = true := decide_eq_true h1
        go_wp2_with fail
        refine (awake_any _).mono ?_
        rintro e w9 ⟨rfl, hF9⟩
        have HF9 := Lib.hid (HFZ.trans hF9)
        clear hF9
        go_wp2_with fail
        go_ret
        exact ⟨rfl, HF9.out⟩
      · have q1 : decide (kind < 1) = false := decide_eq_false h1
        by_cases h3 : 3 < kind
        · have q2 : decide (3 < kind) = true := decide_eq_true h3
          go_wp2_with fail
          refine (awake_any _).mono ?_
          rintro e w9 ⟨rfl, hF9⟩
          have HF9 := Lib.hid (HFZ.trans hF9)
          clear hF9
          go_wp2_with fail
          go_ret
          exact ⟨rfl, HF9.out⟩
        · have q2 : decide (3 < kind) = false := decide_eq_false h3
          go_wp2_with fail
          refine (awake_any _).mono ?_
          rintro e w9 ⟨rfl, hF9⟩
          have HF9 := Lib.hid (HFZ.trans hF9)
          clear hF9
          go_wp2_with fail
          go_ret
          exact ⟨rfl, HF9.out⟩

  · have g1 : decide (1 ≤ room) = true := decide_eq_true hr1
    have g2 : decide (room ≤ 1000) = true := decide_eq_true hr2
    have g3 : wrap64 (room + 2) = room + 2 := by unfold wrap64; omega
    have g5 : (room + 2 != room + 2) = false := by simp
    go_wp2_with fail
    refine (HW.out _).mono ?_
    rintro e w3 ⟨rfl, rfl⟩
    have HFZ : Fr F0 w (w2.alloc (.cells #[.int .i64 0, .int .i64 0, .int .i64 0] 36)) := HF2.out.alloc _
    by_cases h1 : kind < 1
    · have q1 : decide (kind < 1) = true := decide_eq_true h1
      go_wp2_with fail
      refine (awake_any _).mono ?_
      rintro e w9 ⟨rfl, hF9⟩
      have HF9 := Lib.hid (HFZ.trans hF9)
      clear hF9
      go_wp2_with fail
      go_ret
      exact ⟨rfl, HF9.out⟩
    · have q1 : decide (kind < 1) = false := decide_eq_false h1
      by_cases h3 : 3 < kind
      · have q2 : decide (3 < kind) = true := decide_eq_true h3
        go_wp2_with fail
        refine (awake_any _).mono ?_
        rintro e w9 ⟨rfl, hF9⟩
        have HF9 := Lib.hid (HFZ.trans hF9)
        clear hF9
        go_wp2_with fail
        go_ret
        exact ⟨rfl, HF9.out⟩
      · have q2 : decide (3 < kind) = false := decide_eq_false h3
        exact absurd HBAD.out (by omega)


set_option maxHeartbeats 8000000 in
set_option maxRecDepth 100000 in
theorem walk_range (w : World) (kind base : Int) (r : Nat) (hk : 1 ≤ kind ∧ kind ≤ 3) (h1 : 1 ≤ r) (h2 : r ≤ 1000) (hb : -9223372036854775808 ≤ base ∧ base ≤ 9223372036854775807) (hout : base < 0 ∨ 1100 - ((r : Int) + 2) < base) :
    Calls Try.prog 4 #[.int .i64 kind, .int .i64 base, .int .i64 r] w fun e w' => e = .returned (.bool true) ∧ Fr F0 w w' := by
  have g1 : decide (1 ≤ (r : Int)) = true := decide_eq_true (by omega)
  have g1n : decide (1 ≤ r) = true := decide_eq_true h1
  have g1' : (1 : Int) ≤ (r : Int) := by omega
  have g2 : decide ((r : Int) ≤ 1000) = true := decide_eq_true (by omega)
  have g2n : decide (r ≤ 1000) = true := decide_eq_true h2
  have g2' : (r : Int) ≤ 1000 := by omega
  have q1 : decide (kind < 1) = false := decide_eq_false (by omega)
  have q2 : decide (3 < kind) = false := decide_eq_false (by omega)
  have q3 : ((r : Int) + 2 == 0) = false := by simp; omega
  have q4 : ((r : Int) + 2 != (r : Int) + 2) = false := by simp
  have q5 : (decide (base < 0) = true) ∨ (decide (base < 0) = false ∧ decide (1100 - ((r : Int) + 2) < base) = true) := by
    by_cases h : base < 0
    · exact .inl (decide_eq_true h)
    · exact .inr ⟨decide_eq_false h, decide_eq_true (hout.resolve_left h)⟩
  have ht : (turnR (List.replicate 1100 (false, (0 : Int))) base ((r + 2 : Nat) : Int) true).1 = 6 := by
    rw [turnR_out _ _ _ _ (by rw [List.length_replicate]; omega)]
  go_enter Try.func4, Try.ntmps4
  go_wp2_with fail
  refine (mem_any w).mono ?_
  rintro e w1 ⟨rfl, hM1, hF1⟩
  have HNEW := Lib.hid (New_er w1 _ _ _ 0 hM1 (by rw [List.length_replicate]; decide) kind base r hk h1 h2 hb 6 (by decide) ht)
  have HF1 := Lib.hid hF1
  clear hF1 hM1 ht hout
  go_wp2_with fail
  refine HNEW.out.mono ?_
  rintro e w2 ⟨rfl, -, hF2⟩
  have HF2 := Lib.hid (Fr.then HF1.out hF2 (fun i hi => by rcases hi with rfl | rfl <;> exact .inr (by omega)))
  clear hF2 HNEW
  go_wp2_with fail
  refine (Words_yes _ r h1 h2).mono ?_
  rintro e w3 ⟨rfl, rfl⟩
  have HFZ : Fr F0 w (w2.alloc (.cells #[.int .i64 0, .int .i64 0, .int .i64 0] 36)) := HF2.out.alloc _
  rcases q5 with q5 | ⟨q5, q6⟩
  · go_wp2_with fail
    refine (awake_any _).mono ?_
    rintro e w9 ⟨rfl, hF9⟩
    have HF9 := Lib.hid (HFZ.trans hF9)
    clear hF9
    go_wp2_with fail
    go_ret
    exact ⟨rfl, HF9.out⟩
  · go_wp2_with fail
    refine (awake_any _).mono ?_
    rintro e w9 ⟨rfl, hF9⟩
    have HF9 := Lib.hid (HFZ.trans hF9)
    clear hF9
    go_wp2_with fail
    go_ret
    exact ⟨rfl, HF9.out⟩

set_option maxHeartbeats 8000000 in
set_option maxRecDepth 100000 in
theorem walk_ok (w : World) (kind : Int) (a r : Nat) (hk : 1 ≤ kind ∧ kind ≤ 3) (h1 : 1 ≤ r) (h2 : r ≤ 1000) (hin : a + (r + 2) ≤ 1100) :
    Calls Try.prog 4 #[.int .i64 kind, .int .i64 a, .int .i64 r] w fun e w' => e = .returned (.bool true) ∧ Fr F0 w w' := by
  have g1 : decide (1 ≤ (r : Int)) = true := decide_eq_true (by omega)
  have g1n : decide (1 ≤ r) = true := decide_eq_true h1
  have g1' : (1 : Int) ≤ (r : Int) := by omega
  have g2 : decide ((r : Int) ≤ 1000) = true := decide_eq_true (by omega)
  have g2n : decide (r ≤ 1000) = true := decide_eq_true h2
  have g2' : (r : Int) ≤ 1000 := by omega
  have q1 : decide (kind < 1) = false := decide_eq_false (by omega)
  have q2 : decide (3 < kind) = false := decide_eq_false (by omega)
  have q3 : ((r : Int) + 2 == 0) = false := by simp; omega
  have q4 : ((r : Int) + 2 != (r : Int) + 2) = false := by simp
  have q5 : decide ((a : Int) < 0) = false := decide_eq_false (by omega)
  have q6 : decide (1100 - ((r : Int) + 2) < (a : Int)) = false := decide_eq_false (by omega)
  have ht := turnR_ok (List.replicate 1100 (false, (0 : Int))) (a : Int) ((r + 2 : Nat) : Int) true a (r + 2) rfl rfl (by rw [List.length_replicate]; exact hin) (fun j hj => ⟨0, by rw [List.getElem?_replicate, if_pos (by omega)]; rfl⟩)
  have hlen : (setR (List.replicate 1100 (false, (0 : Int))) a (r + 2) (true, 0)).length = 1100 := by rw [setR_length, List.length_replicate]
  have ht2 := turnR_hit (setR (List.replicate 1100 (false, (0 : Int))) a (r + 2) (true, 0)) (a : Int) ((r + 2 : Nat) : Int) true a (r + 2) rfl rfl (by rw [hlen]; exact hin) 0 (by omega) 0 (by rw [setR_get _ _ _ _ _ (by rw [List.length_replicate]; exact hin), if_pos (by omega)])
  go_enter Try.func4, Try.ntmps4
  go_wp2_with fail
  refine (mem_any w).mono ?_
  rintro e w1 ⟨rfl, hM1, hF1⟩
  have hnew := New_yes w1 _ _ _ 0 hM1 (by rw [List.length_replicate]; decide) kind (a : Int) r hk h1 h2 (by omega) (by rw [ht])
  rw [ht] at hnew
  have HNEW := Lib.hid hnew
  have HF1 := Lib.hid hF1
  have HT2 := Lib.hid ht2
  have HLEN := Lib.hid hlen
  clear hF1 hM1 ht hnew ht2 hlen
  go_wp2_with fail
  refine HNEW.out.mono ?_
  rintro e w2 ⟨rfl, hM2, hF2⟩
  have hM3 : MI (w2.alloc (.cells #[.int .i64 kind, .int .i64 (a : Int), .int .i64 (r : Int)] 36)) (w.heap.size + 1) w.heap.size (setR (List.replicate 1100 (false, (0 : Int))) a (r + 2) (true, 0)) 0 := hM2.fr (B := F0) ((Fr.refl _ _).alloc _) (fun h => h) (fun h => h)
  have hnew2 := New_er _ _ _ _ 0 hM3 (by rw [HLEN.out]; decide) kind (a : Int) r hk h1 h2 (by omega) 11 (by decide) (by rw [HT2.out])
  have HNEW2 := Lib.hid hnew2
  have HF2 := Lib.hid (Fr.alloc (Fr.then HF1.out hF2 (fun i hi => by rcases hi with rfl | rfl <;> exact .inr (by omega))) (.cells #[.int .i64 kind, .int .i64 (a : Int), .int .i64 (r : Int)] 36))
  clear hF2 hM2 hM3 hnew2 HNEW
  go_wp2_with fail
  refine (Words_yes _ r h1 h2).mono ?_
  rintro e w3 ⟨rfl, rfl⟩
  go_wp2_with fail
  refine HNEW2.out.mono ?_
  rintro e w4 ⟨rfl, -, hF4⟩
  have HF4 := Lib.hid (Fr.then HF2.out hF4 (fun i hi => by rcases hi with rfl | rfl <;> exact .inr (by omega)))
  clear hF4
  have HFZ : Fr F0 w (w4.alloc (.cells #[.int .i64 0, .int .i64 0, .int .i64 0] 36)) := HF4.out.alloc _
  go_wp2_with fail
  refine (awake_any _).mono ?_
  rintro e w9 ⟨rfl, hF9⟩
  have HF9 := Lib.hid (HFZ.trans hF9)
  clear hF9
  go_wp2_with fail
  go_ret
  exact ⟨rfl, HF9.out⟩

theorem walk (x : Int) (_ : (Lit.int .i64 x).wf = true) (y : Int) (hy : (Lit.int .i64 y).wf = true) (z : Int) (_ : (Lit.int .i64 z).wf = true) (w : World) :
    Calls Try.prog 4 #[.int .i64 x, .int .i64 y, .int .i64 z] w fun e w' => e = .returned (.bool true) ∧ Below w.heap.size w w' := by
  have hb := bounds_i64 hy
  have key : Calls Try.prog 4 #[.int .i64 x, .int .i64 y, .int .i64 z] w fun e w' => e = .returned (.bool true) ∧ Fr F0 w w' := by
    by_cases hz : 1 ≤ z ∧ z ≤ 1000
    · obtain ⟨r, rfl⟩ : ∃ r : Nat, z = r := ⟨z.toNat, by omega⟩
      by_cases hx : 1 ≤ x ∧ x ≤ 3
      · by_cases ho : y < 0 ∨ 1100 - ((r : Int) + 2) < y
        · exact walk_range w x y r hx (by omega) (by omega) hb ho
        · obtain ⟨a, rfl⟩ : ∃ a : Nat, y = a := ⟨y.toNat, by omega⟩
          exact walk_ok w x a r hx (by omega) (by omega) (by omega)
      · exact walk_arg w x y r (((r + 2 : Nat) : Int)) (fun W => Words_yes W r (by omega) (by omega)) (by omega) (.inr ⟨by omega, by omega, by omega⟩)
    · exact walk_arg w x y z 0 (fun W => Words_no W z (by omega)) (.inr (.inr rfl)) (.inl ⟨rfl, by omega⟩)
  exact key.mono fun _ _ ⟨he, hF⟩ => ⟨he, hF.below (Nat.le_refl _) (fun _ h => h.elim)⟩

/-! ### The row's step -/
theorem own : ownKnob Try.prog.godebug = none := by kernel_rfl
theorem laidOut : laidOutB Try.prog = true := by kernel_rfl

set_option maxRecDepth 100000 in
theorem lifted (os : Os) (started : os.Started) (H : Type) (enc : TypeId × Value → H) :
    ReturnsInHanded {} Try.checked os 4 .any (Rows.dequeNewSpec.pre6 enc Try.prog Try.f4 Rows.dequeNewRow.domain false) (Rows.dequeNewSpec.post enc Try.prog Try.f4 false true false false) := by
  refine returnsInHanded_of_change (C := Try.checked) own started (by kernel_rfl) Try.func4
    (ChangeSpec.witness6 (enc := enc) (C := Try.checked) false ⟨#[], #[.int .i64 0, .int .i64 0, .int .i64 0], []⟩ 8 (by kernel_rfl) (by kernel_rfl) (by kernel_rfl) (by kernel_rfl)) ?_
  intro W base args ds gs before hval0 hW hcnd _
  have hval : ∀ (j : Nat) t v, Try.f4.params[j]? = some t → args[j]? = some v → Value.okWide Try.prog W .any base t v := hval0
  have hW' := hW
  obtain ⟨p, q, hA0, hV, rfl, hfz, hnd⟩ := hW
  have hA : DataW.TrodAll enc Try.prog W 0 (fun _ => true) true Try.f4.params.toList args.toList ds p := hA0
  rw [Try.params4] at hA hval
  obtain ⟨v0, vs0, d0, ds0, p0, q0, hargs, rfl, rfl, h0, r0⟩ := trodAll_cons hA
  obtain ⟨v1, vs1, d1, ds1, p1, q1, rfl, rfl, rfl, h1, r1⟩ := trodAll_cons r0
  obtain ⟨v2, vs2, d2, ds2, p2, q2, rfl, rfl, rfl, h2, r2⟩ := trodAll_cons r1
  obtain ⟨rfl, rfl, rfl⟩ := trodAll_nil r2
  obtain rfl : args = #[v0, v1, v2] := by cases args; simp_all
  obtain ⟨rfl, rfl⟩ := trodVars_none hV
  obtain ⟨a0, rfl, rfl, rfl, w0⟩ := open_int Try.underlying3 (hval 0 3 v0 rfl rfl) h0
  obtain ⟨a1, rfl, rfl, rfl, w1⟩ := open_int Try.underlying3 (hval 1 3 v1 rfl rfl) h1
  obtain ⟨a2, rfl, rfl, rfl, w2⟩ := open_int Try.underlying3 (hval 2 3 v2 rfl rfl) h2
  clear hA0 hval0
  refine (walk a0 w0 a1 w1 a2 w2 W).mono fun e W' ⟨he, bel⟩ => ?_
  subst he
  exact ⟨_, rfl, _, _, _, [], _, [], hW', trodAll_mk1 (shut_bool Try.underlying4 _), (trodAll_cons_mk (shut_int Try.underlying3 w0) (trodAll_cons_mk (shut_int Try.underlying3 w1) (trodAll_cons_mk (shut_int Try.underlying3 w2) trodAll_mk0))), rfl, bel.frame _, fun h => by cases h⟩

theorem over : Rows.dequeNewRow.holds Try.pinned (OpenSpec.ofChange Rows.dequeNewSpec) :=
  OpenClaim.holds_of_wide 4 Try.f4 rfl rfl rfl rfl rfl rfl rfl ⟨rfl, rfl, rfl, rfl, rfl⟩ rfl rfl rfl rfl rfl (by kernel_rfl) Try.func4 (by kernel_rfl)
    (of_decide_eq_true (by kernel_rfl)) (by unfold Func.isWrapper; first | (rw [if_pos (by decide +kernel)]; kernel_rfl) | (rw [if_neg (by decide +kernel)]; exact ⟨rfl, rfl⟩))
    (fun os started H enc _ => lifted os started H enc)

/-- The statement. -/
theorem proved : Rows.DequeNewSaid := over
#print axioms proved
end Go.Proofs.Ytfcboacmailfiaa.dequeNew
