/-
  haymowlaw01.MemTags returns true for every two bytes and 64-bit number, and each argument reads as it did. No condition.
-/
import Derived.Test.YtlhhnpbpmjbbaaaEasy
import Derived.Test.YtlhhnpbpmjbbaaaRows
import Derived.ProofKit
import Derived.OpenShut
import Derived.ShutString
import Derived.ChangeOld
namespace Go.Proofs.Ytlhhnpbpmjbbaaa.memTags
open Go.ChangeShapes Go.WideShapes Go.ChangeAt Go.RowKit
open Go.ChangeMaps (open_string shut_string)

set_option maxHeartbeats 2000000 in
theorem bytes (a b : Nat) (ha : a < 256) (hb : b < 256) (x : Int) (w : World) :
    Calls Try.prog 6 #[.int .u8 a, .int .u8 b, .int .i64 x] w fun e w' => e = .returned (.bool true) ∧ Below w.heap.size w w' := by
  obtain ⟨k, hk, hk1, hk2⟩ : ∃ k : Nat, (b : Int) % 100 + 1 = k ∧ 1 ≤ k ∧ k ≤ 100 := ⟨b % 100 + 1, by omega, by omega, by omega⟩
  have HK := Lib.hid hk
  clear hk
  have e0 : ∀ i, i < 600 → (List.replicate 600 ((false, 0) : Bool × Int))[i]? = some (false, 0) := fun i hi => by rw [List.getElem?_replicate, if_pos hi]
  have l0 : (List.replicate 600 ((false, 0) : Bool × Int)).length = 600 := List.length_replicate
  have l1 : (setR (List.replicate 600 ((false, 0) : Bool × Int)) a k (true, 0)).length = 600 := by rw [setR_length, l0]
  have e1 : ∀ i, (setR (List.replicate 600 ((false, 0) : Bool × Int)) a k (true, 0))[i]? = if a ≤ i ∧ i < a + k then some (true, 0) else (List.replicate 600 ((false, 0) : Bool × Int))[i]? := fun i => setR_get _ _ _ _ _ (by omega)
  have l2 : ((setR (List.replicate 600 ((false, 0) : Bool × Int)) a k (true, 0)).set a (true, x)).length = 600 := by rw [List.length_set, l1]
  have e2 : ∀ i, i < 600 → a ≤ i → i < a + k → ∃ m, ((setR (List.replicate 600 ((false, 0) : Bool × Int)) a k (true, 0)).set a (true, x))[i]? = some (true, m) := by
    intro i hi h1 h2
    rw [List.getElem?_set]
    by_cases e : a = i
    · exact ⟨x, by rw [if_pos e, if_pos (by omega)]⟩
    · exact ⟨0, by rw [if_neg e, e1, if_pos ⟨h1, h2⟩]⟩
  have e2' : ((setR (List.replicate 600 ((false, 0) : Bool × Int)) a k (true, 0)).set a (true, x))[a + k]? = some (false, 0) := by
    rw [List.getElem?_set, if_neg (by omega), e1, if_neg (by omega), e0 _ (by omega)]
  have l3 : (setR ((setR (List.replicate 600 ((false, 0) : Bool × Int)) a k (true, 0)).set a (true, x)) a k (false, 0)).length = 600 := by rw [setR_length, l2]
  have e3 : ∀ i, a ≤ i → i < a + k → (setR ((setR (List.replicate 600 ((false, 0) : Bool × Int)) a k (true, 0)).set a (true, x)) a k (false, 0))[i]? = some (false, 0) := by
    intro i h1 h2
    rw [setR_get _ _ _ _ _ (by omega), if_pos ⟨h1, h2⟩]
  have l4 : (setR (setR ((setR (List.replicate 600 ((false, 0) : Bool × Int)) a k (true, 0)).set a (true, x)) a k (false, 0)) a k (true, 0)).length = 600 := by rw [setR_length, l3]
  have e4 : (setR (setR ((setR (List.replicate 600 ((false, 0) : Bool × Int)) a k (true, 0)).set a (true, x)) a k (false, 0)) a k (true, 0))[a]? = some (true, 0) := by
    rw [setR_get _ _ _ _ _ (by omega), if_pos (by omega)]
  generalize hS4 : setR (setR ((setR (List.replicate 600 ((false, 0) : Bool × Int)) a k (true, 0)).set a (true, x)) a k (false, 0)) a k (true, 0) = S4 at *
  generalize hS3 : setR ((setR (List.replicate 600 ((false, 0) : Bool × Int)) a k (true, 0)).set a (true, x)) a k (false, 0) = S3 at *
  generalize hS2 : (setR (List.replicate 600 ((false, 0) : Bool × Int)) a k (true, 0)).set a (true, x) = S2 at *
  generalize hS1 : setR (List.replicate 600 ((false, 0) : Bool × Int)) a k (true, 0) = S1 at *
  generalize hS0 : List.replicate 600 ((false, 0) : Bool × Int) = S0 at *
  have E : Hid ((∀ i, i < 600 → S0[i]? = some (false, 0)) ∧ S0.length = 600 ∧ S1.length = 600 ∧ (∀ i, S1[i]? = if a ≤ i ∧ i < a + k then some (true, 0) else S0[i]?) ∧ S2.length = 600 ∧ (∀ i, i < 600 → a ≤ i → i < a + k → ∃ m, S2[i]? = some (true, m)) ∧ S2[a + k]? = some (false, 0) ∧ S3.length = 600 ∧ (∀ i, a ≤ i → i < a + k → S3[i]? = some (false, 0)) ∧ S4.length = 600 ∧ S4[a]? = some (true, 0)) := ⟨e0, l0, l1, e1, l2, e2, e2', l3, e3, l4, e4⟩
  have HS : Hid (setR S3 a k (true, 0) = S4 ∧ setR S2 a k (false, 0) = S3 ∧ S1.set a (true, x) = S2 ∧ setR S0 a k (true, 0) = S1 ∧ List.replicate 600 ((false, 0) : Bool × Int) = S0) := ⟨hS4, hS3, hS2, hS1, hS0⟩
  clear e0 l0 l1 e1 l2 e2 e2' l3 e3 l4 e4 hS4 hS3 hS2 hS1 hS0
  go_enter Try.func6, Try.ntmps6
  go_wp2_with (go_at_call 10; refine (new_yes 600 (by omega) w).mono ?_; rintro e w1 ⟨rfl, hM1, hF1⟩; rw [HS.out.2.2.2.2] at hM1)
  obtain ⟨e0, l0, l1, e1, l2, e2, e2', l3, e3, l4, e4⟩ := E.out
  rw [HK.out]
  refine (free_hit w1 _ _ _ _ hM1 _ _ a k rfl rfl (by omega) (by omega) 0 (by omega) 0 (e0 _ (by omega))).mono ?_
  clear e0 l0 l1 e1 l2 e2 e2' l3 e3 l4 e4
  rintro e w2 ⟨rfl, hM2, hF2⟩
  go_wp2_with fail
  obtain ⟨e0, l0, l1, e1, l2, e2, e2', l3, e3, l4, e4⟩ := E.out
  refine (live_ok w2 _ _ _ _ hM2 _ _ a k rfl rfl (by omega) (by omega) (fun j hj => ⟨0, e0 _ (by omega)⟩)).mono ?_
  clear e0 l0 l1 e1 l2 e2 e2' l3 e3 l4 e4
  rintro e w3 ⟨rfl, hM3, hF3⟩
  rw [HS.out.2.2.2.1] at hM3
  go_wp2_with fail
  obtain ⟨e0, l0, l1, e1, l2, e2, e2', l3, e3, l4, e4⟩ := E.out
  refine (live_hit w3 _ _ _ _ hM3 _ _ (a + k - 1) 1 (by omega) rfl (by omega) (by omega) 0 (by omega) 0 (by rw [e1, if_pos (by omega)])).mono ?_
  clear e0 l0 l1 e1 l2 e2 e2' l3 e3 l4 e4
  rintro e w4 ⟨rfl, hM4, hF4⟩
  go_wp2_with fail
  obtain ⟨e0, l0, l1, e1, l2, e2, e2', l3, e3, l4, e4⟩ := E.out
  refine (store_ok w4 _ _ _ _ hM4 a 0 x (by rw [e1, if_pos (by omega)]) (by omega) (by omega)).mono ?_
  clear e0 l0 l1 e1 l2 e2 e2' l3 e3 l4 e4
  rintro e w5 ⟨rfl, hM5, hF5⟩
  rw [HS.out.2.2.1] at hM5
  go_wp2_with fail
  obtain ⟨e0, l0, l1, e1, l2, e2, e2', l3, e3, l4, e4⟩ := E.out
  refine (free_hit w5 _ _ _ _ hM5 _ _ a (k + 1) rfl (by omega) (by omega) (by omega) k (by omega) 0 e2').mono ?_
  clear e0 l0 l1 e1 l2 e2 e2' l3 e3 l4 e4
  rintro e w6 ⟨rfl, hM6, hF6⟩
  go_wp2_with fail
  obtain ⟨e0, l0, l1, e1, l2, e2, e2', l3, e3, l4, e4⟩ := E.out
  refine (free_ok w6 _ _ _ _ hM6 _ _ a k rfl rfl (by omega) (by omega) (fun j hj => e2 _ (by omega) (by omega) (by omega))).mono ?_
  clear e0 l0 l1 e1 l2 e2 e2' l3 e3 l4 e4
  rintro e w7 ⟨rfl, hM7, hF7⟩
  rw [HS.out.2.1] at hM7
  go_wp2_with fail
  obtain ⟨e0, l0, l1, e1, l2, e2, e2', l3, e3, l4, e4⟩ := E.out
  refine (load_free w7 _ _ _ _ hM7 a 0 (e3 _ (by omega) (by omega))).mono ?_
  clear e0 l0 l1 e1 l2 e2 e2' l3 e3 l4 e4
  rintro e w8 ⟨rfl, hM8, hF8⟩
  go_wp2_with fail
  obtain ⟨e0, l0, l1, e1, l2, e2, e2', l3, e3, l4, e4⟩ := E.out
  refine (live_ok w8 _ _ _ _ hM8 _ _ a k rfl rfl (by omega) (by omega) (fun j hj => ⟨0, e3 _ (by omega) (by omega)⟩)).mono ?_
  clear e0 l0 l1 e1 l2 e2 e2' l3 e3 l4 e4
  rintro e w9 ⟨rfl, hM9, hF9⟩
  rw [HS.out.1] at hM9
  go_wp2_with fail
  obtain ⟨e0, l0, l1, e1, l2, e2, e2', l3, e3, l4, e4⟩ := E.out
  refine (load_ok w9 _ _ _ _ hM9 a 0 e4 (by omega) (by omega)).mono ?_
  clear e0 l0 l1 e1 l2 e2 e2' l3 e3 l4 e4
  rintro e w10 ⟨rfl, hM10, hF10⟩
  go_wp2_with fail
  obtain ⟨e0, l0, l1, e1, l2, e2, e2', l3, e3, l4, e4⟩ := E.out
  refine (live_ok w10 _ _ _ _ hM10 _ _ a 0 rfl rfl (by omega) (by omega) (fun j hj => absurd hj (by omega))).mono ?_
  clear e0 l0 l1 e1 l2 e2 e2' l3 e3 l4 e4
  rintro e w11 ⟨rfl, hM11, hF11⟩
  go_wp2_with fail
  obtain ⟨e0, l0, l1, e1, l2, e2, e2', l3, e3, l4, e4⟩ := E.out
  refine (live_ok w11 _ _ _ _ hM11 _ _ 600 0 rfl rfl (by rw [setR_length]; omega) (by rw [setR_length]; omega) (fun j hj => absurd hj (by omega))).mono ?_
  clear e0 l0 l1 e1 l2 e2 e2' l3 e3 l4 e4
  rintro e w12 ⟨rfl, hM12, hF12⟩
  go_wp2_with fail
  obtain ⟨e0, l0, l1, e1, l2, e2, e2', l3, e3, l4, e4⟩ := E.out
  refine (live_out w12 _ _ _ _ hM12 _ _ (by rw [setR_length, setR_length]; omega) (by omega) (by rw [setR_length, setR_length]; omega)).mono ?_
  clear e0 l0 l1 e1 l2 e2 e2' l3 e3 l4 e4
  rintro e w13 ⟨rfl, hM13, hF13⟩
  go_wp2_with fail
  refine (awake_any w13).mono ?_
  rintro e w14 ⟨rfl, hF14⟩
  go_wp2_with fail
  go_ret
  refine ⟨rfl, ?_⟩
  have hB : ∀ i, Two (w.heap.size + 1) w.heap.size i → False ∨ w.heap.size ≤ i := by
    rintro i (rfl | rfl)
    · exact .inr (by omega)
    · exact .inr (by omega)
  have hall := ((((((((((((hF1.then hF2 hB).then hF3 hB).then hF4 hB).then hF5 hB).then hF6 hB).then hF7 hB).then hF8 hB).then hF9 hB).then hF10 hB).then hF11 hB).then hF12 hB).then hF13 hB).trans hF14
  exact hall.below (Nat.le_refl _) (fun _ h => h.elim)

theorem walk (a0 : Int) (h0 : (Lit.int .u8 a0).wf = true) (a1 : Int) (h1 : (Lit.int .u8 a1).wf = true) (a2 : Int) (_ : (Lit.int .i64 a2).wf = true) (w : World) :
    Calls Try.prog 6 #[.int .u8 a0, .int .u8 a1, .int .i64 a2] w fun e w' => e = .returned (.bool true) ∧ Below w.heap.size w w' := by
  have b0 := bounds_u8 h0
  have b1 := bounds_u8 h1
  obtain ⟨a, rfl⟩ := Int.eq_ofNat_of_zero_le b0.1
  obtain ⟨b, rfl⟩ := Int.eq_ofNat_of_zero_le b1.1
  exact bytes a b (by omega) (by omega) a2 w

/-! ### The row's step -/
theorem own : ownKnob Try.prog.godebug = none := by kernel_rfl
theorem laidOut : laidOutB Try.prog = true := by kernel_rfl

set_option maxRecDepth 100000 in
theorem lifted (os : Os) (started : os.Started) (H : Type) (enc : TypeId × Value → H) :
    ReturnsInHanded {} Try.checked os 6 .any (Rows.memTagsSpec.pre6 enc Try.prog Try.f6 Rows.memTagsRow.domain false) (Rows.memTagsSpec.post enc Try.prog Try.f6 false true false false) := by
  refine returnsInHanded_of_change (C := Try.checked) own started (by kernel_rfl) Try.func6
    (ChangeSpec.witness6 (enc := enc) (C := Try.checked) false ⟨#[], #[.int .u8 0, .int .u8 0, .int .i64 0], []⟩ 8 (by kernel_rfl) (by kernel_rfl) (by kernel_rfl) (by kernel_rfl)) ?_
  intro W base args ds gs before hval0 hW hcnd _
  have hval : ∀ (j : Nat) t v, Try.f6.params[j]? = some t → args[j]? = some v → Value.okWide Try.prog W .any base t v := hval0
  have hW' := hW
  obtain ⟨p, q, hA0, hV, rfl, hfz, hnd⟩ := hW
  have hA : DataW.TrodAll enc Try.prog W 0 (fun _ => true) true Try.f6.params.toList args.toList ds p := hA0
  rw [Try.params6] at hA hval
  obtain ⟨v0, vs0, d0, ds0, p0, q0, hargs, rfl, rfl, h0, r0⟩ := trodAll_cons hA
  obtain ⟨v1, vs1, d1, ds1, p1, q1, rfl, rfl, rfl, h1, r1⟩ := trodAll_cons r0
  obtain ⟨v2, vs2, d2, ds2, p2, q2, rfl, rfl, rfl, h2, r2⟩ := trodAll_cons r1
  obtain ⟨rfl, rfl, rfl⟩ := trodAll_nil r2
  obtain rfl : args = #[v0, v1, v2] := by cases args; simp_all
  obtain ⟨rfl, rfl⟩ := trodVars_none hV
  obtain ⟨a0, rfl, rfl, rfl, w0⟩ := open_int Try.underlying5 (hval 0 5 v0 rfl rfl) h0
  obtain ⟨a1, rfl, rfl, rfl, w1⟩ := open_int Try.underlying5 (hval 1 5 v1 rfl rfl) h1
  obtain ⟨a2, rfl, rfl, rfl, w2⟩ := open_int Try.underlying2 (hval 2 2 v2 rfl rfl) h2
  clear hA0 hval0
  refine (walk a0 w0 a1 w1 a2 w2 W).mono fun e W' ⟨he, bel⟩ => ?_
  subst he
  exact ⟨_, rfl, _, _, _, [], _, [], hW', trodAll_mk1 (shut_bool Try.underlying4 _), (trodAll_cons_mk (shut_int Try.underlying5 w0) (trodAll_cons_mk (shut_int Try.underlying5 w1) (trodAll_cons_mk (shut_int Try.underlying2 w2) trodAll_mk0))), rfl, bel.frame _, fun h => by cases h⟩

theorem over : Rows.memTagsRow.holds Try.pinned (OpenSpec.ofChange Rows.memTagsSpec) :=
  OpenClaim.holds_of_wide 6 Try.f6 rfl rfl rfl rfl rfl rfl rfl ⟨rfl, rfl, rfl, rfl, rfl⟩ rfl rfl rfl rfl rfl (by kernel_rfl) Try.func6 (by kernel_rfl)
    (of_decide_eq_true (by kernel_rfl)) (by unfold Func.isWrapper; first | (rw [if_pos (by decide +kernel)]; kernel_rfl) | (rw [if_neg (by decide +kernel)]; exact ⟨rfl, rfl⟩))
    (fun os started H enc _ => lifted os started H enc)

/-- The statement. -/
theorem proved : Rows.MemTagsSaid := over
#print axioms proved
end Go.Proofs.Ytlhhnpbpmjbbaaa.memTags
