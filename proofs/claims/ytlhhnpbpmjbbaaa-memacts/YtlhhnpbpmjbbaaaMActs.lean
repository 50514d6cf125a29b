/-
  haymowlaw01.MemActs returns true for every 16-bit number and list of acts, and each argument reads as it did. No condition.
-/
import Derived.Test.YtlhhnpbpmjbbaaaDo
import Derived.Test.YtlhhnpbpmjbbaaaActs
import Derived.Deep.RegionWith
import Derived.Test.YtlhhnpbpmjbbaaaRows
import Derived.ProofKit
import Derived.OpenShut
import Derived.ShutString
import Derived.ChangeOld
namespace Go.Proofs.Ytlhhnpbpmjbbaaa.memActs
open Go.ChangeShapes Go.WideShapes Go.ChangeAt Go.RowKit
open Go.ChangeMaps (open_string shut_string)

theorem do_any (w : World) (p s r a b : Nat) (ws : List (Bool × Int)) (st : Int) (hM : MemIs w p s ws st) (hR : RefIs w r a b ws st) (hst : 0 ≤ st) (hst2 : st < 1000000) (hl : ws.length ≤ 65536) (x0 x1 x2 x3 x4 : Int) (hx1 : -9223372036854775808 ≤ x1 ∧ x1 ≤ 9223372036854775807) :
    Calls Try.prog 13 #[.pointer (some ⟨p, 0, none⟩), .pointer (some ⟨r, 0, none⟩), .agg #[.int .i64 x0, .int .i64 x1, .int .i64 x2, .int .i64 x3, .int .i64 x4]] w (Done w p s r a b ws st) := by
  obtain ⟨t, ht, ht6⟩ := mod_pos x0 6 (by omega) (by omega)
  by_cases h0 : t = 0
  · subst h0; exact do_live w p s r a b ws st hM hR hl x0 x1 x2 x3 x4 hx1 ht
  by_cases h1 : t = 1
  · subst h1; exact do_free w p s r a b ws st hM hR hl x0 x1 x2 x3 x4 hx1 ht
  by_cases hneg : x1 < 0
  · obtain rfl | rfl | rfl | rfl : t = 2 ∨ t = 3 ∨ t = 4 ∨ t = 5 := by omega
    · exact do2_low w p s r a b ws st hM hR x0 x1 x2 x3 x4 hneg ht
    · exact do3_low w p s r a b ws st hM hR x0 x1 x2 x3 x4 hneg ht
    · exact do4_low w p s r a b ws st hM hR x0 x1 x2 x3 x4 hneg ht
    · exact do5_low w p s r a b ws st hM hR x0 x1 x2 x3 x4 hneg ht
  by_cases hhi : (ws.length : Int) ≤ x1
  · obtain rfl | rfl | rfl | rfl : t = 2 ∨ t = 3 ∨ t = 4 ∨ t = 5 := by omega
    · exact do2_high w p s r a b ws st hM hR x0 x1 x2 x3 x4 (by omega) hhi ht
    · exact do3_high w p s r a b ws st hM hR x0 x1 x2 x3 x4 (by omega) hhi ht
    · exact do4_high w p s r a b ws st hM hR x0 x1 x2 x3 x4 (by omega) hhi ht
    · exact do5_high w p s r a b ws st hM hR x0 x1 x2 x3 x4 (by omega) hhi ht
  obtain ⟨i, rfl⟩ := Int.eq_ofNat_of_zero_le (a := x1) (by omega)
  obtain ⟨⟨l, m⟩, hi⟩ : ∃ x, ws[i]? = some x := ⟨_, List.getElem?_eq_getElem (by omega)⟩
  cases l
  · obtain rfl | rfl | rfl | rfl : t = 2 ∨ t = 3 ∨ t = 4 ∨ t = 5 := by omega
    · exact do2_free w p s r a b ws st hM hR x0 x2 x3 x4 i m hi ht
    · exact do3_free w p s r a b ws st hM hR x0 x2 x3 x4 i m hi ht
    · exact do4_free w p s r a b ws st hM hR x0 x2 x3 x4 i m hi ht
    · exact do5_free w p s r a b ws st hM hR x0 x2 x3 x4 i m hi ht
  · obtain rfl | rfl | rfl | rfl : t = 2 ∨ t = 3 ∨ t = 4 ∨ t = 5 := by omega
    · exact do2_live w p s r a b ws st hM hR hst hst2 x0 x2 x3 x4 i m hi ht
    · exact do3_live w p s r a b ws st hM hR hst hst2 x0 x2 x3 x4 i m hi ht
    · by_cases hx : m = x3
      · subst hx; exact do4_yes w p s r a b ws st hM hR hst hst2 x0 x2 m x4 i hi ht
      · exact do4_no w p s r a b ws st hM hR hst hst2 x0 x2 x3 x4 i m hi (by simp [hx]) (by simp [hx]) ht
    · exact do5_live w p s r a b ws st hM hR hst hst2 x0 x2 x3 x4 i m hi ht

set_option maxHeartbeats 1000000 in
theorem long (k : Int) (a0 : Option Addr) (len0 cap0 : Nat) (h : 60 < len0) (w : World) :
    Calls Try.prog 3 #[.int .u16 k, .slice a0 len0 cap0] w fun e w' => e = .returned (.bool true) ∧ Below w.heap.size w w' := by
  have h1 : (60 : Int) < (len0 : Int) := by omega
  go_enter Try.func3, Try.ntmps3
  go_wp2_with fail
  go_ret
  exact ⟨rfl, Below.refl _ _⟩

set_option maxRecDepth 100000 in
set_option maxHeartbeats 8000000 in
theorem few (c : Nat) (hc : c < 65536) (a0 : Option Addr) (len0 cap0 : Nat) (f : Nat → Nat → Int) (w : World) (w0 : IsActs w a0 len0 f) (h : len0 ≤ 60) :
    Calls Try.prog 3 #[.int .u16 c, .slice a0 len0 cap0] w fun e w' => e = .returned (.bool true) ∧ Below w.heap.size w w' := by
  have h1 : ¬ (60 : Int) < (len0 : Int) := by omega
  obtain ⟨k, hk, hk5⟩ : ∃ k : Nat, (c : Int) % 500 = k ∧ k < 500 := ⟨c % 500, by omega, by omega⟩
  have HK := Lib.hid hk
  clear hk
  have W0 := Lib.hid w0
  clear w0
  go_enter Try.func3, Try.ntmps3
  go_wp2_with fail
  rw [HK.out]
  refine (new_yes k (by omega) w).mono ?_
  rintro e w1 ⟨rfl, hM1, hF1⟩
  go_wp2_with fail
  refine (ref_new k (by omega) w1).mono ?_
  rintro e w2 ⟨r, a, b, rfl, hR2, hF2, hr, ha, hb⟩
  have hM2 := hM1.fr hF2 (by simp) (by simp)
  have hlen : (List.replicate k ((false, 0) : Bool × Int)).length = k := List.length_replicate
  have HL := Lib.hid hlen
  clear hlen
  go_wp2_with fail
  refine (words_any w2 _ _ _ _ hM2).mono ?_
  rintro e w3 ⟨rfl, rfl⟩
  rw [HL.out]
  go_wp2_with fail
  have hB : ∀ i, Five (w.heap.size + 1) w.heap.size r a b i → False ∨ w.heap.size ≤ i := by
    have hs := hF1.size
    rintro i ((rfl | rfl) | (rfl | rfl | rfl))
    all_goals exact .inr (by omega)
  have HB := Lib.hid hB
  clear hB
  go_loopw [9] (fun i wr => ∃ j : Nat, j ≤ len0 ∧ i = .int .i64 j ∧ ∃ ws st, ws.length = k ∧ 0 ≤ st ∧ st ≤ (j : Int) ∧ MemIs wr (w.heap.size + 1) w.heap.size ws st ∧ RefIs wr r a b ws st ∧ Fr (fun _ => False) w wr) (fun i _ => len0 - (intOf i).toNat)
  case atStart => exact ⟨0, by omega, rfl, _, _, HL.out, by omega, by omega, hM2, hR2, hF1.trans hF2⟩
  case round =>
    obtain ⟨j, hj, rfl, ws, st, hws, hst0, hst1, hMr, hRr, hFr⟩ := hrel
    have HWS := Lib.hid hws
    clear hws
    by_cases hlt : j < len0
    · obtain ⟨g, off, rfl, hc⟩ := W0.out.2 j hlt
      have hgl : g < w.heap.size := cell_lt (hc 0 (by omega)).1
      have d0 : wr.cell? ⟨g, off + j * 5, none⟩ = some (.int .i64 (f j 0)) := hFr.held (hc 0 (by omega)).1 (by simp)
      have d1 := hFr.held (hc 1 (by omega)).1 (by simp)
      have d2 := hFr.held (hc 2 (by omega)).1 (by simp)
      have d3 := hFr.held (hc 3 (by omega)).1 (by simp)
      have d4 := hFr.held (hc 4 (by omega)).1 (by simp)
      have b1 := (hc 1 (by omega)).2
      clear hc
      go_wp2_with fail
      go_region_with (first
        | (go_at_call 13; refine (do_any _ _ _ _ _ _ _ _ hMr.drew hRr.drew hst0 (by omega) (by rw [HWS.out]; omega) (f j 0) (f j 1) (f j 2) (f j 3) (f j 4) b1).mono ?_; rintro e w4 ⟨rfl, ⟨ws4, st4, hws4, hs1, hs2, hM4, hR4⟩, hF4⟩; have HW4 := Lib.hid hws4; clear hws4; have q2 : w4.cell? ⟨r, 2, none⟩ = some (.int .i64 st4) := (by rw [hR4.hr.cell]; rfl))
        | (go_at_call 14; refine (steps_any _ _ _ _ _ hM4).mono ?_; rintro e w5 ⟨rfl, rfl⟩))
      all_goals go_wp2_with fail
      all_goals exact ⟨⟨j + 1, by omega, by go_num, ws4, st4, HW4.out.trans HWS.out, by omega, by omega, hM4, hR4, hFr.drew.then hF4 HB.out⟩, by simp [intOf]; omega⟩
    · go_wp2_with fail
      refine (awake_any _).mono ?_
      rintro e w6 ⟨rfl, hF6⟩
      go_wp2_with fail
      go_ret
      exact ⟨rfl, (hFr.trans hF6).below (Nat.le_refl _) (fun _ h => h.elim)⟩

theorem walk (a0 : Int) (h0 : (Lit.int .u16 a0).wf = true) (a1 : Option Addr) (len1 cap1 : Nat) (f : Nat → Nat → Int) (w : World) (w1 : IsActs w a1 len1 f) :
    Calls Try.prog 3 #[.int .u16 a0, .slice a1 len1 cap1] w fun e w' => e = .returned (.bool true) ∧ Below w.heap.size w w' := by
  by_cases h : 60 < len1
  · exact long a0 a1 len1 cap1 h w
  · have b0 := bounds_u16 h0
    obtain ⟨c, rfl⟩ := Int.eq_ofNat_of_zero_le b0.1
    exact few c (by omega) a1 len1 cap1 f w w1 (by omega)

/-! ### The row's step -/
theorem own : ownKnob Try.prog.godebug = none := by kernel_rfl
theorem laidOut : laidOutB Try.prog = true := by kernel_rfl

set_option maxRecDepth 100000 in
theorem lifted (os : Os) (started : os.Started) (H : Type) (enc : TypeId × Value → H) :
    ReturnsInHanded {} Try.checked os 3 .any (Rows.memActsSpec.pre6 enc Try.prog Try.f3 Rows.memActsRow.domain false) (Rows.memActsSpec.post enc Try.prog Try.f3 false true false false) := by
  refine returnsInHanded_of_change (C := Try.checked) own started (by kernel_rfl) Try.func3
    (ChangeSpec.witness6 (enc := enc) (C := Try.checked) false ⟨#[], #[.int .u16 0, .slice none 0 0], []⟩ 8 (by kernel_rfl) (by kernel_rfl) (by kernel_rfl) (by kernel_rfl)) ?_
  intro W base args ds gs before hval0 hW hcnd _
  have hval : ∀ (j : Nat) t v, Try.f3.params[j]? = some t → args[j]? = some v → Value.okWide Try.prog W .any base t v := hval0
  have hW' := hW
  obtain ⟨p, q, hA0, hV, rfl, hfz, hnd⟩ := hW
  have hA : DataW.TrodAll enc Try.prog W 0 (fun _ => true) true Try.f3.params.toList args.toList ds p := hA0
  rw [Try.params3] at hA hval
  obtain ⟨v0, vs0, d0, ds0, p0, q0, hargs, rfl, rfl, h0, r0⟩ := trodAll_cons hA
  obtain ⟨v1, vs1, d1, ds1, p1, q1, rfl, rfl, rfl, h1, r1⟩ := trodAll_cons r0
  obtain ⟨rfl, rfl, rfl⟩ := trodAll_nil r1
  obtain rfl : args = #[v0, v1] := by cases args; simp_all
  obtain ⟨rfl, rfl⟩ := trodVars_none hV
  obtain ⟨a0, rfl, rfl, rfl, w0⟩ := open_int Try.underlying22 (hval 0 22 v0 rfl rfl) h0
  obtain ⟨a1, len1, cap1, rfl⟩ := okWide_slice Try.underlying23 (hval 1 23 v1 rfl rfl)
  have k1 := h1
  have lt1 : ∀ x ∈ p1, x.block < W.heap.size := by obtain ⟨m, hm⟩ := k1; exact DataW.trod_lt m _ _ _ hm
  obtain ⟨z1, w1⟩ := open_acts h1
  clear hA0 hval0
  refine (walk a0 w0 a1 len1 cap1 z1 W w1).mono fun e W' ⟨he, bel⟩ => ?_
  subst he
  exact ⟨_, rfl, _, _, _, [], _, [], hW', trodAll_mk1 (shut_bool Try.underlying4 _), (trodAll_cons_mk (shut_int Try.underlying22 w0) (trodAll_cons_mk (Below.trod laidOut (by kernel_rfl) (of_decide_eq_true (by kernel_rfl)) k1 bel lt1) trodAll_mk0)), rfl, bel.frame _, fun h => by cases h⟩

theorem over : Rows.memActsRow.holds Try.pinned (OpenSpec.ofChange Rows.memActsSpec) :=
  OpenClaim.holds_of_wide 3 Try.f3 rfl rfl rfl rfl rfl rfl rfl ⟨rfl, rfl, rfl, rfl, rfl⟩ rfl rfl rfl rfl rfl (by kernel_rfl) Try.func3 (by kernel_rfl)
    (of_decide_eq_true (by kernel_rfl)) (by unfold Func.isWrapper; first | (rw [if_pos (by decide +kernel)]; kernel_rfl) | (rw [if_neg (by decide +kernel)]; exact ⟨rfl, rfl⟩))
    (fun os started H enc _ => lifted os started H enc)

/-- The statement. -/
theorem proved : Rows.MemActsSaid := over
#print axioms proved
end Go.Proofs.Ytlhhnpbpmjbbaaa.memActs
