/-
  The statement EpochAlone holds: while one worker does not announce nothing that was retired goes. No condition.
-/
import Derived.Test.YtjphmiemakmcbaaEp10
import Derived.Test.YtjphmiemakmcbaaRows
import Derived.ProofKit
import Derived.OpenShut
import Derived.ShutString
import Derived.ChangeOld
namespace Go.Proofs.Ytjphmiemakmcbaa.epochAlone
open Go.ChangeShapes Go.WideShapes Go.ChangeAt Go.RowKit
open Go.ChangeMaps (open_string shut_string)

/-- So many have retired their thing. -/
structure P1 (n k : Nat) (ws : List Wk) : Prop where
  len : ws.length = n
  all : ∀ (j : Nat) (q : Wk), ws[j]? = some q → q.ann = -1 ∧ q.limbo = if j < k then [((j : Int), 0)] else []
/-- All have, and one has not announced. -/
structure P2 (n who : Nat) (ws : List Wk) : Prop where
  len : ws.length = n
  all : ∀ (j : Nat) (q : Wk), ws[j]? = some q → q.limbo = [((j : Int), 0)]
  one : ∃ q, ws[who]? = some q ∧ q.ann = -1
theorem P1.start (n : Nat) : P1 n 0 (fresh n) := ⟨by simp [fresh], fun j q h => by
  have := List.eq_of_mem_replicate (List.mem_of_getElem? h)
  subst this
  simp⟩
theorem P1.next {n k : Nat} {ws : List Wk} {q : Wk} (h : P1 n k ws) (hq : ws[k]? = some q) : P1 n (k + 1) (ws.set k ⟨q.ann, q.limbo ++ [((k : Int), 0)]⟩) := by
  have h0 := h.all k q hq
  refine ⟨by rw [List.length_set]; exact h.len, fun j r hr => ?_⟩
  rcases set_at hr with ⟨rfl, rfl, _⟩ | ⟨hj, hr⟩
  · rw [h0.2, if_neg (by omega), if_pos (by omega)]
    exact ⟨h0.1, rfl⟩
  · have h1 := h.all j r hr
    refine ⟨h1.1, h1.2.trans ?_⟩
    by_cases hjk : j < k
    · rw [if_pos hjk, if_pos (by omega)]
    · rw [if_neg hjk, if_neg (by omega)]
theorem P1.done {n who : Nat} {ws : List Wk} (h : P1 n n ws) (hw : who < n) : P2 n who ws := by
  refine ⟨h.len, fun j q hq => ?_, ?_⟩
  · have := (h.all j q hq).2
    rw [if_pos (by have := (List.getElem?_eq_some_iff.1 hq).1; have := h.len; omega)] at this
    exact this
  · obtain ⟨q, hq⟩ := get_lt (l := ws) (i := who) (by rw [h.len]; exact hw)
    exact ⟨q, hq, (h.all who q hq).1⟩
theorem P2.now {n who i : Nat} {ws : List Wk} {q : Wk} (h : P2 n who ws) (hi : i ≠ who) : annN 0 ws i q = 0 := by
  unfold annN
  rw [if_pos]
  obtain ⟨r, hr, ha⟩ := h.one
  rw [List.any_eq_true]
  refine ⟨r, List.mem_of_getElem? (i := who) ?_, by rw [ha]; decide⟩
  rw [List.getElem?_set_ne hi]
  exact hr
theorem P2.gone {n who i : Nat} {ws : List Wk} {q : Wk} (h : P2 n who ws) (hq : ws[i]? = some q) : annG 0 q = [] ∧ q.limbo.dropWhile (rdy 0) = q.limbo := by
  unfold annG
  rw [h.all i q hq]
  exact ⟨rfl, rfl⟩
theorem P2.next {n who i : Nat} {ws : List Wk} {q : Wk} (h : P2 n who ws) (hi : i ≠ who) (hq : ws[i]? = some q) : P2 n who (annW 0 0 ws i q) := by
  unfold annW
  rw [(h.gone hq).2]
  refine ⟨by rw [List.length_set]; exact h.len, fun j r hr => ?_, ?_⟩
  · rcases set_at hr with ⟨rfl, rfl, _⟩ | ⟨hj, hr⟩
    · exact h.all j q hq
    · exact h.all j r hr
  · obtain ⟨r, hr, ha⟩ := h.one
    exact ⟨r, by rw [List.getElem?_set_ne hi]; exact hr, ha⟩

set_option maxHeartbeats 8000000 in
set_option maxRecDepth 100000 in
theorem walk_f (a b c : Nat) (ha : a < 256) (hb : b < 256) (hc : c < 256) (w : World) :
    Calls Try.prog 7 #[.int .u8 (a : Int), .int .u8 (b : Int), .int .u8 (c : Int)] w fun e w' => e = .returned (.bool true) ∧ Fr F0 w w' := by
  obtain ⟨n, hn⟩ : ∃ n, n = a % 5 + 2 := ⟨_, rfl⟩
  obtain ⟨who, hwho⟩ : ∃ who, who = b % n := ⟨_, rfl⟩
  obtain ⟨rd, hrd⟩ : ∃ rd, rd = c % 200 := ⟨_, rfl⟩
  have hn2 : 2 ≤ n := by omega
  have hn6 : n ≤ 6 := by omega
  have hwn : who < n := by rw [hwho]; exact Nat.mod_lt _ (by omega)
  have hrd2 : rd < 200 := by omega
  have e1 : (a : Int) % 5 + 2 = (n : Int) := by omega
  have e2 : (b : Int) % (n : Int) = (who : Int) := by rw [hwho]; exact (Int.natCast_emod b n).symm
  have e3 : (c : Int) % 200 = (rd : Int) := by omega
  have HNEW := Lib.hid (new_yes w n (by omega) (by omega))
  clear hn hwho hrd
  go_enter Try.func7, Try.ntmps7
  go_wp2_with fail
  refine HNEW.out.mono ?_
  rintro e w1 ⟨rfl, hE1, hF1⟩
  obtain ⟨x, hx⟩ : ∃ x, x = w.heap.size := ⟨_, rfl⟩
  rw [← hx] at hE1 ⊢
  rw [e2]
  have HE1 := Lib.hid hE1
  have HF1 : Hid (FrE x w w1) := Fr.f0 hF1
  have HX := Lib.hid hx
  clear hE1 hF1 HNEW hx e1 e2
  go_wp2_with fail
  go_loopw [11] (fun i wx => ∃ (k : Nat) (ws : List Wk), k ≤ n ∧ i = .int .i64 (k : Int) ∧ Hid (P1 n k ws) ∧ Hid (EpAt wx x x 0 ws) ∧ Hid (FrE x w wx)) (fun i _ => n - (intOf i).toNat)
  case atStart => exact ⟨0, _, by omega, rfl, Lib.hid (P1.start n), HE1, HF1⟩
  case round =>
    obtain ⟨k, ws, hkn, rfl, HP, HE, HF⟩ := hrel
    by_cases hk : k < n
    · have g1 : (k : Int) < (n : Int) := by omega
      obtain ⟨q, hq⟩ := get_lt (l := ws) (i := k) (by rw [HP.out.len]; exact hk)
      have hq0 : Hid (ws[k]? = some q) := hq
      have HRT := Lib.hid (retire_yes wr x x 0 ws HE.out k q hq (by rw [(HP.out.all k q hq).2]; split <;> simp) (by rw [HX.out]; exact HF.out.size) (k : Int))
      clear hq
      go_wp2_with fail
      refine HRT.out.mono ?_
      rintro e w2 ⟨rfl, hE2, hF2⟩
      have HE2 := Lib.hid hE2
      have HF2 : Hid (FrE x w w2) := FrE.trans HF.out hF2
      have HP2 := Lib.hid (HP.out.next hq0.out)
      clear hE2 hF2 HRT
      go_wp2_with fail
      exact ⟨⟨k + 1, _, by omega, by go_num, HP2, HE2, HF2⟩, by simp [intOf]; omega⟩
    · obtain rfl : k = n := by omega
      have HP2 := Lib.hid (HP.out.done hwn)
      go_wp2_with fail
      go_loopw [12] (fun i wx => ∃ (m : Nat) (ws : List Wk), m ≤ rd ∧ i = .int .i64 (m : Int) ∧ Hid (P2 k who ws) ∧ Hid (EpAt wx x x 0 ws) ∧ Hid (FrE x w wx)) (fun i _ => rd - (intOf i).toNat)
      case atStart => exact ⟨0, _, by omega, rfl, HP2, HE, HF⟩
      case round =>
        obtain ⟨m, ws, hmr, rfl, HP, HE, HF⟩ := hrel
        by_cases hm : m < rd
        · have g1 : (m : Int) < (rd : Int) := by omega
          go_wp2_with fail
          try rw [e3]
          clear e3
          go_loopw [13] (fun i wx => ∃ (j : Nat) (ws : List Wk), j ≤ k ∧ i = .int .i64 (j : Int) ∧ Hid (P2 k who ws) ∧ Hid (EpAt wx x x 0 ws) ∧ Hid (FrE x w wx)) (fun i _ => k - (intOf i).toNat)
          case atStart => exact ⟨0, _, by omega, rfl, HP, HE, HF⟩
          case round =>
            obtain ⟨j, ws, hjk, rfl, HP, HE, HF⟩ := hrel
            by_cases hj : j < k
            · have g2 : (j : Int) < (k : Int) := by omega
              by_cases hjw : j = who
              · subst hjw
                go_wp2_with fail
                exact ⟨⟨j + 1, ws, by omega, by go_num, HP, HE, HF⟩, by simp [intOf]; omega⟩
              · have g4 : ((j : Int) == (who : Int)) = false := by simp; omega
                obtain ⟨q, hq⟩ := get_lt (l := ws) (i := j) (by rw [HP.out.len]; exact hj)
                have han := announce_yes wr x x 0 ws HE.out j q hq (by rw [HP.out.all j q hq]; simp) (by rw [HP.out.len]; omega) (by omega)
                rw [HP.out.now hjw] at han
                have HAN := Lib.hid han
                have HP2 := Lib.hid (HP.out.next hjw hq)
                have HGN := Lib.hid (HP.out.gone hq).1
                clear hq han
                go_wp2_with fail
                refine HAN.out.mono ?_
                rintro e w2 ⟨v, rfl, hO2, hE2, hF2⟩
                rw [HGN.out] at hO2
                have hO3 : w2.ownsRow wr.heap.size 3 1 v 0 [] := hO2
                obtain ⟨vA, vc, rfl⟩ := own_slice hO3
                have HE2 := Lib.hid hE2
                have HF2 : Hid (FrE x w w2) := FrE.trans HF.out hF2
                clear hE2 hF2 HAN hO2 hO3
                go_wp2_with fail
                exact ⟨⟨j + 1, _, by omega, by go_num, HP2, HE2, HF2⟩, by simp [intOf]; omega⟩
            · obtain rfl : j = k := by omega
              go_wp2_with fail
              exact ⟨⟨m + 1, ws, by omega, by go_num, HP, HE, HF⟩, by simp [intOf]; omega⟩
        · obtain rfl : m = rd := by omega
          obtain ⟨q, hq, _⟩ := HP.out.one
          have hl1 := limbo_at wr x x 0 ws HE.out who q hq
          rw [HP.out.all who q hq] at hl1
          have HL1 : Hid (Calls Try.prog 16 #[.pointer (some ⟨x, 0, none⟩), .int .i64 (who : Int)] wr fun e w' => e = .returned (.int .i64 1) ∧ w' = wr) := hl1
          have HL2 := Lib.hid (limbo_out wr x x 0 ws HE.out (k : Int) (.inr (by rw [HP.out.len]; exact Int.le_refl _)))
          have HNW : Hid (Calls Try.prog 15 #[.pointer (some ⟨x, 0, none⟩)] wr fun e w' => e = .returned (.int .i64 0) ∧ w' = wr) := now_at wr x x 0 ws HE.out
          clear hq hl1
          go_wp2_with fail
          refine HNW.out.mono ?_
          rintro e w2 ⟨rfl, rfl⟩
          go_wp2_with fail
          refine HL1.out.mono ?_
          rintro e w3 ⟨rfl, rfl⟩
          go_wp2_with fail
          refine HL2.out.mono ?_
          rintro e w4 ⟨rfl, rfl⟩
          go_wp2_with fail
          refine (awake_any _).mono ?_
          rintro e w5 ⟨rfl, hF5⟩
          have HF5 : Hid (FrE x w w5) := FrE.trans HF.out (Fr.f0 hF5)
          clear hF5
          go_wp2_with fail
          go_ret
          exact ⟨rfl, HF5.out.f0 (by rw [HX.out]; exact Nat.le_refl _)⟩
theorem walk (x : Int) (hx : (Lit.int .u8 x).wf = true) (y : Int) (hy : (Lit.int .u8 y).wf = true) (z : Int) (hz : (Lit.int .u8 z).wf = true) (w : World) :
    Calls Try.prog 7 #[.int .u8 x, .int .u8 y, .int .u8 z] w fun e w' => e = .returned (.bool true) ∧ Below w.heap.size w w' := by
  obtain ⟨a, rfl, ha⟩ : ∃ a : Nat, x = a ∧ a < 256 := bounds8 hx
  obtain ⟨b, rfl, hb⟩ : ∃ b : Nat, y = b ∧ b < 256 := bounds8 hy
  obtain ⟨c, rfl, hc⟩ : ∃ c : Nat, z = c ∧ c < 256 := bounds8 hz
  exact (walk_f a b c ha hb hc w).mono fun _ _ ⟨he, hF⟩ => ⟨he, hF.below (Nat.le_refl _) (fun _ h => h.elim)⟩

/-! ### The row's step -/
theorem own : ownKnob Try.prog.godebug = none := by kernel_rfl
theorem laidOut : laidOutB Try.prog = true := by kernel_rfl

set_option maxRecDepth 100000 in
theorem lifted (os : Os) (started : os.Started) (H : Type) (enc : TypeId × Value → H) :
    ReturnsInHanded {} Try.checked os 7 .any (Rows.epochAloneSpec.pre6 enc Try.prog Try.f7 Rows.epochAloneRow.domain false) (Rows.epochAloneSpec.post enc Try.prog Try.f7 false true false false) := by
  refine returnsInHanded_of_change (C := Try.checked) own started (by kernel_rfl) Try.func7
    (ChangeSpec.witness6 (enc := enc) (C := Try.checked) false ⟨#[], #[.int .u8 0, .int .u8 0, .int .u8 0], []⟩ 8 (by kernel_rfl) (by kernel_rfl) (by kernel_rfl) (by kernel_rfl)) ?_
  intro W base args ds gs before hval0 hW hcnd _
  have hval : ∀ (j : Nat) t v, Try.f7.params[j]? = some t → args[j]? = some v → Value.okWide Try.prog W .any base t v := hval0
  have hW' := hW
  obtain ⟨p, q, hA0, hV, rfl, hfz, hnd⟩ := hW
  have hA : DataW.TrodAll enc Try.prog W 0 (fun _ => true) true Try.f7.params.toList args.toList ds p := hA0
  rw [Try.params7] at hA hval
  obtain ⟨v0, vs0, d0, ds0, p0, q0, hargs, rfl, rfl, h0, r0⟩ := trodAll_cons hA
  obtain ⟨v1, vs1, d1, ds1, p1, q1, rfl, rfl, rfl, h1, r1⟩ := trodAll_cons r0
  obtain ⟨v2, vs2, d2, ds2, p2, q2, rfl, rfl, rfl, h2, r2⟩ := trodAll_cons r1
  obtain ⟨rfl, rfl, rfl⟩ := trodAll_nil r2
  obtain rfl : args = #[v0, v1, v2] := by cases args; simp_all
  obtain ⟨rfl, rfl⟩ := trodVars_none hV
  obtain ⟨a0, rfl, rfl, rfl, w0⟩ := open_int Try.underlying5 (hval 0 5 v0 rfl rfl) h0
  obtain ⟨a1, rfl, rfl, rfl, w1⟩ := open_int Try.underlying5 (hval 1 5 v1 rfl rfl) h1
  obtain ⟨a2, rfl, rfl, rfl, w2⟩ := open_int Try.underlying5 (hval 2 5 v2 rfl rfl) h2
  clear hA0 hval0
  refine (walk a0 w0 a1 w1 a2 w2 W).mono fun e W' ⟨he, bel⟩ => ?_
  subst he
  exact ⟨_, rfl, _, _, _, [], _, [], hW', trodAll_mk1 (shut_bool Try.underlying4 _), (trodAll_cons_mk (shut_int Try.underlying5 w0) (trodAll_cons_mk (shut_int Try.underlying5 w1) (trodAll_cons_mk (shut_int Try.underlying5 w2) trodAll_mk0))), rfl, bel.frame _, fun h => by cases h⟩

theorem over : Rows.epochAloneRow.holds Try.pinned (OpenSpec.ofChange Rows.epochAloneSpec) :=
  OpenClaim.holds_of_wide 7 Try.f7 rfl rfl rfl rfl rfl rfl rfl ⟨rfl, rfl, rfl, rfl, rfl⟩ rfl rfl rfl rfl rfl (by kernel_rfl) Try.func7 (by kernel_rfl)
    (of_decide_eq_true (by kernel_rfl)) (by unfold Func.isWrapper; first | (rw [if_pos (by decide +kernel)]; kernel_rfl) | (rw [if_neg (by decide +kernel)]; exact ⟨rfl, rfl⟩))
    (fun os started H enc _ => lifted os started H enc)

/-- The statement. -/
theorem proved : Rows.EpochAloneSaid := over
#print axioms proved
end Go.Proofs.Ytjphmiemakmcbaa.epochAlone
