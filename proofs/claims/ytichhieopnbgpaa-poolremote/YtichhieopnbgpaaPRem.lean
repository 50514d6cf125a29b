/-
  The statement PoolRemote holds: what others gave back is not taken ahead of a drain, and behind it all is there again. No condition.
-/
import Derived.Test.YtichhieopnbgpaaPureS
import Derived.Test.YtichhieopnbgpaaRows
import Derived.ProofKit
import Derived.OpenShut
import Derived.ShutString
import Derived.ChangeOld
namespace Go.Proofs.Ytichhieopnbgpaa.poolRemote
open Go.ChangeShapes Go.WideShapes Go.ChangeAt Go.RowKit
open Go.ChangeMaps (open_string shut_string)

theorem and_one_u32 (a : Nat) (ha : a < 4294967296) : bits .and .u32 (a : Int) 1 = ((a % 2 : Nat) : Int) := by
  have h1 : (BitVec.ofInt 32 (a : Int)).toNat = a := by
    rw [BitVec.ofInt_natCast, BitVec.toNat_ofNat]; exact Nat.mod_eq_of_lt (by omega)
  have h2 : (BitVec.ofInt 32 1).toNat = 1 := rfl
  show IntKind.u32.wrap ((BitVec.ofInt 32 (a : Int) &&& BitVec.ofInt 32 1).toNat : Int) = _
  rw [BitVec.toNat_and, h1, h2, IntKind.wrap_u32, Nat.and_one_is_mod]
  omega
theorem bit_of (own i : Nat) (hown : own < 4294967296) : ∃ u : Nat, u < 2 ∧ bits BinOp.and IntKind.u32 ((own : Int) / 2 ^ (i % 32)) 1 = (u : Int) := by
  refine ⟨own / 2 ^ (i % 32) % 2, by omega, ?_⟩
  rw [← and_one_u32 _ (Nat.lt_of_le_of_lt (Nat.div_le_self _ _) hown)]
  congr 1

set_option maxHeartbeats 8000000 in
set_option maxRecDepth 100000 in
theorem walk_f (c : Nat) (hc : c < 256) (own : Nat) (hown : own < 4294967296) (w : World) :
    Calls Try.prog 8 #[.int .u8 (c : Int), .int .u32 (own : Int)] w fun e w' => e = .returned (.bool true) ∧ Fr F0 w w' := by
  obtain ⟨n, hn⟩ : ∃ n, n = c % 30 := ⟨_, rfl⟩
  have hn29 : n ≤ 29 := by omega
  have e1 : (c : Int).tmod 30 = (n : Int) := by rw [Int.tmod_eq_emod_of_nonneg (by omega)]; omega
  have e2 : (c : Int) % 30 = (n : Int) := by omega
  have HM : Hid (Calls Try.prog 10 #[.int .i64 200] w fun e w' => e = .returned (.tuple #[.pointer (some ⟨w.heap.size + 1, 0, none⟩), .int .i64 0]) ∧ MemIs w' (w.heap.size + 1) w.heap.size (List.replicate 200 (false, 0)) 0 ∧ Fr (fun _ => False) w w') := new_yes 200 (by decide) w
  clear hn
  go_enter Try.func8, Try.ntmps8
  go_wp2_with fail
  refine HM.out.mono ?_
  rintro e w1 ⟨rfl, hM1, hF1⟩
  have HN : Hid (Calls Try.prog 12 #[.pointer (some ⟨w.heap.size + 1, 0, none⟩), .int .i64 0, .agg #[.int .i64 2, .int .i64 2, .int .i64 1, .int .i64 1, .int .i64 (n : Int), .int .i64 0, .int .i64 0]] w1 fun e w' => ∃ P, e = .returned (.tuple #[.pointer (some ⟨P, 0, none⟩), .int .i64 0]) ∧ Pl w F0 w' P (w.heap.size + 1) (rS n) 0 0 (initSt (rS n) (List.replicate 200 (false, 0))) ∧ Fr F0 w1 w') :=
    new_pl w w1 hF1 (rS n) (rS_ok hn29) (by rw [rS_many]; omega) 0 (w.heap.size + 1) w.heap.size (by decide) _ 0 hM1 (by omega) (by omega) (by simp) (by rw [rS_words, List.length_replicate]; omega) (fun j hj => by
      rw [rS_words] at hj
      rw [Nat.zero_add]
      exact free_at (by omega))
  have HF1 := Lib.hid hF1
  clear hF1 hM1 HM
  go_wp2_with fail
  refine HN.out.mono ?_
  rintro e w2 ⟨P, rfl, hP2, hF2⟩
  have HF2 := Lib.hid (HF1.out.trans hF2)
  have HR2 := Lib.hid (Rem1.start n hP2.inv)
  have HP2 := Lib.hid hP2
  clear HN hP2 hF2
  go_wp2_with fail
  clear e1 e2
  go_loopw [10] (fun iv wx => ∃ (j : Nat) (σ : St), j ≤ n ∧ iv = .int .i64 (j : Int) ∧ Hid (Rem1 n j σ) ∧ Hid (Pl w F0 wx P (w.heap.size + 1) (rS n) 0 0 σ) ∧ Hid (Fr F0 w wx)) (fun iv _ => n - (intOf iv).toNat)
  case atStart => exact ⟨0, _, by omega, rfl, HR2, HP2, HF2⟩
  case round =>
    obtain ⟨j, σ, hj, rfl, HR, HP, HF⟩ := hrel
    by_cases hjn : j < n
    · have g1 : (j : Int) < (n : Int) := by omega
      obtain ⟨σ', ht, hR'⟩ := HR.out.take hjn
      have HT := Lib.hid (take_pl HP.out 0 0)
      rw [ht] at HT
      have HR' := Lib.hid hR'
      have b1 : (((j + 1 : Nat) : Int) != (j : Int) + 1) = false := bne_eq_false_iff_eq.2 (by omega)
      have d1 : decide (((j + 1 : Nat) : Int) = (j : Int) + 1) = true := decide_eq_true (by omega)
      clear ht hR'
      go_wp2_with fail
      refine HT.out.mono ?_
      rintro e w3 ⟨rfl, hP3, hF3⟩
      have HF3 := Lib.hid (HF.out.g hF3)
      have HP3 := Lib.hid hP3
      clear hP3 hF3 HT
      go_wp2_with fail
      exact ⟨⟨j + 1, σ', by omega, by go_num, HR', HP3, HF3⟩, by simp [intOf]; omega⟩
    · obtain rfl : j = n := by omega
      have HR2 := Lib.hid (HR.out.end_)
      clear HR
      go_wp2_with fail
      go_loopw [13, 14] (fun cv iv wx => ∃ (i cc : Nat) (σ : St), i ≤ j ∧ iv = .int .i64 (i : Int) ∧ cv = .int .i64 (cc : Int) ∧ Hid (Rem2 j i cc σ) ∧ Hid (Pl w F0 wx P (w.heap.size + 1) (rS j) 0 0 σ) ∧ Hid (Fr F0 w wx)) (fun _ iv _ => j - (intOf iv).toNat)
      case atStart => exact ⟨0, 0, _, by omega, rfl, rfl, HR2, HP, HF⟩
      case round =>
        obtain ⟨i, cc, σ2, hi, rfl, rfl, HR, HP, HF⟩ := hrel
        have hcc := HR.out.ci
        by_cases hin : i < j
        · have g1 : (i : Int) < (j : Int) := by omega
          obtain ⟨u, hu, hb⟩ := bit_of own i hown
          obtain ⟨σ3, ht1, ht2, hR'⟩ := HR.out.give hin hu
          have HG1 := Lib.hid (fun w' (h : Pl w F0 w' P (w.heap.size + 1) (rS j) 0 0 σ2) => give_pl h (u : Int) ((i + 1 : Nat) : Int) (by omega))
          have HG2 := Lib.hid (fun w' (h : Pl w F0 w' P (w.heap.size + 1) (rS j) 0 0 σ3) => give_pl h (u : Int) ((i + 1 : Nat) : Int) (by omega))
          rw [ht1] at HG1
          rw [ht2] at HG2
          rw [show ((i + 1 : Nat) : Int) = (i : Int) + 1 by omega] at HG1 HG2
          have HR' := Lib.hid hR'
          have g2 : cc + u ≤ 60 := by omega
          clear ht1 ht2 hR'
          go_wp2_with fail
          refine (HG1.out _ HP.out).mono ?_
          rintro e w3 ⟨rfl, hP3, hF3⟩
          have HF3 := Lib.hid (HF.out.g hF3)
          have HP3 := Lib.hid hP3
          clear hP3 hF3 HG1
          go_wp2_with fail
          refine (HG2.out _ HP3.out).mono ?_
          rintro e w4 ⟨rfl, hP4, hF4⟩
          have HF4 := Lib.hid (HF3.out.g hF4)
          have HP4 := Lib.hid hP4
          clear hP4 hF4 HG2
          go_wp2_with fail
          exact ⟨⟨i + 1, cc + u, σ3, by omega, by go_num, by go_num, HR', HP4, HF4⟩, by simp [intOf]; omega⟩
        · obtain rfl : i = j := by omega
          have hhm := HR.out.home
          obtain ⟨l0, h0, e0⟩ := HR.out.r0
          obtain ⟨l3, h3, e3⟩ := HR.out.r3
          have h7 := HR.out.r7
          have HFR := Lib.hid (fun w' (h : Pl w F0 w' P (w.heap.size + 1) (rS i) 0 0 σ2) => free_pl h 0 (by show 0 < 2; omega) 0 (by decide))
          have HR0 := Lib.hid (fun w' (h : Pl w F0 w' P (w.heap.size + 1) (rS i) 0 0 σ2) => remote_pl h 0 (by show 0 < 2; omega))
          have HR1 := Lib.hid (fun w' (h : Pl w F0 w' P (w.heap.size + 1) (rS i) 0 0 σ2) => remote_pl h 1 (by show 1 < 2; omega))
          have HHM := Lib.hid (fun w' (h : Pl w F0 w' P (w.heap.size + 1) (rS i) 0 0 σ2) => home_pl h)
          rw [show 0 * 4 + 0 = 0 from rfl, getDL h0, e0] at HFR
          rw [show 0 * 4 + 3 = 3 from rfl, getDL h3, e3] at HR0
          rw [show 1 * 4 + 3 = 7 from rfl, getDL h7] at HR1
          rw [hhm] at HHM
          obtain ⟨σ4, hd1, hi4, h34, h74, ht4⟩ := HR.out.drain1
          obtain ⟨σ5, hd2, hd3, hf0, hf4, hm5⟩ := HR.out.drain0 hi4 h34 h74 ht4
          have HD1 := Lib.hid (fun w' (h : Pl w F0 w' P (w.heap.size + 1) (rS i) 0 0 σ2) => drain_pl h 1)
          have HD2 := Lib.hid (fun w' (h : Pl w F0 w' P (w.heap.size + 1) (rS i) 0 0 σ4) => drain_pl h 0)
          have HD3 := Lib.hid (fun w' (h : Pl w F0 w' P (w.heap.size + 1) (rS i) 0 0 σ5) => drain_pl h 0)
          rw [hd1] at HD1
          rw [hd2] at HD2
          rw [hd3] at HD3
          obtain ⟨m0, hm0, en0⟩ := Option.map_eq_some_iff.1 hf0
          obtain ⟨m4, hm4, en4⟩ := Option.map_eq_some_iff.1 hf4
          have HE0 := Lib.hid (fun w' (h : Pl w F0 w' P (w.heap.size + 1) (rS i) 0 0 (drainSt (rS i) σ5 0)) => free_pl h 0 (by show 0 < 2; omega) 0 (by decide))
          have HE4 := Lib.hid (fun w' (h : Pl w F0 w' P (w.heap.size + 1) (rS i) 0 0 (drainSt (rS i) σ5 0)) => free_pl h 1 (by show 1 < 2; omega) 0 (by decide))
          have HHE := Lib.hid (fun w' (h : Pl w F0 w' P (w.heap.size + 1) (rS i) 0 0 (drainSt (rS i) σ5 0)) => home_pl h)
          rw [show 0 * 4 + 0 = 0 from rfl, getDL hm0, en0] at HE0
          rw [show 1 * 4 + 0 = 4 from rfl, getDL hm4, en4] at HE4
          rw [hm5] at HHE
          obtain ⟨df, hdf⟩ : ∃ df, df = i - cc := ⟨_, rfl⟩
          rw [← hdf] at HFR
          have b1 : ((df : Int) != (i : Int) - (cc : Int)) = false := bne_eq_false_iff_eq.2 (by omega)
          have b3 : (decide (cc = 0) == ((cc : Int) == 0)) = true := by
            by_cases e : cc = 0
            · subst e; rfl
            · have e2 : ((cc : Int) == 0) = false := beq_eq_false_iff_ne.2 (by omega)
              rw [decide_eq_false e, e2]; rfl
          obtain ⟨hb, hhb⟩ : ∃ hb, hb = decide (cc = 0) := ⟨_, rfl⟩
          rw [← hhb] at HHM b3
          clear hhm h0 e0 h3 e3 h7 hd1 hi4 h34 h74 ht4 hd2 hd3 hf0 hf4 hm5 hm0 en0 hm4 en4 hdf hhb
          go_wp2_with fail
          refine (HFR.out _ HP.out).mono ?_
          rintro e w3 ⟨rfl, rfl⟩
          go_wp2_with fail
          refine (HR0.out _ HP.out).mono ?_
          rintro e w4 ⟨rfl, rfl⟩
          go_wp2_with fail
          refine (HR1.out _ HP.out).mono ?_
          rintro e w5 ⟨rfl, rfl⟩
          go_wp2_with fail
          refine (HHM.out _ HP.out).mono ?_
          rintro e w6 ⟨rfl, hF6⟩
          have HF6 := Lib.hid (HF.out.trans hF6)
          have HP6 := Lib.hid (HP.out.f0 hF6)
          clear hF6
          go_wp2_with fail
          refine (HD1.out _ HP6.out).mono ?_
          rintro e w7 ⟨rfl, hP7, hF7⟩
          have HF7 := Lib.hid (HF6.out.g hF7)
          have HP7 := Lib.hid hP7
          clear hP7 hF7
          go_wp2_with fail
          refine (HD2.out _ HP7.out).mono ?_
          rintro e w8 ⟨rfl, hP8, hF8⟩
          have HF8 := Lib.hid (HF7.out.g hF8)
          have HP8 := Lib.hid hP8
          clear hP8 hF8
          go_wp2_with fail
          refine (HD3.out _ HP8.out).mono ?_
          rintro e w9 ⟨rfl, hP9, hF9⟩
          have HF9 := Lib.hid (HF8.out.g hF9)
          have HP9 := Lib.hid hP9
          clear hP9 hF9
          go_wp2_with fail
          refine (HE0.out _ HP9.out).mono ?_
          rintro e wa ⟨rfl, rfl⟩
          go_wp2_with fail
          refine (HE4.out _ HP9.out).mono ?_
          rintro e wb ⟨rfl, rfl⟩
          go_wp2_with fail
          refine (HHE.out _ HP9.out).mono ?_
          rintro e wc ⟨rfl, hFc⟩
          have HFc := Lib.hid (HF9.out.trans hFc)
          clear hFc
          go_wp2_with fail
          refine (awake_any wc).mono ?_
          rintro e wd ⟨rfl, hFd⟩
          have HFd := Lib.hid (HFc.out.trans hFd)
          clear hFd
          go_wp2_with fail
          go_ret
          exact ⟨rfl, HFd.out⟩
theorem walk (c : Int) (hc : (Lit.int .u8 c).wf = true) (own : Int) (ho : (Lit.int .u32 own).wf = true) (w : World) :
    Calls Try.prog 8 #[.int .u8 c, .int .u32 own] w fun e w' => e = .returned (.bool true) ∧ Below w.heap.size w w' := by
  have hm : IntKind.u8.min = 0 := rfl
  have hM : IntKind.u8.max = 255 := rfl
  have hm2 : IntKind.u32.min = 0 := rfl
  have hM2 : IntKind.u32.max = 4294967295 := rfl
  simp [Lit.wf, hm, hM] at hc
  simp [Lit.wf, hm2, hM2] at ho
  obtain ⟨c, rfl⟩ : ∃ k : Nat, c = k := ⟨c.toNat, by omega⟩
  obtain ⟨own, rfl⟩ : ∃ k : Nat, own = k := ⟨own.toNat, by omega⟩
  exact (walk_f c (by omega) own (by omega) w).mono fun _ _ ⟨he, hF⟩ => ⟨he, hF.below (Nat.le_refl _) (fun _ h => h.elim)⟩

/-! ### The row's step -/
theorem own : ownKnob Try.prog.godebug = none := by kernel_rfl
theorem laidOut : laidOutB Try.prog = true := by kernel_rfl

set_option maxRecDepth 100000 in
theorem lifted (os : Os) (started : os.Started) (H : Type) (enc : TypeId × Value → H) :
    ReturnsInHanded {} Try.checked os 8 .any (Rows.poolRemoteSpec.pre6 enc Try.prog Try.f8 Rows.poolRemoteRow.domain false) (Rows.poolRemoteSpec.post enc Try.prog Try.f8 false true false false) := by
  refine returnsInHanded_of_change (C := Try.checked) own started (by kernel_rfl) Try.func8
    (ChangeSpec.witness6 (enc := enc) (C := Try.checked) false ⟨#[], #[.int .u8 0, .int .u32 0], []⟩ 8 (by kernel_rfl) (by kernel_rfl) (by kernel_rfl) (by kernel_rfl)) ?_
  intro W base args ds gs before hval0 hW hcnd _
  have hval : ∀ (j : Nat) t v, Try.f8.params[j]? = some t → args[j]? = some v → Value.okWide Try.prog W .any base t v := hval0
  have hW' := hW
  obtain ⟨p, q, hA0, hV, rfl, hfz, hnd⟩ := hW
  have hA : DataW.TrodAll enc Try.prog W 0 (fun _ => true) true Try.f8.params.toList args.toList ds p := hA0
  rw [Try.params8] at hA hval
  obtain ⟨v0, vs0, d0, ds0, p0, q0, hargs, rfl, rfl, h0, r0⟩ := trodAll_cons hA
  obtain ⟨v1, vs1, d1, ds1, p1, q1, rfl, rfl, rfl, h1, r1⟩ := trodAll_cons r0
  obtain ⟨rfl, rfl, rfl⟩ := trodAll_nil r1
  obtain rfl : args = #[v0, v1] := by cases args; simp_all
  obtain ⟨rfl, rfl⟩ := trodVars_none hV
  obtain ⟨a0, rfl, rfl, rfl, w0⟩ := open_int Try.underlying5 (hval 0 5 v0 rfl rfl) h0
  obtain ⟨a1, rfl, rfl, rfl, w1⟩ := open_int Try.underlying22 (hval 1 22 v1 rfl rfl) h1
  clear hA0 hval0
  refine (walk a0 w0 a1 w1 W).mono fun e W' ⟨he, bel⟩ => ?_
  subst he
  exact ⟨_, rfl, _, _, _, [], _, [], hW', trodAll_mk1 (shut_bool Try.underlying4 _), (trodAll_cons_mk (shut_int Try.underlying5 w0) (trodAll_cons_mk (shut_int Try.underlying22 w1) trodAll_mk0)), rfl, bel.frame _, fun h => by cases h⟩

theorem over : Rows.poolRemoteRow.holds Try.pinned (OpenSpec.ofChange Rows.poolRemoteSpec) :=
  OpenClaim.holds_of_wide 8 Try.f8 rfl rfl rfl rfl rfl rfl rfl ⟨rfl, rfl, rfl, rfl, rfl⟩ rfl rfl rfl rfl rfl (by kernel_rfl) Try.func8 (by kernel_rfl)
    (of_decide_eq_true (by kernel_rfl)) (by unfold Func.isWrapper; first | (rw [if_pos (by decide +kernel)]; kernel_rfl) | (rw [if_neg (by decide +kernel)]; exact ⟨rfl, rfl⟩))
    (fun os started H enc _ => lifted os started H enc)

/-- The statement. -/
theorem proved : Rows.PoolRemoteSaid := over
#print axioms proved
end Go.Proofs.Ytichhieopnbgpaa.poolRemote
