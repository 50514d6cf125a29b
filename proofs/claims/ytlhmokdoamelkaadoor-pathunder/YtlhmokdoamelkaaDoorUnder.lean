/-
  haymowlaw05.PathUnder returns true for every row of numbers and two small numbers.
-/
import Derived.Test.YtlhmokdoamelkaaDoorAwkP
import Derived.Test.YtlhmokdoamelkaaDoorLaidP
import Derived.Test.YtlhmokdoamelkaaDoorGrown
import Derived.Test.YtlhmokdoamelkaaDoorTie
import Derived.Test.YtlhmokdoamelkaaDoorCards
import Derived.ShutString
import Derived.ChangeOld
import Derived.SevenTiedAt
namespace Go.Proofs.YtlhmokdoamelkaaDoor.pathUnder
open Go.ChangeShapes Go.WideShapes Go.ChangeAt Go.RowKit
open Go.ChangeMaps (open_string shut_string)

set_option maxHeartbeats 4000000 in
set_option maxRecDepth 100000 in
theorem walk (w : World) (A : Option Addr) (n c : Nat) (xs : List Int) (hx : ArgR w A n c xs) (k m : Nat) (hk : k < 256) (hm : m < 256) :
    Calls Tryd.prog 7 #[.slice A n c, .int .u8 k, .int .u8 m] w fun e w' => e = .returned (.bool true) ∧ Fr (fun _ => False) w w' := by
  have HX := Lib.hid hx.1
  have hnc := hx.2.1
  have hxl := hx.1.1
  clear hx
  by_cases h1 : n ≤ 50
  · have g1 : ¬ (50 : Int) < (n : Int) := by omega
    obtain ⟨i, hi, hin⟩ : ∃ i : Nat, (k : Int) % ((n : Int) + 1) = i ∧ i ≤ n := ⟨k % (n + 1), by rw [Int.natCast_emod]; rfl, by have := Nat.mod_lt k (show 0 < n + 1 by omega); omega⟩
    obtain ⟨j, hj, hji⟩ : ∃ j : Nat, (m : Int) % ((i : Int) + 1) = j ∧ j ≤ i := ⟨m % (i + 1), by rw [Int.natCast_emod]; rfl, by have := Nat.mod_lt m (show 0 < i + 1 by omega); omega⟩
    go_enter Tryd.func7, Tryd.ntmps7
    go_wp2_with fail
    clear hi hj
    have hc1 : (i : Int) ≤ (c : Int) := by omega
    have hc2 : (j : Int) ≤ (c : Int) := by omega
    have u1 : Hid (underL xs (xs.take i) = true) := Lib.hid (underL_take xs i)
    have u2 : Hid (underL (xs.take i) (xs.take j) = true) := Lib.hid (underL_takes xs i j hji)
    have u3 : Hid (underL xs (xs.take j) = true) := Lib.hid (underL_take xs j)
    have u4 : cmpL (xs.take j) xs ≤ 0 := cmpL_take xs j
    have u5 : Hid (underL (xs.take j) xs = decide (j = n)) := Lib.hid (by rw [underL_back xs j (by omega), hxl])
    have HI := Lib.hid (HX.out.take i (by omega))
    have HJ := Lib.hid (HX.out.take j (by omega))
    have C1 : Hid (∀ p : Grown w, Calls Tryd.prog 11 #[.slice A n c, .slice A i c] p.at_ fun e w'' => e = .returned (.bool true) ∧ ∃ q : Grown w, w'' = q.at_) := Lib.hid fun p =>
      grown_of_drew p (u1.out ▸ under_any _ A c xs n (HX.out.fr p.fr) A c (xs.take i) i (HI.out.fr p.fr) (by omega) (by omega) hnc)
    have C2 : Hid (∀ p : Grown w, Calls Tryd.prog 11 #[.slice A i c, .slice A j c] p.at_ fun e w'' => e = .returned (.bool true) ∧ ∃ q : Grown w, w'' = q.at_) := Lib.hid fun p =>
      grown_of_drew p (u2.out ▸ under_any _ A c (xs.take i) i (HI.out.fr p.fr) A c (xs.take j) j (HJ.out.fr p.fr) (by omega) (by omega) (by omega))
    have C3 : Hid (∀ p : Grown w, Calls Tryd.prog 11 #[.slice A n c, .slice A j c] p.at_ fun e w'' => e = .returned (.bool true) ∧ ∃ q : Grown w, w'' = q.at_) := Lib.hid fun p =>
      grown_of_drew p (u3.out ▸ under_any _ A c xs n (HX.out.fr p.fr) A c (xs.take j) j (HJ.out.fr p.fr) (by omega) (by omega) hnc)
    have C4 : Hid (∀ p : Grown w, Calls Tryd.prog 9 #[.slice A j c, .slice A n c] p.at_ fun e w'' => e = .returned (.int .i64 (cmpL (xs.take j) xs)) ∧ ∃ q : Grown w, w'' = q.at_) := Lib.hid fun p =>
      grown_of_same p (cmp_any _ A c (xs.take j) j (HJ.out.fr p.fr) A c xs n (HX.out.fr p.fr) (by omega) (by omega))
    have C5 : Hid (∀ p : Grown w, Calls Tryd.prog 11 #[.slice A j c, .slice A n c] p.at_ fun e w'' => e = .returned (.bool (decide (j = n))) ∧ ∃ q : Grown w, w'' = q.at_) := Lib.hid fun p =>
      grown_of_drew p (u5.out ▸ under_any _ A c (xs.take j) j (HJ.out.fr p.fr) A c xs n (HX.out.fr p.fr) (by omega) (by omega) (by omega))
    have C6 : Hid (∀ p : Grown w, Calls Tryd.prog 13 #[] p.at_ fun e w'' => e = .returned (.bool true) ∧ ∃ q : Grown w, w'' = q.at_) := Lib.hid fun p => grown_of p (awake_any _)
    obtain ⟨bb, hbb⟩ : ∃ bb, decide (j = n) = bb := ⟨_, rfl⟩
    rw [hbb] at C5
    have d1 : ((j : Int) == (n : Int)) = bb := by
      rw [← hbb]
      by_cases h : j = n
      · subst h; simp
      · simp [h]; omega
    have d2 : (bb == bb) = true := by simp
    clear hbb
    clear u1 u2 u3 u5 HI HJ HX
    refine wp_region_grown (by kernel_rfl) (by kernel_rfl) ?_
    repeat (go_big_quiet_step (first | with_reducible exact C1.out _ | with_reducible exact C2.out _ | with_reducible exact C3.out _ | with_reducible exact C4.out _ | with_reducible exact C5.out _ | with_reducible exact C6.out _))
    refine wpQuiet_nil ?_
    intro _ hw'
    obtain ⟨⟨wq, hFq⟩, hw''⟩ := hw'
    subst hw''
    have HFq := Lib.hid hFq
    clear hFq
    go_wp2_with fail
    go_ret
    exact ⟨rfl, HFq.out⟩
  · have g1 : (50 : Int) < (n : Int) := by omega
    go_enter Tryd.func7, Tryd.ntmps7
    go_wp2_with fail
    go_ret
    exact ⟨rfl, Fr.refl _ _⟩

theorem walked {w : World} (a0 : Option Addr) (len0 cap0 : Nat) (z0 : List Int) (w0 : ArgR w a0 len0 cap0 z0) (x : Int) (hx : (Lit.int .u8 x).wf = true) (y : Int) (hy : (Lit.int .u8 y).wf = true) (_ : Laid w) :
    Calls Tryd.prog 7 #[.slice a0 len0 cap0, .int .u8 x, .int .u8 y] w fun e w' => e = .returned (.bool true) ∧ Below w.heap.size w w' := by
  have b1 := bounds_u8 hx
  have b2 := bounds_u8 hy
  obtain ⟨a, rfl⟩ := Int.eq_ofNat_of_zero_le b1.1
  obtain ⟨b, rfl⟩ := Int.eq_ofNat_of_zero_le b2.1
  exact (walk w a0 len0 cap0 z0 w0 a b (by omega) (by omega)).mono fun _ _ ⟨he, hF⟩ => ⟨he, hF.below (Nat.le_refl _) (fun _ h => h.elim)⟩

set_option maxRecDepth 100000 in
theorem lifted (os : Os) (started : os.Started) (H : Type) (enc : TypeId × Value → H) :
    ReturnsInHanded {} Tryd.checked os 7 .any (fun w args => (Rows.pathUnderSpec.pre enc Tryd.prog Tryd.f7 [] false w args ∧ laidMetH Tryd.prog laidN w) ∧ sizedMet enc Tryd.prog Tryd.f7 (OpenSpec.ofChange Rows.pathUnderSpec) false w args)
      (Rows.pathUnderSpec.post enc Tryd.prog Tryd.f7 false true false false) := by
  refine returnsInHanded_of_change_and (C := Tryd.checked) (X := fun w _ => laidMetH Tryd.prog laidN w) (fun _ _ _ hh h => h.of_heap hh) own started (by kernel_rfl) Tryd.func7
    (ChangeSpec.witness_shaped (enc := enc) (C := Tryd.checked) (os := os) (X := fun w _ => laidMetH Tryd.prog laidN w) false (World.doorLaid Tryd.prog 400 os) #[.slice none 0 0, .int .u8 0, .int .u8 0] 8 rfl (World.shaped_of_RefB (by kernel_rfl) (by kernel_rfl)) (by kernel_rfl) (by kernel_rfl) (by kernel_rfl) (door_met os _)) ?_
  intro W base args ds gs before hval0 hW _ _ hL _
  have hval : ∀ (j : Nat) t v, Tryd.f7.params[j]? = some t → args[j]? = some v → Value.okWide Tryd.prog W .any base t v := hval0
  have hW' := hW
  obtain ⟨p, q, hA0, hV, rfl, hfz, hnd⟩ := hW
  have hA : DataW.TrodAll enc Tryd.prog W 0 (fun _ => true) true Tryd.f7.params.toList args.toList ds p := hA0
  rw [Tryd.params7] at hA hval
  obtain ⟨v0, vs0, d0, ds0, p0, q0, hargs, rfl, rfl, h0, r0⟩ := trodAll_cons hA
  obtain ⟨v1, vs1, d1, ds1, p1, q1, rfl, rfl, rfl, h1, r1⟩ := trodAll_cons r0
  obtain ⟨v2, vs2, d2, ds2, p2, q2, rfl, rfl, rfl, h2, r2⟩ := trodAll_cons r1
  obtain ⟨rfl, rfl, rfl⟩ := trodAll_nil r2
  obtain rfl : args = #[v0, v1, v2] := by cases args; simp_all
  obtain ⟨rfl, rfl⟩ := trodVars_none hV
  obtain ⟨a0, len0, cap0, rfl⟩ := okWide_slice Tryd.underlying22 (hval 0 22 v0 rfl rfl)
  have k0 := h0
  have lt0 : ∀ x ∈ p0, x.block < W.heap.size := by obtain ⟨m, hm⟩ := k0; exact DataW.trod_lt m _ _ _ hm
  obtain ⟨z0, w0⟩ := open_row h0
  obtain ⟨a1, rfl, rfl, rfl, w1⟩ := open_int Tryd.underlying5 (hval 1 5 v1 rfl rfl) h1
  obtain ⟨a2, rfl, rfl, rfl, w2⟩ := open_int Tryd.underlying5 (hval 2 5 v2 rfl rfl) h2
  clear hA0 hval0
  refine (walked (w := W) a0 len0 cap0 z0 w0 a1 w1 a2 w2 (of_laid hL)).mono fun e W' ⟨he, bel⟩ => ?_
  subst he
  exact ⟨_, rfl, _, _, _, [], _, [], hW', trodAll_mk1 (shut_bool Tryd.underlying4 _), (trodAll_cons_mk (Below.trod laidOut (by kernel_rfl) (of_decide_eq_true (by kernel_rfl)) k0 bel lt0) (trodAll_cons_mk (shut_int Tryd.underlying5 w1) (trodAll_cons_mk (shut_int Tryd.underlying5 w2) trodAll_mk0))), rfl, bel.frame _, fun h => by cases h⟩

theorem over : Rows.PathUnderSaid :=
  OpenClaim.holds_of_wide 7 Tryd.f7 rfl rfl rfl rfl rfl rfl rfl ⟨rfl, rfl, rfl, rfl, rfl⟩ rfl rfl rfl rfl rfl (by kernel_rfl) Tryd.func7 (by kernel_rfl)
    (of_decide_eq_true (by kernel_rfl)) (by unfold Func.isWrapper; first | (rw [if_pos (by decide +kernel)]; kernel_rfl) | (rw [if_neg (by decide +kernel)]; exact ⟨rfl, rfl⟩))
    (fun os started H enc _ => lifted os started H enc)

/-- The statement: the row, and what it lists tied to the program's text. -/
theorem proved : Rows.PathUnderCardSaid :=
  Claim7.holds_tied_plain_at .later [] [.data, .data, .data] true (true, "3104680c1f228efd10334e66c46e6116db24ee6cb05c0589596e48fdbe4e830e") false
    over (fun _ h => by cases h) (by kernel_rfl) (fun _ h => by cases h) pathUnder_row_tie rfl ⟨rfl, rfl⟩ (by kernel_rfl) rfl
    (fun f fn hf hfn => by
      obtain rfl : f = 7 := Option.some.inj ((show Tryd.prog.funcNamed "haymow/haymowlaw05.PathUnder" = some 7 by kernel_rfl).symm.trans hf) |>.symm
      obtain rfl : fn = Tryd.f7 := (Option.some.inj (Tryd.func7.symm.trans hfn)).symm
      exact ⟨by kernel_rfl, fun j t ht => by
        rw [Tryd.params7] at ht
        match j, ht with
        | 0, ht =>
          obtain rfl : t = 22 := by simpa using ht.symm
          exact (show Tryd.prog.wantsStandIn 22 = false by kernel_rfl)
        | 1, ht =>
          obtain rfl : t = 5 := by simpa using ht.symm
          exact (show Tryd.prog.wantsStandIn 5 = false by kernel_rfl)
        | 2, ht =>
          obtain rfl : t = 5 := by simpa using ht.symm
          exact (show Tryd.prog.wantsStandIn 5 = false by kernel_rfl)
        | j + 3, ht => simp at ht⟩)
    (by kernel_rfl)
#print axioms proved
end Go.Proofs.YtlhmokdoamelkaaDoor.pathUnder
