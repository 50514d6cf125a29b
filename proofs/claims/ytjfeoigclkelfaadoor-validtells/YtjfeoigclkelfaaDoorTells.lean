/-
  haymowlaw03.ValidTells returns true for every program, and the argument reads as it did, with the table of fields as it was laid.
-/
import Derived.Test.YtjfeoigclkelfaaDoorAwkV
import Derived.Test.YtjfeoigclkelfaaDoorRefC
import Derived.Test.YtjfeoigclkelfaaDoorOpnV
import Derived.Test.YtjfeoigclkelfaaDoorLaidV
import Derived.Test.YtjfeoigclkelfaaDoorTie
import Derived.Test.YtjfeoigclkelfaaDoorCards
import Derived.ShutString
import Derived.ChangeOld
import Derived.SevenTiedAt
namespace Go.Proofs.YtjfeoigclkelfaaDoor.validTells
open Go.ChangeShapes Go.WideShapes Go.ChangeAt Go.RowKit
open Go.ChangeMaps (open_string shut_string)

set_option maxHeartbeats 8000000 in
theorem main (A : Option Addr) (c : Nat) (L : List LFn) (w : World) (hR : FnRow w (fun b => b < w.heap.size) A L) (hT : FieldsAt w) :
    Calls Tryd.prog 3 #[.slice A L.length c] w fun e w' => e = .returned (.bool true) ∧ Below w.heap.size w w' := by
  have HR := Lib.hid hR
  have HT := Lib.hid hT
  clear hR hT
  go_enter Tryd.func3, Tryd.ntmps3
  go_wp2_with fail
  refine (light_any w _ A c L HR.out).mono ?_
  rintro e _ ⟨t, rfl, ht, rfl⟩
  cases t with
  | false =>
    go_wp2_with fail
    go_ret
    exact ⟨rfl, Below.refl _ _⟩
  | true =>
    obtain ⟨hl, hp⟩ := ht rfl
    have HP := Lib.hid hp
    clear ht hp
    go_wp2_with fail
    refine (of_any _ A c L HR.out (by omega) (fun x hx => by have := HP.out x hx; omega)).mono ?_
    rintro e w1 ⟨v, L', rfl, hfn, hM, hF1⟩
    obtain ⟨A', c', rfl, hR'⟩ := hM.row
    have hll : L'.length = L.length := by
      have := congrArg List.length hfn
      simpa [fns] using this
    have hck := check_any w1 A' c' L' hR' (HT.out.fr hF1 (fun h => h)) (by omega)
    rw [hfn] at hck
    have HCK := Lib.hid hck
    have HF1 := Lib.hid hF1
    clear hR' hM hfn hck hF1 hll
    obtain ⟨q, hq⟩ : ∃ q, q = chk (fns L) := ⟨_, rfl⟩
    rw [← hq] at HCK
    have HQ := Lib.hid hq
    clear hq
    go_wp2_with fail
    refine HCK.out.mono ?_
    rintro e w2 ⟨rfl, hF2⟩
    have hF12 := HF1.out.trans hF2
    have hr2 := rcheck_any w2 A c L ((HR.out.fr hF12 (fun _ _ h => h)).mono (fun _ h => Nat.lt_of_lt_of_le h hF12.size)) (by omega) (fun x hx => by have := HP.out x hx; omega)
    rw [← HQ.out] at hr2
    have HR2 := Lib.hid hr2
    have HF12 := Lib.hid hF12
    clear hr2 hF2 hF12 HCK
    go_wp2_with fail
    refine HR2.out.mono ?_
    rintro e w3 ⟨rfl, hF3⟩
    have hF13 := HF12.out.trans hF3
    clear HR2
    go_wp2_with fail
    refine (awake_any _ (HT.out.fr hF13 (fun h => h))).mono ?_
    rintro e w4 ⟨rfl, hF4⟩
    go_wp2_with fail
    go_ret
    exact ⟨rfl, (hF13.trans hF4).below (Nat.le_refl _) (fun _ h => h.elim)⟩

theorem walked {w : World} (a0 : Option Addr) (len0 cap0 : Nat) (z0 : List LFn) (w0 : z0.length = len0 ∧ FnRow w (fun b => b < w.heap.size) a0 z0) (hT : FieldsAt w) :
    Calls Tryd.prog 3 #[.slice a0 len0 cap0] w fun e w' => e = .returned (.bool true) ∧ Below w.heap.size w w' := by
  obtain ⟨rfl, hR⟩ := w0
  exact main a0 cap0 z0 w hR hT

set_option maxRecDepth 100000 in
theorem lifted (os : Os) (started : os.Started) (H : Type) (enc : TypeId × Value → H) :
    ReturnsInHanded {} Tryd.checked os 3 .any (fun w args => (Rows.validTellsSpec.pre enc Tryd.prog Tryd.f3 [] false w args ∧ laidMetH Tryd.prog laidN w) ∧ sizedMet enc Tryd.prog Tryd.f3 (OpenSpec.ofChange Rows.validTellsSpec) false w args)
      (Rows.validTellsSpec.post enc Tryd.prog Tryd.f3 false true false false) := by
  refine returnsInHanded_of_change_and (C := Tryd.checked) (X := fun w _ => laidMetH Tryd.prog laidN w) (fun _ _ _ hh h => h.of_heap hh) own started (by kernel_rfl) Tryd.func3
    (ChangeSpec.witness_shaped (enc := enc) (C := Tryd.checked) (os := os) (X := fun w _ => laidMetH Tryd.prog laidN w) false (World.doorLaid Tryd.prog 400 os) #[.slice none 0 0] 8 rfl (World.shaped_of_RefB (by kernel_rfl) (by kernel_rfl)) (by kernel_rfl) (by kernel_rfl) (by kernel_rfl) (door_met os _)) ?_
  intro W base args ds gs before hval0 hW _ _ hL _
  have hval : ∀ (j : Nat) t v, Tryd.f3.params[j]? = some t → args[j]? = some v → Value.okWide Tryd.prog W .any base t v := hval0
  have hW' := hW
  obtain ⟨p, q, hA0, hV, rfl, hfz, hnd⟩ := hW
  have hA : DataW.TrodAll enc Tryd.prog W 0 (fun _ => true) true Tryd.f3.params.toList args.toList ds p := hA0
  rw [Tryd.params3] at hA hval
  obtain ⟨v0, vs0, d0, ds0, p0, q0, hargs, rfl, rfl, h0, r0⟩ := trodAll_cons hA
  obtain ⟨rfl, rfl, rfl⟩ := trodAll_nil r0
  obtain rfl : args = #[v0] := by cases args; simp_all
  obtain ⟨rfl, rfl⟩ := trodVars_none hV
  obtain ⟨a0, len0, cap0, rfl⟩ := okWide_slice Tryd.underlying22 (hval 0 22 v0 rfl rfl)
  have k0 := h0
  have lt0 : ∀ x ∈ p0, x.block < W.heap.size := by obtain ⟨m, hm⟩ := k0; exact DataW.trod_lt m _ _ _ hm
  obtain ⟨z0, w0⟩ := open_prog h0
  clear hA0 hval0
  refine (walked (w := W) a0 len0 cap0 z0 w0 (of_laid hL)).mono fun e W' ⟨he, bel⟩ => ?_
  subst he
  exact ⟨_, rfl, _, _, _, [], _, [], hW', trodAll_mk1 (shut_bool Tryd.underlying4 _), (trodAll_cons_mk (Below.trod laidOut (by kernel_rfl) (of_decide_eq_true (by kernel_rfl)) k0 bel lt0) trodAll_mk0), rfl, bel.frame _, fun h => by cases h⟩

theorem over : Rows.ValidTellsSaid :=
  OpenClaim.holds_of_wide 3 Tryd.f3 rfl rfl rfl rfl rfl rfl rfl ⟨rfl, rfl, rfl, rfl, rfl⟩ rfl rfl rfl rfl rfl (by kernel_rfl) Tryd.func3 (by kernel_rfl)
    (of_decide_eq_true (by kernel_rfl)) (by unfold Func.isWrapper; first | (rw [if_pos (by decide +kernel)]; kernel_rfl) | (rw [if_neg (by decide +kernel)]; exact ⟨rfl, rfl⟩))
    (fun os started H enc _ => lifted os started H enc)

/-- The statement: the row, and what it lists tied to the program's text. -/
theorem proved : Rows.ValidTellsCardSaid :=
  Claim7.holds_tied_plain_at .later [] [.data] true (true, "b590b14693a41eba65153902b74f9ac5e469322994b986d8ee8add5cc5d2eee4") true
    over (fun _ h => by cases h) (by kernel_rfl) (fun _ h => by cases h) validTells_row_tie rfl ⟨rfl, rfl⟩ (by kernel_rfl) rfl
    (fun f fn hf hfn => by
      obtain rfl : f = 3 := Option.some.inj ((show Tryd.prog.funcNamed "haymow/haymowlaw03.ValidTells" = some 3 by kernel_rfl).symm.trans hf) |>.symm
      obtain rfl : fn = Tryd.f3 := (Option.some.inj (Tryd.func3.symm.trans hfn)).symm
      exact ⟨by kernel_rfl, fun j t ht => by
        rw [Tryd.params3] at ht
        match j, ht with
        | 0, ht =>
          obtain rfl : t = 22 := by simpa using ht.symm
          exact (show Tryd.prog.wantsStandIn 22 = false by kernel_rfl)
        | j + 1, ht => simp at ht⟩)
    (by kernel_rfl)
#print axioms proved
end Go.Proofs.YtjfeoigclkelfaaDoor.validTells
