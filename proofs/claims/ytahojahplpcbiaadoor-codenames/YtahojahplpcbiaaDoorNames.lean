/-
  haymowlaw02.CodeNames returns true for every number and every string, with the table of names as it was laid.
-/
import Derived.Test.YtahojahplpcbiaaDoorNam
import Derived.Test.YtahojahplpcbiaaDoorRows
import Derived.Test.YtahojahplpcbiaaDoorLaid
import Derived.Test.YtahojahplpcbiaaDoorTie
import Derived.Test.YtahojahplpcbiaaDoorCards
import Derived.ShutString
import Derived.ChangeOld
import Derived.SevenTiedAt
namespace Go.Proofs.YtahojahplpcbiaaDoor.codeNames
open Go.ChangeShapes Go.WideShapes Go.ChangeAt Go.RowKit
open Go.ChangeMaps (open_string shut_string)

theorem ref_names (w : World) : Calls Tryd.prog 5 #[] w fun e w' => e = .returned (.slice (some ⟨w.heap.size, 0, none⟩) 18 18) ∧ Blk w' w.heap.size 9 (nm.map Value.string).toArray ∧ Fr (fun _ => False) w w' := by
  go_enter Tryd.func5, Tryd.ntmps5
  go_wp2_with fail
  go_ret
  exact ⟨rfl, Blk.new w _ _, (Fr.refl _ _).alloc _⟩

set_option maxHeartbeats 1000000 in
theorem long (op : Int) (s : ByteArray) (h : 50 < s.size) (w : World) :
    Calls Tryd.prog 3 #[.int .i64 op, .string s] w fun e w' => e = .returned (.bool true) ∧ Below w.heap.size w w' := by
  have h1 : (50 : Int) < (s.size : Int) := by omega
  go_enter Tryd.func3, Tryd.ntmps3
  go_wp2_with fail
  go_ret
  exact ⟨rfl, Below.refl _ _⟩

def wantAt (op : Int) (k : Nat) : ByteArray := if 1 ≤ op ∧ op < k then nmAt op.toNat else ⟨#[]⟩
theorem want_same (op : Int) (k : Nat) (h : op ≠ k) : wantAt op (k + 1) = wantAt op k := by
  unfold wantAt
  by_cases h1 : 1 ≤ op ∧ op < k
  · rw [if_pos h1, if_pos ⟨h1.1, by omega⟩]
  · rw [if_neg h1, if_neg (by omega)]
theorem want_here (k : Nat) (h : 1 ≤ k) : wantAt (k : Int) (k + 1) = nmAt k := by
  unfold wantAt
  rw [if_pos ⟨by omega, by omega⟩, Int.toNat_natCast]

theorem name_all (w : World) (hN : NamesAt w) (op : Int) : Calls Tryd.prog 6 #[.int .i64 op] w fun e w' => e = .returned (.string (wantAt op 18)) ∧ w' = w := by
  unfold wantAt
  by_cases h : 1 ≤ op ∧ op < (18 : Nat)
  · rw [if_pos h]
    obtain ⟨k, rfl⟩ := Int.eq_ofNat_of_zero_le (show 0 ≤ op by omega)
    rw [Int.toNat_natCast]
    exact name_in w hN k (by omega) (by omega)
  · rw [if_neg h]
    by_cases h1 : op < 1
    · exact name_low w op h1
    · exact name_high w op (by omega)

def SoFar (s : ByteArray) (k f : Nat) : Prop := (f = 0 ∧ ∀ j, 1 ≤ j → j < k → nmAt j ≠ s) ∨ (1 ≤ f ∧ f < k ∧ nmAt f = s)
theorem SoFar.next {s : ByteArray} {k f : Nat} (h : SoFar s k f) (hk : nmAt k ≠ s) : SoFar s (k + 1) f := by
  rcases h with ⟨rfl, h⟩ | ⟨h1, h2, h3⟩
  · refine .inl ⟨rfl, fun j h1 h2 => ?_⟩
    by_cases hj : j = k
    · rw [hj]; exact hk
    · exact h j h1 (by omega)
  · exact .inr ⟨h1, by omega, h3⟩

set_option maxHeartbeats 4000000 in
set_option maxRecDepth 100000 in
theorem few (op : Int) (s : ByteArray) (h : s.size ≤ 50) (w : World) (hN : NamesAt w) :
    Calls Tryd.prog 3 #[.int .i64 op, .string s] w fun e w' => e = .returned (.bool true) ∧ Below w.heap.size w w' := by
  have h1 : ¬ (50 : Int) < (s.size : Int) := by omega
  have HN := Lib.hid hN
  clear hN
  go_enter Tryd.func3, Tryd.ntmps3
  go_wp2_with fail
  refine (ref_names w).mono ?_
  rintro e w1 ⟨rfl, hB, hF⟩
  have HL : Hid (∀ k, k < 18 → w1.cell? ⟨w.heap.size, k, none⟩ = some (.string (nmAt k))) := fun k hk => by
    have hk' : k < nm.length := hk
    rw [hB.cell, List.getElem?_toArray, List.getElem?_map, List.getElem?_eq_getElem hk']
    unfold nmAt
    rw [List.getD_eq_getElem?_getD, List.getElem?_eq_getElem hk']
    rfl
  have HN1 := Lib.hid (HN.out.fr hF)
  clear hB HN
  go_wp2_with fail
  go_loopw [6, 7, 8] (fun v f i wx => ∃ k n : Nat, 1 ≤ k ∧ k ≤ 18 ∧ i = .int .i64 k ∧ v = .string (wantAt op k) ∧ f = .int .i64 n ∧ SoFar s k n ∧ wx = w1) (fun v f i _ => 18 - (intOf i).toNat)
  case atStart => exact ⟨1, 0, by omega, by omega, rfl, by unfold wantAt; rw [if_neg (by omega)], rfl, .inl ⟨rfl, fun j h1 h2 => by omega⟩, rfl⟩
  case round =>
    obtain ⟨k, n, hk1, hk2, rfl, rfl, rfl, hso, rfl⟩ := hrel
    by_cases hk : k < 18
    · have hc := HL.out k hk
      have HSO := Lib.hid hso
      clear hso
      by_cases he : nmAt k = s
      · have hb := str_eq he
        have HE := Lib.hid he
        clear he
        by_cases ho : op = k
        · subst ho
          go_wp2_with fail
          exact ⟨⟨k + 1, k, by omega, by omega, by go_num, by rw [want_here k hk1], rfl, .inr ⟨hk1, by omega, HE.out⟩, trivial⟩, by simp [intOf]; omega⟩
        · have hob : ((k : Int) == op) = false := by simp; omega
          have hw := Lib.hid (want_same op k ho)
          go_wp2_with fail
          exact ⟨⟨k + 1, k, by omega, by omega, by go_num, by rw [hw.out], rfl, .inr ⟨hk1, by omega, HE.out⟩, trivial⟩, by simp [intOf]; omega⟩
      · have hb := str_ne he
        have HE := Lib.hid he
        clear he
        by_cases ho : op = k
        · subst ho
          go_wp2_with fail
          exact ⟨⟨k + 1, n, by omega, by omega, by go_num, by rw [want_here k hk1], rfl, HSO.out.next HE.out, trivial⟩, by simp [intOf]; omega⟩
        · have hob : ((k : Int) == op) = false := by simp; omega
          have hw := Lib.hid (want_same op k ho)
          go_wp2_with fail
          exact ⟨⟨k + 1, n, by omega, by omega, by go_num, by rw [hw.out], rfl, HSO.out.next HE.out, trivial⟩, by simp [intOf]; omega⟩
    · obtain rfl : k = 18 := by omega
      have hnm : IsNamed s n := hso
      have HNM := Lib.hid hnm
      clear hso hnm
      have hb := str_eq (rfl : wantAt op 18 = wantAt op 18)
      go_wp2_with fail
      refine (name_all _ HN1.out op).mono ?_
      rintro e _ ⟨rfl, rfl⟩
      go_wp2_with fail
      refine (named_any _ HN1.out s).mono ?_
      rintro e _ ⟨r, hr, rfl, rfl⟩
      obtain rfl : r = n := hr.once HNM.out
      clear hr
      go_wp2_with fail
      refine (awake_any _).mono ?_
      rintro e w3 ⟨rfl, hF3⟩
      go_wp2_with fail
      go_ret
      exact ⟨rfl, (hF.trans hF3).below (Nat.le_refl _) (fun _ h => h.elim)⟩

theorem walked (op : Int) (_ : (Lit.int .i64 op).wf = true) (s : ByteArray) (_ : s.size ≤ maxLen) (w : World) (hN : NamesAt w) :
    Calls Tryd.prog 3 #[.int .i64 op, .string s] w fun e w' => e = .returned (.bool true) ∧ Below w.heap.size w w' := by
  by_cases h : 50 < s.size
  · exact long op s h w
  · exact few op s (by omega) w hN

set_option maxRecDepth 100000 in
theorem lifted (os : Os) (started : os.Started) (H : Type) (enc : TypeId × Value → H) :
    ReturnsInHanded {} Tryd.checked os 3 .any (fun w args => (Rows.codeNamesSpec.pre enc Tryd.prog Tryd.f3 [] false w args ∧ laidMetH Tryd.prog laidN w) ∧ sizedMet enc Tryd.prog Tryd.f3 (OpenSpec.ofChange Rows.codeNamesSpec) false w args)
      (Rows.codeNamesSpec.post enc Tryd.prog Tryd.f3 false true false false) := by
  refine returnsInHanded_of_change_and (C := Tryd.checked) (X := fun w _ => laidMetH Tryd.prog laidN w) (fun _ _ _ hh h => h.of_heap hh) own started (by kernel_rfl) Tryd.func3
    (ChangeSpec.witness_shaped (enc := enc) (C := Tryd.checked) (os := os) (X := fun w _ => laidMetH Tryd.prog laidN w) false (World.doorLaid Tryd.prog 400 os) #[.int .i64 0, .string ByteArray.empty] 8 rfl (World.shaped_of_RefB (by kernel_rfl) (by kernel_rfl)) (by kernel_rfl) (by kernel_rfl) (by kernel_rfl) (door_met os _)) ?_
  intro W base args ds gs before hval0 hW _ _ hL _
  have hval : ∀ (j : Nat) t v, Tryd.f3.params[j]? = some t → args[j]? = some v → Value.okWide Tryd.prog W .any base t v := hval0
  have hW' := hW
  obtain ⟨p, q, hA0, hV, rfl, hfz, hnd⟩ := hW
  have hA : DataW.TrodAll enc Tryd.prog W 0 (fun _ => true) true Tryd.f3.params.toList args.toList ds p := hA0
  rw [Tryd.params3] at hA hval
  obtain ⟨v0, vs0, d0, ds0, p0, q0, hargs, rfl, rfl, h0, r0⟩ := trodAll_cons hA
  obtain ⟨v1, vs1, d1, ds1, p1, q1, rfl, rfl, rfl, h1, r1⟩ := trodAll_cons r0
  obtain ⟨rfl, rfl, rfl⟩ := trodAll_nil r1
  obtain rfl : args = #[v0, v1] := by cases args; simp_all
  obtain ⟨rfl, rfl⟩ := trodVars_none hV
  obtain ⟨a0, rfl, rfl, rfl, w0⟩ := open_int Tryd.underlying3 (hval 0 3 v0 rfl rfl) h0
  obtain ⟨a1, rfl, rfl, rfl, w1⟩ := open_string Tryd.underlying9 (hval 1 9 v1 rfl rfl) h1
  clear hA0 hval0
  refine (walked a0 w0 a1 w1 W (of_laid hL)).mono fun e W' ⟨he, bel⟩ => ?_
  subst he
  exact ⟨_, rfl, _, _, _, [], _, [], hW', trodAll_mk1 (shut_bool Tryd.underlying4 _), (trodAll_cons_mk (shut_int Tryd.underlying3 w0) (trodAll_cons_mk (shut_string Tryd.underlying9 w1) trodAll_mk0)), rfl, bel.frame _, fun h => by cases h⟩

theorem over : Rows.CodeNamesSaid :=
  OpenClaim.holds_of_wide 3 Tryd.f3 rfl rfl rfl rfl rfl rfl rfl ⟨rfl, rfl, rfl, rfl, rfl⟩ rfl rfl rfl rfl rfl (by kernel_rfl) Tryd.func3 (by kernel_rfl)
    (of_decide_eq_true (by kernel_rfl)) (by unfold Func.isWrapper; first | (rw [if_pos (by decide +kernel)]; kernel_rfl) | (rw [if_neg (by decide +kernel)]; exact ⟨rfl, rfl⟩))
    (fun os started H enc _ => lifted os started H enc)

/-- The statement: the row, and what it lists tied to the program's text. -/
theorem proved : Rows.CodeNamesCardSaid :=
  Claim7.holds_tied_plain_at .later [] [.data] true (true, "c1b297307e71fb9bd90b40e09623326a49880e1fb8df33917154052dae6a52a0") true
    over (fun _ h => by cases h) (by kernel_rfl) (fun _ h => by cases h) codeNames_row_tie rfl ⟨rfl, rfl⟩ (by kernel_rfl) rfl
    (fun f fn hf hfn => by
      obtain rfl : f = 3 := Option.some.inj ((show Tryd.prog.funcNamed "haymow/haymowlaw02.CodeNames" = some 3 by kernel_rfl).symm.trans hf) |>.symm
      obtain rfl : fn = Tryd.f3 := (Option.some.inj (Tryd.func3.symm.trans hfn)).symm
      exact ⟨by kernel_rfl, fun j t ht => by
        rw [Tryd.params3] at ht
        match j, ht with
        | 0, ht =>
          obtain rfl : t = 3 := by simpa using ht.symm
          exact (show Tryd.prog.wantsStandIn 3 = false by kernel_rfl)
        | 1, ht =>
          obtain rfl : t = 9 := by simpa using ht.symm
          exact (show Tryd.prog.wantsStandIn 9 = false by kernel_rfl)
        | j + 2, ht => simp at ht⟩)
    (by kernel_rfl)
#print axioms proved
end Go.Proofs.YtahojahplpcbiaaDoor.codeNames
