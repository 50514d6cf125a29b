/-
  haymowlaw05.PathReads returns true for every text and every row of numbers.
-/
import Derived.Test.YtafchncdolagdaaDoorRedR
import Derived.Test.YtafchncdolagdaaDoorTie
import Derived.Test.YtafchncdolagdaaDoorCards
import Derived.ShutString
import Derived.ChangeOld
import Derived.SevenTiedAt
namespace Go.Proofs.YtafchncdolagdaaDoor.pathReads
open Go.ChangeShapes Go.WideShapes Go.ChangeAt Go.RowKit
open Go.ChangeMaps (open_string shut_string)

theorem readL_len (l : List UInt8) : (readL l).1.length ≤ 30 := by
  unfold readL
  split
  · simp
  · split
    · split
      · simp
      · simp; omega
    · simp

set_option maxHeartbeats 8000000 in
set_option maxRecDepth 100000 in
theorem walk (w : World) (hT : Tab w) (s : ByteArray) (A : Option Addr) (n c : Nat) (xs : List Int) (hx : ArgR w A n c xs) :
    Calls Tryd.prog 4 #[.string s, .slice A n c] w fun e w' => e = .returned (.bool true) ∧ Fr (fun _ => False) w w' := by
  have HX := Lib.hid hx.1
  have HW := Lib.hid hx.2.2
  have hxl := hx.1.1
  have HT := Lib.hid hT
  clear hx hT
  by_cases h1 : s.size ≤ 300
  · have g1 : ¬ (300 : Int) < (s.size : Int) := by omega
    by_cases h2 : n ≤ 30
    · have g2 : ¬ (30 : Int) < (n : Int) := by omega
      go_enter Tryd.func4, Tryd.ntmps4
      go_wp2_with fail
      go_loopw [5] (fun i wx => ∃ k : Nat, k ≤ n ∧ i = .int .i64 k ∧ Hid (∀ x ∈ xs.take k, 0 ≤ x) ∧ wx = w) (fun i _ => n - (intOf i).toNat)
      case atStart => exact ⟨0, by omega, rfl, Lib.hid (fun x hx => by simp at hx), rfl⟩
      case round =>
        obtain ⟨k, hk, rfl, HP, rfl⟩ := hrel
        by_cases hkl : k < n
        · obtain ⟨x, hx⟩ : ∃ x, xs[k]? = some x := ⟨_, List.getElem?_eq_getElem (by omega)⟩
          obtain ⟨b, off, rfl, hc⟩ := HX.out.at_ hx
          by_cases hx0 : x < 0
          · clear hx
            go_wp2_with fail
            go_ret
            exact ⟨rfl, Fr.refl _ _⟩
          · have HP2 : Hid (∀ y ∈ xs.take (k + 1), 0 ≤ y) := Lib.hid (by
              rw [take_snoc' xs k x hx]
              intro y hy
              rcases List.mem_append.1 hy with hy | hy
              · exact HP.out y hy
              · rw [List.mem_singleton.1 hy]; omega)
            clear hx
            go_wp2_with fail
            exact ⟨⟨k + 1, by omega, by go_num, HP2, trivial⟩, by simp [intOf]; omega⟩
        · obtain rfl : k = n := by omega
          rw [List.take_of_length_le (by omega)] at HP
          have hb : ∀ x ∈ xs, 0 ≤ x ∧ x < 9223372036854775808 := fun x hx => by
            have b := bounds_i64 (HW.out x hx)
            have := HP.out x hx
            omega
          have HB := Lib.hid hb
          have HTL := Lib.hid (txt_len xs (by omega) (fun z hz => by have := hb z hz; omega))
          have HRL := Lib.hid (readL_len s.data.toList)
          clear hb
          go_wp2_with fail
          refine (read_any _ s (by omega)).mono ?_
          rintro e w1 ⟨A1, n1, c1, rfl, hI1, hF1⟩
          have HI1 := Lib.hid hI1
          have HF1 := Lib.hid hF1
          have hn1 : n1 ≤ 30 := by have := hI1.1; have := HRL.out; omega
          obtain ⟨er, her⟩ : ∃ er, (readL s.data.toList).2 = er := ⟨_, rfl⟩
          have HER := Lib.hid her
          rw [her]
          clear hI1 hF1 her
          go_wp2_with fail
          refine (rread_any _ s (by omega)).mono ?_
          rintro e w2 ⟨A2, n2, c2, rfl, hI2, hF2⟩
          have hn2 : n2 ≤ 30 := by have := hI2.1; have := HRL.out; omega
          have HI1' := Lib.hid (HI1.out.fr hF2)
          have HI2 := Lib.hid hI2
          have HF2 := Lib.hid (HF1.out.trans hF2)
          rw [HER.out]
          clear hI2 hF2
          go_wp2_with fail
          refine (same_any _ A1 c1 _ n1 HI1'.out A2 c2 _ n2 HI2.out (by omega) (by omega)).mono ?_
          rintro e w3 ⟨rfl, q3, rfl⟩
          rw [cmpL_self]
          have HF3 := Lib.hid (HF2.out.drewN q3)
          have HTX := Lib.hid (text_any (w2.drewN q3) A c xs k (HX.out.fr HF3.out) (by omega) (tells_all _ (HT.out.fr HF3.out) _ HW.out) (by have := HTL.out; omega))
          go_wp2_with fail
          refine HTX.out.mono ?_
          rintro e w4 ⟨rfl, hF4⟩
          have HF4 := Lib.hid (HF3.out.trans hF4)
          obtain ⟨tb, htb⟩ : ∃ tb : ByteArray, (⟨(txt xs).toArray⟩ : ByteArray) = tb := ⟨_, rfl⟩
          have HRT := Lib.hid (rtext_any w4 A c xs k (HX.out.fr HF4.out) (by omega) HB.out)
          rw [htb] at HRT ⊢
          clear htb hF4 HTX
          go_wp2_with fail
          refine HRT.out.mono ?_
          rintro e w5 ⟨rfl, q5, rfl⟩
          go_wp2_with fail
          refine (awake_any _).mono ?_
          rintro e w6 ⟨rfl, hF6⟩
          have HF6 := Lib.hid ((HF4.out.drewN q5).trans hF6)
          clear hF6
          go_wp2_with fail
          go_ret
          exact ⟨rfl, HF6.out⟩
    · have g2 : (30 : Int) < (n : Int) := by omega
      go_enter Tryd.func4, Tryd.ntmps4
      go_wp2_with fail
      go_ret
      exact ⟨rfl, Fr.refl _ _⟩
  · have g1 : (300 : Int) < (s.size : Int) := by omega
    go_enter Tryd.func4, Tryd.ntmps4
    go_wp2_with fail
    go_ret
    exact ⟨rfl, Fr.refl _ _⟩

theorem walked {w : World} {X : Prop} (s : ByteArray) (_ : X) (a0 : Option Addr) (len0 cap0 : Nat) (z0 : List Int) (w0 : ArgR w a0 len0 cap0 z0) (hT : Tab w) :
    Calls Tryd.prog 4 #[.string s, .slice a0 len0 cap0] w fun e w' => e = .returned (.bool true) ∧ Below w.heap.size w w' :=
  (walk w hT s a0 len0 cap0 z0 w0).mono fun _ _ ⟨he, hF⟩ => ⟨he, hF.below (Nat.le_refl _) (fun _ h => h.elim)⟩

set_option maxRecDepth 100000 in
theorem lifted (os : Os) (started : os.Started) (H : Type) (enc : TypeId × Value → H) :
    ReturnsInHanded {} Tryd.checked os 4 .any (fun w args => (Rows.pathReadsSpec.pre enc Tryd.prog Tryd.f4 [] false w args ∧ laidMetH Tryd.prog laidN w) ∧ sizedMet enc Tryd.prog Tryd.f4 (OpenSpec.ofChange Rows.pathReadsSpec) false w args)
      (Rows.pathReadsSpec.post enc Tryd.prog Tryd.f4 false true false false) := by
  refine returnsInHanded_of_change_and (C := Tryd.checked) (X := fun w _ => laidMetH Tryd.prog laidN w) (fun _ _ _ hh h => h.of_heap hh) own started (by kernel_rfl) Tryd.func4
    (ChangeSpec.witness_shaped (enc := enc) (C := Tryd.checked) (os := os) (X := fun w _ => laidMetH Tryd.prog laidN w) false (World.doorLaid Tryd.prog 400 os) #[.string ByteArray.empty, .slice none 0 0] 8 rfl (World.shaped_of_RefB (by kernel_rfl) (by kernel_rfl)) (by kernel_rfl) (by kernel_rfl) (by kernel_rfl) (door_met os _)) ?_
  intro W base args ds gs before hval0 hW _ _ hL _
  have hval : ∀ (j : Nat) t v, Tryd.f4.params[j]? = some t → args[j]? = some v → Value.okWide Tryd.prog W .any base t v := hval0
  have hW' := hW
  obtain ⟨p, q, hA0, hV, rfl, hfz, hnd⟩ := hW
  have hA : DataW.TrodAll enc Tryd.prog W 0 (fun _ => true) true Tryd.f4.params.toList args.toList ds p := hA0
  rw [Tryd.params4] at hA hval
  obtain ⟨v0, vs0, d0, ds0, p0, q0, hargs, rfl, rfl, h0, r0⟩ := trodAll_cons hA
  obtain ⟨v1, vs1, d1, ds1, p1, q1, rfl, rfl, rfl, h1, r1⟩ := trodAll_cons r0
  obtain ⟨rfl, rfl, rfl⟩ := trodAll_nil r1
  obtain rfl : args = #[v0, v1] := by cases args; simp_all
  obtain ⟨rfl, rfl⟩ := trodVars_none hV
  obtain ⟨a0, rfl, rfl, rfl, w0⟩ := open_string Tryd.underlying9 (hval 0 9 v0 rfl rfl) h0
  obtain ⟨a1, len1, cap1, rfl⟩ := okWide_slice Tryd.underlying22 (hval 1 22 v1 rfl rfl)
  have k1 := h1
  have lt1 : ∀ x ∈ p1, x.block < W.heap.size := by obtain ⟨m, hm⟩ := k1; exact DataW.trod_lt m _ _ _ hm
  obtain ⟨z1, w1⟩ := open_row h1
  clear hA0 hval0
  refine (walked (w := W) a0 w0 a1 len1 cap1 z1 w1 (tab_of hL)).mono fun e W' ⟨he, bel⟩ => ?_
  subst he
  exact ⟨_, rfl, _, _, _, [], _, [], hW', trodAll_mk1 (shut_bool Tryd.underlying4 _), (trodAll_cons_mk (shut_string Tryd.underlying9 w0) (trodAll_cons_mk (Below.trod laidOut (by kernel_rfl) (of_decide_eq_true (by kernel_rfl)) k1 bel lt1) trodAll_mk0)), rfl, bel.frame _, fun h => by cases h⟩

theorem over : Rows.PathReadsSaid :=
  OpenClaim.holds_of_wide 4 Tryd.f4 rfl rfl rfl rfl rfl rfl rfl ⟨rfl, rfl, rfl, rfl, rfl⟩ rfl rfl rfl rfl rfl (by kernel_rfl) Tryd.func4 (by kernel_rfl)
    (of_decide_eq_true (by kernel_rfl)) (by unfold Func.isWrapper; first | (rw [if_pos (by decide +kernel)]; kernel_rfl) | (rw [if_neg (by decide +kernel)]; exact ⟨rfl, rfl⟩))
    (fun os started H enc _ => lifted os started H enc)

/-- The statement: the row, and what it lists tied to the program's text. -/
theorem proved : Rows.PathReadsCardSaid :=
  Claim7.holds_tied_plain_at .later [] [.data, .data, .data] true (true, "3104680c1f228efd10334e66c46e6116db24ee6cb05c0589596e48fdbe4e830e") false
    over (fun _ h => by cases h) (by kernel_rfl) (fun _ h => by cases h) pathReads_row_tie rfl ⟨rfl, rfl⟩ (by kernel_rfl) rfl
    (fun f fn hf hfn => by
      obtain rfl : f = 4 := Option.some.inj ((show Tryd.prog.funcNamed "haymow/haymowlaw05.PathReads" = some 4 by kernel_rfl).symm.trans hf) |>.symm
      obtain rfl : fn = Tryd.f4 := (Option.some.inj (Tryd.func4.symm.trans hfn)).symm
      exact ⟨by kernel_rfl, fun j t ht => by
        rw [Tryd.params4] at ht
        match j, ht with
        | 0, ht =>
          obtain rfl : t = 9 := by simpa using ht.symm
          exact (show Tryd.prog.wantsStandIn 9 = false by kernel_rfl)
        | 1, ht =>
          obtain rfl : t = 22 := by simpa using ht.symm
          exact (show Tryd.prog.wantsStandIn 22 = false by kernel_rfl)
        | j + 2, ht => simp at ht⟩)
    (by kernel_rfl)
#print axioms proved
end Go.Proofs.YtafchncdolagdaaDoor.pathReads
