/-
  haymowlaw03.ValidFits returns true for every program, and the argument reads as it did, with the table of fields as it was laid.
-/
import Derived.Test.YtjfeoigclkelfaaDoorAwkV
import Derived.Test.YtjfeoigclkelfaaDoorPureM
import Derived.Test.YtjfeoigclkelfaaDoorOpnV
import Derived.Test.YtjfeoigclkelfaaDoorCommonV
import Derived.Test.YtjfeoigclkelfaaDoorLaidV
import Derived.Test.YtjfeoigclkelfaaDoorTie
import Derived.Test.YtjfeoigclkelfaaDoorCards
import Derived.ShutString
import Derived.ChangeOld
import Derived.SevenTiedAt
namespace Go.Proofs.YtjfeoigclkelfaaDoor.validFits
open Go.ChangeShapes Go.WideShapes Go.ChangeAt Go.RowKit
open Go.ChangeMaps (open_string shut_string)

theorem kd_small : ∀ op, op < 18 → ∀ j, j < 3 → kdAt op j ≤ 3 := by decide
theorem kd_k : ∀ op, op < 18 → kdAt op 3 = 0 ∨ kdAt op 3 = 4 ∨ kdAt op 3 = 5 ∨ kdAt op 3 = 6 := by decide

theorem unused_zero {x : Ins} {op j : Nat} (h : x.op = op) (hu : unusedE x j = 0) (hk : kdAt op j = 0) : x.num j = 0 := by
  unfold unusedE at hu
  rw [h, Int.toNat_natCast] at hu
  by_cases h0 : x.num j = 0
  · exact h0
  · rw [if_neg (by rintro (h' | h') <;> contradiction)] at hu
    exact absurd hu (by decide)

theorem ins_fits {fs : List Fn} {pl : Nat} {x : Ins} (hf : fs.length ≤ 16) (hp : pl ≤ 64) (h : insE fs pl x = 0) : x.ok := by
  obtain ⟨h1, h2, h3, _⟩ := insE_nought h
  obtain ⟨op, ho⟩ := Int.eq_ofNat_of_zero_le (show 0 ≤ x.op by omega)
  have small : ∀ j, j < 3 → fit8 (x.num j) := fun j hj => by
    have hk := kd_small op (by omega) j hj
    have hfj := h3 j (by omega)
    rw [field_at ho] at hfj
    obtain hk | hk | hk | hk : kdAt op j = 0 ∨ kdAt op j = 1 ∨ kdAt op j = 2 ∨ kdAt op j = 3 := by omega
    · rw [unused_zero ho (h2 j (by omega)) hk]; exact ⟨by decide, by decide⟩
    · rw [hk] at hfj
      have : 0 ≤ x.num j ∧ x.num j < 8 := rngE_zero (e := 6) (by decide) hfj
      exact ⟨this.1, by omega⟩
    · rw [hk] at hfj
      have : 0 ≤ x.num j ∧ x.num j < 4 := rngE_zero (e := 6) (by decide) hfj
      exact ⟨this.1, by omega⟩
    · rw [hk] at hfj
      have : 0 ≤ x.num j ∧ x.num j < fs.length := rngE_zero (e := 5) (by decide) hfj
      exact ⟨this.1, by omega⟩
  have hkk : fitK (x.num 3) := by
    have hfj := h3 3 (by omega)
    rw [field_at ho] at hfj
    rcases kd_k op (by omega) with hk | hk | hk | hk
    · rw [unused_zero ho (h2 3 (by omega)) hk]; exact ⟨by decide, by decide⟩
    · rw [hk] at hfj
      have : 0 ≤ x.num 3 ∧ x.num 3 < pl := rngE_zero (e := 6) (by decide) hfj
      exact ⟨by omega, by omega⟩
    · rw [hk] at hfj
      have : 16 ≤ x.num 3 ∧ x.num 3 < 2147483648 := rngE_zero (e := 6) (by decide) hfj
      exact ⟨by omega, by omega⟩
    · rw [hk] at hfj
      have : -2147483648 ≤ x.num 3 ∧ x.num 3 < 2147483648 := rngE_zero (e := 6) (by decide) hfj
      exact ⟨by omega, by omega⟩
  exact ⟨⟨by omega, by omega⟩, small 0 (by omega), small 1 (by omega), small 2 (by omega), hkk⟩

theorem prog_fits {fs : List Fn} (h : (chk fs).2.2 = 0) : progOk fs := by
  obtain ⟨h1, h2⟩ := chk_nought h
  refine ⟨by omega, fun f hf => ?_⟩
  obtain ⟨a1, a2, a3, _⟩ := fnE_nought (h2 f hf)
  exact ⟨⟨a1.1, by omega⟩, by omega, fun x hx => ins_fits h1.2 a2.2 (a3 x hx)⟩

theorem room_few (L : List LFn) (h : ∀ x ∈ L, x.f.code.length ≤ 70) : room L ≤ 600 * L.length := by
  induction L with
  | nil => simp [room]
  | cons a r ih =>
    have h1 := ih (fun x hx => h x (List.mem_cons_of_mem _ hx))
    have h2 := h a (List.mem_cons_self ..)
    simp only [room, List.map_cons, List.sum_cons, List.length_cons] at h1 ⊢
    omega
theorem own_caps {w : World} {base : Nat} {e : TypeId} {size n : Nat} {v : Value} {xs : List Value} (h : w.ownsRow base e size v n xs) (hn : 0 < n) : ∃ g cap, v = .slice (some ⟨g, 0, none⟩) n cap ∧ n ≤ cap ∧ cap ≤ maxLen := by
  rcases h.2 with ⟨_, h0⟩ | ⟨g, cap, cur, hv, _, _, h1, h2, _⟩
  · omega
  · exact ⟨g, cap, hv, h1, h2⟩
theorem len_fns {L L' : List LFn} (h : fns L' = fns L) (hp : ∀ x ∈ L, x.f.code.length ≤ 70) : ∀ x ∈ L', x.f.code.length ≤ 70 := fun x hx => by
  have : x.f ∈ fns L := by rw [← h]; exact List.mem_map_of_mem hx
  obtain ⟨y, hy, e⟩ := List.mem_map.1 this
  rw [← e]
  exact hp y hy

set_option maxHeartbeats 16000000 in
theorem main (A : Option Addr) (c : Nat) (L : List LFn) (w : World) (hR : FnRow w (fun b => b < w.heap.size) A L) (hT : FieldsAt w) :
    Calls Tryd.prog 4 #[.slice A L.length c] w fun e w' => e = .returned (.bool true) ∧ Below w.heap.size w w' := by
  have HR := Lib.hid hR
  have HT := Lib.hid hT
  clear hR hT
  go_enter Tryd.func4, Tryd.ntmps4
  go_wp2_with fail
  refine (light_any w _ A c L HR.out).mono ?_
  rintro e w ⟨t, rfl, ht, rfl⟩
  cases t with
  | false =>
    go_wp2_with fail
    go_ret
    exact ⟨rfl, Below.refl _ _⟩
  | true =>
    obtain ⟨hl, hp⟩ := ht rfl
    have HP := Lib.hid hp
    clear ht hp
    go_wp2_with fail
    refine (of_any _ A c L HR.out (by omega) (fun x hx => by have := HP.out x hx; omega)).mono ?_
    rintro e w1 ⟨v, L', rfl, hfn, hM, hF1⟩
    obtain ⟨A', c', rfl, hR'⟩ := hM.row
    have hl' : L'.length ≤ 20 := by
      have := congrArg List.length hfn
      simp [fns] at this
      omega
    have hck := check_any w1 A' c' L' hR' (HT.out.fr hF1 (fun h => h)) (by omega)
    have hroom := room_few L' (len_fns hfn HP.out)
    have HCK := Lib.hid hck
    have HF1 := Lib.hid hF1
    have HR' := Lib.hid hR'
    clear hR' hM hck hF1 hfn
    obtain ⟨q, hq⟩ : ∃ q, q = chk (fns L') := ⟨_, rfl⟩
    rw [← hq] at HCK
    have HQ := Lib.hid hq
    clear hq
    go_wp2_with fail
    refine HCK.out.mono ?_
    rintro e w2 ⟨rfl, hF2⟩
    have HF2 := Lib.hid hF2
    have hF12 := HF1.out.trans hF2
    have HF12 := Lib.hid hF12
    clear hF2 hF12 HCK
    by_cases h0 : q.2.2 = 0
    · have hz : (chk (fns L')).2.2 = 0 := by rw [← HQ.out]; exact h0
      have hg := chk_nought hz
      have hc0 : chk (fns L') = (0, 0, 0) := chk_good hg.1 hg.2
      have hq0 : q = (0, 0, 0) := by rw [HQ.out]; exact hc0
      have HC0 := Lib.hid hc0
      have HOK := Lib.hid (prog_fits hz)
      clear hg h0 HQ hz hc0
      subst hq0
      go_wp2_with fail
      refine (write_any w2 A' c' L' ((HR'.out.fr HF2.out (fun _ _ h => h)).mono (fun _ h => Nat.lt_of_lt_of_le h HF2.out.size)) (by omega) (by omega)).mono ?_
      rintro e w3 (⟨_, v, rfl, hown, hF3⟩ | ⟨hno, _, _⟩)
      · obtain ⟨g, cap, rfl, hc1, hc2⟩ := own_caps hown (by omega)
        have hrd := read_any w3 (some ⟨g, 0, none⟩) cap (72 :: progBytes (fns L')) (by have := (Rd.of_own hown).mono (Q' := fun b => b < w3.heap.size) (fun _ h => h.2); rw [Nat.add_comm] at this; exact this) (allB_cons ⟨by omega, by omega⟩ (prog_allB _ HOK.out)) (by rw [List.length_cons]; omega) hc2
        have hpp := pProg_of (fns L') HOK.out []
        rw [List.append_nil] at hpp
        rw [List.length_cons, Nat.add_comm] at hrd
        have HRD := Lib.hid hrd
        have HPP := Lib.hid hpp
        have HF3 := Lib.hid (HF12.out.trans hF3)
        clear hown hrd hpp hF3
        go_wp2_with fail
        refine HRD.out.mono ?_
        rintro e w4 (⟨t, L2, g2, ht, hp2, rfl, hB, hg, hgw, hF4⟩ | ⟨er, he, hn, rfl, hF4⟩)
        · injection ht with _ ht
          subst ht
          rw [HPP.out] at hp2
          have hL2 : fns L2 = fns L' := by
            injection hp2 with hp2
            injection hp2 with hp2
            exact hp2.symm
          have hF14 := HF3.out.trans hF4
          have hck := check_any w4 (some ⟨g2, 0, none⟩) L2.length L2 (made_row hB hg) (HT.out.fr hF14 (fun h => h)) (by have := congrArg List.length hL2; rw [fns_length, fns_length] at this; omega)
          rw [hL2, HC0.out] at hck
          have HCK := Lib.hid hck
          have HF14 := Lib.hid hF14
          clear hp2 hL2 hB hg hck hF14 hF4 HRD
          go_wp2_with fail
          refine HCK.out.mono ?_
          rintro e w5 ⟨rfl, hF5⟩
          have hF15 := HF14.out.trans hF5
          clear HCK
          go_wp2_with fail
          refine (awake_any _ (HT.out.fr hF15 (fun h => h))).mono ?_
          rintro e w6 ⟨rfl, hF6⟩
          go_wp2_with fail
          go_ret
          exact ⟨rfl, (hF15.trans hF6).below (Nat.le_refl _) (fun _ h => h.elim)⟩
        · exact absurd (by rw [← he]; simp [readE, HPP.out]) hn
      · exact absurd HOK.out hno
    · have h0b : (q.2.2 == 0) = false := by simpa using h0
      have h0c : (q.2.2 != 0) = true := by simp [bne, h0b]
      clear h0
      go_wp2_with fail
      refine (awake_any _ (HT.out.fr HF12.out (fun h => h))).mono ?_
      rintro e w5 ⟨rfl, hF6⟩
      go_wp2_with fail
      go_ret
      exact ⟨rfl, (HF12.out.trans hF6).below (Nat.le_refl _) (fun _ h => h.elim)⟩

theorem walked {w : World} (a0 : Option Addr) (len0 cap0 : Nat) (z0 : List LFn) (w0 : z0.length = len0 ∧ FnRow w (fun b => b < w.heap.size) a0 z0) (hT : FieldsAt w) :
    Calls Tryd.prog 4 #[.slice a0 len0 cap0] w fun e w' => e = .returned (.bool true) ∧ Below w.heap.size w w' := by
  obtain ⟨rfl, hR⟩ := w0
  exact main a0 cap0 z0 w hR hT

set_option maxRecDepth 100000 in
theorem lifted (os : Os) (started : os.Started) (H : Type) (enc : TypeId × Value → H) :
    ReturnsInHanded {} Tryd.checked os 4 .any (fun w args => (Rows.validFitsSpec.pre enc Tryd.prog Tryd.f4 [] false w args ∧ laidMetH Tryd.prog laidN w) ∧ sizedMet enc Tryd.prog Tryd.f4 (OpenSpec.ofChange Rows.validFitsSpec) false w args)
      (Rows.validFitsSpec.post enc Tryd.prog Tryd.f4 false true false false) := by
  refine returnsInHanded_of_change_and (C := Tryd.checked) (X := fun w _ => laidMetH Tryd.prog laidN w) (fun _ _ _ hh h => h.of_heap hh) own started (by kernel_rfl) Tryd.func4
    (ChangeSpec.witness_shaped (enc := enc) (C := Tryd.checked) (os := os) (X := fun w _ => laidMetH Tryd.prog laidN w) false (World.doorLaid Tryd.prog 400 os) #[.slice none 0 0] 8 rfl (World.shaped_of_RefB (by kernel_rfl) (by kernel_rfl)) (by kernel_rfl) (by kernel_rfl) (by kernel_rfl) (door_met os _)) ?_
  intro W base args ds gs before hval0 hW _ _ hL _
  have hval : ∀ (j : Nat) t v, Tryd.f4.params[j]? = some t → args[j]? = some v → Value.okWide Tryd.prog W .any base t v := hval0
  have hW' := hW
  obtain ⟨p, q, hA0, hV, rfl, hfz, hnd⟩ := hW
  have hA : DataW.TrodAll enc Tryd.prog W 0 (fun _ => true) true Tryd.f4.params.toList args.toList ds p := hA0
  rw [Tryd.params4] at hA hval
  obtain ⟨v0, vs0, d0, ds0, p0, q0, hargs, rfl, rfl, h0, r0⟩ := trodAll_cons hA
  obtain ⟨rfl, rfl, rfl⟩ := trodAll_nil r0
  obtain rfl : args = #[v0] := by cases args; simp_all
  obtain ⟨rfl, rfl⟩ := trodVars_none hV
  obtain ⟨a0, len0, cap0, rfl⟩ := okWide_slice Tryd.underlying22 (hval 0 22 v0 rfl rfl)
  have k0 := h0
  have lt0 : ∀ x ∈ p0, x.block < W.heap.size := by obtain ⟨m, hm⟩ := k0; exact DataW.trod_lt m _ _ _ hm
  obtain ⟨z0, w0⟩ := open_prog h0
  clear hA0 hval0
  refine (walked (w := W) a0 len0 cap0 z0 w0 (of_laid hL)).mono fun e W' ⟨he, bel⟩ => ?_
  subst he
  exact ⟨_, rfl, _, _, _, [], _, [], hW', trodAll_mk1 (shut_bool Tryd.underlying4 _), (trodAll_cons_mk (Below.trod laidOut (by kernel_rfl) (of_decide_eq_true (by kernel_rfl)) k0 bel lt0) trodAll_mk0), rfl, bel.frame _, fun h => by cases h⟩

theorem over : Rows.ValidFitsSaid :=
  OpenClaim.holds_of_wide 4 Tryd.f4 rfl rfl rfl rfl rfl rfl rfl ⟨rfl, rfl, rfl, rfl, rfl⟩ rfl rfl rfl rfl rfl (by kernel_rfl) Tryd.func4 (by kernel_rfl)
    (of_decide_eq_true (by kernel_rfl)) (by unfold Func.isWrapper; first | (rw [if_pos (by decide +kernel)]; kernel_rfl) | (rw [if_neg (by decide +kernel)]; exact ⟨rfl, rfl⟩))
    (fun os started H enc _ => lifted os started H enc)

/-- The statement: the row, and what it lists tied to the program's text. -/
theorem proved : Rows.ValidFitsCardSaid :=
  Claim7.holds_tied_plain_at .later [] [.data] true (true, "b590b14693a41eba65153902b74f9ac5e469322994b986d8ee8add5cc5d2eee4") true
    over (fun _ h => by cases h) (by kernel_rfl) (fun _ h => by cases h) validFits_row_tie rfl ⟨rfl, rfl⟩ (by kernel_rfl) rfl
    (fun f fn hf hfn => by
      obtain rfl : f = 4 := Option.some.inj ((show Tryd.prog.funcNamed "haymow/haymowlaw03.ValidFits" = some 4 by kernel_rfl).symm.trans hf) |>.symm
      obtain rfl : fn = Tryd.f4 := (Option.some.inj (Tryd.func4.symm.trans hfn)).symm
      exact ⟨by kernel_rfl, fun j t ht => by
        rw [Tryd.params4] at ht
        match j, ht with
        | 0, ht =>
          obtain rfl : t = 22 := by simpa using ht.symm
          exact (show Tryd.prog.wantsStandIn 22 = false by kernel_rfl)
        | j + 1, ht => simp at ht⟩)
    (by kernel_rfl)
#print axioms proved
end Go.Proofs.YtjfeoigclkelfaaDoor.validFits
