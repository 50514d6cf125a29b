/-
  haymowlaw02.CodeReads returns true for every list of bytes, and the argument reads as it did. No condition.
-/
import Derived.Test.YtahojahplpcbiaaCommon
import Derived.Test.YtahojahplpcbiaaApp
import Derived.Test.YtahojahplpcbiaaRefR2
import Derived.Test.YtahojahplpcbiaaRows
import Derived.ShutString
import Derived.ChangeOld
namespace Go.Proofs.Ytahojahplpcbiaa.codeReads
open Go.ChangeShapes Go.WideShapes Go.ChangeAt Go.RowKit
open Go.ChangeMaps (open_string shut_string)

theorem own_read {w : World} {base : Nat} {v : Value} {n : Nat} {bs : List Int} (h : w.ownsRow base 5 1 v n (by8 bs)) :
    ∃ A cap, v = .slice A n cap ∧ n ≤ cap ∧ cap ≤ maxLen ∧ bs.length = n ∧ Rd w (fun b => b < w.heap.size) 1 A n (by8 bs) := by
  have hl : bs.length = n := by have := h.1; simp [by8] at this; exact this
  rcases h.2 with ⟨rfl, rfl⟩ | ⟨g, cap, cur, rfl, hb, hg, h1, h2, _⟩
  · refine ⟨none, 0, rfl, Nat.le_refl _, by unfold maxLen; omega, hl, ?_⟩
    obtain rfl : bs = [] := List.length_eq_zero_iff.1 hl
    exact Rd.nil
  · exact ⟨_, cap, rfl, h1, h2, hl, (Rd.of_own h).mono (fun b hb => hb.2)⟩
theorem by8_one (bs : List Int) : ∀ u ∈ by8 bs, u.oneCell' = true := fun u hu => by
  obtain ⟨x, _, rfl⟩ := List.mem_map.1 hu
  rfl
theorem few_parts {t : List Int} {L : List LFn} (h : pProg t = some (fns L, [])) (hB : AllB t) (hl : t.length ≤ 3000) : L.length ≤ 300 ∧ parts L ≤ 600 := by
  have hb := (pProg_back hB h).2
  rw [List.append_nil] at hb
  have h1 := room_bytes L
  rw [← hb, room_parts] at h1
  have h2 : (fns L).length = L.length := by simp [fns]
  have h3 := hB ((fns L).length : Int) (by rw [hb]; simp [progBytes])
  omega
theorem row_nil (w : World) (Q : Nat → Prop) : FnRow w Q none [] := ⟨Rd.nil, fun x hx => by cases hx⟩

set_option maxHeartbeats 1000000 in
theorem long (a0 : Option Addr) (len0 cap0 : Nat) (h : 3000 < len0) (w : World) :
    Calls Try.prog 4 #[.slice a0 len0 cap0] w fun e w' => e = .returned (.bool true) ∧ Below w.heap.size w w' := by
  have h1 : (3000 : Int) < (len0 : Int) := by omega
  go_enter Try.func4, Try.ntmps4
  go_wp2_with fail
  go_ret
  exact ⟨rfl, Below.refl _ _⟩

set_option maxHeartbeats 8000000 in
theorem few (a0 : Option Addr) (cap0 : Nat) (bs : List Int) (w : World) (hR : Rd w (fun b => b < w.heap.size) 1 a0 bs.length (by8 bs)) (hfit : AllB bs) (h : bs.length ≤ 3000) :
    Calls Try.prog 4 #[.slice a0 bs.length cap0] w fun e w' => e = .returned (.bool true) ∧ Below w.heap.size w w' := by
  have g0 : ¬ (3000 : Int) < (bs.length : Int) := by omega
  have HR := Lib.hid hR
  have HFIT := Lib.hid hfit
  clear hR hfit
  obtain ⟨i0, hi, hz0, hz1, hz2⟩ := info_parts info_u8
  have own0 := World.ownsRow_made (base := w.heap.size) (e := 5) (size := 1) w #[] 0 (Nat.le_refl _) (by unfold maxLen; omega) rfl
  have HO0 := Lib.hid own0
  clear own0
  go_enter Try.func4, Try.ntmps4
  go_wp2_with (at_builtin; refine app_list _ rfl (.tmp 11) (.tmp 12) 24 rfl w.heap.size 5 i0 (.int .u8 0) 1 1 Try.underlying24 hi hz0 hz1 hz2 rfl (by decide) _ 0 [] rfl HO0.out (fun b => b < w.heap.size) a0 bs.length cap0 (by8 bs) rfl (HR.out.alloc _) (by8_one _) ?c1 ?c2 (by simp) ?_)
  case c1 => unfold maxLen; omega
  case c2 => omega
  intro v1 w1 own1 hg1 hor1
  have hF1 : Fr (fun _ => False) w w1 := ((Fr.refl _ _).alloc _).then (Fr.grown hg1) (fun i hi => .inr (by
    have : i = w.heap.size := by simpa [Value.ownBlock] using hi
    omega))
  obtain ⟨A1, c1, rfl, hc1, hc2, _, hR1⟩ := own_read own1
  have hread := read_any w1 A1 c1 bs hR1 HFIT.out hc1 hc2
  have HRD := Lib.hid hread
  have HF1 := Lib.hid hF1
  clear own1 hg1 hor1 hR1 hread hF1 HO0
  go_wp2_with fail
  refine HRD.out.mono ?_
  clear HRD
  rintro e w2 (⟨t, L, g, ht, hp, rfl, hB, hg, hgw, hF2⟩ | ⟨er, he, hn, rfl, hF2⟩)
  · have hF12 := HF1.out.trans hF2
    have hrr := refRead_any w2 a0 cap0 bs ((HR.out.fr hF12 (fun _ _ h => h)).mono (fun _ h => Nat.lt_of_lt_of_le h hF12.size)) HFIT.out h
    have HRR := Lib.hid hrr
    have hrow := made_row hB hg
    have HROW := Lib.hid hrow
    have HF12 := Lib.hid hF12
    have HT := Lib.hid ht
    have HP := Lib.hid hp
    clear hrr hrow hB hg hF2 hF12 hp ht
    go_wp2_with fail
    refine HRR.out.mono ?_
    clear HRR
    rintro e w3 (⟨t', L', v, ht', hp', rfl, hM, hF3⟩ | ⟨er, he, hn, _, _⟩)
    · obtain ⟨A', c', rfl, hR'⟩ := hM.row
      have htt : t = t' := by
        have := HT.out.symm.trans ht'
        injection this
      subst htt
      have hL : fns L = fns L' := by
        have := HP.out.symm.trans hp'
        injection this with this
        injection this
      have hfw := few_parts hp' (by have := HFIT.out; rw [HT.out] at this; exact this.tail) (by have := h; rw [HT.out] at this; simp at this; omega)
      have HTD := Lib.hid (told_same w3 (some ⟨g, 0, none⟩) L.length L ((HROW.out.fr hF3 (fun _ _ h => h)).mono (fun _ h => Nat.lt_of_lt_of_le h hF3.size)) A' c' L' hR' hfw.1 hfw.2 hL)
      have hF13 := HF12.out.trans hF3
      have HF13 := Lib.hid hF13
      clear hM hR' hp' hL hfw ht' hF3 hF13
      go_wp2_with fail
      refine HTD.out.mono ?_
      rintro e w4 ⟨rfl, hF4⟩
      go_wp2_with fail
      refine (awake_any _).mono ?_
      rintro e w5 ⟨rfl, hF5⟩
      go_wp2_with fail
      go_ret
      exact ⟨rfl, ((HF13.out.trans hF4).trans hF5).below (Nat.le_refl _) (fun _ h => h.elim)⟩
    · exfalso
      refine hn ?_
      rw [← he, HT.out]
      simp [readE, HP.out]
  · have hF12 := HF1.out.trans hF2
    have hrr := refRead_any w2 a0 cap0 bs ((HR.out.fr hF12 (fun _ _ h => h)).mono (fun _ h => Nat.lt_of_lt_of_le h hF12.size)) HFIT.out h
    have HRR := Lib.hid hrr
    have HF12 := Lib.hid hF12
    have HE := Lib.hid he
    have HN := Lib.hid hn
    clear hrr hF2 hF12 he hn
    go_wp2_with fail
    refine HRR.out.mono ?_
    clear HRR
    rintro e w3 (⟨t', L', v, ht', hp', _, _, _⟩ | ⟨er', he', hn', rfl, hF3⟩)
    · exfalso
      refine HN.out ?_
      rw [← HE.out, ht']
      simp [readE, hp']
    · obtain rfl : er = er' := HE.out.symm.trans he'
      have HTD := Lib.hid (told_same w3 none 0 [] (row_nil _ _) none 0 [] (row_nil _ _) (by simp) (by simp [parts]) rfl)
      have HF13 := Lib.hid (HF12.out.trans hF3)
      clear he' hn' hF3
      go_wp2_with fail
      refine HTD.out.mono ?_
      rintro e w4 ⟨rfl, hF4⟩
      go_wp2_with fail
      refine (awake_any _).mono ?_
      rintro e w5 ⟨rfl, hF5⟩
      go_wp2_with fail
      go_ret
      exact ⟨rfl, ((HF13.out.trans hF4).trans hF5).below (Nat.le_refl _) (fun _ h => h.elim)⟩

theorem walk (a0 : Option Addr) (len0 cap0 : Nat) (z0 : List Int) (w : World) (w0 : IsRow .u8 w a0 len0 cap0 z0) :
    Calls Try.prog 4 #[.slice a0 len0 cap0] w fun e w' => e = .returned (.bool true) ∧ Below w.heap.size w w' := by
  by_cases h : 3000 < len0
  · exact long a0 len0 cap0 h w
  · obtain ⟨bs, rfl, hR, hB, _, _⟩ := w0.bytes
    exact few a0 cap0 bs w hR hB (by omega)

/-! ### The row's step -/
theorem own : ownKnob Try.prog.godebug = none := by kernel_rfl
theorem laidOut : laidOutB Try.prog = true := by kernel_rfl

set_option maxRecDepth 100000 in
theorem lifted (os : Os) (started : os.Started) (H : Type) (enc : TypeId × Value → H) :
    ReturnsInHanded {} Try.checked os 4 .any (Rows.codeReadsSpec.pre6 enc Try.prog Try.f4 Rows.codeReadsRow.domain false) (Rows.codeReadsSpec.post enc Try.prog Try.f4 false true false false) := by
  refine returnsInHanded_of_change (C := Try.checked) own started (by kernel_rfl) Try.func4
    (ChangeSpec.witness6 (enc := enc) (C := Try.checked) false ⟨#[], #[.slice none 0 0], []⟩ 8 (by kernel_rfl) (by kernel_rfl) (by kernel_rfl) (by kernel_rfl)) ?_
  intro W base args ds gs before hval0 hW hcnd _
  have hval : ∀ (j : Nat) t v, Try.f4.params[j]? = some t → args[j]? = some v → Value.okWide Try.prog W .any base t v := hval0
  have hW' := hW
  obtain ⟨p, q, hA0, hV, rfl, hfz, hnd⟩ := hW
  have hA : DataW.TrodAll enc Try.prog W 0 (fun _ => true) true Try.f4.params.toList args.toList ds p := hA0
  rw [Try.params4] at hA hval
  obtain ⟨v0, vs0, d0, ds0, p0, q0, hargs, rfl, rfl, h0, r0⟩ := trodAll_cons hA
  obtain ⟨rfl, rfl, rfl⟩ := trodAll_nil r0
  obtain rfl : args = #[v0] := by cases args; simp_all
  obtain ⟨rfl, rfl⟩ := trodVars_none hV
  obtain ⟨a0, len0, cap0, rfl⟩ := okWide_slice Try.underlying24 (hval 0 24 v0 rfl rfl)
  have k0 := h0
  have lt0 : ∀ x ∈ p0, x.block < W.heap.size := by obtain ⟨m, hm⟩ := k0; exact DataW.trod_lt m _ _ _ hm
  obtain ⟨z0, w0⟩ : ∃ zs, IsRow .u8 W a0 len0 cap0 zs := by
    obtain ⟨fuel, hf⟩ := h0
    rcases open_ints Try.underlying24 Try.underlying5 (by kernel_rfl) hf with ⟨hcs, _⟩ | ⟨x, l, c, zs, hcs, _, hl, hm, hz, _, hcell, hwz⟩
    · simp [Value.cells] at hcs
      obtain ⟨rfl, rfl, rfl⟩ := hcs
      exact ⟨[], .inl ⟨rfl, rfl, rfl, rfl⟩⟩
    · simp [Value.cells] at hcs
      obtain ⟨rfl, rfl, rfl⟩ := hcs
      exact ⟨zs, .inr ⟨_, rfl, hl, hm, by simpa using hz, hcell, hwz⟩⟩
  clear hA0 hval0
  refine (walk a0 len0 cap0 z0 W w0).mono fun e W' ⟨he, bel⟩ => ?_
  subst he
  exact ⟨_, rfl, _, _, _, [], _, [], hW', trodAll_mk1 (shut_bool Try.underlying4 _), (trodAll_cons_mk (Below.trod laidOut (by kernel_rfl) (of_decide_eq_true (by kernel_rfl)) k0 bel lt0) trodAll_mk0), rfl, bel.frame _, fun h => by cases h⟩

theorem over : Rows.codeReadsRow.holds Try.pinned (OpenSpec.ofChange Rows.codeReadsSpec) :=
  OpenClaim.holds_of_wide 4 Try.f4 rfl rfl rfl rfl rfl rfl rfl ⟨rfl, rfl, rfl, rfl, rfl⟩ rfl rfl rfl rfl rfl (by kernel_rfl) Try.func4 (by kernel_rfl)
    (of_decide_eq_true (by kernel_rfl)) (by unfold Func.isWrapper; first | (rw [if_pos (by decide +kernel)]; kernel_rfl) | (rw [if_neg (by decide +kernel)]; exact ⟨rfl, rfl⟩))
    (fun os started H enc _ => lifted os started H enc)

/-- The statement. -/
theorem proved : Rows.CodeReadsSaid := over
#print axioms proved
end Go.Proofs.Ytahojahplpcbiaa.codeReads
