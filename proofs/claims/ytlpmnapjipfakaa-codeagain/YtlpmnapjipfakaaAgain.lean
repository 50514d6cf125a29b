/-
  haymowlaw02.CodeAgain returns true for every list of bytes, and the argument reads as it did. No condition.
-/
import Derived.Test.YtlpmnapjipfakaaCommon
import Derived.Test.YtlpmnapjipfakaaRows
import Derived.ShutString
import Derived.ChangeOld
namespace Go.Proofs.Ytlpmnapjipfakaa.codeAgain
open Go.ChangeShapes Go.WideShapes Go.ChangeAt Go.RowKit
open Go.ChangeMaps (open_string shut_string)

set_option maxHeartbeats 1000000 in
theorem long (a0 : Option Addr) (len0 cap0 : Nat) (h : 3000 < len0) (w : World) :
    Calls Try.prog 6 #[.slice a0 len0 cap0] w fun e w' => e = .returned (.bool true) ∧ Below w.heap.size w w' := by
  have h1 : (3000 : Int) < (len0 : Int) := by omega
  go_enter Try.func6, Try.ntmps6
  go_wp2_with fail
  go_ret
  exact ⟨rfl, Below.refl _ _⟩

set_option maxHeartbeats 4000000 in
theorem few (a0 : Option Addr) (cap0 : Nat) (bs : List Int) (w : World) (hR : Rd w (fun b => b < w.heap.size) 1 a0 bs.length (by8 bs)) (hfit : AllB bs) (hc : bs.length ≤ cap0) (hc2 : cap0 ≤ maxLen) (h : bs.length ≤ 3000) :
    Calls Try.prog 6 #[.slice a0 bs.length cap0] w fun e w' => e = .returned (.bool true) ∧ Below w.heap.size w w' := by
  have h1 : ¬ (3000 : Int) < (bs.length : Int) := by omega
  have HR := Lib.hid hR
  clear hR
  go_enter Try.func6, Try.ntmps6
  go_wp2_with fail
  refine (read_any w a0 cap0 bs HR.out hfit hc hc2).mono ?_
  rintro e w1 (⟨t, L, g, rfl, hp, rfl, hB, hg, hgw, hF⟩ | ⟨er, he, hn, rfl, hF⟩)
  · obtain ⟨hok, hby⟩ := pProg_back hfit.tail hp
    rw [List.append_nil] at hby
    have hroom : room L < 900000 := by have := room_bytes L; rw [← hby] at this; simp at h; omega
    have hLl : L.length < 1000000 := by have := hok.1; simp [fns] at this; omega
    have HOK := Lib.hid hok
    have HBY := Lib.hid hby
    have HROW := Lib.hid (made_row hB hg)
    clear hok hby hp hg
    go_wp2_with fail
    refine (write_any w1 _ _ L HROW.out hroom hLl).mono ?_
    rintro e w2 (⟨_, v, rfl, hown, hF2⟩ | ⟨hno, _, _⟩)
    · obtain ⟨g2, cap2, rfl, _, _⟩ := hown.form (by omega)
      have hcv := conv_bytes w2 _ (some ⟨g2, 0, none⟩) _ cap2 _ (Rd.of_own hown) (by omega)
      rw [← HBY.out] at hcv
      rw [← HBY.out]
      have hR2 := (HR.out.fr hF (fun _ _ h => h)).fr hF2 (fun _ _ h => h)
      have hcv2 := conv_bytes w2 _ a0 _ cap0 _ hR2 (by simp)
      rw [List.length_cons] at hcv2
      have HO := Lib.hid hown
      clear hown
      go_wp2_with fail
      refine (awake_any w2).mono ?_
      rintro e w3 ⟨rfl, hF3⟩
      go_wp2_with fail
      go_ret
      exact ⟨rfl, ((hF.trans hF2).trans hF3).below (Nat.le_refl _) (fun _ h => h.elim)⟩
    · exact absurd HOK.out hno
  · have hne : (er != 0) = true := by simp [hn]
    clear he hn
    go_wp2_with fail
    refine (awake_any w1).mono ?_
    rintro e w3 ⟨rfl, hF3⟩
    go_wp2_with fail
    go_ret
    exact ⟨rfl, (hF.trans hF3).below (Nat.le_refl _) (fun _ h => h.elim)⟩

theorem walk (a0 : Option Addr) (len0 cap0 : Nat) (z0 : List Int) (w : World) (w0 : IsRow .u8 w a0 len0 cap0 z0) :
    Calls Try.prog 6 #[.slice a0 len0 cap0] w fun e w' => e = .returned (.bool true) ∧ Below w.heap.size w w' := by
  by_cases h : 3000 < len0
  · exact long a0 len0 cap0 h w
  · obtain ⟨bs, rfl, hR, hfit, hc, hc2⟩ := w0.bytes
    exact few a0 cap0 bs w hR hfit hc hc2 (by omega)


/-! ### The row's step -/
theorem own : ownKnob Try.prog.godebug = none := by kernel_rfl
theorem laidOut : laidOutB Try.prog = true := by kernel_rfl

set_option maxRecDepth 100000 in
theorem lifted (os : Os) (started : os.Started) (H : Type) (enc : TypeId × Value → H) :
    ReturnsInHanded {} Try.checked os 6 .any (Rows.codeAgainSpec.pre6 enc Try.prog Try.f6 Rows.codeAgainRow.domain false) (Rows.codeAgainSpec.post enc Try.prog Try.f6 false true false false) := by
  refine returnsInHanded_of_change (C := Try.checked) own started (by kernel_rfl) Try.func6
    (ChangeSpec.witness6 (enc := enc) (C := Try.checked) false ⟨#[], #[.slice none 0 0], []⟩ 8 (by kernel_rfl) (by kernel_rfl) (by kernel_rfl) (by kernel_rfl)) ?_
  intro W base args ds gs before hval0 hW hcnd _
  have hval : ∀ (j : Nat) t v, Try.f6.params[j]? = some t → args[j]? = some v → Value.okWide Try.prog W .any base t v := hval0
  have hW' := hW
  obtain ⟨p, q, hA0, hV, rfl, hfz, hnd⟩ := hW
  have hA : DataW.TrodAll enc Try.prog W 0 (fun _ => true) true Try.f6.params.toList args.toList ds p := hA0
  rw [Try.params6] at hA hval
  obtain ⟨v0, vs0, d0, ds0, p0, q0, hargs, rfl, rfl, h0, r0⟩ := trodAll_cons hA
  obtain ⟨rfl, rfl, rfl⟩ := trodAll_nil r0
  obtain rfl : args = #[v0] := by cases args; simp_all
  obtain ⟨rfl, rfl⟩ := trodVars_none hV
  obtain ⟨a0, len0, cap0, rfl⟩ := okWide_slice Try.underlying24 (hval 0 24 v0 rfl rfl)
  have k0 := h0
  have lt0 : ∀ x ∈ p0, x.block < W.heap.size := by obtain ⟨m, hm⟩ := k0; exact DataW.trod_lt m _ _ _ hm
  obtain ⟨z0, w0⟩ : ∃ zs, IsRow .u8 W a0 len0 cap0 zs := by
    obtain ⟨fuel, hf⟩ := h0
    rcases open_ints Try.underlying24 Try.underlying5 (by kernel_rfl) hf with ⟨hcs, _⟩ | ⟨x, l, c, zs, hcs, _, hl, hm, hz, _, hcell, hwz⟩
    · simp [Value.cells] at hcs
      obtain ⟨rfl, rfl, rfl⟩ := hcs
      exact ⟨[], .inl ⟨rfl, rfl, rfl, rfl⟩⟩
    · simp [Value.cells] at hcs
      obtain ⟨rfl, rfl, rfl⟩ := hcs
      exact ⟨zs, .inr ⟨_, rfl, hl, hm, by simpa using hz, hcell, hwz⟩⟩
  clear hA0 hval0
  refine (walk a0 len0 cap0 z0 W w0).mono fun e W' ⟨he, bel⟩ => ?_
  subst he
  exact ⟨_, rfl, _, _, _, [], _, [], hW', trodAll_mk1 (shut_bool Try.underlying4 _), (trodAll_cons_mk (Below.trod laidOut (by kernel_rfl) (of_decide_eq_true (by kernel_rfl)) k0 bel lt0) trodAll_mk0), rfl, bel.frame _, fun h => by cases h⟩

theorem over : Rows.codeAgainRow.holds Try.pinned (OpenSpec.ofChange Rows.codeAgainSpec) :=
  OpenClaim.holds_of_wide 6 Try.f6 rfl rfl rfl rfl rfl rfl rfl ⟨rfl, rfl, rfl, rfl, rfl⟩ rfl rfl rfl rfl rfl (by kernel_rfl) Try.func6 (by kernel_rfl)
    (of_decide_eq_true (by kernel_rfl)) (by unfold Func.isWrapper; first | (rw [if_pos (by decide +kernel)]; kernel_rfl) | (rw [if_neg (by decide +kernel)]; exact ⟨rfl, rfl⟩))
    (fun os started H enc _ => lifted os started H enc)

/-- The statement. -/
theorem proved : Rows.CodeAgainSaid := over
#print axioms proved
end Go.Proofs.Ytlpmnapjipfakaa.codeAgain
