/-
  haymowlaw02.CodeWrites returns true for every program, and the argument reads as it did. No condition.
-/
import Derived.Test.YtlpmnapjipfakaaOpn
import Derived.Test.YtlpmnapjipfakaaRefW
import Derived.Test.YtlpmnapjipfakaaRows
import Derived.ShutString
import Derived.ChangeOld
namespace Go.Proofs.Ytlpmnapjipfakaa.codeWrites
open Go.ChangeShapes Go.WideShapes Go.ChangeAt Go.RowKit
open Go.ChangeMaps (open_string shut_string)

set_option maxHeartbeats 4000000 in
theorem main (A : Option Addr) (c : Nat) (L : List LFn) (w : World) (hR : FnRow w (fun b => b < w.heap.size) A L) :
    Calls Try.prog 3 #[.slice A L.length c] w fun e w' => e = .returned (.bool true) ∧ Below w.heap.size w w' := by
  have HR := Lib.hid hR
  clear hR
  go_enter Try.func3, Try.ntmps3
  go_wp2_with fail
  refine (light_any w _ A c L HR.out).mono ?_
  rintro e _ ⟨t, rfl, ht, rfl⟩
  cases t with
  | false =>
    go_wp2_with fail
    go_ret
    exact ⟨rfl, Below.refl _ _⟩
  | true =>
    obtain ⟨hl, hp⟩ := ht rfl
    clear ht
    go_wp2_with fail
    refine (of_any _ A c L HR.out hl hp).mono ?_
    rintro e w1 ⟨v, L', rfl, hfn, hM, hF1⟩
    obtain ⟨A', c', rfl, hR'⟩ := hM.row
    have hl' : L'.length ≤ 300 := by
      have := congrArg List.length hfn
      simp only [fns, List.length_map] at this
      omega
    have hp' : parts L' ≤ 600 := by rw [parts_fns hfn]; exact hp
    have hroom := room_parts L'
    have HW := Lib.hid (write_any w1 A' c' L' hR' (by omega) (by omega))
    rw [hfn] at HW
    have HFN := Lib.hid hfn
    clear hR' hM hfn hroom
    go_wp2_with fail
    refine HW.out.mono ?_
    clear HW
    rintro e w2 (⟨hok, v, rfl, hown, hF2⟩ | ⟨hno, rfl, hF2⟩)
    · obtain ⟨g, cap, rfl, _, _⟩ := hown.form (by omega)
      have hfr := hF1.trans hF2
      have HRW := Lib.hid (refWrite_any w2 A c L ((HR.out.fr hfr (fun _ _ h => h)).mono (fun _ h => Nat.lt_of_lt_of_le h hfr.size)) hl hp)
      have HOK := Lib.hid hok
      have HOW := Lib.hid hown
      clear hok hown
      go_wp2_with fail
      refine HRW.out.mono ?_
      clear HRW
      rintro e w3 (⟨_, v2, rfl, hown2, hF3⟩ | ⟨hno, _, _⟩)
      · obtain ⟨g2, cap2, rfl, _, _⟩ := hown2.form (by omega)
        have hcv2 := conv_bytes w3 _ (some ⟨g2, 0, none⟩) _ cap2 _ (Rd.of_own hown2) (by omega)
        have hcv := conv_bytes w3 _ (some ⟨g, 0, none⟩) _ cap _ (Rd.of_own (own_fr HOW.out hF3 (fun _ _ h => h))) (by omega)
        clear hown2
        go_wp2_with fail
        refine (awake_any _).mono ?_
        rintro e w5 ⟨rfl, hF5⟩
        go_wp2_with fail
        go_ret
        exact ⟨rfl, ((hfr.trans hF3).trans hF5).below (Nat.le_refl _) (fun _ h => h.elim)⟩
      · exact absurd HOK.out hno
    · have hfr := hF1.trans hF2
      have HRW := Lib.hid (refWrite_any w2 A c L ((HR.out.fr hfr (fun _ _ h => h)).mono (fun _ h => Nat.lt_of_lt_of_le h hfr.size)) hl hp)
      have HNO := Lib.hid hno
      clear hno
      go_wp2_with fail
      refine HRW.out.mono ?_
      clear HRW
      rintro e w3 (⟨hok, _, _, _, _⟩ | ⟨_, rfl, hF3⟩)
      · exact absurd hok HNO.out
      · go_wp2_with fail
        refine (awake_any _).mono ?_
        rintro e w5 ⟨rfl, hF5⟩
        go_wp2_with fail
        go_ret
        exact ⟨rfl, ((hfr.trans hF3).trans hF5).below (Nat.le_refl _) (fun _ h => h.elim)⟩

theorem walk (a0 : Option Addr) (len0 cap0 : Nat) (z0 : List LFn) (w : World) (w0 : z0.length = len0 ∧ FnRow w (fun b => b < w.heap.size) a0 z0) :
    Calls Try.prog 3 #[.slice a0 len0 cap0] w fun e w' => e = .returned (.bool true) ∧ Below w.heap.size w w' := by
  obtain ⟨rfl, hR⟩ := w0
  exact main a0 cap0 z0 w hR


/-! ### The row's step -/
theorem own : ownKnob Try.prog.godebug = none := by kernel_rfl
theorem laidOut : laidOutB Try.prog = true := by kernel_rfl

set_option maxRecDepth 100000 in
theorem lifted (os : Os) (started : os.Started) (H : Type) (enc : TypeId × Value → H) :
    ReturnsInHanded {} Try.checked os 3 .any (Rows.codeWritesSpec.pre6 enc Try.prog Try.f3 Rows.codeWritesRow.domain false) (Rows.codeWritesSpec.post enc Try.prog Try.f3 false true false false) := by
  refine returnsInHanded_of_change (C := Try.checked) own started (by kernel_rfl) Try.func3
    (ChangeSpec.witness6 (enc := enc) (C := Try.checked) false ⟨#[], #[.slice none 0 0], []⟩ 8 (by kernel_rfl) (by kernel_rfl) (by kernel_rfl) (by kernel_rfl)) ?_
  intro W base args ds gs before hval0 hW hcnd _
  have hval : ∀ (j : Nat) t v, Try.f3.params[j]? = some t → args[j]? = some v → Value.okWide Try.prog W .any base t v := hval0
  have hW' := hW
  obtain ⟨p, q, hA0, hV, rfl, hfz, hnd⟩ := hW
  have hA : DataW.TrodAll enc Try.prog W 0 (fun _ => true) true Try.f3.params.toList args.toList ds p := hA0
  rw [Try.params3] at hA hval
  obtain ⟨v0, vs0, d0, ds0, p0, q0, hargs, rfl, rfl, h0, r0⟩ := trodAll_cons hA
  obtain ⟨rfl, rfl, rfl⟩ := trodAll_nil r0
  obtain rfl : args = #[v0] := by cases args; simp_all
  obtain ⟨rfl, rfl⟩ := trodVars_none hV
  obtain ⟨a0, len0, cap0, rfl⟩ := okWide_slice Try.underlying22 (hval 0 22 v0 rfl rfl)
  have k0 := h0
  have lt0 : ∀ x ∈ p0, x.block < W.heap.size := by obtain ⟨m, hm⟩ := k0; exact DataW.trod_lt m _ _ _ hm
  obtain ⟨z0, w0⟩ := open_prog h0
  clear hA0 hval0
  refine (walk a0 len0 cap0 z0 W w0).mono fun e W' ⟨he, bel⟩ => ?_
  subst he
  exact ⟨_, rfl, _, _, _, [], _, [], hW', trodAll_mk1 (shut_bool Try.underlying4 _), (trodAll_cons_mk (Below.trod laidOut (by kernel_rfl) (of_decide_eq_true (by kernel_rfl)) k0 bel lt0) trodAll_mk0), rfl, bel.frame _, fun h => by cases h⟩

theorem over : Rows.codeWritesRow.holds Try.pinned (OpenSpec.ofChange Rows.codeWritesSpec) :=
  OpenClaim.holds_of_wide 3 Try.f3 rfl rfl rfl rfl rfl rfl rfl ⟨rfl, rfl, rfl, rfl, rfl⟩ rfl rfl rfl rfl rfl (by kernel_rfl) Try.func3 (by kernel_rfl)
    (of_decide_eq_true (by kernel_rfl)) (by unfold Func.isWrapper; first | (rw [if_pos (by decide +kernel)]; kernel_rfl) | (rw [if_neg (by decide +kernel)]; exact ⟨rfl, rfl⟩))
    (fun os started H enc _ => lifted os started H enc)

/-- The statement. -/
theorem proved : Rows.CodeWritesSaid := over
#print axioms proved
end Go.Proofs.Ytlpmnapjipfakaa.codeWrites
