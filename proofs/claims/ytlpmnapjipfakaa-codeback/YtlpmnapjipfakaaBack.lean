/-
  haymowlaw02.CodeBack returns true for every program, and the argument reads as it did. No condition.
-/
import Derived.Test.YtlpmnapjipfakaaOpn
import Derived.Test.YtlpmnapjipfakaaRows
import Derived.ShutString
import Derived.ChangeOld
namespace Go.Proofs.Ytlpmnapjipfakaa.codeBack
open Go.ChangeShapes Go.WideShapes Go.ChangeAt Go.RowKit
open Go.ChangeMaps (open_string shut_string)

theorem own_caps {w : World} {base : Nat} {e : TypeId} {size n : Nat} {v : Value} {xs : List Value} (h : w.ownsRow base e size v n xs) (hn : 0 < n) : ∃ g cap, v = .slice (some ⟨g, 0, none⟩) n cap ∧ n ≤ cap ∧ cap ≤ maxLen := by
  rcases h.2 with ⟨_, h0⟩ | ⟨g, cap, cur, hv, _, _, h1, h2, _⟩
  · omega
  · exact ⟨g, cap, hv, h1, h2⟩

set_option maxHeartbeats 4000000 in
theorem main (A : Option Addr) (c : Nat) (L : List LFn) (w : World) (hR : FnRow w (fun b => b < w.heap.size) A L) :
    Calls Try.prog 5 #[.slice A L.length c] w fun e w' => e = .returned (.bool true) ∧ Below w.heap.size w w' := by
  have HR := Lib.hid hR
  clear hR
  go_enter Try.func5, Try.ntmps5
  go_wp2_with fail
  refine (light_any w _ A c L HR.out).mono ?_
  rintro e _ ⟨t, rfl, ht, rfl⟩
  cases t with
  | false =>
    go_wp2_with fail
    go_ret
    exact ⟨rfl, Below.refl _ _⟩
  | true =>
    obtain ⟨hl, hp⟩ := ht rfl
    clear ht
    go_wp2_with fail
    refine (of_any _ A c L HR.out hl hp).mono ?_
    rintro e w1 ⟨v, L', rfl, hfn, hM, hF1⟩
    obtain ⟨A', c', rfl, hR'⟩ := hM.row
    have hl' : L'.length ≤ 300 := by
      have := congrArg List.length hfn
      simp only [fns, List.length_map] at this
      omega
    have hp' : parts L' ≤ 600 := by rw [parts_fns hfn]; exact hp
    have hroom := room_parts L'
    have HR' := Lib.hid hR'
    have HFN := Lib.hid hfn
    clear hR' hM hfn
    go_wp2_with fail
    refine (write_any w1 A' c' L' HR'.out (by omega) (by omega)).mono ?_
    clear hroom
    rintro e w2 (⟨hok, v, rfl, hown, hF2⟩ | ⟨hno, rfl, hF2⟩)
    · obtain ⟨g, cap, rfl, hc1, hc2⟩ := own_caps hown (by omega)
      have hrd := read_any w2 (some ⟨g, 0, none⟩) cap (72 :: progBytes (fns L')) (by have := (Rd.of_own hown).mono (Q' := fun b => b < w2.heap.size) (fun _ h => h.2); rw [Nat.add_comm] at this; exact this) (allB_cons ⟨by omega, by omega⟩ (prog_allB _ hok)) (by rw [List.length_cons]; omega) hc2
      have hpp := pProg_of (fns L') hok []
      rw [List.append_nil] at hpp
      rw [List.length_cons, Nat.add_comm] at hrd
      have HRD := Lib.hid hrd
      have HPP := Lib.hid hpp
      clear hown hrd hpp hok
      go_wp2_with fail
      refine HRD.out.mono ?_
      rintro e w3 (⟨t, L2, g2, ht, hp2, rfl, hB, hg, hgw, hF3⟩ | ⟨er, he, hn, rfl, hF3⟩)
      · injection ht with _ ht
        subst ht
        rw [HPP.out] at hp2
        have hL2 : fns L2 = fns L := by
          injection hp2 with hp2
          injection hp2 with hp2
          exact hp2.symm.trans HFN.out
        have hfr3 := (hF1.trans hF2).trans hF3
        have HT := Lib.hid (told_same w3 _ L2.length L2 (made_row hB hg) A c L ((HR.out.fr hfr3 (fun _ _ h => h)).mono (fun _ h => Nat.lt_of_lt_of_le h hfr3.size)) hl hp hL2)
        clear hp2 hL2 hB hg
        go_wp2_with fail
        refine HT.out.mono ?_
        rintro e w4 ⟨rfl, hF4⟩
        go_wp2_with fail
        refine (awake_any _).mono ?_
        rintro e w5 ⟨rfl, hF5⟩
        go_wp2_with fail
        go_ret
        exact ⟨rfl, ((hfr3.trans hF4).trans hF5).below (Nat.le_refl _) (fun _ h => h.elim)⟩
      · exact absurd (by rw [← he]; simp [readE, HPP.out]) hn
    · clear hno
      go_wp2_with fail
      refine (awake_any _).mono ?_
      rintro e w5 ⟨rfl, hF5⟩
      go_wp2_with fail
      go_ret
      exact ⟨rfl, ((hF1.trans hF2).trans hF5).below (Nat.le_refl _) (fun _ h => h.elim)⟩

theorem walk (a0 : Option Addr) (len0 cap0 : Nat) (z0 : List LFn) (w : World) (w0 : z0.length = len0 ∧ FnRow w (fun b => b < w.heap.size) a0 z0) :
    Calls Try.prog 5 #[.slice a0 len0 cap0] w fun e w' => e = .returned (.bool true) ∧ Below w.heap.size w w' := by
  obtain ⟨rfl, hR⟩ := w0
  exact main a0 cap0 z0 w hR


/-! ### The row's step -/
theorem own : ownKnob Try.prog.godebug = none := by kernel_rfl
theorem laidOut : laidOutB Try.prog = true := by kernel_rfl

set_option maxRecDepth 100000 in
theorem lifted (os : Os) (started : os.Started) (H : Type) (enc : TypeId × Value → H) :
    ReturnsInHanded {} Try.checked os 5 .any (Rows.codeBackSpec.pre6 enc Try.prog Try.f5 Rows.codeBackRow.domain false) (Rows.codeBackSpec.post enc Try.prog Try.f5 false true false false) := by
  refine returnsInHanded_of_change (C := Try.checked) own started (by kernel_rfl) Try.func5
    (ChangeSpec.witness6 (enc := enc) (C := Try.checked) false ⟨#[], #[.slice none 0 0], []⟩ 8 (by kernel_rfl) (by kernel_rfl) (by kernel_rfl) (by kernel_rfl)) ?_
  intro W base args ds gs before hval0 hW hcnd _
  have hval : ∀ (j : Nat) t v, Try.f5.params[j]? = some t → args[j]? = some v → Value.okWide Try.prog W .any base t v := hval0
  have hW' := hW
  obtain ⟨p, q, hA0, hV, rfl, hfz, hnd⟩ := hW
  have hA : DataW.TrodAll enc Try.prog W 0 (fun _ => true) true Try.f5.params.toList args.toList ds p := hA0
  rw [Try.params5] at hA hval
  obtain ⟨v0, vs0, d0, ds0, p0, q0, hargs, rfl, rfl, h0, r0⟩ := trodAll_cons hA
  obtain ⟨rfl, rfl, rfl⟩ := trodAll_nil r0
  obtain rfl : args = #[v0] := by cases args; simp_all
  obtain ⟨rfl, rfl⟩ := trodVars_none hV
  obtain ⟨a0, len0, cap0, rfl⟩ := okWide_slice Try.underlying22 (hval 0 22 v0 rfl rfl)
  have k0 := h0
  have lt0 : ∀ x ∈ p0, x.block < W.heap.size := by obtain ⟨m, hm⟩ := k0; exact DataW.trod_lt m _ _ _ hm
  obtain ⟨z0, w0⟩ := open_prog h0
  clear hA0 hval0
  refine (walk a0 len0 cap0 z0 W w0).mono fun e W' ⟨he, bel⟩ => ?_
  subst he
  exact ⟨_, rfl, _, _, _, [], _, [], hW', trodAll_mk1 (shut_bool Try.underlying4 _), (trodAll_cons_mk (Below.trod laidOut (by kernel_rfl) (of_decide_eq_true (by kernel_rfl)) k0 bel lt0) trodAll_mk0), rfl, bel.frame _, fun h => by cases h⟩

theorem over : Rows.codeBackRow.holds Try.pinned (OpenSpec.ofChange Rows.codeBackSpec) :=
  OpenClaim.holds_of_wide 5 Try.f5 rfl rfl rfl rfl rfl rfl rfl ⟨rfl, rfl, rfl, rfl, rfl⟩ rfl rfl rfl rfl rfl (by kernel_rfl) Try.func5 (by kernel_rfl)
    (of_decide_eq_true (by kernel_rfl)) (by unfold Func.isWrapper; first | (rw [if_pos (by decide +kernel)]; kernel_rfl) | (rw [if_neg (by decide +kernel)]; exact ⟨rfl, rfl⟩))
    (fun os started H enc _ => lifted os started H enc)

/-- The statement. -/
theorem proved : Rows.CodeBackSaid := over
#print axioms proved
end Go.Proofs.Ytlpmnapjipfakaa.codeBack
