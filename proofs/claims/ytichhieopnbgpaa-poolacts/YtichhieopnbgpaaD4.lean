/-
  The document's Take. No condition.
-/
import Derived.Test.YtichhieopnbgpaaD3
namespace Go.Proofs.Ytichhieopnbgpaa
open Go.RowKit

section
variable {w : World} {Q : Nat → Prop} {x D fb rb : Nat} {S : Shp} {fv : List Value} {fl : List (List Nat)} {rv : List Value} {rl : List (List Nat)} {tv : Value} {tk : List Bool}
theorem dtake_bad (h : DR w Q x D fb rb S fv fl rv rl tv tk) (i c : Int) (hb : badRow S i c) :
    Calls Try.prog 16 #[.pointer (some ⟨D, 0, none⟩), .int .i64 i, .int .i64 c] w fun e w' => e = .returned (.tuple #[.int .i64 0, .int .i64 1]) ∧ w' = w := by
  obtain ⟨k0, -, -, -⟩ := h.cells
  by_cases h1 : i < 0 ∨ (S.k : Int) ≤ i
  · have HW := Lib.hid (dworker_no w D S.k k0 i h1)
    clear h hb k0 h1
    go_enter Try.func16, Try.ntmps16
    go_wp2_with fail
    refine HW.out.mono ?_
    rintro e w1 ⟨rfl, rfl⟩
    go_wp2_with fail
    go_ret2
    exact ⟨rfl, rfl⟩
  · obtain ⟨j, rfl⟩ : ∃ j : Nat, i = j := ⟨i.toNat, by omega⟩
    have HW := Lib.hid (dworker_yes w D S.k k0 j (by omega))
    by_cases h2 : c < 0
    · have d1 : decide (c < 0) = true := decide_eq_true h2
      clear h hb k0 h1
      go_enter Try.func16, Try.ntmps16
      go_wp2_with fail
      refine HW.out.mono ?_
      rintro e w1 ⟨rfl, rfl⟩
      go_wp2_with fail
      go_ret2
      exact ⟨rfl, rfl⟩
    · have d1 : decide (c < 0) = false := decide_eq_false h2
      have d2 : decide (2 < c) = true := decide_eq_true (by unfold badRow at hb; omega)
      clear h hb k0 h1
      go_enter Try.func16, Try.ntmps16
      go_wp2_with fail
      refine HW.out.mono ?_
      rintro e w1 ⟨rfl, rfl⟩
      go_wp2_with fail
      go_ret2
      exact ⟨rfl, rfl⟩
theorem dtake_empty (h : DR w Q x D fb rb S fv fl rv rl tv tk) (i c : Nat) (hi : i < S.k) (hc : c < 3) (hl : fl[i * 3 + c]? = some []) :
    Calls Try.prog 16 #[.pointer (some ⟨D, 0, none⟩), .int .i64 (i : Int), .int .i64 (c : Int)] w fun e w' => e = .returned (.tuple #[.int .i64 0, .int .i64 9]) ∧ w' = w := by
  obtain ⟨k0, k7, k8, k9⟩ := h.cells
  obtain ⟨v, hv⟩ := of_lt (show i * 3 + c < fv.length by have := h.fvl; omega)
  obtain ⟨A, cp, rfl, hcp, hR⟩ := h.row _ _ _ hv hl
  have cf : w.cell? ⟨fb, i * 3 + c, none⟩ = some (.slice A ([] : List Nat).length cp) := by rw [h.hf.cell, List.getElem?_toArray, hv]
  simp only [List.length_nil] at cf
  have HW := Lib.hid (dworker_yes w D S.k k0 i hi)
  have g1 : ¬ (c : Int) < 0 := by omega
  have g2 : ¬ (2 : Int) < (c : Int) := by omega
  have g3 : (i : Int) < (S.k : Int) := by omega
  have g4 : (c : Int) < 3 := by omega
  clear h hl hv hR hcp
  go_enter Try.func16, Try.ntmps16
  go_wp2_with fail
  refine HW.out.mono ?_
  rintro e w1 ⟨rfl, rfl⟩
  go_wp2_with fail
  go_ret2
  exact ⟨rfl, rfl⟩

set_option maxHeartbeats 8000000 in
set_option maxRecDepth 100000 in
theorem dtake_yes (h : DR w Q x D fb rb S fv fl rv rl tv tk) (i c : Nat) (hi : i < S.k) (_hk4 : S.k ≤ 64) (hc : c < 3) (n : Nat) (l : List Nat) (hl : fl[i * 3 + c]? = some (n :: l)) (hn : n < tk.length) (htl : tk.length ≤ 1000) (hll : l.length ≤ 1000) :
    Calls Try.prog 16 #[.pointer (some ⟨D, 0, none⟩), .int .i64 (i : Int), .int .i64 (c : Int)] w fun e w' => e = .returned (.tuple #[.int .i64 (n : Int), .int .i64 0]) ∧ ∃ fv', DR w' Q x D fb rb S fv' (fl.set (i * 3 + c) l) rv rl tv (tk.set n true) ∧ Fr (fun k => k = fb ∨ tv.ownBlock = some k) w w' := by
  obtain ⟨k0, k7, k8, k9⟩ := h.cells
  obtain ⟨v, hv⟩ := of_lt (show i * 3 + c < fv.length by have := h.fvl; omega)
  obtain ⟨A, cp, rfl, hcp, hR⟩ := h.row _ _ _ hv hl
  obtain ⟨tb, tc, rfl, htc⟩ := h.tvform
  obtain ⟨L, hL⟩ : ∃ L, L = l.length := ⟨_, rfl⟩
  have cf : w.cell? ⟨fb, i * 3 + c, none⟩ = some (.slice A (L + 1) cp) := by rw [h.hf.cell, List.getElem?_toArray, hv, hL]; rfl
  have zf : w.frozen? ⟨fb, i * 3 + c, none⟩ = false := h.hf.frozen _
  have hR2 : Rd w Q 1 A (L + 1) (.int .i64 (n : Int) :: nc l) := by rw [hL]; exact hR
  have hcp2 : L + 1 ≤ cp := by rw [hL]; exact hcp
  have hT := Rd.tail hR2 hcp2
  obtain ⟨b, off, rfl, hQb, hcell⟩ := hR2.2 (by omega)
  have cn : w.cell? ⟨b, off, none⟩ = some (.int .i64 (n : Int)) := hcell 0 _ rfl
  have HW := Lib.hid (dworker_yes w D S.k k0 i hi)
  obtain ⟨A2, hA2⟩ : ∃ A2, A2 = (if cp = 1 then (some ⟨b, off, none⟩ : Option Addr) else (some ⟨b, off, none⟩ : Option Addr).map (·.add 1)) := ⟨_, rfl⟩
  rw [← hA2] at hT
  have HSL : ∀ W, (Instr.slice 75 (.slice (some ⟨b, off, none⟩) (L + 1) cp) (some (.int .i64 1)) none none).run Try.prog W = .ok (.slice A2 L (cp - 1)) W := by
    intro W
    have hrun := @run_slice_l Try.prog W 75 (some ⟨b, off, none⟩) (L + 1) cp (by rfl) .i64 1 (by omega) (by omega)
    rw [hrun]
    have hs : (sizeOf (Try.prog.elem 75)).run Try.prog W = .ok 1 W := rfl
    rw [hs, hA2]
    simp only [Result.andThen_ok, sliced]
    by_cases e : cp = 1
    · subst e
      have : L = 0 := by omega
      subst this
      simp
    · simp [e, Addr.add]
  have HDR := Lib.hid h
  have HL := Lib.hid hL
  have HT := Lib.hid hT
  have HTC := Lib.hid htc
  have HTL := Lib.hid htl
  have g1 : ¬ (c : Int) < 0 := by omega
  have g2 : ¬ (2 : Int) < (c : Int) := by omega
  have g3 : (i : Int) < (S.k : Int) := by omega
  have g4 : (c : Int) < 3 := by omega
  have g5 : (n : Int) < (tk.length : Int) := by omega
  have g6 : L ≤ 1000 := by omega
  clear h hl hv hR hcp hR2 hT hA2 hL hcell htc htl hll
  go_enter Try.func16, Try.ntmps16
  go_wp2_with fail
  refine HW.out.mono ?_
  rintro e w1 ⟨rfl, rfl⟩
  go_wp2_with fail
  refine region_K 16 (fun w' : World => w'.cell? ⟨D, 7, none⟩ = some (.slice (some ⟨fb, 0, none⟩) S.k S.k) ∧ w'.cell? ⟨fb, i * 3 + c, none⟩ = some (.slice (some ⟨b, off, none⟩) (L + 1) cp)) (by kernel_rfl) ?_
  have HS0 : (fun w' : World => w'.cell? ⟨D, 7, none⟩ = some (.slice (some ⟨fb, 0, none⟩) S.k S.k) ∧ w'.cell? ⟨fb, i * 3 + c, none⟩ = some (.slice (some ⟨b, off, none⟩) (L + 1) cp)) w1.drew := ⟨k7, cf⟩
  refine AnyK.take (i := 0) rfl (by decide) (by kernel_rfl) (by kernel_rfl) (by kernel_rfl) (fun _ _ _ _ h => h) HS0 (fun K hK => ?_)
  go_simp
  refine hK.out _ ⟨_, by rfl, Or.inl ⟨by rfl, by intro w hSw; (try dsimp only at hSw); obtain ⟨hS1, hS2⟩ := hSw; go_simp⟩, ?_⟩
  clear hK K
  refine AnyK.take (i := 1) rfl (by decide) (by kernel_rfl) (by kernel_rfl) (by kernel_rfl) (fun _ _ _ _ h => h) HS0 (fun K hK => ?_)
  go_simp
  refine hK.out _ ⟨_, by rfl, Or.inl ⟨by rfl, by intro w hSw; (try dsimp only at hSw); obtain ⟨hS1, hS2⟩ := hSw; go_simp⟩, ?_⟩
  clear hK K
  refine AnyK.take (i := 2) rfl (by decide) (by kernel_rfl) (by kernel_rfl) (by kernel_rfl) (fun _ _ _ _ h => h) HS0 (fun K hK => ?_)
  go_simp
  refine hK.out _ ⟨_, by rfl, Or.inl ⟨by rfl, by intro w hSw; (try dsimp only at hSw); obtain ⟨hS1, hS2⟩ := hSw; go_simp⟩, ?_⟩
  clear hK K
  refine AnyK.take (i := 3) rfl (by decide) (by kernel_rfl) (by kernel_rfl) (by kernel_rfl) (fun _ _ _ _ h => h) HS0 (fun K hK => ?_)
  go_simp
  refine hK.out _ ⟨_, by rfl, Or.inl ⟨by rfl, by intro w hSw; (try dsimp only at hSw); obtain ⟨hS1, hS2⟩ := hSw; go_simp⟩, ?_⟩
  clear hK K
  refine AnyK.take (i := 4) rfl (by decide) (by kernel_rfl) (by kernel_rfl) (by kernel_rfl) (fun _ _ _ _ h => h) HS0 (fun K hK => ?_)
  go_simp
  refine hK.out _ ⟨_, by rfl, Or.inl ⟨by rfl, by intro w hSw; (try dsimp only at hSw); obtain ⟨hS1, hS2⟩ := hSw; go_simp⟩, ?_⟩
  clear hK K
  refine AnyK.take (i := 5) rfl (by decide) (by kernel_rfl) (by kernel_rfl) (by kernel_rfl) (fun _ _ _ _ h => h) HS0 (fun K hK => ?_)
  go_simp
  refine hK.out _ ⟨_, by rfl, Or.inl ⟨by rfl, by intro w hSw; (try dsimp only at hSw); obtain ⟨hS1, hS2⟩ := hSw; go_simp⟩, ?_⟩
  clear hK K
  refine AnyK.take (i := 6) rfl (by decide) (by kernel_rfl) (by kernel_rfl) (by kernel_rfl) (fun _ _ _ _ h => h) HS0 (fun K hK => ?_)
  go_simp
  refine hK.out _ ⟨_, by rfl, Or.inl ⟨by rfl, by intro w hSw; (try dsimp only at hSw); obtain ⟨hS1, hS2⟩ := hSw; go_simp⟩, ?_⟩
  clear hK K
  refine AnyK.take (i := 7) rfl (by decide) (by kernel_rfl) (by kernel_rfl) (by kernel_rfl) (fun _ _ _ _ h => h) HS0 (fun K hK => ?_)
  go_simp
  refine hK.out _ ⟨_, by rfl, Or.inl ⟨by rfl, by intro w hSw; (try dsimp only at hSw); obtain ⟨hS1, hS2⟩ := hSw; go_simp⟩, ?_⟩
  clear hK K
  refine AnyK.take (i := 8) rfl (by decide) (by kernel_rfl) (by kernel_rfl) (by kernel_rfl) (fun _ _ _ _ h => h) HS0 (fun K hK => ?_)
  go_simp
  refine hK.out _ ⟨_, by rfl, Or.inl ⟨by rfl, by intro w hSw; (try dsimp only at hSw); obtain ⟨hS1, hS2⟩ := hSw; go_simp⟩, ?_⟩
  clear hK K
  refine AnyK.take (i := 9) rfl (by decide) (by kernel_rfl) (by kernel_rfl) (by kernel_rfl) (fun _ _ _ _ h => h) HS0 (fun K hK => ?_)
  go_simp
  refine hK.out _ ⟨_, by rfl, Or.inl ⟨by rfl, by intro w hSw; (try dsimp only at hSw); obtain ⟨hS1, hS2⟩ := hSw; go_simp⟩, ?_⟩
  clear hK K
  refine AnyK.take (i := 10) rfl (by decide) (by kernel_rfl) (by kernel_rfl) (by kernel_rfl) (fun _ _ _ _ h => h) HS0 (fun K hK => ?_)
  go_simp
  refine hK.out _ ⟨_, by rfl, Or.inl ⟨by rfl, by intro w hSw; (try dsimp only at hSw); obtain ⟨hS1, hS2⟩ := hSw; go_simp⟩, ?_⟩
  clear hK K
  refine AnyK.take (i := 11) rfl (by decide) (by kernel_rfl) (by kernel_rfl) (by kernel_rfl) (fun _ _ _ _ h => h) HS0 (fun K hK => ?_)
  go_simp
  refine hK.out _ ⟨_, by rfl, Or.inl ⟨by rfl, by intro w hSw; (try dsimp only at hSw); obtain ⟨hS1, hS2⟩ := hSw; go_simp⟩, ?_⟩
  clear hK K
  refine AnyK.take (i := 12) rfl (by decide) (by kernel_rfl) (by kernel_rfl) (by kernel_rfl) (fun _ _ _ _ h => h) HS0 (fun K hK => ?_)
  go_simp
  refine hK.out _ ⟨_, by rfl, Or.inl ⟨by rfl, by intro w hSw; (try dsimp only at hSw); obtain ⟨hS1, hS2⟩ := hSw; go_simp⟩, ?_⟩
  clear hK K
  refine AnyK.take (i := 13) rfl (by decide) (by kernel_rfl) (by kernel_rfl) (by kernel_rfl) (fun _ _ _ _ h => h) HS0 (fun K hK => ?_)
  go_simp
  refine hK.out _ ⟨_, by rfl, Or.inl ⟨by rfl, by intro w hSw; (try dsimp only at hSw); obtain ⟨hS1, hS2⟩ := hSw; go_simp⟩, ?_⟩
  clear hK K
  refine AnyK.take (i := 14) rfl (by decide) (by kernel_rfl) (by kernel_rfl) (by kernel_rfl) (fun _ _ _ _ h => h) HS0 (fun K hK => ?_)
  go_simp
  refine hK.out _ ⟨_, by rfl, Or.inl ⟨by rfl, by intro w hSw; (try dsimp only at hSw); obtain ⟨hS1, hS2⟩ := hSw; go_simp⟩, ?_⟩
  clear hK K
  refine AnyK.take (i := 15) rfl (by decide) (by kernel_rfl) (by kernel_rfl) (by kernel_rfl) (fun _ _ _ _ h => h) HS0 (fun K hK => ?_)
  go_simp
  refine hK.out _ ⟨_, by rfl, Or.inl ⟨by rfl, by intro w hSw; (try dsimp only at hSw); obtain ⟨hS1, hS2⟩ := hSw; go_simp⟩, ?_⟩
  clear hK K
  refine AnyK.one (i := 16) rfl (by kernel_rfl) (fun K hK => ?_)
  go_simp
  refine hK.out _ _ (fun _ => HS0) ?_
  clear hK K
  refine AnyK.one (i := 17) rfl (by kernel_rfl) (fun K hK => ?_)
  go_simp
  refine hK.out _ _ (fun _ => HS0) ?_
  clear hK K
  refine AnyK.one (i := 18) rfl (by kernel_rfl) (fun K hK => ?_)
  go_simp
  refine hK.out _ _ (fun h => absurd (h.symm.trans (by kernel_rfl : _ = true)) (by decide)) ?_
  clear hK K
  refine AnyK.done (by kernel_rfl) ?_ _
  have H2 := Lib.hid (((HDR.out).setrow (i * 3 + c) (l' := l) (A := A2) (c := cp - 1) (by have := HL.out; omega) (by rw [← HL.out]; exact HT.out)).f0 ((Fr.refl _ _).drew))
  rw [← HL.out] at H2
  obtain ⟨w2, hw2⟩ : ∃ w2, w2 = (w1.setCell ⟨fb, i * 3 + c, none⟩ (.slice A2 L (cp - 1))).drew := ⟨_, rfl⟩
  have HF2 : Hid (Fr (fun k => k = fb ∨ (Value.slice (some ⟨tb, 0, none⟩) tk.length tc).ownBlock = some k) w1 w2) := Lib.hid (by
    rw [hw2]
    exact ((Fr.refl _ _).setCell (p := ⟨fb, i * 3 + c, none⟩) (.inl (.inl rfl)) _).drew)
  rw [← hw2] at H2
  obtain ⟨-, -, -, j9⟩ := H2.out.cells
  obtain ⟨tf, htf⟩ := of_lt hn
  have jt : w2.cell? ⟨tb, n, none⟩ = some (.bool tf) := by
    rw [World.ownsRow.cellAt H2.out.ht n (by omega), bc_at htf]
  have zt : w2.frozen? ⟨tb, n, none⟩ = false := World.ownsRow.frozenAt H2.out.ht n
  have H3 := Lib.hid (H2.out.flag n true hn)
  have HF3 : Hid (Fr (fun k => k = fb ∨ (Value.slice (some ⟨tb, 0, none⟩) tk.length tc).ownBlock = some k) w1 (w2.setCell ⟨tb, n, none⟩ (.bool true))) := HF2.out.setCell (p := ⟨tb, n, none⟩) (.inl (.inr rfl)) _
  rw [← hw2]
  clear k0 k7 k8 k9 zf cf cn htf hw2
  go_wp2_with fail
  go_ret2
  exact ⟨rfl, ⟨_, H3.out⟩, HF3.out⟩
end
end Go.Proofs.Ytichhieopnbgpaa
