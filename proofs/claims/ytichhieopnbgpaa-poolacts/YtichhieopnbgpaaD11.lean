/-
  The law's same: are all rows' lengths the document's? No condition.
-/
import Derived.Test.YtichhieopnbgpaaD10
namespace Go.Proofs.Ytichhieopnbgpaa
open Go.RowKit

/-- The program's rows are the document's, the other way round. -/
structure Rel (S : Shp) (σ : St) (fl rl : List (List Nat)) (tk : List Bool) : Prop where
  fr : ∀ i c, i < S.k → c < 3 → fl[i * 3 + c]? = (σ.ls[i * 4 + c]?).map List.reverse
  bk : ∀ i, i < S.k → rl[i]? = σ.ls[i * 4 + 3]?
  tk : tk = σ.tk
/-- The document's pool as a law sees it. -/
def Dl (w0 : World) (G : Nat → Prop) (w : World) (D : Nat) (S : Shp) (fl rl : List (List Nat)) (tk : List Bool) : Prop :=
  ∃ Q fb rb fv rv tv, DR w Q w0.heap.size D fb rb S fv fl rv rl tv tk ∧ ∀ k, DB Q D fb rb rv tv k → G k ∧ w0.heap.size ≤ k
section
variable {w0 w w' : World} {G : Nat → Prop} {P mp D : Nat} {S : Shp} {base : Nat} {st : Int} {σ : St} {fl rl : List (List Nat)} {tk : List Bool}
theorem Dl.fr {B : Nat → Prop} (h : Dl w0 G w D S fl rl tk) (hf : Fr B w w') (hB : ∀ k, G k → ¬ B k) : Dl w0 G w' D S fl rl tk := by
  obtain ⟨Q, fb, rb, fv, rv, tv, h, hG⟩ := h
  exact ⟨Q, fb, rb, fv, rv, tv, h.fr hf (fun k hk => hB k (hG k hk).1), hG⟩
theorem Dl.f0 (h : Dl w0 G w D S fl rl tk) (hf : Fr F0 w w') : Dl w0 G w' D S fl rl tk := h.fr hf (fun _ _ e => e)
theorem Dl.g (h : Dl w0 G w D S fl rl tk) (hf : FrG w0 G w w') : Dl w0 G w' D S fl rl tk := h.fr hf (fun _k hk e => e.2 hk)
theorem Dl.mono {G' : Nat → Prop} (h : Dl w0 G w D S fl rl tk) (hG : ∀ k, G k → G' k) : Dl w0 G' w D S fl rl tk := by
  obtain ⟨Q, fb, rb, fv, rv, tv, h, hh⟩ := h
  exact ⟨Q, fb, rb, fv, rv, tv, h, fun k hk => ⟨hG k (hh k hk).1, (hh k hk).2⟩⟩

set_option maxHeartbeats 8000000 in
set_option maxRecDepth 100000 in
theorem same_any (hk : Small S) (hP : Pl w0 G w P mp S base st σ) (hD : Dl w0 G w D S fl rl tk) (hR : Rel S σ fl rl tk) :
    Calls Try.prog 21 #[.pointer (some ⟨P, 0, none⟩), .pointer (some ⟨D, 0, none⟩)] w fun e w' => e = .returned (.bool true) ∧ Fr F0 w w' := by
  obtain ⟨Q, fb, rb, fv, rv, tv, hDR, hG⟩ := hD
  have HDR := Lib.hid hDR
  have HP := Lib.hid hP
  have HR := Lib.hid hR
  have hok := hP.sm.2.2.1
  have hk64 := hok.k2
  have hmany := hk.n
  clear hDR hP hR hG hok
  go_enter Try.func21, Try.ntmps21
  go_wp2_with fail
  go_loopw [5] (fun iv wx => ∃ i : Nat, i ≤ S.k ∧ iv = .int .i64 (i : Int) ∧ Hid (Fr F0 w wx)) (fun iv _ => S.k - (intOf iv).toNat)
  case atStart => exact ⟨0, by omega, rfl, Lib.hid (Fr.refl _ _)⟩
  case round =>
    obtain ⟨i, hi, rfl, HF⟩ := hrel
    have hX := HDR.out.f0 HF.out
    obtain ⟨k0, k7, k8, k9⟩ := hX.cells
    by_cases hik : i < S.k
    · have g1 : (i : Int) < (S.k : Int) := by omega
      clear hX
      go_wp2_with fail
      clear k0 k7 k8 k9
      go_loopw [6] (fun cv wx => ∃ c : Nat, c ≤ 3 ∧ cv = .int .i64 (c : Int) ∧ Hid (Fr F0 w wx)) (fun cv _ => 3 - (intOf cv).toNat)
      case atStart => exact ⟨0, by omega, rfl, HF⟩
      case round =>
        obtain ⟨c, hc, rfl, HF⟩ := hrel
        have hX := HDR.out.f0 HF.out
        have HPX := Lib.hid (HP.out.f0 HF.out)
        obtain ⟨k0, k7, k8, k9⟩ := hX.cells
        by_cases hc3 : c < 3
        · have g2 : (c : Int) < 3 := by omega
          have hhl := HP.out.inv.hl
          obtain ⟨l, hl⟩ := of_lt (show i * 4 + c < σ.ls.length by omega)
          have hlen := HP.out.inv.len hl
          have hfl := HR.out.fr i c hik hc3
          rw [hl] at hfl
          simp only [Option.map_some] at hfl
          obtain ⟨v, hv⟩ := of_lt (show i * 3 + c < fv.length by have := HDR.out.fvl; omega)
          obtain ⟨A, cp, rfl, _, _⟩ := HDR.out.row _ _ _ hv hfl
          obtain ⟨L, hL⟩ : ∃ L, L = l.length := ⟨_, rfl⟩
          have cf : wr.cell? ⟨fb, i * 3 + c, none⟩ = some (.slice A L cp) := by rw [hX.hf.cell, List.getElem?_toArray, hv, List.length_reverse, hL]
          have HFR := Lib.hid (free_pl (HPX.out.f0 ((Fr.refl F0 wr).drew)) i hik c hc3)
          rw [getDL hl, ← hL] at HFR
          have hL5 : L ≤ 50000 := by omega
          have bne : ((L : Int) != (L : Int)) = false := by simp
          have HF' := HF
          clear hX hl hlen hfl hv hL
          go_wp2_with fail
          refine region_K 14 (fun w' : World => w'.cell? ⟨D, 7, none⟩ = some (.slice (some ⟨fb, 0, none⟩) S.k S.k) ∧ w'.cell? ⟨fb, i * 3 + c, none⟩ = some (.slice A L cp)) (by kernel_rfl) ?_
          have HS0 : (fun w' : World => w'.cell? ⟨D, 7, none⟩ = some (.slice (some ⟨fb, 0, none⟩) S.k S.k) ∧ w'.cell? ⟨fb, i * 3 + c, none⟩ = some (.slice A L cp)) wr.drew := ⟨k7, cf⟩
          refine AnyK.take (i := 0) rfl (by decide) (by kernel_rfl) (by kernel_rfl) (by kernel_rfl) (fun _ _ _ _ h => h) HS0 (fun K hK => ?_)
          go_simp
          refine hK.out _ ⟨_, by rfl, Or.inl ⟨by rfl, by intro w hSw; (try dsimp only at hSw); obtain ⟨hS1, hS2⟩ := hSw; go_simp⟩, ?_⟩
          clear hK K
          refine AnyK.take (i := 1) rfl (by decide) (by kernel_rfl) (by kernel_rfl) (by kernel_rfl) (fun _ _ _ _ h => h) HS0 (fun K hK => ?_)
          go_simp
          refine hK.out _ ⟨_, by rfl, Or.inl ⟨by rfl, by intro w hSw; (try dsimp only at hSw); obtain ⟨hS1, hS2⟩ := hSw; go_simp⟩, ?_⟩
          clear hK K
          refine AnyK.take (i := 2) rfl (by decide) (by kernel_rfl) (by kernel_rfl) (by kernel_rfl) (fun _ _ _ _ h => h) HS0 (fun K hK => ?_)
          go_simp
          refine hK.out _ ⟨_, by rfl, Or.inl ⟨by rfl, by intro w hSw; (try dsimp only at hSw); obtain ⟨hS1, hS2⟩ := hSw; go_simp⟩, ?_⟩
          clear hK K
          refine AnyK.take (i := 4) rfl (by decide) (by kernel_rfl) (by kernel_rfl) (by kernel_rfl) (fun _ _ _ _ h => h) HS0 (fun K hK => ?_)
          go_simp
          refine hK.out _ ⟨_, by rfl, Or.inl ⟨by rfl, by intro w hSw; (try dsimp only at hSw); obtain ⟨hS1, hS2⟩ := hSw; go_simp⟩, ?_⟩
          clear hK K
          refine AnyK.take (i := 5) rfl (by decide) (by kernel_rfl) (by kernel_rfl) (by kernel_rfl) (fun _ _ _ _ h => h) HS0 (fun K hK => ?_)
          go_simp
          refine hK.out _ ⟨_, by rfl, Or.inl ⟨by rfl, by intro w hSw; (try dsimp only at hSw); obtain ⟨hS1, hS2⟩ := hSw; go_simp⟩, ?_⟩
          clear hK K
          refine AnyK.take (i := 6) rfl (by decide) (by kernel_rfl) (by kernel_rfl) (by kernel_rfl) (fun _ _ _ _ h => h) HS0 (fun K hK => ?_)
          go_simp
          refine hK.out _ ⟨_, by rfl, Or.inl ⟨by rfl, by intro w hSw; (try dsimp only at hSw); obtain ⟨hS1, hS2⟩ := hSw; go_simp⟩, ?_⟩
          clear hK K
          refine AnyK.take (i := 7) rfl (by decide) (by kernel_rfl) (by kernel_rfl) (by kernel_rfl) (fun _ _ _ _ h => h) HS0 (fun K hK => ?_)
          go_simp
          refine hK.out _ ⟨_, by rfl, Or.inl ⟨by rfl, by intro w hSw; (try dsimp only at hSw); obtain ⟨hS1, hS2⟩ := hSw; go_simp⟩, ?_⟩
          clear hK K
          refine AnyK.take (i := 8) rfl (by decide) (by kernel_rfl) (by kernel_rfl) (by kernel_rfl) (fun _ _ _ _ h => h) HS0 (fun K hK => ?_)
          go_simp
          refine hK.out _ ⟨_, by rfl, Or.inl ⟨by rfl, by intro w hSw; (try dsimp only at hSw); obtain ⟨hS1, hS2⟩ := hSw; go_simp⟩, ?_⟩
          clear hK K
          refine AnyK.take (i := 9) rfl (by decide) (by kernel_rfl) (by kernel_rfl) (by kernel_rfl) (fun _ _ _ _ h => h) HS0 (fun K hK => ?_)
          go_simp
          refine hK.out _ ⟨_, by rfl, Or.inl ⟨by rfl, by intro w hSw; (try dsimp only at hSw); obtain ⟨hS1, hS2⟩ := hSw; go_simp⟩, ?_⟩
          clear hK K
          refine AnyK.take (i := 10) rfl (by decide) (by kernel_rfl) (by kernel_rfl) (by kernel_rfl) (fun _ _ _ _ h => h) HS0 (fun K hK => ?_)
          go_simp
          refine hK.out _ ⟨_, by rfl, Or.inl ⟨by rfl, by intro w hSw; (try dsimp only at hSw); obtain ⟨hS1, hS2⟩ := hSw; go_simp⟩, ?_⟩
          clear hK K
          refine AnyK.take (i := 11) rfl (by decide) (by kernel_rfl) (by kernel_rfl) (by kernel_rfl) (fun _ _ _ _ h => h) HS0 (fun K hK => ?_)
          go_simp
          refine hK.out _ ⟨_, by rfl, Or.inl ⟨by rfl, by intro w hSw; (try dsimp only at hSw); obtain ⟨hS1, hS2⟩ := hSw; go_simp⟩, ?_⟩
          clear hK K
          refine AnyK.take (i := 12) rfl (by decide) (by kernel_rfl) (by kernel_rfl) (by kernel_rfl) (fun _ _ _ _ h => h) HS0 (fun K hK => ?_)
          go_simp
          refine hK.out _ ⟨_, by rfl, Or.inl ⟨by rfl, by intro w hSw; (try dsimp only at hSw); obtain ⟨hS1, hS2⟩ := hSw; go_simp⟩, ?_⟩
          clear hK K
          refine AnyK.take (i := 13) rfl (by decide) (by kernel_rfl) (by kernel_rfl) (by kernel_rfl) (fun _ _ _ _ h => h) HS0 (fun K hK => ?_)
          go_simp
          refine hK.out _ ⟨_, by rfl, Or.inl ⟨by rfl, by intro w hSw; (try dsimp only at hSw); obtain ⟨hS1, hS2⟩ := hSw; go_simp⟩, ?_⟩
          clear hK K
          refine AnyK.one (i := 3) rfl (by kernel_rfl) (fun K hK => ?_)
          go_simp
          refine HFR.out.mono ?_
          rintro e wd ⟨rfl, rfl⟩
          refine hK.out _ _ (fun _ => HS0) ?_
          clear hK K
          refine AnyK.one (i := 14) rfl (by kernel_rfl) (fun K hK => ?_)
          go_simp
          refine hK.out _ _ (fun _ => HS0) ?_
          clear hK K
          refine AnyK.done (by kernel_rfl) ?_ _
          have HF2 : Hid (Fr F0 w wr.drew) := HF.out.drew
          clear HS0 k0 k7 k8 k9 cf
          go_wp2_with fail
          exact ⟨⟨c + 1, by omega, by go_num, HF2⟩, by simp [intOf]; omega⟩
        · have g2 : ¬ (c : Int) < 3 := by omega
          obtain ⟨l, hl⟩ := of_lt (show i * 4 + 3 < σ.ls.length by have := HP.out.inv.hl; omega)
          have hlen := HP.out.inv.len hl
          have hrl := HR.out.bk i hik
          rw [hl] at hrl
          obtain ⟨v, hv⟩ := of_lt (show i < rv.length by have := HDR.out.rr.len; have := HDR.out.rll; omega)
          have hown := HDR.out.rr.own i v l hv hrl
          obtain ⟨A, cp, rfl⟩ := own_slice hown
          obtain ⟨L, hL⟩ : ∃ L, L = l.length := ⟨_, rfl⟩
          have cf : wr.cell? ⟨rb, i, none⟩ = some (.slice A L cp) := by rw [hX.hr.cell, List.getElem?_toArray, hv, hL]
          have HFR := Lib.hid (remote_pl (HPX.out.f0 ((Fr.refl F0 wr).drew)) i hik)
          rw [getDL hl, ← hL] at HFR
          have hL5 : L ≤ 50000 := by omega
          have bne : ((L : Int) != (L : Int)) = false := by simp
          have g1 : (i : Int) < (S.k : Int) := by omega
          clear hX hl hlen hrl hv hL hown
          go_wp2_with fail
          refine region_K 11 (fun w' : World => w'.cell? ⟨D, 8, none⟩ = some (.slice (some ⟨rb, 0, none⟩) S.k S.k) ∧ w'.cell? ⟨rb, i, none⟩ = some (.slice A L cp)) (by kernel_rfl) ?_
          have HS0 : (fun w' : World => w'.cell? ⟨D, 8, none⟩ = some (.slice (some ⟨rb, 0, none⟩) S.k S.k) ∧ w'.cell? ⟨rb, i, none⟩ = some (.slice A L cp)) wr.drew := ⟨k8, cf⟩
          refine AnyK.take (i := 0) rfl (by decide) (by kernel_rfl) (by kernel_rfl) (by kernel_rfl) (fun _ _ _ _ h => h) HS0 (fun K hK => ?_)
          go_simp
          refine hK.out _ ⟨_, by rfl, Or.inl ⟨by rfl, by intro w hSw; (try dsimp only at hSw); obtain ⟨hS1, hS2⟩ := hSw; go_simp⟩, ?_⟩
          clear hK K
          refine AnyK.take (i := 1) rfl (by decide) (by kernel_rfl) (by kernel_rfl) (by kernel_rfl) (fun _ _ _ _ h => h) HS0 (fun K hK => ?_)
          go_simp
          refine hK.out _ ⟨_, by rfl, Or.inl ⟨by rfl, by intro w hSw; (try dsimp only at hSw); obtain ⟨hS1, hS2⟩ := hSw; go_simp⟩, ?_⟩
          clear hK K
          refine AnyK.take (i := 3) rfl (by decide) (by kernel_rfl) (by kernel_rfl) (by kernel_rfl) (fun _ _ _ _ h => h) HS0 (fun K hK => ?_)
          go_simp
          refine hK.out _ ⟨_, by rfl, Or.inl ⟨by rfl, by intro w hSw; (try dsimp only at hSw); obtain ⟨hS1, hS2⟩ := hSw; go_simp⟩, ?_⟩
          clear hK K
          refine AnyK.take (i := 4) rfl (by decide) (by kernel_rfl) (by kernel_rfl) (by kernel_rfl) (fun _ _ _ _ h => h) HS0 (fun K hK => ?_)
          go_simp
          refine hK.out _ ⟨_, by rfl, Or.inl ⟨by rfl, by intro w hSw; (try dsimp only at hSw); obtain ⟨hS1, hS2⟩ := hSw; go_simp⟩, ?_⟩
          clear hK K
          refine AnyK.take (i := 5) rfl (by decide) (by kernel_rfl) (by kernel_rfl) (by kernel_rfl) (fun _ _ _ _ h => h) HS0 (fun K hK => ?_)
          go_simp
          refine hK.out _ ⟨_, by rfl, Or.inl ⟨by rfl, by intro w hSw; (try dsimp only at hSw); obtain ⟨hS1, hS2⟩ := hSw; go_simp⟩, ?_⟩
          clear hK K
          refine AnyK.take (i := 6) rfl (by decide) (by kernel_rfl) (by kernel_rfl) (by kernel_rfl) (fun _ _ _ _ h => h) HS0 (fun K hK => ?_)
          go_simp
          refine hK.out _ ⟨_, by rfl, Or.inl ⟨by rfl, by intro w hSw; (try dsimp only at hSw); obtain ⟨hS1, hS2⟩ := hSw; go_simp⟩, ?_⟩
          clear hK K
          refine AnyK.take (i := 7) rfl (by decide) (by kernel_rfl) (by kernel_rfl) (by kernel_rfl) (fun _ _ _ _ h => h) HS0 (fun K hK => ?_)
          go_simp
          refine hK.out _ ⟨_, by rfl, Or.inl ⟨by rfl, by intro w hSw; (try dsimp only at hSw); obtain ⟨hS1, hS2⟩ := hSw; go_simp⟩, ?_⟩
          clear hK K
          refine AnyK.take (i := 8) rfl (by decide) (by kernel_rfl) (by kernel_rfl) (by kernel_rfl) (fun _ _ _ _ h => h) HS0 (fun K hK => ?_)
          go_simp
          refine hK.out _ ⟨_, by rfl, Or.inl ⟨by rfl, by intro w hSw; (try dsimp only at hSw); obtain ⟨hS1, hS2⟩ := hSw; go_simp⟩, ?_⟩
          clear hK K
          refine AnyK.take (i := 9) rfl (by decide) (by kernel_rfl) (by kernel_rfl) (by kernel_rfl) (fun _ _ _ _ h => h) HS0 (fun K hK => ?_)
          go_simp
          refine hK.out _ ⟨_, by rfl, Or.inl ⟨by rfl, by intro w hSw; (try dsimp only at hSw); obtain ⟨hS1, hS2⟩ := hSw; go_simp⟩, ?_⟩
          clear hK K
          refine AnyK.take (i := 10) rfl (by decide) (by kernel_rfl) (by kernel_rfl) (by kernel_rfl) (fun _ _ _ _ h => h) HS0 (fun K hK => ?_)
          go_simp
          refine hK.out _ ⟨_, by rfl, Or.inl ⟨by rfl, by intro w hSw; (try dsimp only at hSw); obtain ⟨hS1, hS2⟩ := hSw; go_simp⟩, ?_⟩
          clear hK K
          refine AnyK.one (i := 2) rfl (by kernel_rfl) (fun K hK => ?_)
          go_simp
          refine HFR.out.mono ?_
          rintro e wd ⟨rfl, rfl⟩
          refine hK.out _ _ (fun _ => HS0) ?_
          clear hK K
          refine AnyK.one (i := 11) rfl (by kernel_rfl) (fun K hK => ?_)
          go_simp
          refine hK.out _ _ (fun _ => HS0) ?_
          clear hK K
          refine AnyK.done (by kernel_rfl) ?_ _
          have HF2 : Hid (Fr F0 w wr.drew) := HF.out.drew
          clear HS0 k0 k7 k8 k9 cf
          go_wp2_with fail
          exact ⟨⟨i + 1, by omega, by go_num, HF2⟩, by simp [intOf]; omega⟩
    · have g1 : ¬ (i : Int) < (S.k : Int) := by omega
      have HPX := Lib.hid (HP.out.f0 HF.out)
      have HHM := Lib.hid (home_pl HPX.out)
      have HIFF := Lib.hid (home_iff HP.out.inv)
      have hbk : ∀ j, j < S.k → (rl.getD j []).length ≤ 1000 → True := fun _ _ _ => trivial
      have HDH := Lib.hid (fun wx (h : Fr F0 wr wx) => dhome_q (hX.f0 h) hk64 (by rw [HDR.out.htl]; omega) (fun l hl => by
        obtain ⟨j, hj⟩ := List.getElem?_of_mem hl
        have hjk : j < S.k := by have := lt_of hj; have := HDR.out.rll; omega
        rw [HR.out.bk j hjk] at hj
        have := HP.out.inv.len hj
        omega))
      have HEQ : Hid (dhm S.k rl tk = !missL S σ.ls) := Lib.hid (by
        have h1 := HIFF.out
        have h2 := dhm_iff S.k rl tk
        have hb : ∀ j, j < S.k → ((rl.getD j []).length = 0 ↔ σ.ls[j * 4 + 3]? = some []) := fun j hj => by
          obtain ⟨l, hl⟩ := of_lt (show j * 4 + 3 < σ.ls.length by have := HP.out.inv.hl; omega)
          have e := HR.out.bk j hj
          rw [hl] at e
          rw [getDL e, hl]
          constructor
          · intro h; rw [List.length_eq_zero_iff.1 h]
          · intro h; injection h with h; rw [h]; rfl
        have hl : tk.length = S.many + 1 := HDR.out.htl
        cases hm : missL S σ.ls with
        | false =>
          obtain ⟨h3, h4⟩ := h1.1 hm
          exact h2.2 ⟨fun n a b => by rw [HR.out.tk]; exact h3 n a (by omega), fun j hj => (hb j hj).2 (h4 j hj)⟩
        | true =>
          cases hd : dhm S.k rl tk with
          | false => rfl
          | true =>
            obtain ⟨h3, h4⟩ := h2.1 hd
            have := h1.2 ⟨fun n a b => by rw [← HR.out.tk]; exact h3 n a (by omega), fun j hj => (hb j hj).1 (h4 j hj)⟩
            rw [this] at hm; cases hm)
      rw [HEQ.out] at HDH
      obtain ⟨hm, hhm⟩ : ∃ hm, hm = missL S σ.ls := ⟨_, rfl⟩
      rw [← hhm] at HHM HDH
      have bee : ((!hm) == (!hm)) = true := by simp
      clear hX HEQ HIFF hhm hbk
      go_wp2_with fail
      refine HHM.out.mono ?_
      rintro e wh ⟨rfl, hFh⟩
      have HFh := Lib.hid (HF.out.trans hFh)
      have HDH2 := Lib.hid (HDH.out wh hFh)
      clear hFh HDH
      go_wp2_with fail
      refine HDH2.out.mono ?_
      rintro e wi ⟨rfl, rfl⟩
      go_wp2_with fail
      go_ret
      refine ⟨?_, HFh.out⟩
      first | rfl | (simp; done)
end
end Go.Proofs.Ytichhieopnbgpaa
