/-
  What the document's own check comes to.
-/
import Derived.Test.YtjfeoigclkelfaaDoorRefI
import Derived.Test.YtjfeoigclkelfaaDoorVall
namespace Go.Proofs.YtjfeoigclkelfaaDoor
open Go.RowKit

set_option maxHeartbeats 16000000 in
set_option maxRecDepth 100000 in
theorem rcheck_any (w : World) (A : Option Addr) (c : Nat) (L : List LFn) (hR : FnRow w (fun b => b < w.heap.size) A L) (hl : L.length ≤ 300) (hp : ∀ x ∈ L, x.f.code.length ≤ 600) :
    Calls Tryd.prog 12 #[.slice A L.length c] w (CkPost w (chk (fns L))) := by
  have HR := Lib.hid hR
  have HP := Lib.hid hp
  clear hR hp
  by_cases hlen : 1 ≤ L.length ∧ L.length ≤ 16
  · have HL : Hid (chk (fns L) = fnsE (fns L) 0 (fns L)) := Lib.hid (chk_fns (by rw [fns_length]; omega))
    obtain ⟨hl1, hl2⟩ := hlen
    go_enter Tryd.func12, Tryd.ntmps12
    go_wp2_with fail
    go_loopw [5] (fun i wx => ∃ k : Nat, k ≤ L.length ∧ i = .int .i64 k ∧ Hid (∀ z ∈ (fns L).take k, (fnE (fns L) z).2 = 0) ∧ Fr None' w wx) (fun i _ => L.length - (intOf i).toNat)
    case atStart => exact ⟨0, by omega, rfl, Lib.hid (fun z hz => by simp at hz), Fr.refl _ _⟩
    case round =>
      obtain ⟨k, hk, rfl, HU, hF⟩ := hrel
      have HF := Lib.hid hF
      clear hF
      by_cases hkl : k < L.length
      · obtain ⟨y, hy⟩ : ∃ y, L[k]? = some y := ⟨_, List.getElem?_eq_getElem hkl⟩
        have HY := Lib.hid hy
        have hyl := HP.out y (List.mem_of_getElem? hy)
        have hRk := (HR.out.fr HF.out (fun _ _ h => h)).mono (Q' := fun b => b < wr.heap.size) (fun _ hb => Nat.lt_of_lt_of_le hb HF.out.size)
        have HRk := Lib.hid hRk
        obtain ⟨b, off, rfl, hbq, d0, d1, hI⟩ := hRk.at_ hy
        have HI := Lib.hid hI
        have hbad : (fnE (fns L) y.f).2 ≠ 0 → Hid (chk (fns L) = (k, (fnE (fns L) y.f).1, (fnE (fns L) y.f).2)) := fun h => by
          have hN := fnsE_bad (fns L) (fns L) 0 k y.f (fns_at HY.out) HU.out h
          rw [Nat.zero_add] at hN
          exact Lib.hid (HL.out.trans hN)
        have HBAD := Lib.hid hbad
        clear hy hI hRk hbad
        by_cases ha : 0 ≤ y.f.arity ∧ y.f.arity ≤ 4
        · obtain ⟨ha1, ha2⟩ := ha
          by_cases hc1 : 1 ≤ y.f.code.length ∧ y.f.code.length ≤ 64
          · obtain ⟨hc1, hc2⟩ := hc1
            obtain ⟨wo, hwo⟩ : ∃ wo, wo = wr := ⟨_, rfl⟩
            subst hwo
            go_wp2_with fail
            go_loopw [6] (fun i wx => ∃ j : Nat, j ≤ y.f.code.length ∧ i = .int .i64 j ∧ Hid (∀ z ∈ y.f.code.take j, insE (fns L) y.f.code.length z = 0) ∧ Fr None' wo wx) (fun i _ => y.f.code.length - (intOf i).toNat)
            case atStart => exact ⟨0, by omega, rfl, Lib.hid (fun z hz => by simp at hz), Fr.refl _ _⟩
            case round =>
              obtain ⟨j, hj, rfl, HV, hFj⟩ := hrel
              have g1 := hFj.held d1 (fun h => h)
              have HFj := Lib.hid hFj
              have hIj := (HI.out.fr HFj.out (fun _ _ h => h))
              have HIj := Lib.hid hIj
              clear hFj hIj d0 d1
              by_cases hjl : j < y.f.code.length
              · obtain ⟨x, hx⟩ : ∃ x, y.f.code[j]? = some x := ⟨_, List.getElem?_eq_getElem hjl⟩
                have HX := Lib.hid hx
                obtain ⟨b', off', hA', _, y0, y1, y2, y3, y4⟩ := HIj.out.at_ hx
                rw [hA'] at g1
                clear hx hA'
                go_wp2_with fail
                have hRj := (HRk.out.fr HFj.out (fun _ _ h => h)).mono (Q' := fun b => b < wr.heap.size) (fun _ hb => Nat.lt_of_lt_of_le hb HFj.out.size)
                refine (rins_any wr (some ⟨b, off, none⟩) c L hRj k y HY.out hl hyl x).mono ?_
                rintro e w2 ⟨rfl, hF2⟩
                have HF2 := Lib.hid hF2
                clear hF2 hRj
                by_cases h0 : insE (fns L) y.f.code.length x = 0
                · have HV' : Hid (∀ z ∈ y.f.code.take (j + 1), insE (fns L) y.f.code.length z = 0) := Lib.hid (by
                    rw [take_snoc _ j x HX.out]
                    intro u hu
                    rcases List.mem_append.1 hu with hu | hu
                    · exact HV.out u hu
                    · rw [List.mem_singleton.1 hu]; exact h0)
                  rw [h0]
                  clear h0 y0 y1 y2 y3 y4 g1
                  go_wp2_with fail
                  exact ⟨⟨j + 1, by omega, by go_num, HV', HFj.out.trans HF2.out⟩, by simp [intOf]; omega⟩
                · have hN := fnE_ins (fs := fns L) ⟨ha1, ha2⟩ ⟨hc1, hc2⟩ HX.out HV.out h0
                  have HN := HBAD.out (by rw [hN]; exact h0)
                  rw [hN] at HN
                  have h0b : (insE (fns L) y.f.code.length x == 0) = false := by simpa using h0
                  clear h0 hN y0 y1 y2 y3 y4 g1
                  go_wp2_with fail
                  go_ret3
                  exact ⟨by rw [HN.out]; rfl, (HF.out.trans HFj.out).trans HF2.out⟩
              · obtain rfl : j = y.f.code.length := by omega
                rw [List.take_length] at HV
                obtain ⟨x, hx⟩ : ∃ x, y.f.code[y.f.code.length - 1]? = some x := ⟨_, List.getElem?_eq_getElem (by omega)⟩
                have HLA := Lib.hid (last_at hx)
                have HFE := Lib.hid (fnE_last (fs := fns L) ⟨ha1, ha2⟩ ⟨hc1, hc2⟩ HV.out)
                obtain ⟨b', off', hA', _, y0, _, _, _, _⟩ := HIj.out.at_ hx
                rw [hA'] at g1
                clear hx hA' HV
                have hsub : (y.f.code.length : Int) - 1 = ((y.f.code.length - 1 : Nat) : Int) := by omega
                have hm1 : y.f.code.length - 1 < y.f.code.length := by omega
                have hwr : IntKind.i64.wrap ((y.f.code.length : Int) - 1) = ((y.f.code.length - 1 : Nat) : Int) := by rw [hsub]; exact IntWalk.i64_in _ (by omega)
                have hu : lastOk y.f.code → Hid (∀ z ∈ (fns L).take (k + 1), (fnE (fns L) z).2 = 0) := fun h => Lib.hid (by
                  rw [take_snoc _ k y.f (fns_at HY.out)]
                  intro u hu
                  rcases List.mem_append.1 hu with hu | hu
                  · exact HU.out u hu
                  · rw [List.mem_singleton.1 hu, HFE.out, if_pos h])
                by_cases h9 : x.op = 9
                · have HU' := hu (by unfold lastOk; rw [HLA.out]; exact .inl h9)
                  rw [h9] at y0
                  clear h9 HLA hu HFE
                  go_wp2_with fail
                  go_quiet (fail)
                  go_wp2_with fail
                  exact ⟨⟨k + 1, by omega, by go_num, HU', (HF.out.trans HFj.out).drewN _⟩, by simp [intOf]; omega⟩
                by_cases h16 : x.op = 16
                · have HU' := hu (by unfold lastOk; rw [HLA.out]; exact .inr (.inl h16))
                  rw [h16] at y0
                  clear h9 h16 HLA hu HFE
                  go_wp2_with fail
                  go_quiet (fail)
                  go_wp2_with fail
                  exact ⟨⟨k + 1, by omega, by go_num, HU', (HF.out.trans HFj.out).drewN _⟩, by simp [intOf]; omega⟩
                by_cases h17 : x.op = 17
                · have HU' := hu (by unfold lastOk; rw [HLA.out]; exact .inr (.inr h17))
                  rw [h17] at y0
                  clear h9 h16 h17 HLA hu HFE
                  go_wp2_with fail
                  go_quiet (fail)
                  go_wp2_with fail
                  exact ⟨⟨k + 1, by omega, by go_num, HU', (HF.out.trans HFj.out).drewN _⟩, by simp [intOf]; omega⟩
                · have hno : ¬ lastOk y.f.code := by unfold lastOk; rw [HLA.out]; rintro (h | h | h) <;> contradiction
                  have HN := HBAD.out (by rw [HFE.out, if_neg hno]; exact (by decide : (11 : Int) ≠ 0))
                  rw [HFE.out, if_neg hno] at HN
                  have b9 : (x.op == 9) = false := by simpa using h9
                  have b16 : (x.op == 16) = false := by simpa using h16
                  have b17 : (x.op == 17) = false := by simpa using h17
                  have c9 : (x.op != 9) = true := by simp [bne, b9]
                  have c16 : (x.op != 16) = true := by simp [bne, b16]
                  have c17 : (x.op != 17) = true := by simp [bne, b17]
                  clear h9 h16 h17 HLA hu HFE hno
                  go_wp2_with fail
                  go_quiet (fail)
                  go_wp2_with fail
                  go_quiet (fail)
                  go_wp2_with fail
                  go_ret3
                  exact ⟨by rw [HN.out]; rfl, ((HF.out.trans HFj.out).drewN _).drewN _⟩
          · have hN := fnE_len (fs := fns L) (f := y.f) ⟨ha1, ha2⟩ hc1
            have HN := HBAD.out (by rw [hN]; exact (by decide : (3 : Int) ≠ 0))
            rw [hN] at HN
            by_cases h1 : y.f.code.length < 1
            · have g1 : (y.f.code.length : Int) < 1 := by omega
              clear hc1 hN
              go_wp2_with fail
              go_ret3
              exact ⟨by rw [HN.out]; rfl, HF.out⟩
            · have g1 : ¬ (y.f.code.length : Int) < 1 := by omega
              have g2 : (64 : Int) < y.f.code.length := by omega
              clear hc1 hN
              go_wp2_with fail
              go_ret3
              exact ⟨by rw [HN.out]; rfl, HF.out⟩
        · have hN := fnE_arity (fs := fns L) (f := y.f) ha
          have HN := HBAD.out (by rw [hN]; exact (by decide : (6 : Int) ≠ 0))
          rw [hN] at HN
          by_cases h1 : y.f.arity < 0
          · clear ha hN
            go_wp2_with fail
            go_ret3
            exact ⟨by rw [HN.out]; rfl, HF.out⟩
          · have g1 : 0 ≤ y.f.arity := by omega
            have g2 : 4 < y.f.arity := by omega
            clear ha hN
            go_wp2_with fail
            go_ret3
            exact ⟨by rw [HN.out]; rfl, HF.out⟩
      · obtain rfl : k = L.length := by omega
        have HO : Hid (chk (fns L) = (0, 0, 0)) := Lib.hid (by rw [HL.out]; exact fnsE_ok _ _ _ (by have := HU.out; rw [List.take_of_length_le (by rw [fns_length]; omega)] at this; exact this))
        go_wp2_with fail
        go_ret3
        exact ⟨by rw [HO.out]; rfl, HF.out⟩
  · have HN : Hid (chk (fns L) = (0, 0, 3)) := Lib.hid (chk_long (by rw [fns_length]; exact hlen))
    by_cases h1 : L.length < 1
    · have g1 : (L.length : Int) < 1 := by omega
      clear hlen
      go_enter Tryd.func12, Tryd.ntmps12
      go_wp2_with fail
      go_ret3
      exact ⟨by rw [HN.out]; rfl, Fr.refl _ _⟩
    · have g1 : ¬ (L.length : Int) < 1 := by omega
      have g2 : (16 : Int) < L.length := by omega
      clear hlen
      go_enter Tryd.func12, Tryd.ntmps12
      go_wp2_with fail
      go_ret3
      exact ⟨by rw [HN.out]; rfl, Fr.refl _ _⟩
end Go.Proofs.YtjfeoigclkelfaaDoor
