/-
  The document's Right, ready, Plan. No condition.
-/
import Derived.Test.YtdknhiohkicogaaY8
namespace Go.Proofs.Ytdknhiohkicogaa
open Go.RowKit

set_option maxHeartbeats 8000000 in
set_option maxRecDepth 100000 in
theorem rright_any (w : World) (Q : Nat → Prop) (A : Option Addr) (c n : Nat) (g : List (List Int)) (hn : n = g.length) (hg : GrAt w Q A g) (hF : Few g) :
    Calls Try.prog 12 #[.slice A n c] w fun e w' => e = .returned (.bool (rightB g)) ∧ Fr F0 w w' := by
  obtain ⟨rb, hrb⟩ : ∃ rb, rb = rightB g := ⟨_, rfl⟩
  rw [← hrb]
  have hn1 : n ≤ 1000 := by have := hF.n; omega
  have HG := Lib.hid hg
  have HN := Lib.hid hn
  have HFW := Lib.hid hF
  have HRB := Lib.hid hrb
  clear hg hn hF hrb
  go_enter Try.func12, Try.ntmps12
  go_wp2_with fail
  go_loopw [3] (fun i wx => ∃ k : Nat, k ≤ n ∧ i = .int .i64 (k : Int) ∧ Hid (rb = rightFrom k (g.drop k)) ∧ Hid (Fr F0 w wx)) (fun i _ => n - (intOf i).toNat)
  case atStart => exact ⟨0, by omega, rfl, Lib.hid (by rw [HRB.out]; rfl), Lib.hid (Fr.refl _ _)⟩
  case round =>
    obtain ⟨k, hkn, rfl, HA, HF⟩ := hrel
    by_cases hk : k < n
    · have g1 : (k : Int) < (n : Int) := by omega
      obtain ⟨row, hrow⟩ := of_lt (show k < g.length by have := HN.out; omega)
      obtain ⟨m, hm⟩ : ∃ m, m = row.length := ⟨_, rfl⟩
      have hm1 : m ≤ 1000 := by rw [hm]; exact HFW.out.r row (List.mem_of_getElem? hrow)
      have HM := Lib.hid hm
      have HROW := Lib.hid hrow
      have HD : Hid (rb = (rowB (k : Int) 0 row && rightFrom (k + 1) (g.drop (k + 1)))) := Lib.hid (by
        rw [HA.out, List.drop_eq_getElem_cons (lt_of hrow), (List.getElem?_eq_some_iff.1 hrow).2]; rfl)
      clear hm hrow
      go_wp2_with fail
      go_loopw [4] (fun i wx => ∃ (j : Nat) (ls : Int), j ≤ m ∧ i = .int .i64 (j : Int) ∧ 0 ≤ ls ∧ ls ≤ 1000 ∧ Hid (j = 0 → ls = 0) ∧ Hid (∀ i : Nat, j = i + 1 → row[i]? = some (ls - 1) ∧ 1 ≤ ls) ∧ Hid (rowB (k : Int) 0 row = rowB (k : Int) ls (row.drop j)) ∧ Hid (Fr F0 w wx)) (fun i _ => m - (intOf i).toNat)
      case atStart => exact ⟨0, 0, by omega, rfl, by omega, by omega, Lib.hid (fun _ => rfl), Lib.hid (fun i h => by omega), Lib.hid rfl, HF⟩
      case round =>
        obtain ⟨j, ls, hj, rfl, hl1, hl2, HZ, HP, HB, HF2⟩ := hrel
        obtain ⟨b, off, A', c', hAe, _, hcell0, hrd0⟩ := HG.out k row HROW.out
        have hcell := HF2.out.held hcell0 (fun h => h)
        rw [← HM.out] at hcell
        subst hAe
        by_cases hjm : j < m
        · have g2 : (j : Int) < (m : Int) := by omega
          obtain ⟨z, hz⟩ := of_lt (show j < row.length by have := HM.out; omega)
          have hrd := hrd0.fr HF2.out (fun _ _ h => h)
          obtain ⟨b2, off2, hAe2, _, hcell2⟩ := Rd.int_at hrd hz
          subst hAe2
          have HB2 : Hid (rowB (k : Int) 0 row = (decide (ls ≤ z) && decide (z < (k : Int)) && rowB (k : Int) (z + 1) (row.drop (j + 1)))) := Lib.hid (by
            rw [HB.out, List.drop_eq_getElem_cons (lt_of hz), (List.getElem?_eq_some_iff.1 hz).2]; rfl)
          have HZ0 := Lib.hid hz
          have HPREV : Hid (∀ i : Nat, j = i + 1 → wr.cell? ⟨b2, off2 + i, none⟩ = some (.int .i64 (ls - 1))) := Lib.hid (fun i hi => by
            obtain ⟨b3, off3, he, _, hc⟩ := Rd.int_at hrd (HP.out i hi).1
            injection he with he
            injection he with e1 e2
            subst e1; subst e2
            exact hc)
          clear hz hrd hrd0 hcell0 HB
          by_cases c1 : z < 0
          · have d1 : decide (z < 0) = true := decide_eq_true c1
            have HV : Hid (rb = false) := Lib.hid (by rw [HD.out, HB2.out, decide_eq_false (show ¬ ls ≤ z by omega)]; rfl)
            go_wp2_with fail
            go_quiet (fail)
            go_wp2_with fail
            go_ret
            exact ⟨by rw [HV.out]; rfl, by first | exact HF2.out | exact HF2.out.drew | exact HF2.out.drewN _⟩
          · have d1 : decide (z < 0) = false := decide_eq_false c1
            by_cases c2 : (k : Int) ≤ z
            · have d2 : decide ((k : Int) ≤ z) = true := decide_eq_true c2
              have HV : Hid (rb = false) := Lib.hid (by rw [HD.out, HB2.out, decide_eq_false (p := z < (k : Int)) (show ¬ z < (k : Int) by omega), Bool.and_false]; rfl)
              go_wp2_with fail
              go_quiet (fail)
              go_wp2_with fail
              go_ret
              exact ⟨by rw [HV.out]; rfl, by first | exact HF2.out | exact HF2.out.drew | exact HF2.out.drewN _⟩
            · have d2 : decide ((k : Int) ≤ z) = false := decide_eq_false c2
              by_cases hj0 : j = 0
              · have hls := HZ.out hj0
                have HB3 : Hid (rowB (k : Int) 0 row = rowB (k : Int) (z + 1) (row.drop (j + 1))) := Lib.hid (by rw [HB2.out, decide_eq_true (show ls ≤ z by omega), decide_eq_true (show z < (k : Int) by omega)]; rfl)
                have HC1 := Lib.hid (show 0 ≤ z by omega)
                have HC2 := Lib.hid (show z < (k : Int) by omega)
                have g3 : ¬ (0 : Int) < (j : Int) := by omega
                have g7 : ¬ 0 < j := by omega
                clear hls hj0
                go_wp2_with fail
                go_quiet (fail)
                go_wp2_with fail
                refine ⟨⟨j + 1, z + 1, by omega, by go_num, by have := HC1.out; omega, by have := HC2.out; omega, Lib.hid (fun h => by omega), Lib.hid (fun i hi => ?_), HB3, ?_⟩, by simp [intOf]; omega⟩
                · have : i = j := by omega
                  subst this
                  exact ⟨by rw [HZ0.out]; congr 1; omega, by have := HC1.out; omega⟩
                · first | exact HF2 | exact Lib.hid HF2.out.drew | exact Lib.hid (HF2.out.drewN _)
              · obtain ⟨i, hi⟩ : ∃ i, j = i + 1 := ⟨j - 1, by omega⟩
                have hcp := HPREV.out i hi
                have g3 : (0 : Int) < (j : Int) := by omega
                have g4 : (j : Int) - 1 = (i : Int) := by omega
                have g5 : IntKind.i64.wrap ((j : Int) - 1) = (i : Int) := (IntWalk.i64_in _ (by omega)).trans g4
                have g6 : (i : Int) < (m : Int) := by omega
                have g7 : 0 < j := by omega
                have hls := (HP.out i hi).2
                by_cases c3 : z ≤ ls - 1
                · have d3 : decide (z ≤ ls - 1) = true := decide_eq_true c3
                  have HV : Hid (rb = false) := Lib.hid (by rw [HD.out, HB2.out, decide_eq_false (show ¬ ls ≤ z by omega)]; rfl)
                  clear hi hj0
                  go_wp2_with fail
                  go_quiet (fail)
                  go_wp2_with fail
                  go_ret
                  exact ⟨by rw [HV.out]; rfl, by first | exact HF2.out | exact HF2.out.drew | exact HF2.out.drewN _⟩
                · have d3 : decide (z ≤ ls - 1) = false := decide_eq_false c3
                  have HB3 : Hid (rowB (k : Int) 0 row = rowB (k : Int) (z + 1) (row.drop (j + 1))) := Lib.hid (by rw [HB2.out, decide_eq_true (show ls ≤ z by omega), decide_eq_true (show z < (k : Int) by omega)]; rfl)
                  have HC1 := Lib.hid (show 0 ≤ z by omega)
                  have HC2 := Lib.hid (show z < (k : Int) by omega)
                  clear hi hj0
                  go_wp2_with fail
                  go_quiet (fail)
                  go_wp2_with fail
                  refine ⟨⟨j + 1, z + 1, by omega, by go_num, by have := HC1.out; omega, by have := HC2.out; omega, Lib.hid (fun h => by omega), Lib.hid (fun i hi => ?_), HB3, ?_⟩, by simp [intOf]; omega⟩
                  · have : i = j := by omega
                    subst this
                    exact ⟨by rw [HZ0.out]; congr 1; omega, by have := HC1.out; omega⟩
                  · first | exact HF2 | exact Lib.hid HF2.out.drew | exact Lib.hid (HF2.out.drewN _)
        · have HB3 : Hid (rowB (k : Int) 0 row = true) := Lib.hid (by rw [HB.out, show j = row.length by have := HM.out; omega, List.drop_length]; rfl)
          have HD2 : Hid (rb = rightFrom (k + 1) (g.drop (k + 1))) := Lib.hid (by rw [HD.out, HB3.out]; rfl)
          clear hrd0 hcell0
          go_wp2_with fail
          exact ⟨⟨k + 1, by omega, by go_num, HD2, HF2⟩, by simp [intOf]; omega⟩
    · have HV : Hid (rb = true) := Lib.hid (by rw [HA.out, List.drop_eq_nil_of_le (by have := HN.out; omega)]; rfl)
      go_wp2_with fail
      go_ret
      exact ⟨by rw [HV.out]; rfl, HF.out⟩
end Go.Proofs.Ytdknhiohkicogaa
