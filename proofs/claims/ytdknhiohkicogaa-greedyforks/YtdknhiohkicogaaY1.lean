/-
  Rows of rows of numbers in memory; graph.Right, greedy.may. No condition.
-/
import Derived.Test.YtdknhiohkicogaaBase
import Derived.Test.YtdknhiohkicogaaHeld
import Derived.Test.YtdknhiohkicogaaApp
import Derived.Test.YtdknhiohkicogaaPureY
import Derived.RegionTactic
import Derived.BigRegion
import Derived.Deep.QuietTactic
import Derived.BigQuiet
import Derived.StillTailTactics
import Derived.Test.YtdknhiohkicogaaProg
import Derived.KernelRfl
namespace Go.Proofs.Ytdknhiohkicogaa
open Go.RowKit

abbrev F0 : Nat → Prop := fun _ => False
theorem Fr.f0 {B : Nat → Prop} {w w' : World} (h : Fr F0 w w') : Fr B w w' := h.mono (fun _ h => h.elim)

def ic (l : List Int) : List Value := l.map (Value.int .i64)
theorem ic_length (l : List Int) : (ic l).length = l.length := by simp [ic]
theorem ic_at {l : List Int} {i : Nat} {z : Int} (h : l[i]? = some z) : (ic l)[i]? = some (.int .i64 z) := by simp [ic, h]
/-- Rows of numbers. -/
def GrAt (w : World) (Q : Nat → Prop) (A : Option Addr) (g : List (List Int)) : Prop :=
  ∀ (i : Nat) (row : List Int), g[i]? = some row → ∃ b off A' c', A = some ⟨b, off, none⟩ ∧ Q b ∧ w.cell? ⟨b, off + i, none⟩ = some (.slice A' row.length c') ∧ Rd w Q 1 A' row.length (ic row)
theorem GrAt.fr {w w' : World} {Q B : Nat → Prop} {A : Option Addr} {g : List (List Int)} (h : GrAt w Q A g) (hf : Fr B w w') (hB : ∀ b, Q b → ¬ B b) : GrAt w' Q A g := by
  intro i row hi
  obtain ⟨b, off, A', c', h1, h2, h3, h4⟩ := h i row hi
  exact ⟨b, off, A', c', h1, h2, hf.held h3 (hB b h2), h4.fr hf hB⟩
theorem GrAt.f0 {w w' : World} {Q : Nat → Prop} {A : Option Addr} {g : List (List Int)} (h : GrAt w Q A g) (hf : Fr F0 w w') : GrAt w' Q A g := h.fr hf (fun _ _ h => h)
theorem Rd.int_at {w : World} {Q : Nat → Prop} {A : Option Addr} {l : List Int} {i : Nat} {z : Int} (h : Rd w Q 1 A l.length (ic l)) (hi : l[i]? = some z) : ∃ b off, A = some ⟨b, off, none⟩ ∧ Q b ∧ w.cell? ⟨b, off + i, none⟩ = some (.int .i64 z) := by
  obtain ⟨b, off, h1, h2, h3⟩ := h.2 (by have := (List.getElem?_eq_some_iff.1 hi).1; omega)
  exact ⟨b, off, h1, h2, h3 i _ (ic_at hi)⟩

def rowB (s : Int) : Int → List Int → Bool
  | _, [] => true
  | least, a :: r => decide (least ≤ a) && decide (a < s) && rowB s (a + 1) r
def rightFrom : Nat → List (List Int) → Bool
  | _, [] => true
  | s, row :: g => rowB s 0 row && rightFrom (s + 1) g
def rightB (g : List (List Int)) : Bool := rightFrom 0 g

/-- Few steps, short rows. -/
structure Few (g : List (List Int)) : Prop where
  n : g.length ≤ 1000
  r : ∀ row ∈ g, row.length ≤ 1000

set_option maxHeartbeats 4000000 in
set_option maxRecDepth 100000 in
theorem right_any (w : World) (Q : Nat → Prop) (A : Option Addr) (c : Nat) (g : List (List Int)) (hg : GrAt w Q A g) (hF : Few g) :
    Calls Try.prog 28 #[.agg #[.slice A g.length c]] w fun e w' => e = .returned (.bool (rightB g)) ∧ Fr F0 w w' := by
  obtain ⟨n, hn⟩ : ∃ n, n = g.length := ⟨_, rfl⟩
  obtain ⟨rb, hrb⟩ : ∃ rb, rb = rightB g := ⟨_, rfl⟩
  rw [← hn, ← hrb]
  have hn1 : n ≤ 1000 := by have := hF.n; omega
  have HG := Lib.hid hg
  have HN := Lib.hid hn
  have HFW := Lib.hid hF
  have HRB := Lib.hid hrb
  clear hg hn hF hrb
  go_enter Try.func28, Try.ntmps28
  go_wp2_with fail
  go_loopw [11] (fun i wx => ∃ k : Nat, k ≤ n ∧ i = .int .i64 (k : Int) ∧ Hid (rb = rightFrom k (g.drop k)) ∧ Hid (Fr F0 w wx)) (fun i _ => n - (intOf i).toNat)
  case atStart => exact ⟨0, by omega, rfl, Lib.hid (by rw [HRB.out]; rfl), Lib.hid ((Fr.refl _ _).alloc _)⟩
  case round =>
    obtain ⟨k, hkn, rfl, HA, HF⟩ := hrel
    by_cases hk : k < n
    · have g1 : (k : Int) < (n : Int) := by omega
      obtain ⟨row, hrow⟩ : ∃ row, g[k]? = some row := ⟨_, List.getElem?_eq_getElem (by have := HN.out; omega)⟩
      obtain ⟨b, off, A', c', hAe, hQb, hcell, hrd⟩ := (HG.out.f0 HF.out) k row hrow
      subst hAe
      obtain ⟨m, hm⟩ : ∃ m, m = row.length := ⟨_, rfl⟩
      have hm1 : m ≤ 1000 := by rw [hm]; exact HFW.out.r row (List.mem_of_getElem? hrow)
      rw [← hm] at hcell hrd
      have HRD := Lib.hid hrd
      have HM := Lib.hid hm
      have HROW := Lib.hid hrow
      clear hrd hm hrow hQb
      go_wp2_with fail
      go_loopw [5, 18] (fun l i wx => ∃ (j : Nat) (ls : Int), j ≤ m ∧ i = .int .i64 (j : Int) ∧ l = .int .i64 ls ∧ 0 ≤ ls ∧ ls ≤ 1000 ∧ Hid (rowB (k : Int) 0 row = rowB (k : Int) ls (row.drop j)) ∧ wx = wr) (fun _ i _ => m - (intOf i).toNat)
      case atStart => exact ⟨0, 0, by omega, rfl, rfl, by omega, by omega, Lib.hid rfl, rfl⟩
      case round =>
        obtain ⟨j, ls, hj, rfl, rfl, hl1, hl2, HB, rfl⟩ := hrel
        by_cases hjm : j < m
        · have g2 : (j : Int) < (m : Int) := by omega
          obtain ⟨z, hz⟩ : ∃ z, row[j]? = some z := ⟨_, List.getElem?_eq_getElem (by have := HM.out; omega)⟩
          have hrd2 := HRD.out
          rw [HM.out] at hrd2
          obtain ⟨b2, off2, hAe2, _, hcell2⟩ := Rd.int_at hrd2 hz
          subst hAe2
          clear hrd2
          have HZ := Lib.hid hz
          have HB2 : Hid (rowB (k : Int) 0 row = (decide (ls ≤ z) && decide (z < (k : Int)) && rowB (k : Int) (z + 1) (row.drop (j + 1)))) := Lib.hid (by
            rw [HB.out, List.drop_eq_getElem_cons (by have := HM.out; omega)]
            have := HZ.out
            rw [List.getElem?_eq_getElem (by have := HM.out; omega)] at this
            injection this with this
            rw [this]; rfl)
          clear hz HB
          by_cases c1 : z < ls
          · have d1 : decide (z < ls) = true := decide_eq_true c1
            have HC1 := Lib.hid c1
            go_wp2_with fail
            go_ret
            refine ⟨?_, HF.out⟩
            rw [HA.out, List.drop_eq_getElem_cons (by have := HN.out; omega)]
            have h5 := HROW.out
            rw [List.getElem?_eq_getElem (by have := HN.out; omega)] at h5
            injection h5 with h5
            rw [h5]
            simp only [rightFrom]
            rw [HB2.out, decide_eq_false (by have := HC1.out; omega)]
            rfl
          · have d1 : decide (z < ls) = false := decide_eq_false c1
            have HC1 := Lib.hid c1
            clear c1
            by_cases c2 : (k : Int) ≤ z
            · have d2 : decide ((k : Int) ≤ z) = true := decide_eq_true c2
              have HC2 := Lib.hid c2
              go_wp2_with fail
              go_ret
              refine ⟨?_, HF.out⟩
              rw [HA.out, List.drop_eq_getElem_cons (by have := HN.out; omega)]
              have h5 := HROW.out
              rw [List.getElem?_eq_getElem (by have := HN.out; omega)] at h5
              injection h5 with h5
              rw [h5]
              simp only [rightFrom]
              rw [HB2.out, decide_eq_false (p := z < (k : Int)) (by have := HC2.out; omega), Bool.and_false]
              rfl
            · have d2 : decide ((k : Int) ≤ z) = false := decide_eq_false c2
              have HC2 := Lib.hid c2
              have hw : wrap64 (z + 1) = z + 1 := by have := HC1.out; unfold wrap64; omega
              go_wp2_with fail
              refine ⟨⟨j + 1, z + 1, by omega, by go_num, by rw [hw], by have := HC1.out; omega, by have := HC2.out; omega, Lib.hid ?_, trivial⟩, by simp [intOf]; omega⟩
              rw [HB2.out, decide_eq_true (by have := HC1.out; omega), decide_eq_true (by have := HC2.out; omega)]
              rfl
        · obtain rfl : j = m := by omega
          have HB3 : Hid (rowB (k : Int) 0 row = true) := Lib.hid (by rw [HB.out, HM.out, List.drop_length]; rfl)
          go_wp2_with fail
          refine ⟨⟨k + 1, by omega, by go_num, Lib.hid ?_, HF⟩, by simp [intOf]; omega⟩
          rw [HA.out, List.drop_eq_getElem_cons (by have := HN.out; omega)]
          have h5 := HROW.out
          rw [List.getElem?_eq_getElem (by have := HN.out; omega)] at h5
          injection h5 with h5
          rw [h5]
          simp only [rightFrom]
          rw [HB3.out]
          rfl
    · obtain rfl : k = n := by omega
      go_wp2_with fail
      go_ret
      refine ⟨?_, HF.out⟩
      rw [HA.out, HN.out, List.drop_length]
      rfl
end Go.Proofs.Ytdknhiohkicogaa
