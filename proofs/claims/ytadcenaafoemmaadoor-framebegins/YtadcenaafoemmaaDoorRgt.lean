/-
  eval.Right: may a program run with arguments?
-/
import Derived.Test.YtadcenaafoemmaaDoorVall
import Derived.Test.YtadcenaafoemmaaDoorPureM
namespace Go.Proofs.YtadcenaafoemmaaDoor
open Go.RowKit

def limB (bud dep : Int) : Bool := decide (1 ≤ bud ∧ bud ≤ 10000 ∧ 0 ≤ dep ∧ dep ≤ 30)
/-- May it run? -/
def rightB (fs : List Fn) (n : Nat) (bud dep : Int) : Bool := decide ((chk fs).2.2 = 0) && (decide ((n : Int) = arityAt fs 0) && limB bud dep)

set_option maxHeartbeats 2000000 in
theorem lim_any (w : World) (bud dep : Int) : Calls Tryd.prog 43 #[.agg #[.int .i64 bud, .int .i64 dep]] w fun e w' => e = .returned (.bool (limB bud dep)) ∧ Fr None' w w' := by
  by_cases h1 : 1 ≤ bud
  · by_cases h2 : bud ≤ 10000
    · by_cases h3 : 0 ≤ dep
      · by_cases h4 : dep ≤ 30
        · have HL : Hid (limB bud dep = true) := Lib.hid (by unfold limB; simp [h1, h2, h3, h4])
          go_enter Tryd.func43, Tryd.ntmps43
          go_wp2_with fail
          go_ret
          exact ⟨by rw [HL.out]; rfl, (Fr.refl _ _).alloc _⟩
        · have HL : Hid (limB bud dep = false) := Lib.hid (by unfold limB; simp [h4])
          have d4 : decide (dep ≤ 30) = false := by simpa using h4
          go_enter Tryd.func43, Tryd.ntmps43
          go_wp2_with fail
          go_ret
          exact ⟨by rw [HL.out]; rfl, (Fr.refl _ _).alloc _⟩
      · have HL : Hid (limB bud dep = false) := Lib.hid (by unfold limB; simp [h3])
        have d3 : decide (0 ≤ dep) = false := by simpa using h3
        go_enter Tryd.func43, Tryd.ntmps43
        go_wp2_with fail
        go_ret
        exact ⟨by rw [HL.out]; rfl, (Fr.refl _ _).alloc _⟩
    · have HL : Hid (limB bud dep = false) := Lib.hid (by unfold limB; simp [h2])
      have d2 : decide (bud ≤ 10000) = false := by simpa using h2
      go_enter Tryd.func43, Tryd.ntmps43
      go_wp2_with fail
      go_ret
      exact ⟨by rw [HL.out]; rfl, (Fr.refl _ _).alloc _⟩
  · have HL : Hid (limB bud dep = false) := Lib.hid (by unfold limB; simp [h1])
    have d1 : decide (1 ≤ bud) = false := by simpa using h1
    go_enter Tryd.func43, Tryd.ntmps43
    go_wp2_with fail
    go_ret
    exact ⟨by rw [HL.out]; rfl, (Fr.refl _ _).alloc _⟩

theorem fns0 {L : List LFn} {y : LFn} (h : L[0]? = some y) : arityAt (fns L) 0 = y.f.arity := by
  unfold arityAt
  rw [show (0 : Int).toNat = 0 from rfl, fns, List.getElem?_map, h]; rfl

set_option maxHeartbeats 4000000 in
theorem right_any (w : World) (PA : Option Addr) (pc : Nat) (L : List LFn) (hR : FnRow w (fun b => b < w.heap.size) PA L) (hT : FieldsAt w) (hL : L.length < 1000000) (A : Option Addr) (n ac : Nat) (_hn : n ≤ 1000000) (bud dep : Int) :
    Calls Tryd.prog 33 #[.slice PA L.length pc, .slice A n ac, .agg #[.int .i64 bud, .int .i64 dep]] w fun e w' => e = .returned (.bool (rightB (fns L) n bud dep)) ∧ Fr None' w w' := by
  have HR := Lib.hid hR
  have HT := Lib.hid hT
  obtain ⟨rb, hrb⟩ : ∃ rb, rightB (fns L) n bud dep = rb := ⟨_, rfl⟩
  rw [hrb]
  have HRB := Lib.hid hrb
  clear hR hT hrb
  go_enter Tryd.func33, Tryd.ntmps33
  go_wp2_with fail
  have hF0 : Fr None' w (w.alloc (.cells #[.int .i64 bud, .int .i64 dep] 43)) := (Fr.refl _ _).alloc _
  refine (check_any _ PA pc L ((HR.out.fr hF0 (fun _ _ h => h)).mono (fun _ hb => Nat.lt_of_lt_of_le hb hF0.size)) (HT.out.fr hF0 (fun h => h)) hL).mono ?_
  rintro e w1 ⟨rfl, hF1⟩
  obtain ⟨q, hq⟩ : ∃ q, chk (fns L) = q := ⟨_, rfl⟩
  have HQ := Lib.hid hq
  rw [hq]
  have hBl : Blk w1 w.heap.size 43 #[.int .i64 bud, .int .i64 dep] := (Blk.new w _ _).fr hF1 (fun h => h)
  have l0 : w1.cell? ⟨w.heap.size, 0, none⟩ = some (.int .i64 bud) := by rw [hBl.cell]; rfl
  have l1 : w1.cell? ⟨w.heap.size, 1, none⟩ = some (.int .i64 dep) := by rw [hBl.cell]; rfl
  have HF := Lib.hid (hF0.trans hF1)
  clear hq hF0 hF1 hBl
  by_cases h0 : q.2.2 = 0
  · have hlen := (chk_nought (by rw [HQ.out]; exact h0 : (chk (fns L)).2.2 = 0)).1
    rw [show (fns L).length = L.length by simp [fns]] at hlen
    obtain ⟨y, hy⟩ : ∃ y, L[0]? = some y := ⟨_, List.getElem?_eq_getElem (by omega)⟩
    obtain ⟨pb, poff, rfl, _, pa0, _, _⟩ := (HR.out.fr HF.out (fun _ _ h => h)).at_ hy
    have hp0 : w1.cell? ⟨pb, poff, none⟩ = some (.int .i64 y.f.arity) := by simpa using pa0
    have HAR := Lib.hid (fns0 hy)
    have hl0 : (0 : Int) < (L.length : Int) := by omega
    have hl0' : 0 < L.length := by omega
    rw [h0]
    have H0 := Lib.hid h0
    clear hy pa0 h0 hlen
    by_cases hn1 : (n : Int) = y.f.arity
    · have hn2 : ((n : Int) == y.f.arity) = true := by simpa using hn1
      have HB : Hid (rb = limB bud dep) := Lib.hid (by rw [← HRB.out]; unfold rightB; rw [HQ.out, H0.out, HAR.out, hn1]; simp)
      clear hn1
      go_wp2_with fail
      refine (lim_any _ bud dep).mono ?_
      rintro e w2 ⟨rfl, hF2⟩
      have HF2 := Lib.hid (HF.out.trans hF2)
      clear hF2
      cases hlb : limB bud dep
      all_goals
        rw [hlb] at HB
        go_wp2_with fail
        go_ret
        exact ⟨by rw [HB.out]; rfl, HF2.out⟩
    · have hn2 : ((n : Int) == y.f.arity) = false := by simpa using hn1
      have HB : Hid (rb = false) := Lib.hid (by rw [← HRB.out]; unfold rightB; rw [HQ.out, H0.out, HAR.out]; simp [hn1])
      clear hn1
      go_wp2_with fail
      go_ret
      exact ⟨by rw [HB.out]; rfl, HF.out⟩
  · have h0' : (q.2.2 == 0) = false := by simpa using h0
    have HB : Hid (rb = false) := Lib.hid (by rw [← HRB.out]; unfold rightB; rw [HQ.out]; simp [h0])
    clear h0
    go_wp2_with fail
    go_ret
    exact ⟨by rw [HB.out]; rfl, HF.out⟩
end Go.Proofs.YtadcenaafoemmaaDoor
