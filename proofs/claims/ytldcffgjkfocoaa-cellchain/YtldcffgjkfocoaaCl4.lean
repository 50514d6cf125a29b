/-
  Package cell: operations in memory as plain data; how they begin; a move of one is the plain machine's.
-/
import Derived.Test.YtldcffgjkfocoaaCl3
namespace Go.Proofs.Ytldcffgjkfocoaa
open Go.RowKit

theorem f_storesValue_own : Own 23 := fun _ _ => by kernel_rfl
theorem f_storesWhy_own : Own 31 := fun _ _ => by kernel_rfl
theorem f_looks_own : Own 37 := fun _ _ => by kernel_rfl
theorem f_closes_own : Own 40 := fun _ _ => by kernel_rfl
theorem w_looks_own : Own 22 := fun _ _ => by kernel_rfl
theorem w_links_own : Own 28 := fun _ _ => by kernel_rfl
theorem w_joins_own : Own 34 := fun _ _ => by kernel_rfl
theorem w_takesValue_own : Own 27 := fun _ _ => by kernel_rfl
theorem w_takesWhy_own : Own 33 := fun _ _ => by kernel_rfl

/-- The next move. -/
def nxt (v : PO) (a : Nat) : Value :=
  if v.ended then .nilFunc else
  if v.fil then (if v.nx = 0 then mv 23 a else if v.nx = 1 then mv 31 a else if v.nx = 2 then mv 37 a else mv 40 a)
  else (if v.nx = 0 then mv 22 a else if v.nx = 1 then mv 28 a else if v.nx = 2 then mv 34 a else if v.nx = 3 then mv 27 a else mv 33 a)
structure OpAt (w : World) (o a : Nat) (v : PO) : Prop where
  ho : Blk w o 67 (oc (nxt v a) v.ended v.waits v.ev v.ey v.first)
  hf : v.fil = true → Blk w a 78 (fc v.base v.val v.why v.h)
  hw : v.fil = false → Blk w a 75 (wc v.base v.x v.lk v.h v.val)
theorem OpAt.fr {w w' : World} {o a : Nat} {v : PO} {B : Nat → Prop} (h : OpAt w o a v) (hf : Fr B w w') (h1 : ¬ B o) (h2 : ¬ B a) : OpAt w' o a v :=
  ⟨h.ho.fr hf h1, fun e => (h.hf e).fr hf h2, fun e => (h.hw e).fr hf h2⟩
theorem OpAt.ne {w : World} {o a : Nat} {v : PO} (h : OpAt w o a v) : o ≠ a := by
  cases hv : v.fil with
  | true => exact Blk.ne_ h.ho (h.hf hv) (by decide)
  | false => exact Blk.ne_ h.ho (h.hw hv) (by decide)
theorem OpAt.lt {w : World} {o a : Nat} {v : PO} (h : OpAt w o a v) : o < w.heap.size ∧ a < w.heap.size := by
  cases hv : v.fil with
  | true => exact ⟨h.ho.lt, (h.hf hv).lt⟩
  | false => exact ⟨h.ho.lt, (h.hw hv).lt⟩
theorem OpAt.away {w : World} {o a g : Nat} {v : PO} {t : TypeId} {cs : Array Value} (h : OpAt w o a v) (hB : Blk w g t cs) (h1 : t ≠ 67) (h2 : t ≠ 78) (h3 : t ≠ 75) : g ≠ o ∧ g ≠ a := by
  cases hv : v.fil with
  | true => exact ⟨Blk.ne_ hB h.ho h1, Blk.ne_ hB (h.hf hv) h2⟩
  | false => exact ⟨Blk.ne_ hB h.ho h1, Blk.ne_ hB (h.hw hv) h3⟩
structure WF (v : PO) : Prop where
  le : v.ended = false → v.nx ≤ (if v.fil then 3 else 4)
  no : v.ended = false → v.waits = false ∧ v.first = 0 ∧ v.ev = 0 ∧ v.ey = 0
  tol : v.ended = true → (v.fil = false → v.waits = false → v.ev = v.val ∧ v.ey = v.why) ∧ (v.fil = true ∨ v.waits = true → v.ev = 0 ∧ v.ey = 0)
theorem WF.stp {v : PO} (h : WF v) (m : List Int) : WF (stp v m).1 := by
  obtain ⟨fil, base, x, lk, nx, hh, val, why, ended, waits, first, ev, ey⟩ := v
  cases ended with
  | true => exact h
  | false =>
    have hn := h.no rfl
    dsimp only at hn
    unfold Go.Proofs.Ytldcffgjkfocoaa.stp
    cases fil <;> simp only [Bool.false_eq_true, if_false, if_true] <;> (repeat' split) <;> refine ⟨?_, ?_, ?_⟩ <;> first | (intro h'; cases h'; done) | (intro _; exact hn) | (intro _; refine ⟨fun h => ?_, fun _ => hn.2.2⟩; cases h; done) | (intro _; refine ⟨fun _ h => ?_, fun _ => hn.2.2⟩; cases h; done) | (intro _; refine ⟨fun _ _ => ⟨rfl, rfl⟩, fun h => ?_⟩; simp [hn.1] at h; done) | (intro _; simp)

set_option maxHeartbeats 4000000 in
theorem move_any (w : World) (o a p s : Nat) (v : PO) (m : List Int) (b : Nat) (hO : OpAt w o a v) (hM : MI w p s m b) (hb : b < 900000) (hwf : WF v) (hbl : v.base ≤ 60000) (hi : v.base + 2 < m.length) (hl : v.lk < m.length) :
    Calls Try.prog 17 #[.pointer (some ⟨o, 0, none⟩), .pointer (some ⟨p, 0, none⟩)] w fun e w' => e = .returned (.bool (stp v m).1.ended) ∧ OpAt w' o a (stp v m).1 ∧ MI w' p s (stp v m).2 (b + 1) ∧ Fr (Four o a p s) w w' := by
  have hoa := hO.ne
  obtain ⟨hop, hos⟩ := MI.ne hO.ho hM (by decide) (by decide)
  obtain ⟨fil, base, x, lk, nx, h, val, why, ended, waits, first, ev, ey⟩ := v
  obtain ⟨hO, hf, hw⟩ := hO
  dsimp only at hO hf hw hbl hi hl
  cases ended with
  | true =>
    have h0 := move_over w o p _ hO (by simp [nxt])
    refine h0.mono ?_
    rintro e w1 ⟨rfl, rfl⟩
    obtain ⟨st, hm, q1, q2⟩ := hM
    exact ⟨rfl, ⟨hO, hf, hw⟩, ⟨st, hm, q1, by omega⟩, Fr.refl _ _⟩
  | false =>
    have hle := hwf.le rfl
    obtain ⟨rfl, rfl, rfl, rfl⟩ : waits = false ∧ first = 0 ∧ ev = 0 ∧ ey = 0 := hwf.no rfl
    dsimp only at hle
    cases fil with
    | true =>
      have hA := hf rfl
      rw [if_pos rfl] at hle
      have : nx = 0 ∨ nx = 1 ∨ nx = 2 ∨ nx = 3 := by omega
      rcases this with rfl | rfl | rfl | rfl
      · have hc := f_storesValue w a p s base val why h m b hA hM hb hbl hi
        have hmv := move_go w o a p s _ _ _ b 23 f_storesValue_own 31 false 0 0 0 hO _ _ _ _ hc hoa hop hos
        refine hmv.mono ?_
        rintro e w1 ⟨rfl, hO1, hA1, hM1, hF1⟩
        have hs : stp (⟨true, base, x, lk, 0, h, val, why, false, false, 0, 0, 0⟩ : PO) m = (⟨true, base, x, lk, 1, h, val, why, false, false, 0, 0, 0⟩, m.set (base + 1) val) := by simp [stp]
        rw [hs]
        exact ⟨rfl, ⟨hO1, fun _ => hA1, fun _ => by contradiction⟩, hM1, hF1⟩
      · have hc := f_storesWhy w a p s base val why h m b hA hM hb hbl hi
        have hmv := move_go w o a p s _ _ _ b 31 f_storesWhy_own 37 false 0 0 0 hO _ _ _ _ hc hoa hop hos
        refine hmv.mono ?_
        rintro e w1 ⟨rfl, hO1, hA1, hM1, hF1⟩
        have hs : stp (⟨true, base, x, lk, 1, h, val, why, false, false, 0, 0, 0⟩ : PO) m = (⟨true, base, x, lk, 2, h, val, why, false, false, 0, 0, 0⟩, m.set (base + 2) why) := by simp [stp]
        rw [hs]
        exact ⟨rfl, ⟨hO1, fun _ => hA1, fun _ => by contradiction⟩, hM1, hF1⟩
      · have hc := f_looks w a p s base val why h m b hA hM hb hbl hi _ rfl
        have hmv := move_go w o a p s _ _ _ b 37 f_looks_own 40 false 0 0 0 hO _ _ _ _ hc hoa hop hos
        refine hmv.mono ?_
        rintro e w1 ⟨rfl, hO1, hA1, hM1, hF1⟩
        have hs : stp (⟨true, base, x, lk, 2, h, val, why, false, false, 0, 0, 0⟩ : PO) m = (⟨true, base, x, lk, 3, (m.getD base 0), val, why, false, false, 0, 0, 0⟩, m) := by simp [stp]
        rw [hs]
        exact ⟨rfl, ⟨hO1, fun _ => hA1, fun _ => by contradiction⟩, hM1, hF1⟩
      · by_cases hm : m.getD base 0 = h
        · have hc := f_closes_yes w a p s base val why h m b hA hM hb hbl hi hm
          have hmv := move_end w o a p s _ _ _ b 40 f_closes_own false 0 0 0 hO _ _ _ _ hc hoa hop hos
          refine hmv.mono ?_
          rintro e w1 ⟨rfl, hO1, hA1, hM1, hF1⟩
          have hs : stp (⟨true, base, x, lk, 3, h, val, why, false, false, 0, 0, 0⟩ : PO) m = (⟨true, base, x, lk, 4, h, val, why, true, false, h, 0, 0⟩, m.set base (-1)) := by unfold stp; simp only [hm]; simp
          rw [hs]
          exact ⟨rfl, ⟨hO1, fun _ => hA1, fun _ => by contradiction⟩, hM1, hF1⟩
        · have hc := f_closes_no w a p s base val why h m b hA hM hb hbl hi hm
          have hmv := move_go w o a p s _ _ _ b 40 f_closes_own 37 false 0 0 0 hO _ _ _ _ hc hoa hop hos
          refine hmv.mono ?_
          rintro e w1 ⟨rfl, hO1, hA1, hM1, hF1⟩
          have hs : stp (⟨true, base, x, lk, 3, h, val, why, false, false, 0, 0, 0⟩ : PO) m = (⟨true, base, x, lk, 2, h, val, why, false, false, 0, 0, 0⟩, m) := by unfold stp; simp only [hm]; simp
          rw [hs]
          exact ⟨rfl, ⟨hO1, fun _ => hA1, fun _ => by contradiction⟩, hM1, hF1⟩
    | false =>
      have hA := hw rfl
      rw [if_neg (by decide)] at hle
      have : nx = 0 ∨ nx = 1 ∨ nx = 2 ∨ nx = 3 ∨ nx = 4 := by omega
      rcases this with rfl | rfl | rfl | rfl | rfl
      · by_cases hm : m.getD base 0 = -1
        · have hc := w_looks_filled w a p s base x lk h val m b hA hM hb hbl hi hm
          have hmv := move_go w o a p s _ _ _ b 22 w_looks_own 27 false 0 0 0 hO _ _ _ _ hc hoa hop hos
          refine hmv.mono ?_
          rintro e w1 ⟨rfl, hO1, hA1, hM1, hF1⟩
          have hs : stp (⟨false, base, x, lk, 0, h, val, why, false, false, 0, 0, 0⟩ : PO) m = (⟨false, base, x, lk, 3, (-1), val, why, false, false, 0, 0, 0⟩, m) := by unfold stp; simp only [hm]; simp
          rw [hs]
          exact ⟨rfl, ⟨hO1, fun _ => by contradiction, fun _ => hA1⟩, hM1, hF1⟩
        · have hc := w_looks_go w a p s base x lk h val m b hA hM hb hbl hi _ rfl hm
          have hmv := move_go w o a p s _ _ _ b 22 w_looks_own 28 false 0 0 0 hO _ _ _ _ hc hoa hop hos
          refine hmv.mono ?_
          rintro e w1 ⟨rfl, hO1, hA1, hM1, hF1⟩
          have hs : stp (⟨false, base, x, lk, 0, h, val, why, false, false, 0, 0, 0⟩ : PO) m = (⟨false, base, x, lk, 1, (m.getD base 0), val, why, false, false, 0, 0, 0⟩, m) := by unfold stp; simp only [hm]; simp
          rw [hs]
          exact ⟨rfl, ⟨hO1, fun _ => by contradiction, fun _ => hA1⟩, hM1, hF1⟩
      · have hc := w_links w a p s base x lk h val m b hA hM hb hbl hl
        have hmv := move_go w o a p s _ _ _ b 28 w_links_own 34 false 0 0 0 hO _ _ _ _ hc hoa hop hos
        refine hmv.mono ?_
        rintro e w1 ⟨rfl, hO1, hA1, hM1, hF1⟩
        have hs : stp (⟨false, base, x, lk, 1, h, val, why, false, false, 0, 0, 0⟩ : PO) m = (⟨false, base, x, lk, 2, h, val, why, false, false, 0, 0, 0⟩, m.set lk h) := by simp [stp]
        rw [hs]
        exact ⟨rfl, ⟨hO1, fun _ => by contradiction, fun _ => hA1⟩, hM1, hF1⟩
      · by_cases hm : m.getD base 0 = h
        · have hc := w_joins_yes w a p s base x lk h val m b hA hM hb hbl hi hm
          have hmv := move_end w o a p s _ _ _ b 34 w_joins_own false 0 0 0 hO _ _ _ _ hc hoa hop hos
          refine hmv.mono ?_
          rintro e w1 ⟨rfl, hO1, hA1, hM1, hF1⟩
          have hs : stp (⟨false, base, x, lk, 2, h, val, why, false, false, 0, 0, 0⟩ : PO) m = (⟨false, base, x, lk, 3, h, val, why, true, true, 0, 0, 0⟩, m.set base x) := by unfold stp; simp only [hm]; simp
          rw [hs]
          exact ⟨rfl, ⟨hO1, fun _ => by contradiction, fun _ => hA1⟩, hM1, hF1⟩
        · have hc := w_joins_no w a p s base x lk h val m b hA hM hb hbl hi hm
          have hmv := move_go w o a p s _ _ _ b 34 w_joins_own 22 false 0 0 0 hO _ _ _ _ hc hoa hop hos
          refine hmv.mono ?_
          rintro e w1 ⟨rfl, hO1, hA1, hM1, hF1⟩
          have hs : stp (⟨false, base, x, lk, 2, h, val, why, false, false, 0, 0, 0⟩ : PO) m = (⟨false, base, x, lk, 0, h, val, why, false, false, 0, 0, 0⟩, m) := by unfold stp; simp only [hm]; simp
          rw [hs]
          exact ⟨rfl, ⟨hO1, fun _ => by contradiction, fun _ => hA1⟩, hM1, hF1⟩
      · have hc := w_takesValue w a p s base x lk h val m b hA hM hb hbl hi _ rfl
        have hmv := move_go w o a p s _ _ _ b 27 w_takesValue_own 33 false 0 0 0 hO _ _ _ _ hc hoa hop hos
        refine hmv.mono ?_
        rintro e w1 ⟨rfl, hO1, hA1, hM1, hF1⟩
        have hs : stp (⟨false, base, x, lk, 3, h, val, why, false, false, 0, 0, 0⟩ : PO) m = (⟨false, base, x, lk, 4, h, (m.getD (base + 1) 0), why, false, false, 0, 0, 0⟩, m) := by simp [stp]
        rw [hs]
        exact ⟨rfl, ⟨hO1, fun _ => by contradiction, fun _ => hA1⟩, hM1, hF1⟩
      · have hc := w_takesWhy w a p s base x lk h val m b hA hM hb hbl hi _ rfl
        have hmv := move_end w o a p s _ _ _ b 33 w_takesWhy_own false 0 0 0 hO _ _ _ _ hc hoa hop hos
        refine hmv.mono ?_
        rintro e w1 ⟨rfl, hO1, hA1, hM1, hF1⟩
        have hs : stp (⟨false, base, x, lk, 4, h, val, why, false, false, 0, 0, 0⟩ : PO) m = (⟨false, base, x, lk, 5, h, val, (m.getD (base + 2) 0), true, false, 0, val, (m.getD (base + 2) 0)⟩, m) := by simp [stp]
        rw [hs]
        exact ⟨rfl, ⟨hO1, fun _ => by contradiction, fun _ => hA1⟩, hM1, hF1⟩

/-- A wait that has not moved. -/
abbrev wait0 (base : Nat) (x : Int) (lk : Nat) : PO := ⟨false, base, x, lk, 0, 0, 0, 0, false, false, 0, 0, 0⟩
abbrev fill0 (base : Nat) (val why : Int) : PO := ⟨true, base, 0, 0, 0, 0, val, why, false, false, 0, 0, 0⟩
theorem wf_wait (base : Nat) (x : Int) (lk : Nat) : WF (wait0 base x lk) := ⟨fun _ => Nat.zero_le _, fun _ => ⟨rfl, rfl, rfl, rfl⟩, fun h => by cases h⟩
theorem wf_fill (base : Nat) (val why : Int) : WF (fill0 base val why) := ⟨fun _ => Nat.zero_le _, fun _ => ⟨rfl, rfl, rfl, rfl⟩, fun h => by cases h⟩
theorem at_any (w : World) (b : Nat) : Calls Try.prog 14 #[.int .i64 (b : Int)] w fun e w' => e = .returned (.agg #[.int .i64 (b : Int)]) ∧ Fr (fun _ => False) w w' := by
  go_enter Try.func14, Try.ntmps14
  go_wp2_with fail
  (try simp only [Exit.inBlock, Exit.then])
  refine bodyPost_ret (results_cell_row rfl _ _ w.heap.size 34 #[.int .i64 (b : Int)] (0, 0) _ rfl (Blk.new _ _ _) Try.underlying34 rfl (by kernel_rfl)) rfl ?_
  exact ⟨rfl, (Fr.refl _ _).alloc _⟩
set_option maxHeartbeats 1000000 in
theorem wait_any (w : World) (b : Nat) (x : Int) (lk : Nat) : Calls Try.prog 15 #[.agg #[.int .i64 (b : Int)], .int .i64 x, .int .i64 (lk : Int)] w fun e w' => e = .returned (.pointer (some ⟨w.heap.size + 2, 0, none⟩)) ∧ OpAt w' (w.heap.size + 2) (w.heap.size + 1) (wait0 b x lk) ∧ Fr (fun _ => False) w w' := by
  have hmf := mf_any
  go_enter Try.func15, Try.ntmps15
  go_wp2_with fail
  go_ret
  refine ⟨rfl, ⟨?_, fun h => by contradiction, fun _ => ?_⟩, (((Fr.refl _ _).alloc _).alloc _).alloc _⟩
  · have := Blk.new ((w.alloc (.cells #[.int .i64 (b : Int)] 34)).alloc (.cells (wc b x lk 0 0) 75)) 67 (oc (mv 22 (w.heap.size + 1)) false false 0 0 0)
    simpa [nxt] using this
  · have := (Blk.new (w.alloc (.cells #[.int .i64 (b : Int)] 34)) 75 (wc b x lk 0 0)).alloc (.cells (oc (mv 22 (w.heap.size + 1)) false false 0 0 0) 67)
    simpa using this
set_option maxHeartbeats 1000000 in
theorem fill_any (w : World) (b : Nat) (val why : Int) : Calls Try.prog 16 #[.agg #[.int .i64 (b : Int)], .int .i64 val, .int .i64 why] w fun e w' => e = .returned (.pointer (some ⟨w.heap.size + 2, 0, none⟩)) ∧ OpAt w' (w.heap.size + 2) (w.heap.size + 1) (fill0 b val why) ∧ Fr (fun _ => False) w w' := by
  have hmf := mf_any
  go_enter Try.func16, Try.ntmps16
  go_wp2_with fail
  go_ret
  refine ⟨rfl, ⟨?_, fun _ => ?_, fun h => by contradiction⟩, (((Fr.refl _ _).alloc _).alloc _).alloc _⟩
  · have := Blk.new ((w.alloc (.cells #[.int .i64 (b : Int)] 34)).alloc (.cells (fc b val why 0) 78)) 67 (oc (mv 23 (w.heap.size + 1)) false false 0 0 0)
    simpa [nxt] using this
  · have := (Blk.new (w.alloc (.cells #[.int .i64 (b : Int)] 34)) 78 (fc b val why 0)).alloc (.cells (oc (mv 23 (w.heap.size + 1)) false false 0 0 0) 67)
    simpa using this
end Go.Proofs.Ytldcffgjkfocoaa
