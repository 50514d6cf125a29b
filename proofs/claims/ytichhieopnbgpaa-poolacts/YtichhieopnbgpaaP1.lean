/-
  Package pool's memory; has, hasRow, Where. No condition.
-/
import Derived.Test.YtichhieopnbgpaaTurn
import Derived.Test.YtichhieopnbgpaaHeld
import Derived.Test.YtichhieopnbgpaaPureP
import Derived.RegionTactic
import Derived.BigRegion
import Derived.Deep.QuietTactic
import Derived.BigQuiet
import Derived.StillTailTactics
namespace Go.Proofs.Ytichhieopnbgpaa
open Go.RowKit

abbrev F0 : Nat → Prop := fun _ => False
theorem Fr.f0 {B : Nat → Prop} {w w' : World} (h : Fr F0 w w') : Fr B w w' := h.mono (fun _ h => h.elim)
theorem cell_lt {w : World} {p : Addr} {v : Value} (h : w.cell? p = some v) : p.block < w.heap.size := by
  rcases Nat.lt_or_ge p.block w.heap.size with h1 | h1
  · exact h1
  · simp [World.cell?, Array.getElem?_eq_none h1] at h
theorem Fr.cell {B : Nat → Prop} {w w' : World} (h : Fr B w w') {p : Addr} (hp : p.block < w.heap.size) (hn : ¬ B p.block) : w'.cell? p = w.cell? p := World.cell?_of_block (w := w) (h.block p.block hp hn)
theorem Fr.held {B : Nat → Prop} {w w' : World} (h : Fr B w w') {p : Addr} {v : Value} (hc : w.cell? p = some v) (hn : ¬ B p.block) : w'.cell? p = some v := (h.cell (cell_lt hc) hn).trans hc

/-- The pool's cells. -/
def poolC (S : Shp) (base mp b t : Nat) : Array Value :=
  #[.pointer (some ⟨mp, 0, none⟩), .int .i64 1, .int .i64 (base : Int), .int .i64 (S.s0 : Int), .int .i64 (S.m0 : Int),
    .int .i64 ((1 + S.q0 : Nat) : Int), .int .i64 ((base + S.r0 : Nat) : Int), .int .i64 (S.s1 : Int), .int .i64 (S.m1 : Int),
    .int .i64 ((1 + S.q0 + S.q1 : Nat) : Int), .int .i64 ((base + S.r0 + S.r1 : Nat) : Int), .int .i64 (S.s2 : Int), .int .i64 (S.m2 : Int),
    .slice (some ⟨b, 0, none⟩) S.k S.k, .slice (some ⟨t, 0, none⟩) (S.many + 1) (S.many + 1)]
abbrev PoolB (w : World) (P : Nat) (S : Shp) (base mp b t : Nat) : Prop := Blk w P 74 (poolC S base mp b t)

theorem results_5 {fn : Func} {t1 t2 t3 t4 t5 : Tmp} (h : fn.results = #[.tmp t1, .tmp t2, .tmp t3, .tmp t4, .tmp t5]) (tmps : Array Value) {P : Program} {w : World} :
    (results fn tmps).run P w = .ok (.tuple #[tmps.getD t1 undef, tmps.getD t2 undef, tmps.getD t3 undef, tmps.getD t4 undef, tmps.getD t5 undef]) w := by
  simp [results, h]
theorem index_0 (W : World) (c0 c1 c2 c3 c4 c5 c6 c7 c8 c9 c10 c11 : Value) : (Instr.index 70 (.agg #[c0, c1, c2, c3, c4, c5, c6, c7, c8, c9, c10, c11]) (.int .i64 0)).run Try.prog W = .ok (.agg #[c0, c1, c2, c3]) W := by rfl
theorem index_1 (W : World) (c0 c1 c2 c3 c4 c5 c6 c7 c8 c9 c10 c11 : Value) : (Instr.index 70 (.agg #[c0, c1, c2, c3, c4, c5, c6, c7, c8, c9, c10, c11]) (.int .i64 1)).run Try.prog W = .ok (.agg #[c4, c5, c6, c7]) W := by rfl
theorem index_2 (W : World) (c0 c1 c2 c3 c4 c5 c6 c7 c8 c9 c10 c11 : Value) : (Instr.index 70 (.agg #[c0, c1, c2, c3, c4, c5, c6, c7, c8, c9, c10, c11]) (.int .i64 2)).run Try.prog W = .ok (.agg #[c8, c9, c10, c11]) W := by rfl

theorem has_yes2 (w : World) (P : Nat) (S : Shp) (base mp b t : Nat) (hP : PoolB w P S base mp b t) (i : Nat) (hi : i < S.k) :
    Calls Try.prog 41 #[.pointer (some ⟨P, 0, none⟩), .int .i64 (i : Int)] w fun e w' => e = .returned (.bool true) ∧ w' = w := by
  have c1 : w.cell? ⟨P, 13, none⟩ = some (.slice (some ⟨b, 0, none⟩) S.k S.k) := by rw [hP.cell]; rfl
  have g1 : decide ((0 : Int) ≤ (i : Int)) = true := decide_eq_true (by omega)
  have g3 : (i : Int) < (S.k : Int) := by omega
  clear hP
  go_enter Try.func41, Try.ntmps41
  go_wp2_with fail
  go_ret
  exact ⟨rfl, rfl⟩
theorem has_no2 (w : World) (P : Nat) (S : Shp) (base mp b t : Nat) (hP : PoolB w P S base mp b t) (i : Int) (hi : i < 0 ∨ (S.k : Int) ≤ i) :
    Calls Try.prog 41 #[.pointer (some ⟨P, 0, none⟩), .int .i64 i] w fun e w' => e = .returned (.bool false) ∧ w' = w := by
  have c1 : w.cell? ⟨P, 13, none⟩ = some (.slice (some ⟨b, 0, none⟩) S.k S.k) := by rw [hP.cell]; rfl
  clear hP
  by_cases h0 : i < 0
  · have g1 : decide (0 ≤ i) = false := decide_eq_false (by omega)
    clear hi
    go_enter Try.func41, Try.ntmps41
    go_wp2_with fail
    go_ret
    exact ⟨rfl, rfl⟩
  · have g1 : decide (0 ≤ i) = true := decide_eq_true (by omega)
    have g2 : decide (i < (S.k : Int)) = false := decide_eq_false (by omega)
    have g3 : ¬ i < (S.k : Int) := by omega
    clear hi
    go_enter Try.func41, Try.ntmps41
    go_wp2_with fail
    go_ret
    exact ⟨rfl, rfl⟩
theorem has_nil2 (w : World) (i : Int) :
    Calls Try.prog 41 #[.pointer none, .int .i64 i] w fun e w' => e = .returned (.bool false) ∧ w' = w := by
  go_enter Try.func41, Try.ntmps41
  go_wp2_with fail
  go_ret
  exact ⟨rfl, rfl⟩

theorem hasrow_yes (w : World) (P : Nat) (S : Shp) (base mp b t : Nat) (hP : PoolB w P S base mp b t) (i : Nat) (hi : i < S.k) (c : Nat) (hc : c < 3) :
    Calls Try.prog 38 #[.pointer (some ⟨P, 0, none⟩), .int .i64 (i : Int), .int .i64 (c : Int)] w fun e w' => e = .returned (.bool true) ∧ w' = w := by
  have HH := Lib.hid (has_yes2 w P S base mp b t hP i hi)
  have g1 : decide ((0 : Int) ≤ (c : Int)) = true := decide_eq_true (by omega)
  have g2 : (c : Int) < 3 := by omega
  clear hP
  go_enter Try.func38, Try.ntmps38
  go_wp2_with fail
  refine HH.out.mono ?_
  rintro e w1 ⟨rfl, rfl⟩
  go_wp2_with fail
  go_ret
  exact ⟨rfl, rfl⟩
theorem hasrow_no (w : World) (P : Nat) (S : Shp) (base mp b t : Nat) (hP : PoolB w P S base mp b t) (i c : Int) (h : (i < 0 ∨ (S.k : Int) ≤ i) ∨ (c < 0 ∨ 3 ≤ c)) :
    Calls Try.prog 38 #[.pointer (some ⟨P, 0, none⟩), .int .i64 i, .int .i64 c] w fun e w' => e = .returned (.bool false) ∧ w' = w := by
  by_cases hi : i < 0 ∨ (S.k : Int) ≤ i
  · have HH := Lib.hid (has_no2 w P S base mp b t hP i hi)
    clear hP hi h
    go_enter Try.func38, Try.ntmps38
    go_wp2_with fail
    refine HH.out.mono ?_
    rintro e w1 ⟨rfl, rfl⟩
    go_wp2_with fail
    go_ret
    exact ⟨rfl, rfl⟩
  · obtain ⟨j, rfl⟩ : ∃ j : Nat, i = j := ⟨i.toNat, by omega⟩
    have HH := Lib.hid (has_yes2 w P S base mp b t hP j (by omega))
    have hc : c < 0 ∨ 3 ≤ c := by omega
    clear hP hi h
    by_cases h0 : c < 0
    · have g1 : decide (0 ≤ c) = false := decide_eq_false (by omega)
      clear hc
      go_enter Try.func38, Try.ntmps38
      go_wp2_with fail
      refine HH.out.mono ?_
      rintro e w1 ⟨rfl, rfl⟩
      go_wp2_with fail
      go_ret
      exact ⟨rfl, rfl⟩
    · have g1 : decide (0 ≤ c) = true := decide_eq_true (by omega)
      have g2 : decide (c < 3) = false := decide_eq_false (by omega)
      clear hc
      go_enter Try.func38, Try.ntmps38
      go_wp2_with fail
      refine HH.out.mono ?_
      rintro e w1 ⟨rfl, rfl⟩
      go_wp2_with fail
      go_ret
      exact ⟨rfl, rfl⟩
theorem hasrow_nil (w : World) (i c : Int) :
    Calls Try.prog 38 #[.pointer none, .int .i64 i, .int .i64 c] w fun e w' => e = .returned (.bool false) ∧ w' = w := by
  have HH := Lib.hid (has_nil2 w i)
  go_enter Try.func38, Try.ntmps38
  go_wp2_with fail
  refine HH.out.mono ?_
  rintro e w1 ⟨rfl, rfl⟩
  go_wp2_with fail
  go_ret
  exact ⟨rfl, rfl⟩

end Go.Proofs.Ytichhieopnbgpaa
