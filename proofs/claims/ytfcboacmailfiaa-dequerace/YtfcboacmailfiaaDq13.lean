/-
  Package deque: New where a deque may not be, or its words can't be made live.
-/
import Derived.Test.YtfcboacmailfiaaDq12
namespace Go.Proofs.Ytfcboacmailfiaa
open Go.RowKit

set_option maxHeartbeats 4000000 in
theorem New_er (w : World) (p s : Nat) (ws : List (Bool × Int)) (b : Nat) (hM : MI w p s ws b) (hl : ws.length ≤ 65536) (kind base : Int) (r : Nat) (hk : 1 ≤ kind ∧ kind ≤ 3) (h1 : 1 ≤ r) (h2 : r ≤ 1000) (hb : -9223372036854775808 ≤ base ∧ base ≤ 9223372036854775807) (er : Int) (he : er ≠ 0) (ht : (turnR ws base ((r + 2 : Nat) : Int) true).1 = er) :
    Calls Try.prog 15 #[.pointer (some ⟨p, 0, none⟩), .int .i64 kind, .int .i64 base, .int .i64 r] w fun e w' => e = .returned (.tuple #[.agg #[.int .i64 0, .int .i64 0, .int .i64 0], .int .i64 er]) ∧ MI w' p s (turnR ws base ((r + 2 : Nat) : Int) true).2 b ∧ Fr (Two p s) w w' := by
  obtain ⟨st, hMe, hs0, hs1⟩ := hM
  have hM0 := MemIs.alloc hMe (.cells #[.int .i64 0, .int .i64 0, .int .i64 0] 36)
  have hlv := live_any _ p s ws st hM0 base ((r + 2 : Nat) : Int) hl hb
  rw [ht] at hlv
  have HLV := Lib.hid hlv
  have g6 : (er != 0) = true := by simpa using he
  have g1 : ¬ kind < 1 := by omega
  have g2 : ¬ 3 < kind := by omega
  have g3 : ((r : Int) + 2 == 0) = false := by simp; omega
  have g4 : decide (kind < 1) = false := decide_eq_false g1
  have g5 : decide (3 < kind) = false := decide_eq_false g2
  have hsz : p < w.heap.size := hMe.hp.lt
  have hsz2 : s < w.heap.size := hMe.hs.lt
  have HF0 : Hid (Fr (Two p s) w (w.alloc (.cells #[.int .i64 0, .int .i64 0, .int .i64 0] 36))) := Lib.hid ((Fr.refl _ _).alloc _)
  have HB : Hid (Blk (w.alloc (.cells #[.int .i64 0, .int .i64 0, .int .i64 0] 36)) w.heap.size 36 #[.int .i64 0, .int .i64 0, .int .i64 0]) := Lib.hid (Blk.new _ _ _)
  clear hlv hMe hM0 ht
  go_enter Try.func15, Try.ntmps15
  go_wp2_with fail
  refine (Words_yes _ r h1 h2).mono ?_
  rintro e w1 ⟨rfl, rfl⟩
  go_wp2_with fail
  refine HLV.out.mono ?_
  rintro e w1 ⟨rfl, hM1, hF1⟩
  have hB1 := HB.out.fr hF1 (fun h => h.elim (by omega) (by omega))
  have d0 : w1.cell? ⟨w.heap.size, 0, none⟩ = some (.int .i64 0) := by rw [hB1.cell]; rfl
  have d1 : w1.cell? ⟨w.heap.size, 1, none⟩ = some (.int .i64 0) := by rw [hB1.cell]; rfl
  have d2 : w1.cell? ⟨w.heap.size, 2, none⟩ = some (.int .i64 0) := by rw [hB1.cell]; rfl
  have f0 := hB1.frozen 0
  have f1 := hB1.frozen 1
  have f2 := hB1.frozen 2
  have HM1 := Lib.hid hM1
  have HF1 := Lib.hid (HF0.out.trans hF1)
  clear hM1 hF1 hB1
  go_wp2_with fail
  simp [bodyPost, results, Try.results15]
  have hFs : Fr (fun k => k = w.heap.size) w1 (((w1.setCell ⟨w.heap.size, 0, none⟩ (.int .i64 0)).setCell ⟨w.heap.size, 1, none⟩ (.int .i64 0)).setCell ⟨w.heap.size, 2, none⟩ (.int .i64 0)) := (((Fr.refl (fun k => k = w.heap.size) w1).setCell (p := ⟨w.heap.size, 0, none⟩) (.inl rfl) _).setCell (p := ⟨w.heap.size, 1, none⟩) (.inl rfl) _).setCell (p := ⟨w.heap.size, 2, none⟩) (.inl rfl) _
  refine ⟨.tuple #[.agg #[.int .i64 0, .int .i64 0, .int .i64 0], .int .i64 er], ?_, rfl, ⟨st, HM1.out.fr hFs (by omega) (by omega), hs0, hs1⟩, Fr.then HF1.out hFs (fun i hi => .inr (by omega))⟩
  go_simp

set_option maxHeartbeats 4000000 in
theorem New_arg (w : World) (p : Nat) (kind base r : Int) (n : Int) (hw : ∀ W, Calls Try.prog 16 #[.int .i64 r] W fun e w' => e = .returned (.int .i64 n) ∧ w' = W) (hbad : kind < 1 ∨ 3 < kind ∨ n = 0) :
    Calls Try.prog 15 #[.pointer (some ⟨p, 0, none⟩), .int .i64 kind, .int .i64 base, .int .i64 r] w fun e w' => e = .returned (.tuple #[.agg #[.int .i64 0, .int .i64 0, .int .i64 0], .int .i64 1]) ∧ Fr (fun _ => False) w w' := by
  have HW := Lib.hid hw
  clear hw
  have hB := Blk.new w 36 #[.int .i64 0, .int .i64 0, .int .i64 0]
  by_cases h1 : kind < 1
  · have g4 : decide (kind < 1) = true := decide_eq_true h1
    clear hbad hB
    go_enter Try.func15, Try.ntmps15
    go_wp2_with fail
    refine (HW.out _).mono ?_
    rintro e w1 ⟨rfl, rfl⟩
    go_wp2_with fail
    simp [bodyPost, results, Try.results15]
    refine ⟨.tuple #[.agg #[.int .i64 0, .int .i64 0, .int .i64 0], .int .i64 1], ?_, rfl, (Fr.refl _ _).alloc _⟩
    go_simp
  · by_cases h3 : 3 < kind
    · have g4 : decide (kind < 1) = false := decide_eq_false h1
      have g5 : decide (3 < kind) = true := decide_eq_true h3
      clear hbad hB
      go_enter Try.func15, Try.ntmps15
      go_wp2_with fail
      refine (HW.out _).mono ?_
      rintro e w1 ⟨rfl, rfl⟩
      go_wp2_with fail
      simp [bodyPost, results, Try.results15]
      refine ⟨.tuple #[.agg #[.int .i64 0, .int .i64 0, .int .i64 0], .int .i64 1], ?_, rfl, (Fr.refl _ _).alloc _⟩
      go_simp
    · obtain rfl : n = 0 := by omega
      have g4 : decide (kind < 1) = false := decide_eq_false h1
      have g5 : decide (3 < kind) = false := decide_eq_false h3
      clear hbad hB
      go_enter Try.func15, Try.ntmps15
      go_wp2_with fail
      refine (HW.out _).mono ?_
      rintro e w1 ⟨rfl, rfl⟩
      go_wp2_with fail
      simp [bodyPost, results, Try.results15]
      refine ⟨.tuple #[.agg #[.int .i64 0, .int .i64 0, .int .i64 0], .int .i64 1], ?_, rfl, (Fr.refl _ _).alloc _⟩
      go_simp
end Go.Proofs.Ytfcboacmailfiaa
