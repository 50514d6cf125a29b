/-
  Package deque: New; the laws' run, which lets an operation end by itself.
-/
import Derived.Test.YtfcboacmailfiaaDq9
namespace Go.Proofs.Ytfcboacmailfiaa
open Go.RowKit

set_option maxHeartbeats 4000000 in
theorem New_yes (w : World) (p s : Nat) (ws : List (Bool × Int)) (b : Nat) (hM : MI w p s ws b) (hl : ws.length ≤ 65536) (kind base : Int) (r : Nat) (hk : 1 ≤ kind ∧ kind ≤ 3) (h1 : 1 ≤ r) (h2 : r ≤ 1000) (hb : -9223372036854775808 ≤ base ∧ base ≤ 9223372036854775807) (ht : (turnR ws base ((r + 2 : Nat) : Int) true).1 = 0) :
    Calls Try.prog 15 #[.pointer (some ⟨p, 0, none⟩), .int .i64 kind, .int .i64 base, .int .i64 r] w fun e w' => e = .returned (.tuple #[.agg #[.int .i64 kind, .int .i64 base, .int .i64 r], .int .i64 0]) ∧ MI w' p s (turnR ws base ((r + 2 : Nat) : Int) true).2 b ∧ Fr (Two p s) w w' := by
  obtain ⟨st, hMe, hs0, hs1⟩ := hM
  have hM0 := MemIs.alloc hMe (.cells #[.int .i64 0, .int .i64 0, .int .i64 0] 36)
  have hlv := live_any _ p s ws st hM0 base ((r + 2 : Nat) : Int) hl hb
  rw [ht] at hlv
  have HLV := Lib.hid hlv
  have g1 : ¬ kind < 1 := by omega
  have g2 : ¬ 3 < kind := by omega
  have g3 : ((r : Int) + 2 == 0) = false := by simp; omega
  have g4 : decide (kind < 1) = false := decide_eq_false g1
  have g5 : decide (3 < kind) = false := decide_eq_false g2
  have hsz : p < w.heap.size := hMe.hp.lt
  have hsz2 : s < w.heap.size := hMe.hs.lt
  have HF0 : Hid (Fr (Two p s) w (w.alloc (.cells #[.int .i64 0, .int .i64 0, .int .i64 0] 36))) := Lib.hid ((Fr.refl _ _).alloc _)
  have HB : Hid (Blk (w.alloc (.cells #[.int .i64 0, .int .i64 0, .int .i64 0] 36)) w.heap.size 36 #[.int .i64 0, .int .i64 0, .int .i64 0]) := Lib.hid (Blk.new _ _ _)
  clear hlv hMe hM0 ht
  go_enter Try.func15, Try.ntmps15
  go_wp2_with fail
  refine (Words_yes _ r h1 h2).mono ?_
  rintro e w1 ⟨rfl, rfl⟩
  go_wp2_with fail
  refine HLV.out.mono ?_
  rintro e w1 ⟨rfl, hM1, hF1⟩
  have hB1 := HB.out.fr hF1 (fun h => h.elim (by omega) (by omega))
  have d0 : w1.cell? ⟨w.heap.size, 0, none⟩ = some (.int .i64 0) := by rw [hB1.cell]; rfl
  have d1 : w1.cell? ⟨w.heap.size, 1, none⟩ = some (.int .i64 0) := by rw [hB1.cell]; rfl
  have d2 : w1.cell? ⟨w.heap.size, 2, none⟩ = some (.int .i64 0) := by rw [hB1.cell]; rfl
  have f0 := hB1.frozen 0
  have f1 := hB1.frozen 1
  have f2 := hB1.frozen 2
  have HM1 := Lib.hid hM1
  have HF1 := Lib.hid (HF0.out.trans hF1)
  clear hM1 hF1 hB1
  go_wp2_with fail
  simp [bodyPost, results, Try.results15]
  have hFs : Fr (fun k => k = w.heap.size) w1 (((w1.setCell ⟨w.heap.size, 0, none⟩ (.int .i64 kind)).setCell ⟨w.heap.size, 1, none⟩ (.int .i64 base)).setCell ⟨w.heap.size, 2, none⟩ (.int .i64 r)) := (((Fr.refl (fun k => k = w.heap.size) w1).setCell (p := ⟨w.heap.size, 0, none⟩) (.inl rfl) _).setCell (p := ⟨w.heap.size, 1, none⟩) (.inl rfl) _).setCell (p := ⟨w.heap.size, 2, none⟩) (.inl rfl) _
  refine ⟨.tuple #[.agg #[.int .i64 kind, .int .i64 base, .int .i64 r], .int .i64 0], ?_, rfl, ⟨st, HM1.out.fr hFs (by omega) (by omega), hs0, hs1⟩, Fr.then HF1.out hFs (fun i hi => .inr (by omega))⟩
  go_simp

/-- A move of an operation, in whatever memory. -/
def MoveOK (v : Nat → OpV) (ws : List (Bool × Int)) (v' : Nat → OpV) (ws' : List (Bool × Int)) (en : Bool) : Prop :=
  ∀ (w : World) (o p s b : Nat), OpAt w o (v o) → MI w p s ws b → b < 900000 →
    Calls Try.prog 22 #[.pointer (some ⟨o, 0, none⟩), .pointer (some ⟨p, 0, none⟩)] w (MovedP w o p s (v' o) ws' (b + 1) en)
/-- So many moves, the last of which ends it. -/
inductive Chain : Nat → (Nat → OpV) → List (Bool × Int) → (Nat → OpV) → List (Bool × Int) → Prop
  | last {v ws v' ws'} (h : MoveOK v ws v' ws' true) : Chain 1 v ws v' ws'
  | more {n v ws v1 ws1 v' ws'} (h : MoveOK v ws v1 ws1 false) (hc : Chain n v1 ws1 v' ws') : Chain (n + 1) v ws v' ws'
/-- What End tells. -/
def endR (v : OpV) : Int × Int := if v.ended = false then (0, 11) else if v.how ≠ 0 ∨ v.takes = false then (0, v.how) else (v.num, 0)
theorem end_any (w : World) (o : Nat) (v : OpV) (hO : OpAt w o v) : Calls Try.prog 23 #[.pointer (some ⟨o, 0, none⟩)] w fun e w' => e = .returned (.tuple #[.int .i64 (endR v).1, .int .i64 (endR v).2]) ∧ ∃ q, w' = w.drewN q := by
  unfold endR
  cases he : v.ended with
  | false => simpa using end_not w o v hO he
  | true =>
    by_cases hh : v.how = 0
    · cases ht : v.takes with
      | false =>
        have := end_push w o v hO he hh ht
        simpa [hh] using this
      | true =>
        have := end_takes w o v hO he hh ht
        simpa [hh] using this
    · have := end_er w o v hO he hh
      simpa [hh] using this

set_option maxHeartbeats 4000000 in
theorem run_any (n : Nat) (v : Nat → OpV) (ws : List (Bool × Int)) (v' : Nat → OpV) (ws' : List (Bool × Int)) (hc : Chain n v ws v' ws') (hn : n ≤ 20) (w : World) (o p s b : Nat) (hO : OpAt w o (v o)) (hM : MI w p s ws b) (hb : b + n < 900000) :
    Calls Try.prog 18 #[.pointer (some ⟨p, 0, none⟩), .pointer (some ⟨o, 0, none⟩)] w fun e w' => e = .returned (.tuple #[.int .i64 (endR (v' o)).1, .int .i64 (endR (v' o)).2]) ∧ OpAt w' o (v' o) ∧ MI w' p s ws' (b + n) ∧ Fr (Thr o p s) w w' := by
  have HC := Lib.hid hc
  have HO := Lib.hid hO
  have HM := Lib.hid hM
  clear hc hO hM
  go_enter Try.func18, Try.ntmps18
  go_wp2_with fail
  go_loopw [6] (fun i wx => ∃ (k m : Nat) (v1 : Nat → OpV) (ws1 : List (Bool × Int)), k + m = n ∧ i = .int .i64 k ∧ Hid (Chain m v1 ws1 v' ws') ∧ Hid (OpAt wx o (v1 o)) ∧ Hid (MI wx p s ws1 (b + k)) ∧ Hid (Fr (Thr o p s) w wx)) (fun i _ => 20 - (intOf i).toNat)
  case atStart => exact ⟨0, n, v, ws, by omega, rfl, HC, HO, HM, Lib.hid (Fr.refl _ _)⟩
  case round =>
    obtain ⟨k, m, v1, ws1, hkm, rfl, HC1, HO1, HM1, HF1⟩ := hrel
    have hpos : 0 < m := by cases HC1.out <;> omega
    have hki : (k : Int) < 20 := by omega
    have hkd : decide ((k : Int) < 20) = true := decide_eq_true hki
    have hk9 : k < 20 := by omega
    have hkd2 : decide (k < 20) = true := decide_eq_true hk9
    cases hcc : HC1.out with
    | last h =>
      have HMV := Lib.hid (h wr o p s (b + k) HO1.out HM1.out (by omega))
      clear hcc
      go_wp2_with fail
      refine HMV.out.mono ?_
      rintro e w1 ⟨rfl, hO1, hM1, hF1⟩
      have HE := Lib.hid (end_any w1 o _ hO1)
      have HO2 := Lib.hid hO1
      have HM2 := Lib.hid hM1
      have HF2 := Lib.hid (HF1.out.trans hF1)
      clear hO1 hM1 hF1
      go_wp2_with fail
      refine HE.out.mono ?_
      rintro e w2 ⟨rfl, q, rfl⟩
      go_wp2_with fail
      go_ret2
      exact ⟨rfl, HO2.out, by rw [show b + n = b + k + 1 by omega]; exact HM2.out.drewN q, HF2.out.drewN q⟩
    | more h hc' =>
      have HMV := Lib.hid (h wr o p s (b + k) HO1.out HM1.out (by omega))
      have HC2 := Lib.hid hc'
      clear hcc
      go_wp2_with fail
      refine HMV.out.mono ?_
      rintro e w1 ⟨rfl, hO1, hM1, hF1⟩
      have HO2 := Lib.hid hO1
      have HM2 := Lib.hid hM1
      have HF2 := Lib.hid (HF1.out.trans hF1)
      clear hO1 hM1 hF1
      go_wp2_with fail
      exact ⟨⟨k + 1, _, _, _, by omega, by go_num, HC2, HO2, HM2, HF2⟩, by simp [intOf]; omega⟩
end Go.Proofs.Ytfcboacmailfiaa
