/-
  The laws of layer 9 with one deque that one uses alone: an operation begins and is run, in one word.
-/
import Derived.Test.YtfcboacmailfiaaDq16
namespace Go.Proofs.Ytfcboacmailfiaa
open Go.RowKit

abbrev None' : Nat → Prop := fun _ => False
/-- The deque's struct, its memory; only what is new has turned. -/
structure DW (w0 w : World) (D p s k n : Nat) (ws : List (Bool × Int)) (m : Nat) : Prop where
  hD : Blk w D 36 #[.int .i64 (k : Int), .int .i64 0, .int .i64 (n : Int)]
  hM : MI w p s ws m
  fr : Fr None' w0 w
  hp : w0.heap.size ≤ p
  hs : w0.heap.size ≤ s
theorem MI.more {w : World} {p s b c : Nat} {ws : List (Bool × Int)} (h : MI w p s ws b) (hbc : b ≤ c) : MI w p s ws c := by
  obtain ⟨st, h, a, d⟩ := h
  exact ⟨st, h, a, by omega⟩
theorem DW.f0 {w0 w w' : World} {D p s k n m : Nat} {ws : List (Bool × Int)} (h : DW w0 w D p s k n ws m) (hf : Fr None' w w') : DW w0 w' D p s k n ws m :=
  ⟨h.hD.fr hf (fun h => h), h.hM.fr hf (fun h => h) (fun h => h), h.fr.trans hf, h.hp, h.hs⟩
theorem DW.ne {w0 w : World} {D p s k n m : Nat} {ws : List (Bool × Int)} (h : DW w0 w D p s k n ws m) {o : Nat} {v : OpV} (hO : OpAt w o v) : ¬ Thr o p s D := by
  have q1 : D ≠ o := Blk.ne_ h.hD hO (by decide)
  obtain ⟨st, hms, _, _⟩ := h.hM
  have q2 : D ≠ p := Blk.ne_ h.hD hms.hp (by decide)
  have q3 : D ≠ s := Blk.ne_ h.hD hms.hs (by decide)
  exact fun h => h.elim q1 (fun h => h.elim q2 q3)
theorem DW.cells {w0 w : World} {D p s k n m : Nat} {ws : List (Bool × Int)} (h : DW w0 w D p s k n ws m) : w.cell? ⟨D, 0, none⟩ = some (.int .i64 (k : Int)) ∧ w.cell? ⟨D, 1, none⟩ = some (.int .i64 0) ∧ w.cell? ⟨D, 2, none⟩ = some (.int .i64 (n : Int)) := by
  refine ⟨?_, ?_, ?_⟩ <;> (rw [h.hD.cell]; rfl)
/-- An operation is begun; run by itself it ends so. -/
def Runs (w0 : World) (D p s k n : Nat) (ws' : List (Bool × Int)) (m : Nat) (r1 r2 : Int) (e : Ending) (w' : World) : Prop :=
  ∃ o, e = .returned (.pointer (some ⟨o, 0, none⟩)) ∧ Calls Try.prog 18 #[.pointer (some ⟨p, 0, none⟩), .pointer (some ⟨o, 0, none⟩)] w' fun e w'' => e = .returned (.tuple #[.int .i64 r1, .int .i64 r2]) ∧ DW w0 w'' D p s k n ws' (m + 9)
theorem start_run {w0 W : World} {D p s k n m nn : Nat} {ws ws' : List (Bool × Int)} {v0 v' : Nat → OpV} {r1 r2 : Int} {f : FuncId} {args : Array Value} (h : DW w0 W D p s k n ws m) (hm : m + 9 < 900000)
    (hst : Calls Try.prog f args W fun e w' => e = .returned (.pointer (some ⟨W.heap.size + 2, 0, none⟩)) ∧ OpAt w' (W.heap.size + 2) (v0 (W.heap.size + 2)) ∧ Fr None' W w')
    (hch : Chain nn v0 ws v' ws') (hn9 : nn ≤ 9) (he : ∀ o, endR (v' o) = (r1, r2)) : Calls Try.prog f args W (Runs w0 D p s k n ws' m r1 r2) := by
  refine hst.mono ?_
  rintro e w4 ⟨rfl, hO4, hF4⟩
  refine ⟨_, rfl, ?_⟩
  have h4 := h.f0 hF4
  have hrun := run_any nn v0 ws v' ws' hch (by omega) w4 _ p s m hO4 h4.hM (by omega)
  rw [he] at hrun
  refine hrun.mono ?_
  rintro e w5 ⟨rfl, _, hM5, hF5⟩
  have hs0 := h.fr.size
  exact ⟨rfl, h4.hD.fr hF5 (h4.ne hO4), hM5.more (by omega), h4.fr.then hF5 (fun i hi => .inr (by rcases hi with rfl | rfl | rfl; exact Nat.le_trans hs0 (by omega); exact h.hp; exact h.hs)), h.hp, h.hs⟩
abbrev dag (k n : Nat) : Value := .agg #[.int .i64 (k : Int), .int .i64 0, .int .i64 (n : Int)]
section
variable {k n : Nat} {ty : TypeId} {w0 W : World} {D p s m c u : Nat} {ws : List (Bool × Int)}
theorem run_push (ha : Alone k ty n) (h : DW w0 W D p s k n ws m) (hm : m + 9 < 900000) (l : List Int) (hA : AK k n c ws l u) (hc : c ≤ 10000) (hl : l.length < n) (hu : u < n) (x : Int) :
    ∃ ws', AK k n (c + 1) ws' (l ++ [x]) (u + 1) ∧ Calls Try.prog 19 #[dag k n, .int .i64 x] W (Runs w0 D p s k n ws' m 0 0) := by
  obtain ⟨nn, v', ws', hn9, hch, he, hA'⟩ := ha.push c ws l u x hA hc hl hu
  exact ⟨ws', hA', start_run h hm (ha.kpush W 0 n x) hch hn9 he⟩
theorem run_full (ha : Alone k ty n) (hb : AloneP k ty n) (h : DW w0 W D p s k n ws m) (hm : m + 9 < 900000) (l : List Int) (hA : AK k n c ws l u) (hc : c ≤ 10000) (hu : if k = 1 then u = n else l.length = n) (x : Int) :
    Calls Try.prog 19 #[dag k n, .int .i64 x] W (Runs w0 D p s k n ws m 0 8) := by
  obtain ⟨nn, v', hn9, hch, he⟩ := hb.full c ws l u x hA hc hu
  exact start_run h hm (ha.kpush W 0 n x) hch hn9 he
theorem run_pop (ha : Alone k ty n) (hb : AloneP k ty n) (h : DW w0 W D p s k n ws m) (hm : m + 9 < 900000) (y : Int) (r : List Int) (hA : AK k n c ws (if k = 3 then y :: r else r ++ [y]) u) (hc : c ≤ 10000) :
    ∃ ws', AK k n (c + 1) ws' r (if r = [] then 0 else u - 1) ∧ Calls Try.prog 20 #[dag k n] W (Runs w0 D p s k n ws' m y 0) := by
  obtain ⟨nn, v', ws', hn9, hch, he, hA'⟩ := hb.pop c ws y r u hA hc
  exact ⟨ws', hA', start_run h hm (ha.kpop W 0 n) hch hn9 he⟩
theorem run_popE (ha : Alone k ty n) (h : DW w0 W D p s k n ws m) (hm : m + 9 < 900000) (hA : AK k n c ws [] u) (hc : c ≤ 10000) :
    ∃ ws', AK k n (c + 1) ws' [] 0 ∧ Calls Try.prog 20 #[dag k n] W (Runs w0 D p s k n ws' m 0 9) := by
  obtain ⟨nn, v', ws', hn9, hch, he, hA'⟩ := ha.popE c ws u hA hc
  exact ⟨ws', hA', start_run h hm (ha.kpop W 0 n) hch hn9 he⟩
theorem run_steal (ha : Alone k ty n) (h : DW w0 W D p s k n ws m) (hm : m + 9 < 900000) (y : Int) (r : List Int) (hA : AK k n c ws (if k = 2 then r ++ [y] else y :: r) u) (hc : c ≤ 10000) :
    ∃ ws', AK k n (c + 1) ws' r u ∧ Calls Try.prog 21 #[dag k n] W (Runs w0 D p s k n ws' m y 0) := by
  obtain ⟨nn, v', ws', hn9, hch, he, hA'⟩ := ha.steal c ws y r u hA hc
  exact ⟨ws', hA', start_run h hm (ha.ksteal W 0 n) hch hn9 he⟩
theorem run_stealE (ha : Alone k ty n) (h : DW w0 W D p s k n ws m) (hm : m + 9 < 900000) (hA : AK k n c ws [] u) (hc : c ≤ 10000) :
    Calls Try.prog 21 #[dag k n] W (Runs w0 D p s k n ws m 0 9) := by
  obtain ⟨nn, v', hn9, hch, he⟩ := ha.stealE c ws u hA hc
  exact start_run h hm (ha.ksteal W 0 n) hch hn9 he
end
end Go.Proofs.Ytfcboacmailfiaa
