/-
  What the document's Read comes to.
-/
import Derived.Test.YtahojahplpcbiaaTold
import Derived.Test.YtahojahplpcbiaaPureD
import Derived.RegionTactic
import Derived.BigRegion
import Derived.Deep.QuietTactic
import Derived.BigQuiet
import Derived.StillTailTactics
namespace Go.Proofs.Ytahojahplpcbiaa
open Go.RowKit

theorem info_rins : (Try.prog.info? 56).map (fun i => (i.zero, i.size, i.bytes)) = some (some (.agg #[.int .i64 0, .int .i64 0, .int .i64 0, .int .i64 0, .int .i64 0]), 5, 40) := by kernel_rfl
theorem info_rfn : (Try.prog.info? 51).map (fun i => (i.zero, i.size, i.bytes)) = some (some (.agg #[.int .i64 0, .slice none 0 0]), 2, 32) := by kernel_rfl

/-- A program that the document's Read has made so far. -/
def MadeR (w : World) (base : Nat) (v : Value) (L : List LFn) : Prop :=
  w.ownsRow base 51 2 v L.length (L.flatMap LFn.cells) ∧ ∀ x ∈ L, w.ownsRow base 56 5 (.slice x.A x.f.code.length x.c) x.f.code.length (x.f.code.flatMap Ins.cells)
theorem MadeR.row {w : World} {base : Nat} {v : Value} {L : List LFn} (h : MadeR w base v L) : ∃ A c, v = .slice A L.length c ∧ FnRow w (fun b => b < w.heap.size) A L := by
  obtain ⟨A, c, rfl⟩ := own_slice h.1
  exact ⟨A, c, rfl, (Rd.of_own h.1).mono (fun _ h => h.2), fun x hx => (Rd.of_own (h.2 x hx)).mono (fun _ h => h.2)⟩

def RrPost (w : World) (bs : List Int) (e : Ending) (w' : World) : Prop :=
  (∃ t L v, bs = 72 :: t ∧ pProg t = some (fns L, []) ∧ e = .returned (.tuple #[v, .int .i64 0]) ∧ MadeR w' w.heap.size v L ∧ Fr (fun _ => False) w w') ∨
  (∃ er, readE bs = er ∧ er ≠ 0 ∧ e = .returned (.tuple #[.slice none 0 0, .int .i64 er]) ∧ Fr (fun _ => False) w w')

set_option maxHeartbeats 2000000 in
theorem refRead_empty (w : World) (A : Option Addr) (c : Nat) : Calls Try.prog 15 #[.slice A 0 c] w (RrPost w []) := by
  go_enter Try.func15, Try.ntmps15
  go_wp2_with fail
  go_ret2
  exact .inr ⟨4, rfl, by decide, rfl, Fr.refl _ _⟩

set_option maxHeartbeats 2000000 in
theorem refRead_other (w : World) (b off c : Nat) (x : Int) (t : List Int) (d0 : w.cell? ⟨b, off, none⟩ = some (.int .u8 x)) (hx : x ≠ 72) : Calls Try.prog 15 #[.slice (some ⟨b, off, none⟩) (x :: t).length c] w (RrPost w (x :: t)) := by
  have hb : (x != 72) = true := by simp [hx]
  have HX := Lib.hid hx
  clear hx
  generalize hn : (x :: t).length = n
  have h0 : 0 < n := by rw [← hn]; simp
  have h1 : ¬ (n : Int) = 0 := by omega
  have h2 : ((n : Int) == 0) = false := by simpa using h1
  clear hn
  go_enter Try.func15, Try.ntmps15
  go_wp2_with fail
  go_ret2
  exact .inr ⟨4, by simp [readE, HX.out], by decide, rfl, Fr.refl _ _⟩

set_option maxHeartbeats 2000000 in
theorem refRead_one (w : World) (b off c : Nat) (d0 : w.cell? ⟨b, off, none⟩ = some (.int .u8 72)) : Calls Try.prog 15 #[.slice (some ⟨b, off, none⟩) 1 c] w (RrPost w [72]) := by
  go_enter Try.func15, Try.ntmps15
  go_wp2_with fail
  go_ret2
  exact .inr ⟨2, rfl, by decide, rfl, Fr.refl _ _⟩
end Go.Proofs.Ytahojahplpcbiaa
