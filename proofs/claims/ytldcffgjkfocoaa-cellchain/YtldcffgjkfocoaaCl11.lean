/-
  Layer 13: several moves of the laws' world; ends that are asked for.
-/
import Derived.Test.YtldcffgjkfocoaaCl9
import Derived.Test.YtldcffgjkfocoaaCl10
namespace Go.Proofs.Ytldcffgjkfocoaa
open Go.RowKit

/-- A move of one. -/
def wst (S : (Nat → PO) × List Int) (k : Nat) : (Nat → PO) × List Int := (upd S.1 k (stp (S.1 k) S.2).1, (stp (S.1 k) S.2).2)
/-- So many moves of one. -/
def wrun (k : Nat) : Nat → (Nat → PO) × List Int → (Nat → PO) × List Int
  | 0, S => S
  | n + 1, S => wst (wrun k n S) k
abbrev WIs (w0 w : World) (q : Pl) (S : (Nat → PO) × List Int) (b : Nat) : Prop := WorldIs w0 w q S.1 S.2 b
theorem wmove_k (w0 w : World) (q : Pl) (S : (Nat → PO) × List Int) (b : Nat) (hW : WIs w0 w q S b) (hb : b < 800000) (k : Nat) (hk : k < 6) :
    Calls Try.prog 9 #[.pointer (some ⟨q.V, 0, none⟩), .int .u8 (k : Int)] w fun e w' => e = .returned (.bool true) ∧ WIs w0 w' q (wst S k) (b + 9) :=
  wmove_any w0 w q S.1 S.2 b hW hb k (by omega) k (by omega)
section
variable {w0 w : World} {q : Pl} {S : (Nat → PO) × List Int} {b : Nat}
theorem WIs.op (h : WIs w0 w q S b) (k : Nat) (hk : k < 6) : w.cell? ⟨q.V, 6 + k, none⟩ = some (.pointer (some ⟨q.O k, 0, none⟩)) := by
  rw [WorldIs.hV h |>.cell]; exact (vcl_op k hk).1
theorem WIs.own (h : WIs w0 w q S b) (k : Nat) (hk : k < 6) : w.cell? ⟨q.V, 12 + k, none⟩ = some (.pointer (some ⟨q.R k, 0, none⟩)) := by
  rw [WorldIs.hV h |>.cell]; exact (vcl_op k hk).2
theorem WIs.ended (h : WIs w0 w q S b) (k : Nat) (hk : k < 6) : w.cell? ⟨q.R k, 5, none⟩ = some (.bool (S.1 k).ended) := by
  rw [(h.hR k hk).cell]; rfl
theorem WIs.mem (h : WIs w0 w q S b) : w.cell? ⟨q.V, 0, none⟩ = some (.pointer (some ⟨q.P, 0, none⟩)) := by rw [h.hV.cell]; rfl
theorem WIs.load (h : WIs w0 w q S b) (hb : b < 900000) (i : Nat) (hi : i < 20) (n : Int) (hn : S.2.getD i 0 = n) :
    Calls Try.prog 12 #[.pointer (some ⟨q.P, 0, none⟩), .int .i64 (i : Int)] w fun e w' => e = .returned (.tuple #[.int .i64 n, .int .i64 0]) ∧ WIs w0 w' q S (b + 1) :=
  (load_mi h.hM hb i (by rw [h.len]; exact hi) n hn).mono fun _ _ ⟨he, hm, hf⟩ => ⟨he, WorldIs.mem h hm hf⟩
/-- How one that has ended ended. -/
theorem WIs.end_ (h : WIs w0 w q S b) (k : Nat) (hk : k < 6) (he : (S.1 k).ended = true) (r : Bool) (x y z : Int) (hr : (S.1 k).waits = r) (hx : (S.1 k).ev = x) (hy : (S.1 k).ey = y) (hz : (S.1 k).first = z) :
    Calls Try.prog 11 #[.pointer (some ⟨q.O k, 0, none⟩)] w fun e w' => e = .returned (.tuple #[.agg #[.bool r, .int .i64 x, .int .i64 y, .int .i64 z], .int .i64 0]) ∧ Fr F0 w w' := by
  have ho := (h.hO k hk).ho
  rw [he, hr, hx, hy, hz] at ho
  exact end_yes w (q.O k) _ r x y z ho
end
end Go.Proofs.Ytldcffgjkfocoaa
