/-
  What the checker's small calls do: nothing, or the panic with the fault.
-/
import Derived.Test.YtbhnnnpofindiaaDoorBase
import Derived.Test.YtbhnnnpofindiaaDoorPureV
import Derived.Test.YtbhnnnpofindiaaDoorProg
import Derived.Outline
import Derived.KernelRfl
import Derived.WalkLawsBesides
import Derived.Deep.RegionLaw
import Derived.Deep.RegionHeld3
import Derived.RegionTactic
import Derived.BigRegion
import Derived.Deep.QuietTactic
import Derived.BigQuiet
import Derived.StillTailTactics
namespace Go.Proofs.YtbhnnnpofindiaaDoor
open Go.RowKit

/-- The panic with a fault. -/
abbrev fault (f i e : Int) : Ending := .panicked [{ v := .iface 109 (.agg #[.int .i64 f, .int .i64 i, .int .i64 e]), recovered := false }]

/-- The checker at block p: its program, and where it is. -/
def CkIs (w : World) (p : Nat) (A : Option Addr) (n c : Nat) (f i e : Int) : Prop := Blk w p 112 #[.slice A n c, .int .i64 f, .int .i64 i, .int .i64 e]

abbrev None' : Nat → Prop := fun _ => False
abbrev At (p : Nat) : Nat → Prop := fun k => k = p

/-- What a checker's call comes to. -/
def VPost (w : World) (p : Nat) (f i e : Int) (r : Ending) (w' : World) : Prop :=
  (e = 0 ∧ r = .returned (.tuple #[]) ∧ Fr None' w w') ∨ (e ≠ 0 ∧ r = fault f i e ∧ Fr (At p) w w')

theorem Fr.none {B : Nat → Prop} {w w' : World} (h : Fr None' w w') : Fr B w w' := h.mono (fun _ h => h.elim)

set_option maxHeartbeats 1000000 in
set_option maxRecDepth 100000 in
theorem must_ok (w : World) (p : Nat) (e : Int) :
    Calls Tryd.prog 58 #[.pointer (some ⟨p, 0, none⟩), .bool true, .int .i64 e] w fun r w' => r = .returned (.tuple #[]) ∧ w = w' := by
  go_enter Tryd.func58, Tryd.ntmps58
  go_wp2
  go_end0
  exact ⟨rfl, rfl⟩

set_option maxHeartbeats 1000000 in
set_option maxRecDepth 100000 in
theorem must_no (w : World) (p : Nat) (A : Option Addr) (n c : Nat) (f i e0 e : Int) (hC : CkIs w p A n c f i e0) :
    Calls Tryd.prog 58 #[.pointer (some ⟨p, 0, none⟩), .bool false, .int .i64 e] w fun r w' => r = fault f i e ∧ Fr (At p) w w' := by
  have c1 : w.cell? ⟨p, 1, none⟩ = some (.int .i64 f) := by rw [Blk.cell hC]; rfl
  have c2 : w.cell? ⟨p, 2, none⟩ = some (.int .i64 i) := by rw [Blk.cell hC]; rfl
  have c3 : w.cell? ⟨p, 3, none⟩ = some (.int .i64 e0) := by rw [Blk.cell hC]; rfl
  have f3 := Blk.frozen hC 3
  go_enter Tryd.func58, Tryd.ntmps58
  go_wp2
  exact ⟨rfl, rfl, (Fr.refl (At p) w).setCell (p := ⟨p, 3, none⟩) (.inl rfl) _⟩

theorem must_any (w : World) (p : Nat) (A : Option Addr) (n c : Nat) (f i e0 e : Int) (hC : CkIs w p A n c f i e0) (he : e ≠ 0) (t : Bool) :
    Calls Tryd.prog 58 #[.pointer (some ⟨p, 0, none⟩), .bool t, .int .i64 e] w (VPost w p f i (if t = true then 0 else e)) := by
  cases t with
  | true => exact (must_ok w p e).mono fun r w' ⟨h1, h2⟩ => .inl ⟨rfl, h1, h2 ▸ Fr.refl _ _⟩
  | false => exact (must_no w p A n c f i e0 e hC).mono fun r w' ⟨h1, h2⟩ => .inr ⟨by simpa using he, by simpa using h1, h2⟩

set_option maxHeartbeats 1000000 in
set_option maxRecDepth 100000 in
theorem within_any (w : World) (p : Nat) (A : Option Addr) (n c : Nat) (f i e0 e : Int) (hC : CkIs w p A n c f i e0) (he : e ≠ 0) (m lo hi : Int) :
    Calls Tryd.prog 55 #[.pointer (some ⟨p, 0, none⟩), .int .i64 m, .int .i64 lo, .int .i64 hi, .int .i64 e] w (VPost w p f i (rngE lo hi e m)) := by
  have HC := Lib.hid hC
  have HE := Lib.hid he
  clear hC he
  by_cases h : lo ≤ m ∧ m < hi
  · obtain ⟨h1, h2⟩ := h
    rw [rngE_in h1 h2]
    go_enter Tryd.func55, Tryd.ntmps55
    go_wp2_with fail
    refine (must_ok w p e).mono ?_
    rintro r _ ⟨rfl, rfl⟩
    go_wp2_with fail
    go_end0
    exact .inl ⟨rfl, rfl, Fr.refl _ _⟩
  · rw [rngE_out h]
    by_cases h1 : lo ≤ m
    · have h2 : ¬ m < hi := fun h2 => h ⟨h1, h2⟩
      clear h
      go_enter Tryd.func55, Tryd.ntmps55
      go_wp2_with fail
      refine (must_no w p A n c f i e0 e HC.out).mono ?_
      rintro r w1 ⟨rfl, hF⟩
      go_wp2_with fail
      exact ⟨rfl, .inr ⟨HE.out, rfl, hF⟩⟩
    · clear h
      go_enter Tryd.func55, Tryd.ntmps55
      go_wp2_with fail
      refine (must_no w p A n c f i e0 e HC.out).mono ?_
      rintro r w1 ⟨rfl, hF⟩
      go_wp2_with fail
      exact ⟨rfl, .inr ⟨HE.out, rfl, hF⟩⟩
end Go.Proofs.YtbhnnnpofindiaaDoor
