/-
  Package deque: a move of an operation, whatever comes next; how an operation begins.
-/
import Derived.Test.YtfcboacmailfiaaDq4
import Derived.Laws.EntriesVeiled
namespace Go.Proofs.Ytfcboacmailfiaa
open Go.RowKit

/-- What Move comes to. -/
def MovedP (w : World) (o p s : Nat) (v : OpV) (ws : List (Bool × Int)) (b : Nat) (en : Bool) (e : Ending) (w' : World) : Prop :=
  e = .returned (.bool en) ∧ OpAt w' o v ∧ MI w' p s ws b ∧ Fr (Thr o p s) w w'

/-- A function of the program's own text. -/
def Own (f : FuncId) : Prop := ∀ (a : Array Value) (W : World), (callFunc f a).run Try.prog W = .ok (.enter f a) W

set_option maxHeartbeats 4000000 in
set_option maxRecDepth 100000 in
theorem move_end (w : World) (o p s : Nat) (v v' : OpV) (ws' : List (Bool × Int)) (b : Nat) (hO : OpAt w o v) (f : FuncId) (hf : Own f) (hn : v.next = mv f o) (er : Int)
    (hc : Calls Try.prog f #[.agg #[.pointer (some ⟨o, 0, none⟩)], .pointer (some ⟨p, 0, none⟩)] w (MvP w o p s v' ws' b .nilFunc er)) :
    Calls Try.prog 22 #[.pointer (some ⟨o, 0, none⟩), .pointer (some ⟨p, 0, none⟩)] w (MovedP w o p s { v' with next := .nilFunc, how := er, ended := true } ws' (b + 1) true) := by
  have c3 : w.cell? ⟨o, 3, none⟩ = some (mv f o) := by rw [← hn]; rw [Blk.cell hO]; rfl
  have hb1 : ∀ (g : FuncId) (W : World), (binOp .eql 76 (mv g o) .nilFunc).run Try.prog W = .ok (.bool false) W := fun _ _ => rfl
  have hb2 : ∀ W : World, (binOp .eql 76 .nilFunc .nilFunc).run Try.prog W = .ok (.bool true) W := fun _ => rfl
  have hcf := hf #[.agg #[.pointer (some ⟨o, 0, none⟩)], .pointer (some ⟨p, 0, none⟩)]
  have HC := Lib.hid hc
  clear hc hn hf
  go_enter Try.func22, Try.ntmps22
  go_wp2_with fail
  refine HC.out.mono ?_
  rintro e w1 ⟨rfl, hO1, hM1, hF1⟩
  have e3 : w1.cell? ⟨o, 3, none⟩ = some v'.next := by rw [Blk.cell hO1]; rfl
  have e5 : w1.cell? ⟨o, 5, none⟩ = some (.bool v'.ended) := by rw [Blk.cell hO1]; rfl
  have e6 : w1.cell? ⟨o, 6, none⟩ = some (.int .i64 v'.how) := by rw [Blk.cell hO1]; rfl
  have f3 := Blk.frozen hO1 3
  have f5 := Blk.frozen hO1 5
  have f6 := Blk.frozen hO1 6
  obtain ⟨h1, h2⟩ := hO1.ne hM1
  have HO1 := Lib.hid hO1
  have HM1 := Lib.hid hM1
  have HF1 := Lib.hid hF1
  clear hO1 hM1 hF1
  go_wp2_with fail
  go_ret
  have hFs : Fr (fun k => k = o) w1 (((w1.setCell ⟨o, 3, none⟩ (.nilFunc)).setCell ⟨o, 6, none⟩ (.int .i64 er)).setCell ⟨o, 5, none⟩ (.bool true)) := (((Fr.refl (fun k => k = o) w1).setCell (p := ⟨o, 3, none⟩) (.inl rfl) _).setCell (p := ⟨o, 6, none⟩) (.inl rfl) _).setCell (p := ⟨o, 5, none⟩) (.inl rfl) _
  exact ⟨rfl, Blk.set_ (Blk.set_ (Blk.set_ HO1.out 3 _) 6 _) 5 _, HM1.out.fr hFs (fun h => h1 h.symm) (fun h => h2 h.symm), HF1.out.trans (hFs.mono (fun _ h => .inl h))⟩

set_option maxHeartbeats 4000000 in
set_option maxRecDepth 100000 in
theorem move_go (w : World) (o p s : Nat) (v v' : OpV) (ws' : List (Bool × Int)) (b : Nat) (hO : OpAt w o v) (f : FuncId) (hf : Own f) (g : FuncId) (hn : v.next = mv f o) (er : Int)
    (hc : Calls Try.prog f #[.agg #[.pointer (some ⟨o, 0, none⟩)], .pointer (some ⟨p, 0, none⟩)] w (MvP w o p s v' ws' b (mv g o) er)) :
    Calls Try.prog 22 #[.pointer (some ⟨o, 0, none⟩), .pointer (some ⟨p, 0, none⟩)] w (MovedP w o p s { v' with next := (mv g o), how := er, ended := false } ws' (b + 1) false) := by
  have c3 : w.cell? ⟨o, 3, none⟩ = some (mv f o) := by rw [← hn]; rw [Blk.cell hO]; rfl
  have hb1 : ∀ (g : FuncId) (W : World), (binOp .eql 76 (mv g o) .nilFunc).run Try.prog W = .ok (.bool false) W := fun _ _ => rfl
  have hb2 : ∀ W : World, (binOp .eql 76 .nilFunc .nilFunc).run Try.prog W = .ok (.bool true) W := fun _ => rfl
  have hcf := hf #[.agg #[.pointer (some ⟨o, 0, none⟩)], .pointer (some ⟨p, 0, none⟩)]
  have HC := Lib.hid hc
  clear hc hn hf
  go_enter Try.func22, Try.ntmps22
  go_wp2_with fail
  refine HC.out.mono ?_
  rintro e w1 ⟨rfl, hO1, hM1, hF1⟩
  have e3 : w1.cell? ⟨o, 3, none⟩ = some v'.next := by rw [Blk.cell hO1]; rfl
  have e5 : w1.cell? ⟨o, 5, none⟩ = some (.bool v'.ended) := by rw [Blk.cell hO1]; rfl
  have e6 : w1.cell? ⟨o, 6, none⟩ = some (.int .i64 v'.how) := by rw [Blk.cell hO1]; rfl
  have f3 := Blk.frozen hO1 3
  have f5 := Blk.frozen hO1 5
  have f6 := Blk.frozen hO1 6
  obtain ⟨h1, h2⟩ := hO1.ne hM1
  have HO1 := Lib.hid hO1
  have HM1 := Lib.hid hM1
  have HF1 := Lib.hid hF1
  clear hO1 hM1 hF1
  go_wp2_with fail
  go_ret
  have hFs : Fr (fun k => k = o) w1 (((w1.setCell ⟨o, 3, none⟩ ((mv g o))).setCell ⟨o, 6, none⟩ (.int .i64 er)).setCell ⟨o, 5, none⟩ (.bool false)) := (((Fr.refl (fun k => k = o) w1).setCell (p := ⟨o, 3, none⟩) (.inl rfl) _).setCell (p := ⟨o, 6, none⟩) (.inl rfl) _).setCell (p := ⟨o, 5, none⟩) (.inl rfl) _
  exact ⟨rfl, Blk.set_ (Blk.set_ (Blk.set_ HO1.out 3 _) 6 _) 5 _, HM1.out.fr hFs (fun h => h1 h.symm) (fun h => h2 h.symm), HF1.out.trans (hFs.mono (fun _ h => .inl h))⟩
end Go.Proofs.Ytfcboacmailfiaa
