/-
  Package cell: a move of an operation, whatever comes next.
-/
import Derived.Test.YtldcffgjkfocoaaCl2
namespace Go.Proofs.Ytldcffgjkfocoaa
open Go.RowKit

/-- A function of the program's own text. -/
def Own (f : FuncId) : Prop := ∀ (a : Array Value) (W : World), (callFunc f a).run Try.prog W = .ok (.enter f a) W
abbrev Four (o a p s : Nat) : Nat → Prop := fun k => k = o ∨ k = a ∨ k = p ∨ k = s
abbrev oc (nx : Value) (en q : Bool) (x y z : Int) : Array Value := #[nx, .bool en, .bool q, .int .i64 x, .int .i64 y, .int .i64 z, .int .i64 0]

set_option maxHeartbeats 4000000 in
set_option maxRecDepth 100000 in
theorem move_end (w : World) (o a p s : Nat) (t : TypeId) (cs : Array Value) (m : List Int) (b : Nat) (f : FuncId) (hf : Own f) (q0 : Bool) (x0 y0 z0 : Int) (hO : Blk w o 67 (oc (mv f a) false q0 x0 y0 z0)) (q : Bool) (x y z : Int)
    (hc : Calls Try.prog f #[.pointer (some ⟨a, 0, none⟩), .pointer (some ⟨p, 0, none⟩)] w (MvP w a p s t cs m b .nilFunc (.agg #[.bool q, .int .i64 x, .int .i64 y, .int .i64 z]))) (hoa : o ≠ a) (hop : o ≠ p) (hos : o ≠ s) :
    Calls Try.prog 17 #[.pointer (some ⟨o, 0, none⟩), .pointer (some ⟨p, 0, none⟩)] w fun e w' => e = .returned (.bool true) ∧ Blk w' o 67 (oc .nilFunc true q x y z) ∧ Blk w' a t cs ∧ MI w' p s m (b + 1) ∧ Fr (Four o a p s) w w' := by
  have c0 : w.cell? ⟨o, 0, none⟩ = some (mv f a) := by rw [hO.cell]; rfl
  have hb1 : ∀ (g : FuncId) (W : World), (binOp .eql 65 (mv g a) .nilFunc).run Try.prog W = .ok (.bool false) W := fun _ _ => rfl
  have hb2 : ∀ W : World, (binOp .eql 65 .nilFunc .nilFunc).run Try.prog W = .ok (.bool true) W := fun _ => rfl
  have hcf := hf #[.pointer (some ⟨a, 0, none⟩), .pointer (some ⟨p, 0, none⟩)]
  have HC := Lib.hid hc
  have HO := Lib.hid hO
  clear hc hO hf
  go_enter Try.func17, Try.ntmps17
  go_wp2_with fail
  refine HC.out.mono ?_
  rintro e w1 ⟨rfl, hA1, hM1, hF1⟩
  have hO1 : Blk w1 o 67 (oc (mv f a) false q0 x0 y0 z0) := HO.out.fr hF1 (fun h => h.elim hoa (fun h => h.elim hop hos))
  have e0 : w1.cell? ⟨o, 0, none⟩ = some (mv f a) := by rw [hO1.cell]; rfl
  have e1 : w1.cell? ⟨o, 1, none⟩ = some (.bool false) := by rw [hO1.cell]; rfl
  have e2 : w1.cell? ⟨o, 2, none⟩ = some (.bool q0) := by rw [hO1.cell]; rfl
  have e3 : w1.cell? ⟨o, 3, none⟩ = some (.int .i64 x0) := by rw [hO1.cell]; rfl
  have e4 : w1.cell? ⟨o, 4, none⟩ = some (.int .i64 y0) := by rw [hO1.cell]; rfl
  have e5 : w1.cell? ⟨o, 5, none⟩ = some (.int .i64 z0) := by rw [hO1.cell]; rfl
  have e6 : w1.cell? ⟨o, 6, none⟩ = some (.int .i64 0) := by rw [hO1.cell]; rfl
  have f0 := hO1.frozen 0
  have f1 := hO1.frozen 1
  have f2 := hO1.frozen 2
  have f3 := hO1.frozen 3
  have f4 := hO1.frozen 4
  have f5 := hO1.frozen 5
  have f6 := hO1.frozen 6
  have HO1 := Lib.hid hO1
  have HA1 := Lib.hid hA1
  have HM1 := Lib.hid hM1
  have HF1 := Lib.hid hF1
  clear hO1 hA1 hM1 hF1
  go_wp2_with fail
  go_ret
  obtain ⟨w2, hw2⟩ : ∃ w2, w2 = (((((((w1.setCell ⟨o, 0, none⟩ .nilFunc).setCell ⟨o, 2, none⟩ (.bool q)).setCell ⟨o, 3, none⟩ (.int .i64 x)).setCell ⟨o, 4, none⟩ (.int .i64 y)).setCell ⟨o, 5, none⟩ (.int .i64 z)).setCell ⟨o, 6, none⟩ (.int .i64 0)).setCell ⟨o, 1, none⟩ (.bool true)) := ⟨_, rfl⟩
  have hFs : Fr (fun k => k = o) w1 w2 := by
    rw [hw2]
    exact (((((((Fr.refl (fun k => k = o) w1).setCell (p := ⟨o, 0, none⟩) (.inl rfl) _).setCell (p := ⟨o, 2, none⟩) (.inl rfl) _).setCell (p := ⟨o, 3, none⟩) (.inl rfl) _).setCell (p := ⟨o, 4, none⟩) (.inl rfl) _).setCell (p := ⟨o, 5, none⟩) (.inl rfl) _).setCell (p := ⟨o, 6, none⟩) (.inl rfl) _).setCell (p := ⟨o, 1, none⟩) (.inl rfl) _
  have hO2 : Blk w2 o 67 (oc .nilFunc true q x y z) := by
    rw [hw2]
    have := ((((((HO1.out.set_ 0 .nilFunc).set_ 2 (.bool q)).set_ 3 (.int .i64 x)).set_ 4 (.int .i64 y)).set_ 5 (.int .i64 z)).set_ 6 (.int .i64 0)).set_ 1 (.bool true)
    simpa using this
  rw [← hw2]
  exact ⟨rfl, hO2, HA1.out.fr hFs (fun h => hoa h.symm), HM1.out.fr hFs (fun h => hop h.symm) (fun h => hos h.symm), (HF1.out.mono (fun _ h => .inr h)).trans (hFs.mono (fun _ h => .inl h))⟩

set_option maxHeartbeats 4000000 in
set_option maxRecDepth 100000 in
theorem move_go (w : World) (o a p s : Nat) (t : TypeId) (cs : Array Value) (m : List Int) (b : Nat) (f : FuncId) (hf : Own f) (g : FuncId) (q0 : Bool) (x0 y0 z0 : Int) (hO : Blk w o 67 (oc (mv f a) false q0 x0 y0 z0)) (q : Bool) (x y z : Int)
    (hc : Calls Try.prog f #[.pointer (some ⟨a, 0, none⟩), .pointer (some ⟨p, 0, none⟩)] w (MvP w a p s t cs m b (mv g a) (.agg #[.bool q, .int .i64 x, .int .i64 y, .int .i64 z]))) (hoa : o ≠ a) (hop : o ≠ p) (hos : o ≠ s) :
    Calls Try.prog 17 #[.pointer (some ⟨o, 0, none⟩), .pointer (some ⟨p, 0, none⟩)] w fun e w' => e = .returned (.bool false) ∧ Blk w' o 67 (oc (mv g a) false q x y z) ∧ Blk w' a t cs ∧ MI w' p s m (b + 1) ∧ Fr (Four o a p s) w w' := by
  have c0 : w.cell? ⟨o, 0, none⟩ = some (mv f a) := by rw [hO.cell]; rfl
  have hb1 : ∀ (g : FuncId) (W : World), (binOp .eql 65 (mv g a) .nilFunc).run Try.prog W = .ok (.bool false) W := fun _ _ => rfl
  have hb2 : ∀ W : World, (binOp .eql 65 .nilFunc .nilFunc).run Try.prog W = .ok (.bool true) W := fun _ => rfl
  have hcf := hf #[.pointer (some ⟨a, 0, none⟩), .pointer (some ⟨p, 0, none⟩)]
  have HC := Lib.hid hc
  have HO := Lib.hid hO
  clear hc hO hf
  go_enter Try.func17, Try.ntmps17
  go_wp2_with fail
  refine HC.out.mono ?_
  rintro e w1 ⟨rfl, hA1, hM1, hF1⟩
  have hO1 : Blk w1 o 67 (oc (mv f a) false q0 x0 y0 z0) := HO.out.fr hF1 (fun h => h.elim hoa (fun h => h.elim hop hos))
  have e0 : w1.cell? ⟨o, 0, none⟩ = some (mv f a) := by rw [hO1.cell]; rfl
  have e1 : w1.cell? ⟨o, 1, none⟩ = some (.bool false) := by rw [hO1.cell]; rfl
  have e2 : w1.cell? ⟨o, 2, none⟩ = some (.bool q0) := by rw [hO1.cell]; rfl
  have e3 : w1.cell? ⟨o, 3, none⟩ = some (.int .i64 x0) := by rw [hO1.cell]; rfl
  have e4 : w1.cell? ⟨o, 4, none⟩ = some (.int .i64 y0) := by rw [hO1.cell]; rfl
  have e5 : w1.cell? ⟨o, 5, none⟩ = some (.int .i64 z0) := by rw [hO1.cell]; rfl
  have e6 : w1.cell? ⟨o, 6, none⟩ = some (.int .i64 0) := by rw [hO1.cell]; rfl
  have f0 := hO1.frozen 0
  have f1 := hO1.frozen 1
  have f2 := hO1.frozen 2
  have f3 := hO1.frozen 3
  have f4 := hO1.frozen 4
  have f5 := hO1.frozen 5
  have f6 := hO1.frozen 6
  have HO1 := Lib.hid hO1
  have HA1 := Lib.hid hA1
  have HM1 := Lib.hid hM1
  have HF1 := Lib.hid hF1
  clear hO1 hA1 hM1 hF1
  go_wp2_with fail
  go_ret
  obtain ⟨w2, hw2⟩ : ∃ w2, w2 = (((((((w1.setCell ⟨o, 0, none⟩ (mv g a)).setCell ⟨o, 2, none⟩ (.bool q)).setCell ⟨o, 3, none⟩ (.int .i64 x)).setCell ⟨o, 4, none⟩ (.int .i64 y)).setCell ⟨o, 5, none⟩ (.int .i64 z)).setCell ⟨o, 6, none⟩ (.int .i64 0)).setCell ⟨o, 1, none⟩ (.bool false)) := ⟨_, rfl⟩
  have hFs : Fr (fun k => k = o) w1 w2 := by
    rw [hw2]
    exact (((((((Fr.refl (fun k => k = o) w1).setCell (p := ⟨o, 0, none⟩) (.inl rfl) _).setCell (p := ⟨o, 2, none⟩) (.inl rfl) _).setCell (p := ⟨o, 3, none⟩) (.inl rfl) _).setCell (p := ⟨o, 4, none⟩) (.inl rfl) _).setCell (p := ⟨o, 5, none⟩) (.inl rfl) _).setCell (p := ⟨o, 6, none⟩) (.inl rfl) _).setCell (p := ⟨o, 1, none⟩) (.inl rfl) _
  have hO2 : Blk w2 o 67 (oc (mv g a) false q x y z) := by
    rw [hw2]
    have := ((((((HO1.out.set_ 0 (mv g a)).set_ 2 (.bool q)).set_ 3 (.int .i64 x)).set_ 4 (.int .i64 y)).set_ 5 (.int .i64 z)).set_ 6 (.int .i64 0)).set_ 1 (.bool false)
    simpa using this
  rw [← hw2]
  exact ⟨rfl, hO2, HA1.out.fr hFs (fun h => hoa h.symm), HM1.out.fr hFs (fun h => hop h.symm) (fun h => hos h.symm), (HF1.out.mono (fun _ h => .inr h)).trans (hFs.mono (fun _ h => .inl h))⟩

set_option maxHeartbeats 1000000 in
theorem move_over (w : World) (o p : Nat) (c : Array Value) (hO : Blk w o 67 c) (h0 : c[0]? = some .nilFunc) : Calls Try.prog 17 #[.pointer (some ⟨o, 0, none⟩), .pointer (some ⟨p, 0, none⟩)] w fun e w' => e = .returned (.bool true) ∧ w' = w := by
  have c0 : w.cell? ⟨o, 0, none⟩ = some .nilFunc := by rw [hO.cell]; exact h0
  have hb2 : ∀ W : World, (binOp .eql 65 .nilFunc .nilFunc).run Try.prog W = .ok (.bool true) W := fun _ => rfl
  go_enter Try.func17, Try.ntmps17
  go_wp2_with fail
  go_ret
  exact ⟨rfl, rfl⟩
set_option maxHeartbeats 1000000 in
theorem end_yes (w : World) (o : Nat) (nx : Value) (q : Bool) (x y z : Int) (hO : Blk w o 67 (oc nx true q x y z)) : Calls Try.prog 11 #[.pointer (some ⟨o, 0, none⟩)] w fun e w' => e = .returned (.tuple #[.agg #[.bool q, .int .i64 x, .int .i64 y, .int .i64 z], .int .i64 0]) ∧ Fr (fun _ => False) w w' := by
  have hO0 : Blk (w.alloc (.cells #[.bool false, .int .i64 0, .int .i64 0, .int .i64 0] 45)) o 67 (oc nx true q x y z) := hO.alloc _
  have hol := hO.lt
  have e1 : (w.alloc (.cells #[.bool false, .int .i64 0, .int .i64 0, .int .i64 0] 45)).cell? ⟨o, 1, none⟩ = some (.bool true) := by rw [hO0.cell]; rfl
  have e2 : (w.alloc (.cells #[.bool false, .int .i64 0, .int .i64 0, .int .i64 0] 45)).cell? ⟨o, 2, none⟩ = some (.bool q) := by rw [hO0.cell]; rfl
  have e3 : (w.alloc (.cells #[.bool false, .int .i64 0, .int .i64 0, .int .i64 0] 45)).cell? ⟨o, 3, none⟩ = some (.int .i64 x) := by rw [hO0.cell]; rfl
  have e4 : (w.alloc (.cells #[.bool false, .int .i64 0, .int .i64 0, .int .i64 0] 45)).cell? ⟨o, 4, none⟩ = some (.int .i64 y) := by rw [hO0.cell]; rfl
  have e5 : (w.alloc (.cells #[.bool false, .int .i64 0, .int .i64 0, .int .i64 0] 45)).cell? ⟨o, 5, none⟩ = some (.int .i64 z) := by rw [hO0.cell]; rfl
  have e6 : (w.alloc (.cells #[.bool false, .int .i64 0, .int .i64 0, .int .i64 0] 45)).cell? ⟨o, 6, none⟩ = some (.int .i64 0) := by rw [hO0.cell]; rfl
  have d1 : w.cell? ⟨o, 1, none⟩ = some (.bool true) := by rw [hO.cell]; rfl
  have d2 : w.cell? ⟨o, 2, none⟩ = some (.bool q) := by rw [hO.cell]; rfl
  have d3 : w.cell? ⟨o, 3, none⟩ = some (.int .i64 x) := by rw [hO.cell]; rfl
  have d4 : w.cell? ⟨o, 4, none⟩ = some (.int .i64 y) := by rw [hO.cell]; rfl
  have d5 : w.cell? ⟨o, 5, none⟩ = some (.int .i64 z) := by rw [hO.cell]; rfl
  have d6 : w.cell? ⟨o, 6, none⟩ = some (.int .i64 0) := by rw [hO.cell]; rfl
  clear hO hO0
  go_enter Try.func11, Try.ntmps11
  go_wp2_with fail
  go_region
  go_wp2_with fail
  (try simp only [Exit.inBlock, Exit.then])
  refine bodyPost_ret (results_ct rfl _ _ rfl (load_end (Blk.drew (Blk.new _ _ _)))) rfl ?_
  exact ⟨rfl, ((Fr.refl _ _).alloc _).drew⟩
set_option maxHeartbeats 1000000 in
theorem end_no (w : World) (o : Nat) (nx : Value) (q : Bool) (x y z : Int) (hO : Blk w o 67 (oc nx false q x y z)) : Calls Try.prog 11 #[.pointer (some ⟨o, 0, none⟩)] w fun e w' => e = .returned (.tuple #[end0, .int .i64 11]) ∧ Fr (fun _ => False) w w' := by
  have hO0 : Blk (w.alloc (.cells #[.bool false, .int .i64 0, .int .i64 0, .int .i64 0] 45)) o 67 (oc nx false q x y z) := hO.alloc _
  have e1 : (w.alloc (.cells #[.bool false, .int .i64 0, .int .i64 0, .int .i64 0] 45)).cell? ⟨o, 1, none⟩ = some (.bool false) := by rw [hO0.cell]; rfl
  clear hO hO0
  go_enter Try.func11, Try.ntmps11
  go_wp2_with fail
  (try simp only [Exit.inBlock, Exit.then])
  refine bodyPost_ret (results_ct rfl _ _ rfl (load_end (Blk.new _ _ _))) rfl ?_
  exact ⟨rfl, (Fr.refl _ _).alloc _⟩
theorem end_nil (w : World) : Calls Try.prog 11 #[.pointer none] w fun e w' => e = .returned (.tuple #[end0, .int .i64 11]) ∧ Fr (fun _ => False) w w' := by
  go_enter Try.func11, Try.ntmps11
  go_wp2_with fail
  (try simp only [Exit.inBlock, Exit.then])
  refine bodyPost_ret (results_ct rfl _ _ rfl (load_end (Blk.new _ _ _))) rfl ?_
  exact ⟨rfl, (Fr.refl _ _).alloc _⟩
theorem move_nil (w : World) (p : Value) : Calls Try.prog 17 #[.pointer none, p] w fun e w' => e = .returned (.bool true) ∧ w' = w := by
  go_enter Try.func17, Try.ntmps17
  go_wp2_with fail
  go_ret
  exact ⟨rfl, rfl⟩
end Go.Proofs.Ytldcffgjkfocoaa
