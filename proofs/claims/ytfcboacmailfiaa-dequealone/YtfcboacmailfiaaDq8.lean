/-
  Package deque: the first move of an operation, which goes by its kind's rules.
-/
import Derived.Test.YtfcboacmailfiaaDq7
import Derived.Laws.EntriesVeiled
namespace Go.Proofs.Ytfcboacmailfiaa
open Go.RowKit

/-- The first move, as a value. -/
abbrev mv1 (m : String) (ty : TypeId) (o : Nat) : Value := .func (.method m) #[.iface ty (.agg #[.pointer (some ⟨o, 0, none⟩)])] #[]
/-- Which function a kind's rule is. -/
def Rule (m : String) (ty : TypeId) (f : FuncId) : Prop := ∀ (x : Value) (W : World), (method 224 ty x m).run Try.prog W = .ok (f, x) W

set_option maxHeartbeats 4000000 in
set_option maxRecDepth 100000 in
theorem begin_end (w : World) (o p s : Nat) (v v' : OpV) (ws' : List (Bool × Int)) (b : Nat) (hO : OpAt w o v) (f : FuncId) (hf : Own f) (m : String) (ty : TypeId) (hr : Rule m ty f) (hn : v.next = mv1 m ty o) (er : Int)
    (hc : Calls Try.prog f #[.agg #[.pointer (some ⟨o, 0, none⟩)], .pointer (some ⟨p, 0, none⟩)] w (MvP w o p s v' ws' b .nilFunc er)) :
    Calls Try.prog 22 #[.pointer (some ⟨o, 0, none⟩), .pointer (some ⟨p, 0, none⟩)] w (MovedP w o p s { v' with next := .nilFunc, how := er, ended := true } ws' (b + 1) true) := by
  have c3 : w.cell? ⟨o, 3, none⟩ = some (mv1 m ty o) := by rw [← hn]; rw [Blk.cell hO]; rfl
  have hb1 : ∀ (g : FuncId) (W : World), (binOp .eql 76 (mv g o) .nilFunc).run Try.prog W = .ok (.bool false) W := fun _ _ => by kernel_rfl
  have hb3 : ∀ (W : World), (binOp .eql 76 (mv1 m ty o) .nilFunc).run Try.prog W = .ok (.bool false) W := fun _ => rfl
  have hmt := hr (.agg #[.pointer (some ⟨o, 0, none⟩)])
  have hb2 : ∀ W : World, (binOp .eql 76 .nilFunc .nilFunc).run Try.prog W = .ok (.bool true) W := fun _ => rfl
  have hcf := hf #[.agg #[.pointer (some ⟨o, 0, none⟩)], .pointer (some ⟨p, 0, none⟩)]
  have HC := Lib.hid hc
  clear hc hn hf hr
  go_enter Try.func22, Try.ntmps22
  go_wp2_with fail
  refine HC.out.mono ?_
  rintro e w1 ⟨rfl, hO1, hM1, hF1⟩
  have e3 : w1.cell? ⟨o, 3, none⟩ = some v'.next := by rw [Blk.cell hO1]; rfl
  have e5 : w1.cell? ⟨o, 5, none⟩ = some (.bool v'.ended) := by rw [Blk.cell hO1]; rfl
  have e6 : w1.cell? ⟨o, 6, none⟩ = some (.int .i64 v'.how) := by rw [Blk.cell hO1]; rfl
  have f3 := Blk.frozen hO1 3
  have f5 := Blk.frozen hO1 5
  have f6 := Blk.frozen hO1 6
  obtain ⟨h1, h2⟩ := hO1.ne hM1
  have HO1 := Lib.hid hO1
  have HM1 := Lib.hid hM1
  have HF1 := Lib.hid hF1
  clear hO1 hM1 hF1
  go_wp2_with fail
  go_ret
  have hFs : Fr (fun k => k = o) w1 (((w1.setCell ⟨o, 3, none⟩ (.nilFunc)).setCell ⟨o, 6, none⟩ (.int .i64 er)).setCell ⟨o, 5, none⟩ (.bool true)) := (((Fr.refl (fun k => k = o) w1).setCell (p := ⟨o, 3, none⟩) (.inl rfl) _).setCell (p := ⟨o, 6, none⟩) (.inl rfl) _).setCell (p := ⟨o, 5, none⟩) (.inl rfl) _
  exact ⟨rfl, Blk.set_ (Blk.set_ (Blk.set_ HO1.out 3 _) 6 _) 5 _, HM1.out.fr hFs (fun h => h1 h.symm) (fun h => h2 h.symm), HF1.out.trans (hFs.mono (fun _ h => .inl h))⟩


set_option maxHeartbeats 4000000 in
set_option maxRecDepth 100000 in
theorem begin_go (w : World) (o p s : Nat) (v v' : OpV) (ws' : List (Bool × Int)) (b : Nat) (hO : OpAt w o v) (f : FuncId) (hf : Own f) (g : FuncId) (m : String) (ty : TypeId) (hr : Rule m ty f) (hn : v.next = mv1 m ty o) (er : Int)
    (hc : Calls Try.prog f #[.agg #[.pointer (some ⟨o, 0, none⟩)], .pointer (some ⟨p, 0, none⟩)] w (MvP w o p s v' ws' b (mv g o) er)) :
    Calls Try.prog 22 #[.pointer (some ⟨o, 0, none⟩), .pointer (some ⟨p, 0, none⟩)] w (MovedP w o p s { v' with next := (mv g o), how := er, ended := false } ws' (b + 1) false) := by
  have c3 : w.cell? ⟨o, 3, none⟩ = some (mv1 m ty o) := by rw [← hn]; rw [Blk.cell hO]; rfl
  have hb1 : ∀ (g : FuncId) (W : World), (binOp .eql 76 (mv g o) .nilFunc).run Try.prog W = .ok (.bool false) W := fun _ _ => by kernel_rfl
  have hb3 : ∀ (W : World), (binOp .eql 76 (mv1 m ty o) .nilFunc).run Try.prog W = .ok (.bool false) W := fun _ => rfl
  have hmt := hr (.agg #[.pointer (some ⟨o, 0, none⟩)])
  have hb2 : ∀ W : World, (binOp .eql 76 .nilFunc .nilFunc).run Try.prog W = .ok (.bool true) W := fun _ => rfl
  have hcf := hf #[.agg #[.pointer (some ⟨o, 0, none⟩)], .pointer (some ⟨p, 0, none⟩)]
  have HC := Lib.hid hc
  clear hc hn hf hr
  go_enter Try.func22, Try.ntmps22
  go_wp2_with fail
  refine HC.out.mono ?_
  rintro e w1 ⟨rfl, hO1, hM1, hF1⟩
  have e3 : w1.cell? ⟨o, 3, none⟩ = some v'.next := by rw [Blk.cell hO1]; rfl
  have e5 : w1.cell? ⟨o, 5, none⟩ = some (.bool v'.ended) := by rw [Blk.cell hO1]; rfl
  have e6 : w1.cell? ⟨o, 6, none⟩ = some (.int .i64 v'.how) := by rw [Blk.cell hO1]; rfl
  have f3 := Blk.frozen hO1 3
  have f5 := Blk.frozen hO1 5
  have f6 := Blk.frozen hO1 6
  obtain ⟨h1, h2⟩ := hO1.ne hM1
  have HO1 := Lib.hid hO1
  have HM1 := Lib.hid hM1
  have HF1 := Lib.hid hF1
  clear hO1 hM1 hF1
  go_wp2_with fail
  go_ret
  have hFs : Fr (fun k => k = o) w1 (((w1.setCell ⟨o, 3, none⟩ ((mv g o))).setCell ⟨o, 6, none⟩ (.int .i64 er)).setCell ⟨o, 5, none⟩ (.bool false)) := (((Fr.refl (fun k => k = o) w1).setCell (p := ⟨o, 3, none⟩) (.inl rfl) _).setCell (p := ⟨o, 6, none⟩) (.inl rfl) _).setCell (p := ⟨o, 5, none⟩) (.inl rfl) _
  exact ⟨rfl, Blk.set_ (Blk.set_ (Blk.set_ HO1.out 3 _) 6 _) 5 _, HM1.out.fr hFs (fun h => h1 h.symm) (fun h => h2 h.symm), HF1.out.trans (hFs.mono (fun _ h => .inl h))⟩

theorem ex_push_rule : Rule "haymow/deque.push" 94 61 := fun _ _ => by kernel_rfl
theorem ex_push_own : Own 61 := fun _ _ => by kernel_rfl
theorem ex_pop_rule : Rule "haymow/deque.pop" 94 60 := fun _ _ => by kernel_rfl
theorem ex_pop_own : Own 60 := fun _ _ => by kernel_rfl
theorem ex_steal_rule : Rule "haymow/deque.steal" 94 62 := fun _ _ => by kernel_rfl
theorem ex_steal_own : Own 62 := fun _ _ => by kernel_rfl
theorem la_push_rule : Rule "haymow/deque.push" 95 89 := fun _ _ => by kernel_rfl
theorem la_push_own : Own 89 := fun _ _ => by kernel_rfl
theorem la_pop_rule : Rule "haymow/deque.pop" 95 88 := fun _ _ => by kernel_rfl
theorem la_pop_own : Own 88 := fun _ _ => by kernel_rfl
theorem la_steal_rule : Rule "haymow/deque.steal" 95 90 := fun _ _ => by kernel_rfl
theorem la_steal_own : Own 90 := fun _ _ => by kernel_rfl
theorem fi_push_rule : Rule "haymow/deque.push" 96 98 := fun _ _ => by kernel_rfl
theorem fi_push_own : Own 98 := fun _ _ => by kernel_rfl
theorem fi_pop_rule : Rule "haymow/deque.pop" 96 97 := fun _ _ => by kernel_rfl
theorem fi_pop_own : Own 97 := fun _ _ => by kernel_rfl
theorem fi_steal_rule : Rule "haymow/deque.steal" 96 99 := fun _ _ => by kernel_rfl
theorem fi_steal_own : Own 99 := fun _ _ => by kernel_rfl
theorem ex_pushFills_own : Own 66 := fun _ _ => by kernel_rfl
theorem ex_pushEnds_own : Own 72 := fun _ _ => by kernel_rfl
theorem ex_popLowers_own : Own 65 := fun _ _ => by kernel_rfl
theorem ex_popFinds_own : Own 70 := fun _ _ => by kernel_rfl
theorem ex_popLooks_own : Own 78 := fun _ _ => by kernel_rfl
theorem ex_popClears_own : Own 81 := fun _ _ => by kernel_rfl
theorem ex_popRaces_own : Own 83 := fun _ _ => by kernel_rfl
theorem ex_popLost_own : Own 84 := fun _ _ => by kernel_rfl
theorem ex_stealLooks_own : Own 68 := fun _ _ => by kernel_rfl
theorem ex_stealFinds_own : Own 75 := fun _ _ => by kernel_rfl
theorem ex_stealRaces_own : Own 80 := fun _ _ => by kernel_rfl
theorem la_pushFills_own : Own 93 := fun _ _ => by kernel_rfl
theorem la_pushEnds_own : Own 96 := fun _ _ => by kernel_rfl
theorem la_popEnds_own : Own 91 := fun _ _ => by kernel_rfl
theorem la_stealRaces_own : Own 94 := fun _ _ => by kernel_rfl
theorem la_takeLooks_own : Own 92 := fun _ _ => by kernel_rfl
theorem la_takeFinds_own : Own 95 := fun _ _ => by kernel_rfl
theorem fi_pushLooks_own : Own 102 := fun _ _ => by kernel_rfl
theorem fi_pushFills_own : Own 105 := fun _ _ => by kernel_rfl
theorem fi_pushEnds_own : Own 106 := fun _ _ => by kernel_rfl
theorem fi_popEnds_own : Own 100 := fun _ _ => by kernel_rfl
theorem fi_stealRaces_own : Own 103 := fun _ _ => by kernel_rfl
theorem fi_takeLooks_own : Own 101 := fun _ _ => by kernel_rfl
theorem fi_takeFinds_own : Own 104 := fun _ _ => by kernel_rfl
end Go.Proofs.Ytfcboacmailfiaa
