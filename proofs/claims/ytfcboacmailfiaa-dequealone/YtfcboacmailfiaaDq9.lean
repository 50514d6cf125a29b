/-
  Package deque: how an operation begins, and how it ended; which deques there are.
-/
import Derived.Test.YtfcboacmailfiaaDq8
namespace Go.Proofs.Ytfcboacmailfiaa
open Go.RowKit

set_option maxHeartbeats 2000000 in
theorem ex_rules (w : World) (o : Nat) (h : w.cell? ⟨o, 0, none⟩ = some (.int .i64 1)) : Calls Try.prog 39 #[.pointer (some ⟨o, 0, none⟩)] w fun e w' => e = .returned (.iface 94 (.agg #[.pointer (some ⟨o, 0, none⟩)])) ∧ w' = w := by
  go_enter Try.func39, Try.ntmps39
  go_wp2_with fail
  go_ret
  exact ⟨rfl, rfl⟩
set_option maxHeartbeats 2000000 in
theorem la_rules (w : World) (o : Nat) (h : w.cell? ⟨o, 0, none⟩ = some (.int .i64 2)) : Calls Try.prog 39 #[.pointer (some ⟨o, 0, none⟩)] w fun e w' => e = .returned (.iface 95 (.agg #[.pointer (some ⟨o, 0, none⟩)])) ∧ w' = w := by
  go_enter Try.func39, Try.ntmps39
  go_wp2_with fail
  go_ret
  exact ⟨rfl, rfl⟩
set_option maxHeartbeats 2000000 in
theorem fi_rules (w : World) (o : Nat) (h : w.cell? ⟨o, 0, none⟩ = some (.int .i64 3)) : Calls Try.prog 39 #[.pointer (some ⟨o, 0, none⟩)] w fun e w' => e = .returned (.iface 96 (.agg #[.pointer (some ⟨o, 0, none⟩)])) ∧ w' = w := by
  go_enter Try.func39, Try.ntmps39
  go_wp2_with fail
  go_ret
  exact ⟨rfl, rfl⟩
theorem opens_push (w : World) (ty : TypeId) (x : Value) : Calls Try.prog 30 #[.iface ty x] w fun e w' => e = .returned (.func (.method "haymow/deque.push") #[.iface ty x] #[]) ∧ w' = w := by
  have hmf := mf_any
  go_enter Try.func30, Try.ntmps30
  go_wp2_with fail
  go_ret
  exact ⟨rfl, rfl⟩
theorem opens_pop (w : World) (ty : TypeId) (x : Value) : Calls Try.prog 31 #[.iface ty x] w fun e w' => e = .returned (.func (.method "haymow/deque.pop") #[.iface ty x] #[]) ∧ w' = w := by
  have hmf := mf_any
  go_enter Try.func31, Try.ntmps31
  go_wp2_with fail
  go_ret
  exact ⟨rfl, rfl⟩
theorem opens_steal (w : World) (ty : TypeId) (x : Value) : Calls Try.prog 32 #[.iface ty x] w fun e w' => e = .returned (.func (.method "haymow/deque.steal") #[.iface ty x] #[]) ∧ w' = w := by
  have hmf := mf_any
  go_enter Try.func32, Try.ntmps32
  go_wp2_with fail
  go_ret
  exact ⟨rfl, rfl⟩
set_option maxHeartbeats 4000000 in
set_option maxRecDepth 100000 in
theorem ex_begin_push (w : World) (base room : Int) (x : Int) : Calls Try.prog 29 #[.agg #[.int .i64 1, .int .i64 base, .int .i64 room], .agg #[.int .i64 0, .int .i64 0, .int .i64 0, .nilFunc, .nilFunc, .bool false, .int .i64 0, .bool false, .int .i64 x, .int .i64 0, .int .i64 0], .func (.func 30) #[] #[]] w fun e w' => e = .returned (.pointer (some ⟨w.heap.size + 1, 0, none⟩)) ∧ OpAt w' (w.heap.size + 1) ⟨1, base, room, mv1 "haymow/deque.push" 94 (w.heap.size + 1), .nilFunc, false, 0, false, x, 0, 0⟩ ∧ Fr (fun _ => False) w w' := by
  have hb1 : ∀ (x : Value) (W : World), (binOp .eql 80 (.iface 94 x) .nilIface).run Try.prog W = .ok (.bool false) W := fun _ _ => rfl
  go_enter Try.func29, Try.ntmps29
  go_wp2_with fail
  refine (ex_rules _ (w.heap.size + 1) (by simp)).mono ?_
  rintro e w1 ⟨rfl, rfl⟩
  go_wp2_with fail
  refine (opens_push _ 94 _).mono ?_
  rintro e w1 ⟨rfl, rfl⟩
  go_wp2_with fail
  go_ret
  refine ⟨rfl, ?_, ((Fr.refl _ _).alloc _).alloc _⟩
  have := Blk.new (w.alloc (.cells #[.int .i64 1, .int .i64 base, .int .i64 room] 36)) 78 #[.int .i64 1, .int .i64 base, .int .i64 room, (mv1 "haymow/deque.push" 94 (w.heap.size + 1)), .nilFunc, .bool false, .int .i64 0, .bool false, .int .i64 x, .int .i64 0, .int .i64 0]
  rw [show (w.alloc (.cells #[.int .i64 1, .int .i64 base, .int .i64 room] 36)).heap.size = w.heap.size + 1 by simp] at this
  exact this
set_option maxHeartbeats 4000000 in
theorem ex_Push (w : World) (base room : Int) (x : Int) : Calls Try.prog 19 #[.agg #[.int .i64 1, .int .i64 base, .int .i64 room], .int .i64 x] w fun e w' => e = .returned (.pointer (some ⟨w.heap.size + 2, 0, none⟩)) ∧ OpAt w' (w.heap.size + 2) ⟨1, base, room, mv1 "haymow/deque.push" 94 (w.heap.size + 2), .nilFunc, false, 0, false, x, 0, 0⟩ ∧ Fr (fun _ => False) w w' := by
  have hbg := ex_begin_push (w.alloc (.cells #[.int .i64 1, .int .i64 base, .int .i64 room] 36)) base room x
  rw [show (w.alloc (.cells #[.int .i64 1, .int .i64 base, .int .i64 room] 36)).heap.size + 1 = w.heap.size + 2 by simp] at hbg
  have HBG := Lib.hid hbg
  clear hbg
  go_enter Try.func19, Try.ntmps19
  go_wp2_with fail
  refine HBG.out.mono ?_
  rintro e w1 ⟨rfl, hO1, hF1⟩
  have HO1 := Lib.hid hO1
  have HF1 := Lib.hid (((Fr.refl (fun _ => False) w).alloc _).trans hF1)
  clear hO1 hF1
  go_wp2_with fail
  go_ret
  exact ⟨rfl, HO1.out, HF1.out⟩
set_option maxHeartbeats 4000000 in
set_option maxRecDepth 100000 in
theorem ex_begin_pop (w : World) (base room : Int) : Calls Try.prog 29 #[.agg #[.int .i64 1, .int .i64 base, .int .i64 room], .agg #[.int .i64 0, .int .i64 0, .int .i64 0, .nilFunc, .nilFunc, .bool false, .int .i64 0, .bool true, .int .i64 0, .int .i64 0, .int .i64 0], .func (.func 31) #[] #[]] w fun e w' => e = .returned (.pointer (some ⟨w.heap.size + 1, 0, none⟩)) ∧ OpAt w' (w.heap.size + 1) ⟨1, base, room, mv1 "haymow/deque.pop" 94 (w.heap.size + 1), .nilFunc, false, 0, true, 0, 0, 0⟩ ∧ Fr (fun _ => False) w w' := by
  have hb1 : ∀ (x : Value) (W : World), (binOp .eql 80 (.iface 94 x) .nilIface).run Try.prog W = .ok (.bool false) W := fun _ _ => rfl
  go_enter Try.func29, Try.ntmps29
  go_wp2_with fail
  refine (ex_rules _ (w.heap.size + 1) (by simp)).mono ?_
  rintro e w1 ⟨rfl, rfl⟩
  go_wp2_with fail
  refine (opens_pop _ 94 _).mono ?_
  rintro e w1 ⟨rfl, rfl⟩
  go_wp2_with fail
  go_ret
  refine ⟨rfl, ?_, ((Fr.refl _ _).alloc _).alloc _⟩
  have := Blk.new (w.alloc (.cells #[.int .i64 1, .int .i64 base, .int .i64 room] 36)) 78 #[.int .i64 1, .int .i64 base, .int .i64 room, (mv1 "haymow/deque.pop" 94 (w.heap.size + 1)), .nilFunc, .bool false, .int .i64 0, .bool true, .int .i64 0, .int .i64 0, .int .i64 0]
  rw [show (w.alloc (.cells #[.int .i64 1, .int .i64 base, .int .i64 room] 36)).heap.size = w.heap.size + 1 by simp] at this
  exact this
set_option maxHeartbeats 4000000 in
theorem ex_Pop (w : World) (base room : Int) : Calls Try.prog 20 #[.agg #[.int .i64 1, .int .i64 base, .int .i64 room]] w fun e w' => e = .returned (.pointer (some ⟨w.heap.size + 2, 0, none⟩)) ∧ OpAt w' (w.heap.size + 2) ⟨1, base, room, mv1 "haymow/deque.pop" 94 (w.heap.size + 2), .nilFunc, false, 0, true, 0, 0, 0⟩ ∧ Fr (fun _ => False) w w' := by
  have hbg := ex_begin_pop (w.alloc (.cells #[.int .i64 1, .int .i64 base, .int .i64 room] 36)) base room
  rw [show (w.alloc (.cells #[.int .i64 1, .int .i64 base, .int .i64 room] 36)).heap.size + 1 = w.heap.size + 2 by simp] at hbg
  have HBG := Lib.hid hbg
  clear hbg
  go_enter Try.func20, Try.ntmps20
  go_wp2_with fail
  refine HBG.out.mono ?_
  rintro e w1 ⟨rfl, hO1, hF1⟩
  have HO1 := Lib.hid hO1
  have HF1 := Lib.hid (((Fr.refl (fun _ => False) w).alloc _).trans hF1)
  clear hO1 hF1
  go_wp2_with fail
  go_ret
  exact ⟨rfl, HO1.out, HF1.out⟩
set_option maxHeartbeats 4000000 in
set_option maxRecDepth 100000 in
theorem ex_begin_steal (w : World) (base room : Int) : Calls Try.prog 29 #[.agg #[.int .i64 1, .int .i64 base, .int .i64 room], .agg #[.int .i64 0, .int .i64 0, .int .i64 0, .nilFunc, .nilFunc, .bool false, .int .i64 0, .bool true, .int .i64 0, .int .i64 0, .int .i64 0], .func (.func 32) #[] #[]] w fun e w' => e = .returned (.pointer (some ⟨w.heap.size + 1, 0, none⟩)) ∧ OpAt w' (w.heap.size + 1) ⟨1, base, room, mv1 "haymow/deque.steal" 94 (w.heap.size + 1), .nilFunc, false, 0, true, 0, 0, 0⟩ ∧ Fr (fun _ => False) w w' := by
  have hb1 : ∀ (x : Value) (W : World), (binOp .eql 80 (.iface 94 x) .nilIface).run Try.prog W = .ok (.bool false) W := fun _ _ => rfl
  go_enter Try.func29, Try.ntmps29
  go_wp2_with fail
  refine (ex_rules _ (w.heap.size + 1) (by simp)).mono ?_
  rintro e w1 ⟨rfl, rfl⟩
  go_wp2_with fail
  refine (opens_steal _ 94 _).mono ?_
  rintro e w1 ⟨rfl, rfl⟩
  go_wp2_with fail
  go_ret
  refine ⟨rfl, ?_, ((Fr.refl _ _).alloc _).alloc _⟩
  have := Blk.new (w.alloc (.cells #[.int .i64 1, .int .i64 base, .int .i64 room] 36)) 78 #[.int .i64 1, .int .i64 base, .int .i64 room, (mv1 "haymow/deque.steal" 94 (w.heap.size + 1)), .nilFunc, .bool false, .int .i64 0, .bool true, .int .i64 0, .int .i64 0, .int .i64 0]
  rw [show (w.alloc (.cells #[.int .i64 1, .int .i64 base, .int .i64 room] 36)).heap.size = w.heap.size + 1 by simp] at this
  exact this
set_option maxHeartbeats 4000000 in
theorem ex_Steal (w : World) (base room : Int) : Calls Try.prog 21 #[.agg #[.int .i64 1, .int .i64 base, .int .i64 room]] w fun e w' => e = .returned (.pointer (some ⟨w.heap.size + 2, 0, none⟩)) ∧ OpAt w' (w.heap.size + 2) ⟨1, base, room, mv1 "haymow/deque.steal" 94 (w.heap.size + 2), .nilFunc, false, 0, true, 0, 0, 0⟩ ∧ Fr (fun _ => False) w w' := by
  have hbg := ex_begin_steal (w.alloc (.cells #[.int .i64 1, .int .i64 base, .int .i64 room] 36)) base room
  rw [show (w.alloc (.cells #[.int .i64 1, .int .i64 base, .int .i64 room] 36)).heap.size + 1 = w.heap.size + 2 by simp] at hbg
  have HBG := Lib.hid hbg
  clear hbg
  go_enter Try.func21, Try.ntmps21
  go_wp2_with fail
  refine HBG.out.mono ?_
  rintro e w1 ⟨rfl, hO1, hF1⟩
  have HO1 := Lib.hid hO1
  have HF1 := Lib.hid (((Fr.refl (fun _ => False) w).alloc _).trans hF1)
  clear hO1 hF1
  go_wp2_with fail
  go_ret
  exact ⟨rfl, HO1.out, HF1.out⟩
set_option maxHeartbeats 4000000 in
set_option maxRecDepth 100000 in
theorem la_begin_push (w : World) (base room : Int) (x : Int) : Calls Try.prog 29 #[.agg #[.int .i64 2, .int .i64 base, .int .i64 room], .agg #[.int .i64 0, .int .i64 0, .int .i64 0, .nilFunc, .nilFunc, .bool false, .int .i64 0, .bool false, .int .i64 x, .int .i64 0, .int .i64 0], .func (.func 30) #[] #[]] w fun e w' => e = .returned (.pointer (some ⟨w.heap.size + 1, 0, none⟩)) ∧ OpAt w' (w.heap.size + 1) ⟨2, base, room, mv1 "haymow/deque.push" 95 (w.heap.size + 1), .nilFunc, false, 0, false, x, 0, 0⟩ ∧ Fr (fun _ => False) w w' := by
  have hb1 : ∀ (x : Value) (W : World), (binOp .eql 80 (.iface 95 x) .nilIface).run Try.prog W = .ok (.bool false) W := fun _ _ => rfl
  go_enter Try.func29, Try.ntmps29
  go_wp2_with fail
  refine (la_rules _ (w.heap.size + 1) (by simp)).mono ?_
  rintro e w1 ⟨rfl, rfl⟩
  go_wp2_with fail
  refine (opens_push _ 95 _).mono ?_
  rintro e w1 ⟨rfl, rfl⟩
  go_wp2_with fail
  go_ret
  refine ⟨rfl, ?_, ((Fr.refl _ _).alloc _).alloc _⟩
  have := Blk.new (w.alloc (.cells #[.int .i64 2, .int .i64 base, .int .i64 room] 36)) 78 #[.int .i64 2, .int .i64 base, .int .i64 room, (mv1 "haymow/deque.push" 95 (w.heap.size + 1)), .nilFunc, .bool false, .int .i64 0, .bool false, .int .i64 x, .int .i64 0, .int .i64 0]
  rw [show (w.alloc (.cells #[.int .i64 2, .int .i64 base, .int .i64 room] 36)).heap.size = w.heap.size + 1 by simp] at this
  exact this
set_option maxHeartbeats 4000000 in
theorem la_Push (w : World) (base room : Int) (x : Int) : Calls Try.prog 19 #[.agg #[.int .i64 2, .int .i64 base, .int .i64 room], .int .i64 x] w fun e w' => e = .returned (.pointer (some ⟨w.heap.size + 2, 0, none⟩)) ∧ OpAt w' (w.heap.size + 2) ⟨2, base, room, mv1 "haymow/deque.push" 95 (w.heap.size + 2), .nilFunc, false, 0, false, x, 0, 0⟩ ∧ Fr (fun _ => False) w w' := by
  have hbg := la_begin_push (w.alloc (.cells #[.int .i64 2, .int .i64 base, .int .i64 room] 36)) base room x
  rw [show (w.alloc (.cells #[.int .i64 2, .int .i64 base, .int .i64 room] 36)).heap.size + 1 = w.heap.size + 2 by simp] at hbg
  have HBG := Lib.hid hbg
  clear hbg
  go_enter Try.func19, Try.ntmps19
  go_wp2_with fail
  refine HBG.out.mono ?_
  rintro e w1 ⟨rfl, hO1, hF1⟩
  have HO1 := Lib.hid hO1
  have HF1 := Lib.hid (((Fr.refl (fun _ => False) w).alloc _).trans hF1)
  clear hO1 hF1
  go_wp2_with fail
  go_ret
  exact ⟨rfl, HO1.out, HF1.out⟩
set_option maxHeartbeats 4000000 in
set_option maxRecDepth 100000 in
theorem la_begin_pop (w : World) (base room : Int) : Calls Try.prog 29 #[.agg #[.int .i64 2, .int .i64 base, .int .i64 room], .agg #[.int .i64 0, .int .i64 0, .int .i64 0, .nilFunc, .nilFunc, .bool false, .int .i64 0, .bool true, .int .i64 0, .int .i64 0, .int .i64 0], .func (.func 31) #[] #[]] w fun e w' => e = .returned (.pointer (some ⟨w.heap.size + 1, 0, none⟩)) ∧ OpAt w' (w.heap.size + 1) ⟨2, base, room, mv1 "haymow/deque.pop" 95 (w.heap.size + 1), .nilFunc, false, 0, true, 0, 0, 0⟩ ∧ Fr (fun _ => False) w w' := by
  have hb1 : ∀ (x : Value) (W : World), (binOp .eql 80 (.iface 95 x) .nilIface).run Try.prog W = .ok (.bool false) W := fun _ _ => rfl
  go_enter Try.func29, Try.ntmps29
  go_wp2_with fail
  refine (la_rules _ (w.heap.size + 1) (by simp)).mono ?_
  rintro e w1 ⟨rfl, rfl⟩
  go_wp2_with fail
  refine (opens_pop _ 95 _).mono ?_
  rintro e w1 ⟨rfl, rfl⟩
  go_wp2_with fail
  go_ret
  refine ⟨rfl, ?_, ((Fr.refl _ _).alloc _).alloc _⟩
  have := Blk.new (w.alloc (.cells #[.int .i64 2, .int .i64 base, .int .i64 room] 36)) 78 #[.int .i64 2, .int .i64 base, .int .i64 room, (mv1 "haymow/deque.pop" 95 (w.heap.size + 1)), .nilFunc, .bool false, .int .i64 0, .bool true, .int .i64 0, .int .i64 0, .int .i64 0]
  rw [show (w.alloc (.cells #[.int .i64 2, .int .i64 base, .int .i64 room] 36)).heap.size = w.heap.size + 1 by simp] at this
  exact this
set_option maxHeartbeats 4000000 in
theorem la_Pop (w : World) (base room : Int) : Calls Try.prog 20 #[.agg #[.int .i64 2, .int .i64 base, .int .i64 room]] w fun e w' => e = .returned (.pointer (some ⟨w.heap.size + 2, 0, none⟩)) ∧ OpAt w' (w.heap.size + 2) ⟨2, base, room, mv1 "haymow/deque.pop" 95 (w.heap.size + 2), .nilFunc, false, 0, true, 0, 0, 0⟩ ∧ Fr (fun _ => False) w w' := by
  have hbg := la_begin_pop (w.alloc (.cells #[.int .i64 2, .int .i64 base, .int .i64 room] 36)) base room
  rw [show (w.alloc (.cells #[.int .i64 2, .int .i64 base, .int .i64 room] 36)).heap.size + 1 = w.heap.size + 2 by simp] at hbg
  have HBG := Lib.hid hbg
  clear hbg
  go_enter Try.func20, Try.ntmps20
  go_wp2_with fail
  refine HBG.out.mono ?_
  rintro e w1 ⟨rfl, hO1, hF1⟩
  have HO1 := Lib.hid hO1
  have HF1 := Lib.hid (((Fr.refl (fun _ => False) w).alloc _).trans hF1)
  clear hO1 hF1
  go_wp2_with fail
  go_ret
  exact ⟨rfl, HO1.out, HF1.out⟩
set_option maxHeartbeats 4000000 in
set_option maxRecDepth 100000 in
theorem la_begin_steal (w : World) (base room : Int) : Calls Try.prog 29 #[.agg #[.int .i64 2, .int .i64 base, .int .i64 room], .agg #[.int .i64 0, .int .i64 0, .int .i64 0, .nilFunc, .nilFunc, .bool false, .int .i64 0, .bool true, .int .i64 0, .int .i64 0, .int .i64 0], .func (.func 32) #[] #[]] w fun e w' => e = .returned (.pointer (some ⟨w.heap.size + 1, 0, none⟩)) ∧ OpAt w' (w.heap.size + 1) ⟨2, base, room, mv1 "haymow/deque.steal" 95 (w.heap.size + 1), .nilFunc, false, 0, true, 0, 0, 0⟩ ∧ Fr (fun _ => False) w w' := by
  have hb1 : ∀ (x : Value) (W : World), (binOp .eql 80 (.iface 95 x) .nilIface).run Try.prog W = .ok (.bool false) W := fun _ _ => rfl
  go_enter Try.func29, Try.ntmps29
  go_wp2_with fail
  refine (la_rules _ (w.heap.size + 1) (by simp)).mono ?_
  rintro e w1 ⟨rfl, rfl⟩
  go_wp2_with fail
  refine (opens_steal _ 95 _).mono ?_
  rintro e w1 ⟨rfl, rfl⟩
  go_wp2_with fail
  go_ret
  refine ⟨rfl, ?_, ((Fr.refl _ _).alloc _).alloc _⟩
  have := Blk.new (w.alloc (.cells #[.int .i64 2, .int .i64 base, .int .i64 room] 36)) 78 #[.int .i64 2, .int .i64 base, .int .i64 room, (mv1 "haymow/deque.steal" 95 (w.heap.size + 1)), .nilFunc, .bool false, .int .i64 0, .bool true, .int .i64 0, .int .i64 0, .int .i64 0]
  rw [show (w.alloc (.cells #[.int .i64 2, .int .i64 base, .int .i64 room] 36)).heap.size = w.heap.size + 1 by simp] at this
  exact this
set_option maxHeartbeats 4000000 in
theorem la_Steal (w : World) (base room : Int) : Calls Try.prog 21 #[.agg #[.int .i64 2, .int .i64 base, .int .i64 room]] w fun e w' => e = .returned (.pointer (some ⟨w.heap.size + 2, 0, none⟩)) ∧ OpAt w' (w.heap.size + 2) ⟨2, base, room, mv1 "haymow/deque.steal" 95 (w.heap.size + 2), .nilFunc, false, 0, true, 0, 0, 0⟩ ∧ Fr (fun _ => False) w w' := by
  have hbg := la_begin_steal (w.alloc (.cells #[.int .i64 2, .int .i64 base, .int .i64 room] 36)) base room
  rw [show (w.alloc (.cells #[.int .i64 2, .int .i64 base, .int .i64 room] 36)).heap.size + 1 = w.heap.size + 2 by simp] at hbg
  have HBG := Lib.hid hbg
  clear hbg
  go_enter Try.func21, Try.ntmps21
  go_wp2_with fail
  refine HBG.out.mono ?_
  rintro e w1 ⟨rfl, hO1, hF1⟩
  have HO1 := Lib.hid hO1
  have HF1 := Lib.hid (((Fr.refl (fun _ => False) w).alloc _).trans hF1)
  clear hO1 hF1
  go_wp2_with fail
  go_ret
  exact ⟨rfl, HO1.out, HF1.out⟩
set_option maxHeartbeats 4000000 in
set_option maxRecDepth 100000 in
theorem fi_begin_push (w : World) (base room : Int) (x : Int) : Calls Try.prog 29 #[.agg #[.int .i64 3, .int .i64 base, .int .i64 room], .agg #[.int .i64 0, .int .i64 0, .int .i64 0, .nilFunc, .nilFunc, .bool false, .int .i64 0, .bool false, .int .i64 x, .int .i64 0, .int .i64 0], .func (.func 30) #[] #[]] w fun e w' => e = .returned (.pointer (some ⟨w.heap.size + 1, 0, none⟩)) ∧ OpAt w' (w.heap.size + 1) ⟨3, base, room, mv1 "haymow/deque.push" 96 (w.heap.size + 1), .nilFunc, false, 0, false, x, 0, 0⟩ ∧ Fr (fun _ => False) w w' := by
  have hb1 : ∀ (x : Value) (W : World), (binOp .eql 80 (.iface 96 x) .nilIface).run Try.prog W = .ok (.bool false) W := fun _ _ => rfl
  go_enter Try.func29, Try.ntmps29
  go_wp2_with fail
  refine (fi_rules _ (w.heap.size + 1) (by simp)).mono ?_
  rintro e w1 ⟨rfl, rfl⟩
  go_wp2_with fail
  refine (opens_push _ 96 _).mono ?_
  rintro e w1 ⟨rfl, rfl⟩
  go_wp2_with fail
  go_ret
  refine ⟨rfl, ?_, ((Fr.refl _ _).alloc _).alloc _⟩
  have := Blk.new (w.alloc (.cells #[.int .i64 3, .int .i64 base, .int .i64 room] 36)) 78 #[.int .i64 3, .int .i64 base, .int .i64 room, (mv1 "haymow/deque.push" 96 (w.heap.size + 1)), .nilFunc, .bool false, .int .i64 0, .bool false, .int .i64 x, .int .i64 0, .int .i64 0]
  rw [show (w.alloc (.cells #[.int .i64 3, .int .i64 base, .int .i64 room] 36)).heap.size = w.heap.size + 1 by simp] at this
  exact this
set_option maxHeartbeats 4000000 in
theorem fi_Push (w : World) (base room : Int) (x : Int) : Calls Try.prog 19 #[.agg #[.int .i64 3, .int .i64 base, .int .i64 room], .int .i64 x] w fun e w' => e = .returned (.pointer (some ⟨w.heap.size + 2, 0, none⟩)) ∧ OpAt w' (w.heap.size + 2) ⟨3, base, room, mv1 "haymow/deque.push" 96 (w.heap.size + 2), .nilFunc, false, 0, false, x, 0, 0⟩ ∧ Fr (fun _ => False) w w' := by
  have hbg := fi_begin_push (w.alloc (.cells #[.int .i64 3, .int .i64 base, .int .i64 room] 36)) base room x
  rw [show (w.alloc (.cells #[.int .i64 3, .int .i64 base, .int .i64 room] 36)).heap.size + 1 = w.heap.size + 2 by simp] at hbg
  have HBG := Lib.hid hbg
  clear hbg
  go_enter Try.func19, Try.ntmps19
  go_wp2_with fail
  refine HBG.out.mono ?_
  rintro e w1 ⟨rfl, hO1, hF1⟩
  have HO1 := Lib.hid hO1
  have HF1 := Lib.hid (((Fr.refl (fun _ => False) w).alloc _).trans hF1)
  clear hO1 hF1
  go_wp2_with fail
  go_ret
  exact ⟨rfl, HO1.out, HF1.out⟩
set_option maxHeartbeats 4000000 in
set_option maxRecDepth 100000 in
theorem fi_begin_pop (w : World) (base room : Int) : Calls Try.prog 29 #[.agg #[.int .i64 3, .int .i64 base, .int .i64 room], .agg #[.int .i64 0, .int .i64 0, .int .i64 0, .nilFunc, .nilFunc, .bool false, .int .i64 0, .bool true, .int .i64 0, .int .i64 0, .int .i64 0], .func (.func 31) #[] #[]] w fun e w' => e = .returned (.pointer (some ⟨w.heap.size + 1, 0, none⟩)) ∧ OpAt w' (w.heap.size + 1) ⟨3, base, room, mv1 "haymow/deque.pop" 96 (w.heap.size + 1), .nilFunc, false, 0, true, 0, 0, 0⟩ ∧ Fr (fun _ => False) w w' := by
  have hb1 : ∀ (x : Value) (W : World), (binOp .eql 80 (.iface 96 x) .nilIface).run Try.prog W = .ok (.bool false) W := fun _ _ => rfl
  go_enter Try.func29, Try.ntmps29
  go_wp2_with fail
  refine (fi_rules _ (w.heap.size + 1) (by simp)).mono ?_
  rintro e w1 ⟨rfl, rfl⟩
  go_wp2_with fail
  refine (opens_pop _ 96 _).mono ?_
  rintro e w1 ⟨rfl, rfl⟩
  go_wp2_with fail
  go_ret
  refine ⟨rfl, ?_, ((Fr.refl _ _).alloc _).alloc _⟩
  have := Blk.new (w.alloc (.cells #[.int .i64 3, .int .i64 base, .int .i64 room] 36)) 78 #[.int .i64 3, .int .i64 base, .int .i64 room, (mv1 "haymow/deque.pop" 96 (w.heap.size + 1)), .nilFunc, .bool false, .int .i64 0, .bool true, .int .i64 0, .int .i64 0, .int .i64 0]
  rw [show (w.alloc (.cells #[.int .i64 3, .int .i64 base, .int .i64 room] 36)).heap.size = w.heap.size + 1 by simp] at this
  exact this
set_option maxHeartbeats 4000000 in
theorem fi_Pop (w : World) (base room : Int) : Calls Try.prog 20 #[.agg #[.int .i64 3, .int .i64 base, .int .i64 room]] w fun e w' => e = .returned (.pointer (some ⟨w.heap.size + 2, 0, none⟩)) ∧ OpAt w' (w.heap.size + 2) ⟨3, base, room, mv1 "haymow/deque.pop" 96 (w.heap.size + 2), .nilFunc, false, 0, true, 0, 0, 0⟩ ∧ Fr (fun _ => False) w w' := by
  have hbg := fi_begin_pop (w.alloc (.cells #[.int .i64 3, .int .i64 base, .int .i64 room] 36)) base room
  rw [show (w.alloc (.cells #[.int .i64 3, .int .i64 base, .int .i64 room] 36)).heap.size + 1 = w.heap.size + 2 by simp] at hbg
  have HBG := Lib.hid hbg
  clear hbg
  go_enter Try.func20, Try.ntmps20
  go_wp2_with fail
  refine HBG.out.mono ?_
  rintro e w1 ⟨rfl, hO1, hF1⟩
  have HO1 := Lib.hid hO1
  have HF1 := Lib.hid (((Fr.refl (fun _ => False) w).alloc _).trans hF1)
  clear hO1 hF1
  go_wp2_with fail
  go_ret
  exact ⟨rfl, HO1.out, HF1.out⟩
set_option maxHeartbeats 4000000 in
set_option maxRecDepth 100000 in
theorem fi_begin_steal (w : World) (base room : Int) : Calls Try.prog 29 #[.agg #[.int .i64 3, .int .i64 base, .int .i64 room], .agg #[.int .i64 0, .int .i64 0, .int .i64 0, .nilFunc, .nilFunc, .bool false, .int .i64 0, .bool true, .int .i64 0, .int .i64 0, .int .i64 0], .func (.func 32) #[] #[]] w fun e w' => e = .returned (.pointer (some ⟨w.heap.size + 1, 0, none⟩)) ∧ OpAt w' (w.heap.size + 1) ⟨3, base, room, mv1 "haymow/deque.steal" 96 (w.heap.size + 1), .nilFunc, false, 0, true, 0, 0, 0⟩ ∧ Fr (fun _ => False) w w' := by
  have hb1 : ∀ (x : Value) (W : World), (binOp .eql 80 (.iface 96 x) .nilIface).run Try.prog W = .ok (.bool false) W := fun _ _ => rfl
  go_enter Try.func29, Try.ntmps29
  go_wp2_with fail
  refine (fi_rules _ (w.heap.size + 1) (by simp)).mono ?_
  rintro e w1 ⟨rfl, rfl⟩
  go_wp2_with fail
  refine (opens_steal _ 96 _).mono ?_
  rintro e w1 ⟨rfl, rfl⟩
  go_wp2_with fail
  go_ret
  refine ⟨rfl, ?_, ((Fr.refl _ _).alloc _).alloc _⟩
  have := Blk.new (w.alloc (.cells #[.int .i64 3, .int .i64 base, .int .i64 room] 36)) 78 #[.int .i64 3, .int .i64 base, .int .i64 room, (mv1 "haymow/deque.steal" 96 (w.heap.size + 1)), .nilFunc, .bool false, .int .i64 0, .bool true, .int .i64 0, .int .i64 0, .int .i64 0]
  rw [show (w.alloc (.cells #[.int .i64 3, .int .i64 base, .int .i64 room] 36)).heap.size = w.heap.size + 1 by simp] at this
  exact this
set_option maxHeartbeats 4000000 in
theorem fi_Steal (w : World) (base room : Int) : Calls Try.prog 21 #[.agg #[.int .i64 3, .int .i64 base, .int .i64 room]] w fun e w' => e = .returned (.pointer (some ⟨w.heap.size + 2, 0, none⟩)) ∧ OpAt w' (w.heap.size + 2) ⟨3, base, room, mv1 "haymow/deque.steal" 96 (w.heap.size + 2), .nilFunc, false, 0, true, 0, 0, 0⟩ ∧ Fr (fun _ => False) w w' := by
  have hbg := fi_begin_steal (w.alloc (.cells #[.int .i64 3, .int .i64 base, .int .i64 room] 36)) base room
  rw [show (w.alloc (.cells #[.int .i64 3, .int .i64 base, .int .i64 room] 36)).heap.size + 1 = w.heap.size + 2 by simp] at hbg
  have HBG := Lib.hid hbg
  clear hbg
  go_enter Try.func21, Try.ntmps21
  go_wp2_with fail
  refine HBG.out.mono ?_
  rintro e w1 ⟨rfl, hO1, hF1⟩
  have HO1 := Lib.hid hO1
  have HF1 := Lib.hid (((Fr.refl (fun _ => False) w).alloc _).trans hF1)
  clear hO1 hF1
  go_wp2_with fail
  go_ret
  exact ⟨rfl, HO1.out, HF1.out⟩

set_option maxHeartbeats 2000000 in
theorem end_not (w : World) (o : Nat) (v : OpV) (hO : OpAt w o v) (he : v.ended = false) : Calls Try.prog 23 #[.pointer (some ⟨o, 0, none⟩)] w fun e w' => e = .returned (.tuple #[.int .i64 0, .int .i64 11]) ∧ ∃ q, w' = w.drewN q := by
  have c5 : w.cell? ⟨o, 5, none⟩ = some (.bool false) := by rw [← he]; rw [Blk.cell hO]; rfl
  clear hO
  go_enter Try.func23, Try.ntmps23
  go_wp2_with fail
  go_ret2
  exact ⟨rfl, 0, rfl⟩
set_option maxHeartbeats 2000000 in
theorem end_er (w : World) (o : Nat) (v : OpV) (hO : OpAt w o v) (he : v.ended = true) (hh : v.how ≠ 0) : Calls Try.prog 23 #[.pointer (some ⟨o, 0, none⟩)] w fun e w' => e = .returned (.tuple #[.int .i64 0, .int .i64 v.how]) ∧ ∃ q, w' = w.drewN q := by
  have c5 : w.cell? ⟨o, 5, none⟩ = some (.bool true) := by rw [← he]; rw [Blk.cell hO]; rfl
  have c6 : w.cell? ⟨o, 6, none⟩ = some (.int .i64 v.how) := by rw [Blk.cell hO]; rfl
  have hb : (v.how != 0) = true := by simpa using hh
  clear hO
  go_enter Try.func23, Try.ntmps23
  go_wp2_with fail
  go_quiet (fail)
  go_wp2_with fail
  go_ret2
  exact ⟨rfl, nq, rfl⟩
set_option maxHeartbeats 2000000 in
theorem end_push (w : World) (o : Nat) (v : OpV) (hO : OpAt w o v) (he : v.ended = true) (hh : v.how = 0) (ht : v.takes = false) : Calls Try.prog 23 #[.pointer (some ⟨o, 0, none⟩)] w fun e w' => e = .returned (.tuple #[.int .i64 0, .int .i64 0]) ∧ ∃ q, w' = w.drewN q := by
  have c5 : w.cell? ⟨o, 5, none⟩ = some (.bool true) := by rw [← he]; rw [Blk.cell hO]; rfl
  have c6 : w.cell? ⟨o, 6, none⟩ = some (.int .i64 0) := by rw [← hh]; rw [Blk.cell hO]; rfl
  have c7 : w.cell? ⟨o, 7, none⟩ = some (.bool false) := by rw [← ht]; rw [Blk.cell hO]; rfl
  clear hO
  go_enter Try.func23, Try.ntmps23
  go_wp2_with fail
  go_quiet (fail)
  go_wp2_with fail
  go_ret2
  exact ⟨rfl, nq, rfl⟩
set_option maxHeartbeats 2000000 in
theorem end_takes (w : World) (o : Nat) (v : OpV) (hO : OpAt w o v) (he : v.ended = true) (hh : v.how = 0) (ht : v.takes = true) : Calls Try.prog 23 #[.pointer (some ⟨o, 0, none⟩)] w fun e w' => e = .returned (.tuple #[.int .i64 v.num, .int .i64 0]) ∧ ∃ q, w' = w.drewN q := by
  have c5 : w.cell? ⟨o, 5, none⟩ = some (.bool true) := by rw [← he]; rw [Blk.cell hO]; rfl
  have c6 : w.cell? ⟨o, 6, none⟩ = some (.int .i64 0) := by rw [← hh]; rw [Blk.cell hO]; rfl
  have c7 : w.cell? ⟨o, 7, none⟩ = some (.bool true) := by rw [← ht]; rw [Blk.cell hO]; rfl
  have c8 : w.cell? ⟨o, 8, none⟩ = some (.int .i64 v.num) := by rw [Blk.cell hO]; rfl
  clear hO
  go_enter Try.func23, Try.ntmps23
  go_wp2_with fail
  go_ret2
  exact ⟨rfl, 0, rfl⟩
theorem Words_yes (w : World) (r : Nat) (h1 : 1 ≤ r) (h2 : r ≤ 1000) : Calls Try.prog 16 #[.int .i64 r] w fun e w' => e = .returned (.int .i64 ((r + 2 : Nat) : Int)) ∧ w' = w := by
  have g1 : ¬ (r : Int) < 1 := by omega
  have g2 : ¬ (1000 : Int) < (r : Int) := by omega
  go_enter Try.func16, Try.ntmps16
  go_wp2_with fail
  go_ret
  exact ⟨by go_num, rfl⟩
theorem Words_no (w : World) (r : Int) (h : r < 1 ∨ 1000 < r) : Calls Try.prog 16 #[.int .i64 r] w fun e w' => e = .returned (.int .i64 0) ∧ w' = w := by
  by_cases h1 : r < 1
  · go_enter Try.func16, Try.ntmps16
    go_wp2_with fail
    go_ret
    exact ⟨rfl, rfl⟩
  · have h2 : 1000 < r := h.resolve_left h1
    go_enter Try.func16, Try.ntmps16
    go_wp2_with fail
    go_ret
    exact ⟨rfl, rfl⟩
end Go.Proofs.Ytfcboacmailfiaa
