/-
  Package deque: the moves of kind 1.
-/
import Derived.Test.YtfcboacmailfiaaDq2
namespace Go.Proofs.Ytfcboacmailfiaa
open Go.RowKit

/-- The next move, as a value. -/
abbrev mv (f : FuncId) (o : Nat) : Value := .func (.func f) #[.agg #[.pointer (some ⟨o, 0, none⟩)]] #[]
/-- What a move comes to. -/
def MvP (w : World) (o p s : Nat) (v : OpV) (ws : List (Bool × Int)) (b : Nat) (nx : Value) (er : Int) (e : Ending) (w' : World) : Prop :=
  e = .returned (.tuple #[nx, .int .i64 er]) ∧ OpAt w' o v ∧ MI w' p s ws (b + 1) ∧ Fr (Thr o p s) w w'
theorem OpAt.drew {w : World} {o : Nat} {v : OpV} (h : OpAt w o v) : OpAt w.drew o v := h
theorem OpAt.two {w w' : World} {o p s : Nat} {v : OpV} (h : OpAt w o v) (hF : Fr (Two p s) w w') (h1 : o ≠ p) (h2 : o ≠ s) : OpAt w' o v := Blk.fr h hF (fun h => h.elim h1 h2)
theorem place_q (w : World) (t q : Nat) (ht : t < 1152921504606846976) (hq : t % 65536 = q) : Calls Try.prog 74 #[.int .i64 t] w fun e w' => e = .returned (.int .i64 q) ∧ w' = w := by
  rw [← hq]; exact place_any w t (by omega)
theorem place_quiet (W : World) (n t q : Nat) (ht : t < 1152921504606846976) (hq : t % 65536 = q) : Calls Try.prog 74 #[.int .i64 t] (W.drewN n) fun e w' => e = .returned (.int .i64 q) ∧ ∃ m, w' = W.drewN m :=
  (place_q (W.drewN n) t q ht hq).mono fun _ _ ⟨he, hw⟩ => ⟨he, n, hw⟩
theorem raised_q (w : World) (t to r : Nat) (ht : t < 1152921504606846976) (hto : to ≤ 65536) (hr : t - t % 65536 + 65536 + to = r) : Calls Try.prog 86 #[.int .i64 t, .int .i64 to] w fun e w' => e = .returned (.int .i64 r) ∧ w' = w := by
  rw [← hr]; exact raised_any w t (by omega) to hto
theorem mf_any : ∀ (fn : Fn) (first cap : Array Value) (w : World), (Instr.makeFunc fn first cap).run Try.prog w = .ok (.func fn first cap) w := fun _ _ _ _ => rfl

set_option maxHeartbeats 4000000 in
theorem ex_push_go (w : World) (o p s : Nat) (v : OpV) (ws : List (Bool × Int)) (b : Nat) (hO : OpAt w o v) (hM : MI w p s ws b) (hb : b < 900000) (base : Nat) (hbase : v.base = base) (_hbl : base ≤ 60000) (n : Int) (hi : ws[base]? = some (true, n)) (hn : n ≠ v.room) :
    Calls Try.prog 61 #[.agg #[.pointer (some ⟨o, 0, none⟩)], .pointer (some ⟨p, 0, none⟩)] w (MvP w o p s { v with e := n } ws b (mv 66 o) 0) := by
  obtain ⟨h1, h2⟩ := hO.ne hM
  have hol : o < w.heap.size := Blk.lt hO
  obtain ⟨hpl, hsl⟩ := hM.lt
  have hXp : w.heap.size ≠ p := by omega
  have hXs : w.heap.size ≠ s := by omega
  have hXo : w.heap.size ≠ o := by omega
  have hF0 : Fr (Thr o p s) w (w.alloc (.cells #[.pointer (some ⟨o, 0, none⟩)] 94)) := (Fr.refl _ _).alloc _
  have hX : Blk (w.alloc (.cells #[.pointer (some ⟨o, 0, none⟩)] 94)) w.heap.size 94 #[.pointer (some ⟨o, 0, none⟩)] := Blk.new _ _ _
  have hO0 : OpAt (w.alloc (.cells #[.pointer (some ⟨o, 0, none⟩)] 94)) o v := Blk.alloc hO _
  have hM0 : MI (w.alloc (.cells #[.pointer (some ⟨o, 0, none⟩)] 94)) p s ws b := hM.fr (B := fun _ => False) ((Fr.refl _ _).alloc _) (fun h => h) (fun h => h)
  have x0 : (w.alloc (.cells #[.pointer (some ⟨o, 0, none⟩)] 94)).cell? ⟨w.heap.size, 0, none⟩ = some (.pointer (some ⟨o, 0, none⟩)) := by rw [hX.cell]; rfl
  have c1 : (w.alloc (.cells #[.pointer (some ⟨o, 0, none⟩)] 94)).cell? ⟨o, 1, none⟩ = some (.int .i64 base) := by rw [← hbase]; rw [Blk.cell hO0]; rfl
  have c2 : (w.alloc (.cells #[.pointer (some ⟨o, 0, none⟩)] 94)).cell? ⟨o, 2, none⟩ = some (.int .i64 v.room) := by rw [Blk.cell hO0]; rfl
  have c9 : (w.alloc (.cells #[.pointer (some ⟨o, 0, none⟩)] 94)).cell? ⟨o, 9, none⟩ = some (.int .i64 v.e) := by rw [Blk.cell hO0]; rfl
  have c10 : (w.alloc (.cells #[.pointer (some ⟨o, 0, none⟩)] 94)).cell? ⟨o, 10, none⟩ = some (.int .i64 v.t) := by rw [Blk.cell hO0]; rfl
  have hmf := mf_any
  have HBASE := Lib.hid hbase
  clear hbase
  have HX := Lib.hid hX
  have HO := Lib.hid hO0
  have HM := Lib.hid hM0
  have HF := Lib.hid hF0
  clear hX hO hO0 hM hM0 hF0
  have hq : (n == v.room) = false := by simpa using hn
  go_enter Try.func61, Try.ntmps61
  go_wp2_with fail
  refine (wordE_any _ o base c1).mono ?_
  rintro e w1 ⟨rfl, rfl⟩
  go_wp2_with fail
  refine (load_mi HM.out hb (base) n hi).mono ?_
  rintro e w1 ⟨rfl, hM1, hF1⟩
  have hO1 : OpAt w1 o v := Blk.fr HO.out hF1 (fun h => h.elim h1 h2)
  have xx := hF1.held x0 (fun h => h.elim hXp hXs)
  have d1 : w1.cell? ⟨o, 1, none⟩ = some (.int .i64 base) := hF1.held c1 (fun h => h.elim h1 h2)
  have d2 : w1.cell? ⟨o, 2, none⟩ = some (.int .i64 v.room) := hF1.held c2 (fun h => h.elim h1 h2)
  have d9 : w1.cell? ⟨o, 9, none⟩ = some (.int .i64 v.e) := hF1.held c9 (fun h => h.elim h1 h2)
  have d10 : w1.cell? ⟨o, 10, none⟩ = some (.int .i64 v.t) := hF1.held c10 (fun h => h.elim h1 h2)
  have f9 := Blk.frozen hO1 9
  have HO1 := Lib.hid hO1
  have HM1 := Lib.hid hM1
  have HF1 := Lib.hid (HF.out.trans (hF1.mono (fun _ h => .inr h)))
  clear hO1 hM1 hF1
  go_wp2_with fail
  refine (room_any _ o v.room d2).mono ?_
  rintro e w1 ⟨rfl, rfl⟩
  go_wp2_with fail
  refine (behind_ok _ _).mono ?_
  rintro e w1 ⟨rfl, rfl⟩
  go_wp2_with fail
  go_ret2
  have hFs : Fr (fun k => k = o) w1 (w1.setCell ⟨o, 9, none⟩ (.int .i64 n)) := (Fr.refl (fun k => k = o) w1).setCell (p := ⟨o, 9, none⟩) (.inl rfl) _
  exact ⟨rfl, Blk.set_ HO1.out 9 _, HM1.out.fr hFs (fun h => h1 h.symm) (fun h => h2 h.symm), HF1.out.trans (hFs.mono (fun _ h => .inl h))⟩

set_option maxHeartbeats 4000000 in
theorem ex_push_full (w : World) (o p s : Nat) (v : OpV) (ws : List (Bool × Int)) (b : Nat) (hO : OpAt w o v) (hM : MI w p s ws b) (hb : b < 900000) (base : Nat) (hbase : v.base = base) (_hbl : base ≤ 60000) (n : Int) (hi : ws[base]? = some (true, n)) (hn : n = v.room) :
    Calls Try.prog 61 #[.agg #[.pointer (some ⟨o, 0, none⟩)], .pointer (some ⟨p, 0, none⟩)] w (MvP w o p s { v with e := n } ws b .nilFunc 8) := by
  obtain ⟨h1, h2⟩ := hO.ne hM
  have hol : o < w.heap.size := Blk.lt hO
  obtain ⟨hpl, hsl⟩ := hM.lt
  have hXp : w.heap.size ≠ p := by omega
  have hXs : w.heap.size ≠ s := by omega
  have hXo : w.heap.size ≠ o := by omega
  have hF0 : Fr (Thr o p s) w (w.alloc (.cells #[.pointer (some ⟨o, 0, none⟩)] 94)) := (Fr.refl _ _).alloc _
  have hX : Blk (w.alloc (.cells #[.pointer (some ⟨o, 0, none⟩)] 94)) w.heap.size 94 #[.pointer (some ⟨o, 0, none⟩)] := Blk.new _ _ _
  have hO0 : OpAt (w.alloc (.cells #[.pointer (some ⟨o, 0, none⟩)] 94)) o v := Blk.alloc hO _
  have hM0 : MI (w.alloc (.cells #[.pointer (some ⟨o, 0, none⟩)] 94)) p s ws b := hM.fr (B := fun _ => False) ((Fr.refl _ _).alloc _) (fun h => h) (fun h => h)
  have x0 : (w.alloc (.cells #[.pointer (some ⟨o, 0, none⟩)] 94)).cell? ⟨w.heap.size, 0, none⟩ = some (.pointer (some ⟨o, 0, none⟩)) := by rw [hX.cell]; rfl
  have c1 : (w.alloc (.cells #[.pointer (some ⟨o, 0, none⟩)] 94)).cell? ⟨o, 1, none⟩ = some (.int .i64 base) := by rw [← hbase]; rw [Blk.cell hO0]; rfl
  have c2 : (w.alloc (.cells #[.pointer (some ⟨o, 0, none⟩)] 94)).cell? ⟨o, 2, none⟩ = some (.int .i64 v.room) := by rw [Blk.cell hO0]; rfl
  have c9 : (w.alloc (.cells #[.pointer (some ⟨o, 0, none⟩)] 94)).cell? ⟨o, 9, none⟩ = some (.int .i64 v.e) := by rw [Blk.cell hO0]; rfl
  have c10 : (w.alloc (.cells #[.pointer (some ⟨o, 0, none⟩)] 94)).cell? ⟨o, 10, none⟩ = some (.int .i64 v.t) := by rw [Blk.cell hO0]; rfl
  have hmf := mf_any
  have HBASE := Lib.hid hbase
  clear hbase
  have HX := Lib.hid hX
  have HO := Lib.hid hO0
  have HM := Lib.hid hM0
  have HF := Lib.hid hF0
  clear hX hO hO0 hM hM0 hF0
  have hq : (n == v.room) = true := by simpa using hn
  clear hn
  go_enter Try.func61, Try.ntmps61
  go_wp2_with fail
  refine (wordE_any _ o base c1).mono ?_
  rintro e w1 ⟨rfl, rfl⟩
  go_wp2_with fail
  refine (load_mi HM.out hb (base) n hi).mono ?_
  rintro e w1 ⟨rfl, hM1, hF1⟩
  have hO1 : OpAt w1 o v := Blk.fr HO.out hF1 (fun h => h.elim h1 h2)
  have xx := hF1.held x0 (fun h => h.elim hXp hXs)
  have d1 : w1.cell? ⟨o, 1, none⟩ = some (.int .i64 base) := hF1.held c1 (fun h => h.elim h1 h2)
  have d2 : w1.cell? ⟨o, 2, none⟩ = some (.int .i64 v.room) := hF1.held c2 (fun h => h.elim h1 h2)
  have d9 : w1.cell? ⟨o, 9, none⟩ = some (.int .i64 v.e) := hF1.held c9 (fun h => h.elim h1 h2)
  have d10 : w1.cell? ⟨o, 10, none⟩ = some (.int .i64 v.t) := hF1.held c10 (fun h => h.elim h1 h2)
  have f9 := Blk.frozen hO1 9
  have HO1 := Lib.hid hO1
  have HM1 := Lib.hid hM1
  have HF1 := Lib.hid (HF.out.trans (hF1.mono (fun _ h => .inr h)))
  clear hO1 hM1 hF1
  go_wp2_with fail
  refine (room_any _ o v.room d2).mono ?_
  rintro e w1 ⟨rfl, rfl⟩
  go_wp2_with fail
  refine (behind_er _ 8 (by decide) _).mono ?_
  rintro e w1 ⟨rfl, rfl⟩
  go_wp2_with fail
  go_ret2
  have hFs : Fr (fun k => k = o) w1 (w1.setCell ⟨o, 9, none⟩ (.int .i64 n)) := (Fr.refl (fun k => k = o) w1).setCell (p := ⟨o, 9, none⟩) (.inl rfl) _
  exact ⟨rfl, Blk.set_ HO1.out 9 _, HM1.out.fr hFs (fun h => h1 h.symm) (fun h => h2 h.symm), HF1.out.trans (hFs.mono (fun _ h => .inl h))⟩

set_option maxHeartbeats 4000000 in
theorem ex_pop_go (w : World) (o p s : Nat) (v : OpV) (ws : List (Bool × Int)) (b : Nat) (hO : OpAt w o v) (hM : MI w p s ws b) (hb : b < 900000) (base : Nat) (hbase : v.base = base) (_hbl : base ≤ 60000) (n : Nat) (hi : ws[base]? = some (true, (n : Int))) (hn : 0 < n) (hnl : n ≤ 60000) :
    Calls Try.prog 60 #[.agg #[.pointer (some ⟨o, 0, none⟩)], .pointer (some ⟨p, 0, none⟩)] w (MvP w o p s { v with e := (n : Int) - 1 } ws b (mv 65 o) 0) := by
  obtain ⟨h1, h2⟩ := hO.ne hM
  have hol : o < w.heap.size := Blk.lt hO
  obtain ⟨hpl, hsl⟩ := hM.lt
  have hXp : w.heap.size ≠ p := by omega
  have hXs : w.heap.size ≠ s := by omega
  have hXo : w.heap.size ≠ o := by omega
  have hF0 : Fr (Thr o p s) w (w.alloc (.cells #[.pointer (some ⟨o, 0, none⟩)] 94)) := (Fr.refl _ _).alloc _
  have hX : Blk (w.alloc (.cells #[.pointer (some ⟨o, 0, none⟩)] 94)) w.heap.size 94 #[.pointer (some ⟨o, 0, none⟩)] := Blk.new _ _ _
  have hO0 : OpAt (w.alloc (.cells #[.pointer (some ⟨o, 0, none⟩)] 94)) o v := Blk.alloc hO _
  have hM0 : MI (w.alloc (.cells #[.pointer (some ⟨o, 0, none⟩)] 94)) p s ws b := hM.fr (B := fun _ => False) ((Fr.refl _ _).alloc _) (fun h => h) (fun h => h)
  have x0 : (w.alloc (.cells #[.pointer (some ⟨o, 0, none⟩)] 94)).cell? ⟨w.heap.size, 0, none⟩ = some (.pointer (some ⟨o, 0, none⟩)) := by rw [hX.cell]; rfl
  have c1 : (w.alloc (.cells #[.pointer (some ⟨o, 0, none⟩)] 94)).cell? ⟨o, 1, none⟩ = some (.int .i64 base) := by rw [← hbase]; rw [Blk.cell hO0]; rfl
  have c2 : (w.alloc (.cells #[.pointer (some ⟨o, 0, none⟩)] 94)).cell? ⟨o, 2, none⟩ = some (.int .i64 v.room) := by rw [Blk.cell hO0]; rfl
  have c9 : (w.alloc (.cells #[.pointer (some ⟨o, 0, none⟩)] 94)).cell? ⟨o, 9, none⟩ = some (.int .i64 v.e) := by rw [Blk.cell hO0]; rfl
  have c10 : (w.alloc (.cells #[.pointer (some ⟨o, 0, none⟩)] 94)).cell? ⟨o, 10, none⟩ = some (.int .i64 v.t) := by rw [Blk.cell hO0]; rfl
  have hmf := mf_any
  have HBASE := Lib.hid hbase
  clear hbase
  have HX := Lib.hid hX
  have HO := Lib.hid hO0
  have HM := Lib.hid hM0
  have HF := Lib.hid hF0
  clear hX hO hO0 hM hM0 hF0
  have hq : ((n : Int) == 0) = false := by simp; omega
  go_enter Try.func60, Try.ntmps60
  go_wp2_with fail
  refine (wordE_any _ o base c1).mono ?_
  rintro e w1 ⟨rfl, rfl⟩
  go_wp2_with fail
  refine (load_mi HM.out hb (base) n hi).mono ?_
  rintro e w1 ⟨rfl, hM1, hF1⟩
  have hO1 : OpAt w1 o v := Blk.fr HO.out hF1 (fun h => h.elim h1 h2)
  have xx := hF1.held x0 (fun h => h.elim hXp hXs)
  have d1 : w1.cell? ⟨o, 1, none⟩ = some (.int .i64 base) := hF1.held c1 (fun h => h.elim h1 h2)
  have d2 : w1.cell? ⟨o, 2, none⟩ = some (.int .i64 v.room) := hF1.held c2 (fun h => h.elim h1 h2)
  have d9 : w1.cell? ⟨o, 9, none⟩ = some (.int .i64 v.e) := hF1.held c9 (fun h => h.elim h1 h2)
  have d10 : w1.cell? ⟨o, 10, none⟩ = some (.int .i64 v.t) := hF1.held c10 (fun h => h.elim h1 h2)
  have f9 := Blk.frozen hO1 9
  have HO1 := Lib.hid hO1
  have HM1 := Lib.hid hM1
  have HF1 := Lib.hid (HF.out.trans (hF1.mono (fun _ h => .inr h)))
  clear hO1 hM1 hF1
  go_wp2_with fail
  refine (behind_ok _ _).mono ?_
  rintro e w1 ⟨rfl, rfl⟩
  go_wp2_with fail
  go_ret2
  have hFs : Fr (fun k => k = o) w1 (w1.setCell ⟨o, 9, none⟩ (.int .i64 ((n : Int) - 1))) := (Fr.refl (fun k => k = o) w1).setCell (p := ⟨o, 9, none⟩) (.inl rfl) _
  exact ⟨rfl, Blk.set_ HO1.out 9 _, HM1.out.fr hFs (fun h => h1 h.symm) (fun h => h2 h.symm), HF1.out.trans (hFs.mono (fun _ h => .inl h))⟩

set_option maxHeartbeats 4000000 in
theorem ex_pop_empty (w : World) (o p s : Nat) (v : OpV) (ws : List (Bool × Int)) (b : Nat) (hO : OpAt w o v) (hM : MI w p s ws b) (hb : b < 900000) (base : Nat) (hbase : v.base = base) (_hbl : base ≤ 60000) (hi : ws[base]? = some (true, (0 : Int))) :
    Calls Try.prog 60 #[.agg #[.pointer (some ⟨o, 0, none⟩)], .pointer (some ⟨p, 0, none⟩)] w (MvP w o p s { v with e := -1 } ws b .nilFunc 9) := by
  obtain ⟨h1, h2⟩ := hO.ne hM
  have hol : o < w.heap.size := Blk.lt hO
  obtain ⟨hpl, hsl⟩ := hM.lt
  have hXp : w.heap.size ≠ p := by omega
  have hXs : w.heap.size ≠ s := by omega
  have hXo : w.heap.size ≠ o := by omega
  have hF0 : Fr (Thr o p s) w (w.alloc (.cells #[.pointer (some ⟨o, 0, none⟩)] 94)) := (Fr.refl _ _).alloc _
  have hX : Blk (w.alloc (.cells #[.pointer (some ⟨o, 0, none⟩)] 94)) w.heap.size 94 #[.pointer (some ⟨o, 0, none⟩)] := Blk.new _ _ _
  have hO0 : OpAt (w.alloc (.cells #[.pointer (some ⟨o, 0, none⟩)] 94)) o v := Blk.alloc hO _
  have hM0 : MI (w.alloc (.cells #[.pointer (some ⟨o, 0, none⟩)] 94)) p s ws b := hM.fr (B := fun _ => False) ((Fr.refl _ _).alloc _) (fun h => h) (fun h => h)
  have x0 : (w.alloc (.cells #[.pointer (some ⟨o, 0, none⟩)] 94)).cell? ⟨w.heap.size, 0, none⟩ = some (.pointer (some ⟨o, 0, none⟩)) := by rw [hX.cell]; rfl
  have c1 : (w.alloc (.cells #[.pointer (some ⟨o, 0, none⟩)] 94)).cell? ⟨o, 1, none⟩ = some (.int .i64 base) := by rw [← hbase]; rw [Blk.cell hO0]; rfl
  have c2 : (w.alloc (.cells #[.pointer (some ⟨o, 0, none⟩)] 94)).cell? ⟨o, 2, none⟩ = some (.int .i64 v.room) := by rw [Blk.cell hO0]; rfl
  have c9 : (w.alloc (.cells #[.pointer (some ⟨o, 0, none⟩)] 94)).cell? ⟨o, 9, none⟩ = some (.int .i64 v.e) := by rw [Blk.cell hO0]; rfl
  have c10 : (w.alloc (.cells #[.pointer (some ⟨o, 0, none⟩)] 94)).cell? ⟨o, 10, none⟩ = some (.int .i64 v.t) := by rw [Blk.cell hO0]; rfl
  have hmf := mf_any
  have HBASE := Lib.hid hbase
  clear hbase
  have HX := Lib.hid hX
  have HO := Lib.hid hO0
  have HM := Lib.hid hM0
  have HF := Lib.hid hF0
  clear hX hO hO0 hM hM0 hF0
  go_enter Try.func60, Try.ntmps60
  go_wp2_with fail
  refine (wordE_any _ o base c1).mono ?_
  rintro e w1 ⟨rfl, rfl⟩
  go_wp2_with fail
  refine (load_mi HM.out hb (base) 0 hi).mono ?_
  rintro e w1 ⟨rfl, hM1, hF1⟩
  have hO1 : OpAt w1 o v := Blk.fr HO.out hF1 (fun h => h.elim h1 h2)
  have xx := hF1.held x0 (fun h => h.elim hXp hXs)
  have d1 : w1.cell? ⟨o, 1, none⟩ = some (.int .i64 base) := hF1.held c1 (fun h => h.elim h1 h2)
  have d2 : w1.cell? ⟨o, 2, none⟩ = some (.int .i64 v.room) := hF1.held c2 (fun h => h.elim h1 h2)
  have d9 : w1.cell? ⟨o, 9, none⟩ = some (.int .i64 v.e) := hF1.held c9 (fun h => h.elim h1 h2)
  have d10 : w1.cell? ⟨o, 10, none⟩ = some (.int .i64 v.t) := hF1.held c10 (fun h => h.elim h1 h2)
  have f9 := Blk.frozen hO1 9
  have HO1 := Lib.hid hO1
  have HM1 := Lib.hid hM1
  have HF1 := Lib.hid (HF.out.trans (hF1.mono (fun _ h => .inr h)))
  clear hO1 hM1 hF1
  go_wp2_with fail
  refine (behind_er _ 9 (by decide) _).mono ?_
  rintro e w1 ⟨rfl, rfl⟩
  go_wp2_with fail
  go_ret2
  have hFs : Fr (fun k => k = o) w1 (w1.setCell ⟨o, 9, none⟩ (.int .i64 (-1))) := (Fr.refl (fun k => k = o) w1).setCell (p := ⟨o, 9, none⟩) (.inl rfl) _
  exact ⟨rfl, Blk.set_ HO1.out 9 _, HM1.out.fr hFs (fun h => h1 h.symm) (fun h => h2 h.symm), HF1.out.trans (hFs.mono (fun _ h => .inl h))⟩

set_option maxHeartbeats 4000000 in
theorem ex_pushFills (w : World) (o p s : Nat) (v : OpV) (ws : List (Bool × Int)) (b : Nat) (hO : OpAt w o v) (hM : MI w p s ws b) (hb : b < 900000) (base : Nat) (hbase : v.base = base) (_hbl : base ≤ 60000) (j : Nat) (he : v.e = j) (hj : j ≤ 60000) (m : Int) (hi : ws[base + 2 + j]? = some (true, m)) :
    Calls Try.prog 66 #[.agg #[.pointer (some ⟨o, 0, none⟩)], .pointer (some ⟨p, 0, none⟩)] w (MvP w o p s v (ws.set (base + 2 + j) (true, v.num)) b (mv 72 o) 0) := by
  obtain ⟨h1, h2⟩ := hO.ne hM
  have hol : o < w.heap.size := Blk.lt hO
  obtain ⟨hpl, hsl⟩ := hM.lt
  have hXp : w.heap.size ≠ p := by omega
  have hXs : w.heap.size ≠ s := by omega
  have hXo : w.heap.size ≠ o := by omega
  have hF0 : Fr (Thr o p s) w (w.alloc (.cells #[.pointer (some ⟨o, 0, none⟩)] 94)) := (Fr.refl _ _).alloc _
  have hX : Blk (w.alloc (.cells #[.pointer (some ⟨o, 0, none⟩)] 94)) w.heap.size 94 #[.pointer (some ⟨o, 0, none⟩)] := Blk.new _ _ _
  have hO0 : OpAt (w.alloc (.cells #[.pointer (some ⟨o, 0, none⟩)] 94)) o v := Blk.alloc hO _
  have hM0 : MI (w.alloc (.cells #[.pointer (some ⟨o, 0, none⟩)] 94)) p s ws b := hM.fr (B := fun _ => False) ((Fr.refl _ _).alloc _) (fun h => h) (fun h => h)
  have x0 : (w.alloc (.cells #[.pointer (some ⟨o, 0, none⟩)] 94)).cell? ⟨w.heap.size, 0, none⟩ = some (.pointer (some ⟨o, 0, none⟩)) := by rw [hX.cell]; rfl
  have c1 : (w.alloc (.cells #[.pointer (some ⟨o, 0, none⟩)] 94)).cell? ⟨o, 1, none⟩ = some (.int .i64 base) := by rw [← hbase]; rw [Blk.cell hO0]; rfl
  have c9 : (w.alloc (.cells #[.pointer (some ⟨o, 0, none⟩)] 94)).cell? ⟨o, 9, none⟩ = some (.int .i64 (j : Int)) := by rw [← he]; rw [Blk.cell hO0]; rfl
  have hmf := mf_any
  have HBASE := Lib.hid hbase
  clear hbase
  have HHE := Lib.hid he
  clear he
  have HX := Lib.hid hX
  have HO := Lib.hid hO0
  have HM := Lib.hid hM0
  have HF := Lib.hid hF0
  clear hX hO hO0 hM hM0 hF0
  go_enter Try.func66, Try.ntmps66
  go_wp2_with fail
  generalize hW0 : (w.alloc (.cells #[.pointer (some ⟨o, 0, none⟩)] 94)) = W0 at *
  clear hW0
  refine region_K 15 (fun w' : World => w'.cell? ⟨w.heap.size, 0, none⟩ = some (.pointer (some ⟨o, 0, none⟩)) ∧ w'.cell? ⟨o, 1, none⟩ = some (.int .i64 base) ∧ w'.cell? ⟨o, 9, none⟩ = some (.int .i64 (j : Int))) (by kernel_rfl) ?_
  have HS : (fun w' : World => w'.cell? ⟨w.heap.size, 0, none⟩ = some (.pointer (some ⟨o, 0, none⟩)) ∧ w'.cell? ⟨o, 1, none⟩ = some (.int .i64 base) ∧ w'.cell? ⟨o, 9, none⟩ = some (.int .i64 (j : Int))) (W0).drew := ⟨x0, c1, c9⟩
  refine AnyK.take (i := 0) rfl (by decide) (by kernel_rfl) (by kernel_rfl) (by kernel_rfl) (fun _ _ _ _ h => h) HS (fun K hK => ?_)
  go_simp
  refine hK.out _ ⟨_, by rfl, Or.inl ⟨by rfl, by intro w hSw; (try dsimp only at hSw); go_simp⟩, ?_⟩
  clear hK K
  refine AnyK.take (i := 1) rfl (by decide) (by kernel_rfl) (by kernel_rfl) (by kernel_rfl) (fun _ _ _ _ h => h) HS (fun K hK => ?_)
  go_simp
  refine hK.out _ ⟨_, by rfl, Or.inl ⟨by rfl, by intro w hSw; (try dsimp only at hSw); go_simp⟩, ?_⟩
  clear hK K
  refine AnyK.take (i := 2) rfl (by decide) (by kernel_rfl) (by kernel_rfl) (by kernel_rfl) (fun _ _ _ _ h => h) HS (fun K hK => ?_)
  go_simp
  refine hK.out _ ⟨_, by rfl, Or.inl ⟨by rfl, by intro w hSw; (try dsimp only at hSw); go_simp⟩, ?_⟩
  clear hK K
  refine AnyK.take (i := 3) rfl (by decide) (by kernel_rfl) (by kernel_rfl) (by kernel_rfl) (fun _ _ _ _ h => h) HS (fun K hK => ?_)
  go_simp
  refine hK.out _ ⟨_, by rfl, Or.inl ⟨by rfl, by intro w hSw; (try dsimp only at hSw); go_simp⟩, ?_⟩
  clear hK K
  refine AnyK.take (i := 4) rfl (by decide) (by kernel_rfl) (by kernel_rfl) (by kernel_rfl) (fun _ _ _ _ h => h) HS (fun K hK => ?_)
  go_simp
  refine hK.out _ ⟨_, by rfl, Or.inl ⟨by rfl, by intro w hSw; (try dsimp only at hSw); go_simp⟩, ?_⟩
  clear hK K
  refine AnyK.take (i := 5) rfl (by decide) (by kernel_rfl) (by kernel_rfl) (by kernel_rfl) (fun _ _ _ _ h => h) HS (fun K hK => ?_)
  go_simp
  refine hK.out _ ⟨_, by rfl, Or.inl ⟨by rfl, by intro w hSw; (try dsimp only at hSw); go_simp⟩, ?_⟩
  clear hK K
  refine AnyK.take (i := 6) rfl (by decide) (by kernel_rfl) (by kernel_rfl) (by kernel_rfl) (fun _ _ _ _ h => h) HS (fun K hK => ?_)
  go_simp
  refine hK.out _ ⟨_, by rfl, Or.inl ⟨by rfl, by intro w hSw; (try dsimp only at hSw); go_simp⟩, ?_⟩
  clear hK K
  refine AnyK.take (i := 7) rfl (by decide) (by kernel_rfl) (by kernel_rfl) (by kernel_rfl) (fun _ _ _ _ h => h) HS (fun K hK => ?_)
  go_simp
  refine hK.out _ ⟨_, by rfl, Or.inl ⟨by rfl, by intro w hSw; (try dsimp only at hSw); go_simp⟩, ?_⟩
  clear hK K
  refine AnyK.take (i := 8) rfl (by decide) (by kernel_rfl) (by kernel_rfl) (by kernel_rfl) (fun _ _ _ _ h => h) HS (fun K hK => ?_)
  go_simp
  refine hK.out _ ⟨_, by rfl, Or.inl ⟨by rfl, by intro w hSw; (try dsimp only at hSw); go_simp⟩, ?_⟩
  clear hK K
  refine AnyK.take (i := 9) rfl (by decide) (by kernel_rfl) (by kernel_rfl) (by kernel_rfl) (fun _ _ _ _ h => h) HS (fun K hK => ?_)
  go_simp
  refine hK.out _ ⟨_, by rfl, Or.inl ⟨by rfl, by intro w hSw; (try dsimp only at hSw); go_simp⟩, ?_⟩
  clear hK K
  refine AnyK.one (i := 10) rfl (by kernel_rfl) (fun K hK => ?_)
  go_simp
  refine (fill_any W0.drew o p s v ws b HO.out.drew HM.out.drew hb base j HBASE.out (by omega) (by omega) m hi _).mono ?_
  rintro e w1 ⟨rfl, hO1, hM1, hF1⟩
  have HS : (fun w' : World => w'.cell? ⟨w.heap.size, 0, none⟩ = some (.pointer (some ⟨o, 0, none⟩)) ∧ w'.cell? ⟨o, 1, none⟩ = some (.int .i64 base) ∧ w'.cell? ⟨o, 9, none⟩ = some (.int .i64 (j : Int))) w1 := ⟨hF1.held HS.1 (fun h => h.elim hXo (fun h => h.elim hXp hXs)), (by rw [← HBASE.out]; rw [Blk.cell hO1]; rfl), (by rw [← HHE.out]; rw [Blk.cell hO1]; rfl)⟩
  refine hK.out _ _ (fun _ => HS) ?_
  clear hK K
  have HO1 := Lib.hid hO1
  have HM1 := Lib.hid hM1
  have HF1 := Lib.hid (Fr.trans (HF.out.drew) hF1)
  clear hO1 hM1 hF1
  refine AnyK.take (i := 11) rfl (by decide) (by kernel_rfl) (by kernel_rfl) (by kernel_rfl) (fun _ _ _ _ h => h) HS (fun K hK => ?_)
  go_simp
  refine hK.out _ ⟨_, by rfl, Or.inl ⟨by rfl, by intro w hSw; (try dsimp only at hSw); go_simp⟩, ?_⟩
  clear hK K
  refine AnyK.take (i := 12) rfl (by decide) (by kernel_rfl) (by kernel_rfl) (by kernel_rfl) (fun _ _ _ _ h => h) HS (fun K hK => ?_)
  go_simp
  refine hK.out _ ⟨_, by rfl, Or.inl ⟨by rfl, by intro w hSw; (try dsimp only at hSw); go_simp⟩, ?_⟩
  clear hK K
  refine AnyK.take (i := 13) rfl (by decide) (by kernel_rfl) (by kernel_rfl) (by kernel_rfl) (fun _ _ _ _ h => h) HS (fun K hK => ?_)
  go_simp
  refine hK.out _ ⟨_, by rfl, Or.inl ⟨by rfl, by intro w hSw; (try dsimp only at hSw); go_simp⟩, ?_⟩
  clear hK K
  refine AnyK.take (i := 14) rfl (by decide) (by kernel_rfl) (by kernel_rfl) (by kernel_rfl) (fun _ _ _ _ h => h) HS (fun K hK => ?_)
  go_simp
  refine hK.out _ ⟨_, by rfl, Or.inl ⟨by rfl, by intro w hSw; (try dsimp only at hSw); go_simp⟩, ?_⟩
  clear hK K
  refine AnyK.done (by kernel_rfl) ?_ _
  go_wp2_with fail
  go_ret2
  exact ⟨rfl, HO1.out, HM1.out, HF1.out⟩

set_option maxHeartbeats 4000000 in
theorem ex_pushEnds (w : World) (o p s : Nat) (v : OpV) (ws : List (Bool × Int)) (b : Nat) (hO : OpAt w o v) (hM : MI w p s ws b) (hb : b < 900000) (base : Nat) (hbase : v.base = base) (_hbl : base ≤ 60000) (j : Nat) (he : v.e = j) (hj : j ≤ 60000) (m : Int) (hi : ws[base]? = some (true, m)) :
    Calls Try.prog 72 #[.agg #[.pointer (some ⟨o, 0, none⟩)], .pointer (some ⟨p, 0, none⟩)] w (MvP w o p s v (ws.set base (true, ((j + 1 : Nat) : Int))) b .nilFunc 0) := by
  obtain ⟨h1, h2⟩ := hO.ne hM
  have hol : o < w.heap.size := Blk.lt hO
  obtain ⟨hpl, hsl⟩ := hM.lt
  have hXp : w.heap.size ≠ p := by omega
  have hXs : w.heap.size ≠ s := by omega
  have hXo : w.heap.size ≠ o := by omega
  have hF0 : Fr (Thr o p s) w (w.alloc (.cells #[.pointer (some ⟨o, 0, none⟩)] 94)) := (Fr.refl _ _).alloc _
  have hX : Blk (w.alloc (.cells #[.pointer (some ⟨o, 0, none⟩)] 94)) w.heap.size 94 #[.pointer (some ⟨o, 0, none⟩)] := Blk.new _ _ _
  have hO0 : OpAt (w.alloc (.cells #[.pointer (some ⟨o, 0, none⟩)] 94)) o v := Blk.alloc hO _
  have hM0 : MI (w.alloc (.cells #[.pointer (some ⟨o, 0, none⟩)] 94)) p s ws b := hM.fr (B := fun _ => False) ((Fr.refl _ _).alloc _) (fun h => h) (fun h => h)
  have x0 : (w.alloc (.cells #[.pointer (some ⟨o, 0, none⟩)] 94)).cell? ⟨w.heap.size, 0, none⟩ = some (.pointer (some ⟨o, 0, none⟩)) := by rw [hX.cell]; rfl
  have c1 : (w.alloc (.cells #[.pointer (some ⟨o, 0, none⟩)] 94)).cell? ⟨o, 1, none⟩ = some (.int .i64 base) := by rw [← hbase]; rw [Blk.cell hO0]; rfl
  have c9 : (w.alloc (.cells #[.pointer (some ⟨o, 0, none⟩)] 94)).cell? ⟨o, 9, none⟩ = some (.int .i64 (j : Int)) := by rw [← he]; rw [Blk.cell hO0]; rfl
  have hmf := mf_any
  have HBASE := Lib.hid hbase
  clear hbase
  have HHE := Lib.hid he
  clear he
  have HX := Lib.hid hX
  have HO := Lib.hid hO0
  have HM := Lib.hid hM0
  have HF := Lib.hid hF0
  clear hX hO hO0 hM hM0 hF0
  have hw : IntKind.i64.wrap ((j : Int) + 1) = (j : Int) + 1 := IntWalk.i64_in _ (by omega)
  go_enter Try.func72, Try.ntmps72
  go_wp2_with fail
  generalize hW0 : (w.alloc (.cells #[.pointer (some ⟨o, 0, none⟩)] 94)) = W0 at *
  clear hW0
  refine region_K 13 (fun w' : World => w'.cell? ⟨w.heap.size, 0, none⟩ = some (.pointer (some ⟨o, 0, none⟩)) ∧ w'.cell? ⟨o, 1, none⟩ = some (.int .i64 base) ∧ w'.cell? ⟨o, 9, none⟩ = some (.int .i64 (j : Int))) (by kernel_rfl) ?_
  have HS : (fun w' : World => w'.cell? ⟨w.heap.size, 0, none⟩ = some (.pointer (some ⟨o, 0, none⟩)) ∧ w'.cell? ⟨o, 1, none⟩ = some (.int .i64 base) ∧ w'.cell? ⟨o, 9, none⟩ = some (.int .i64 (j : Int))) (W0).drew := ⟨x0, c1, c9⟩
  refine AnyK.take (i := 0) rfl (by decide) (by kernel_rfl) (by kernel_rfl) (by kernel_rfl) (fun _ _ _ _ h => h) HS (fun K hK => ?_)
  go_simp
  refine hK.out _ ⟨_, by rfl, Or.inl ⟨by rfl, by intro w hSw; (try dsimp only at hSw); go_simp⟩, ?_⟩
  clear hK K
  refine AnyK.take (i := 1) rfl (by decide) (by kernel_rfl) (by kernel_rfl) (by kernel_rfl) (fun _ _ _ _ h => h) HS (fun K hK => ?_)
  go_simp
  refine hK.out _ ⟨_, by rfl, Or.inl ⟨by rfl, by intro w hSw; (try dsimp only at hSw); go_simp⟩, ?_⟩
  clear hK K
  refine AnyK.take (i := 2) rfl (by decide) (by kernel_rfl) (by kernel_rfl) (by kernel_rfl) (fun _ _ _ _ h => h) HS (fun K hK => ?_)
  go_simp
  refine hK.out _ ⟨_, by rfl, Or.inl ⟨by rfl, by intro w hSw; (try dsimp only at hSw); go_simp⟩, ?_⟩
  clear hK K
  refine AnyK.take (i := 4) rfl (by decide) (by kernel_rfl) (by kernel_rfl) (by kernel_rfl) (fun _ _ _ _ h => h) HS (fun K hK => ?_)
  go_simp
  refine hK.out _ ⟨_, by rfl, Or.inl ⟨by rfl, by intro w hSw; (try dsimp only at hSw); go_simp⟩, ?_⟩
  clear hK K
  refine AnyK.take (i := 5) rfl (by decide) (by kernel_rfl) (by kernel_rfl) (by kernel_rfl) (fun _ _ _ _ h => h) HS (fun K hK => ?_)
  go_simp
  refine hK.out _ ⟨_, by rfl, Or.inl ⟨by rfl, by intro w hSw; (try dsimp only at hSw); go_simp⟩, ?_⟩
  clear hK K
  refine AnyK.take (i := 6) rfl (by decide) (by kernel_rfl) (by kernel_rfl) (by kernel_rfl) (fun _ _ _ _ h => h) HS (fun K hK => ?_)
  go_simp
  refine hK.out _ ⟨_, by rfl, Or.inl ⟨by rfl, by intro w hSw; (try dsimp only at hSw); go_simp⟩, ?_⟩
  clear hK K
  refine AnyK.take (i := 7) rfl (by decide) (by kernel_rfl) (by kernel_rfl) (by kernel_rfl) (fun _ _ _ _ h => h) HS (fun K hK => ?_)
  go_simp
  refine hK.out _ ⟨_, by rfl, Or.inl ⟨by rfl, by intro w hSw; (try dsimp only at hSw); go_simp⟩, ?_⟩
  clear hK K
  refine AnyK.take (i := 8) rfl (by decide) (by kernel_rfl) (by kernel_rfl) (by kernel_rfl) (fun _ _ _ _ h => h) HS (fun K hK => ?_)
  go_simp
  refine hK.out _ ⟨_, by rfl, Or.inl ⟨by rfl, by intro w hSw; (try dsimp only at hSw); go_simp⟩, ?_⟩
  clear hK K
  refine AnyK.take (i := 9) rfl (by decide) (by kernel_rfl) (by kernel_rfl) (by kernel_rfl) (fun _ _ _ _ h => h) HS (fun K hK => ?_)
  go_simp
  refine hK.out _ ⟨_, by rfl, Or.inl ⟨by rfl, by intro w hSw; (try dsimp only at hSw); go_simp⟩, ?_⟩
  clear hK K
  refine AnyK.one (i := 3) rfl (by kernel_rfl) (fun K hK => ?_)
  go_simp
  refine (wordE_any _ o base HS.2.1).mono ?_
  rintro e w1 ⟨rfl, rfl⟩
  refine hK.out _ _ (fun _ => HS) ?_
  clear hK K
  refine AnyK.one (i := 10) rfl (by kernel_rfl) (fun K hK => ?_)
  go_simp
  refine (store_mi HM.out.drew hb base m ((j + 1 : Nat) : Int) hi).mono ?_
  rintro e w1 ⟨rfl, hM1, hF1⟩
  have hO1 : OpAt w1 o v := OpAt.two HO.out.drew hF1 h1 h2
  have HS : (fun w' : World => w'.cell? ⟨w.heap.size, 0, none⟩ = some (.pointer (some ⟨o, 0, none⟩)) ∧ w'.cell? ⟨o, 1, none⟩ = some (.int .i64 base) ∧ w'.cell? ⟨o, 9, none⟩ = some (.int .i64 (j : Int))) w1 := ⟨hF1.held HS.1 (fun h => h.elim hXp hXs), (by rw [← HBASE.out]; rw [Blk.cell hO1]; rfl), (by rw [← HHE.out]; rw [Blk.cell hO1]; rfl)⟩
  refine hK.out _ _ (fun _ => HS) ?_
  clear hK K
  have HO1 := Lib.hid hO1
  have HM1 := Lib.hid hM1
  have HF1 := Lib.hid (Fr.trans (HF.out.drew) (hF1.mono (fun _ h => .inr h)))
  clear hO1 hM1 hF1
  refine AnyK.take (i := 11) rfl (by decide) (by kernel_rfl) (by kernel_rfl) (by kernel_rfl) (fun _ _ _ _ h => h) HS (fun K hK => ?_)
  go_simp
  refine hK.out _ ⟨_, by rfl, Or.inl ⟨by rfl, by intro w hSw; (try dsimp only at hSw); go_simp⟩, ?_⟩
  clear hK K
  refine AnyK.take (i := 12) rfl (by decide) (by kernel_rfl) (by kernel_rfl) (by kernel_rfl) (fun _ _ _ _ h => h) HS (fun K hK => ?_)
  go_simp
  refine hK.out _ ⟨_, by rfl, Or.inl ⟨by rfl, by intro w hSw; (try dsimp only at hSw); go_simp⟩, ?_⟩
  clear hK K
  refine AnyK.done (by kernel_rfl) ?_ _
  go_wp2_with fail
  go_ret2
  exact ⟨rfl, HO1.out, HM1.out, HF1.out⟩

set_option maxHeartbeats 4000000 in
theorem ex_popLowers (w : World) (o p s : Nat) (v : OpV) (ws : List (Bool × Int)) (b : Nat) (hO : OpAt w o v) (hM : MI w p s ws b) (hb : b < 900000) (base : Nat) (hbase : v.base = base) (_hbl : base ≤ 60000) (j : Nat) (he : v.e = j) (_hj : j ≤ 60000) (m : Int) (hi : ws[base]? = some (true, m)) :
    Calls Try.prog 65 #[.agg #[.pointer (some ⟨o, 0, none⟩)], .pointer (some ⟨p, 0, none⟩)] w (MvP w o p s v (ws.set base (true, (j : Int))) b (mv 70 o) 0) := by
  obtain ⟨h1, h2⟩ := hO.ne hM
  have hol : o < w.heap.size := Blk.lt hO
  obtain ⟨hpl, hsl⟩ := hM.lt
  have hXp : w.heap.size ≠ p := by omega
  have hXs : w.heap.size ≠ s := by omega
  have hXo : w.heap.size ≠ o := by omega
  have hF0 : Fr (Thr o p s) w (w.alloc (.cells #[.pointer (some ⟨o, 0, none⟩)] 94)) := (Fr.refl _ _).alloc _
  have hX : Blk (w.alloc (.cells #[.pointer (some ⟨o, 0, none⟩)] 94)) w.heap.size 94 #[.pointer (some ⟨o, 0, none⟩)] := Blk.new _ _ _
  have hO0 : OpAt (w.alloc (.cells #[.pointer (some ⟨o, 0, none⟩)] 94)) o v := Blk.alloc hO _
  have hM0 : MI (w.alloc (.cells #[.pointer (some ⟨o, 0, none⟩)] 94)) p s ws b := hM.fr (B := fun _ => False) ((Fr.refl _ _).alloc _) (fun h => h) (fun h => h)
  have x0 : (w.alloc (.cells #[.pointer (some ⟨o, 0, none⟩)] 94)).cell? ⟨w.heap.size, 0, none⟩ = some (.pointer (some ⟨o, 0, none⟩)) := by rw [hX.cell]; rfl
  have c1 : (w.alloc (.cells #[.pointer (some ⟨o, 0, none⟩)] 94)).cell? ⟨o, 1, none⟩ = some (.int .i64 base) := by rw [← hbase]; rw [Blk.cell hO0]; rfl
  have c9 : (w.alloc (.cells #[.pointer (some ⟨o, 0, none⟩)] 94)).cell? ⟨o, 9, none⟩ = some (.int .i64 (j : Int)) := by rw [← he]; rw [Blk.cell hO0]; rfl
  have hmf := mf_any
  have HBASE := Lib.hid hbase
  clear hbase
  have HHE := Lib.hid he
  clear he
  have HX := Lib.hid hX
  have HO := Lib.hid hO0
  have HM := Lib.hid hM0
  have HF := Lib.hid hF0
  clear hX hO hO0 hM hM0 hF0
  go_enter Try.func65, Try.ntmps65
  go_wp2_with fail
  generalize hW0 : (w.alloc (.cells #[.pointer (some ⟨o, 0, none⟩)] 94)) = W0 at *
  clear hW0
  refine region_K 17 (fun w' : World => w'.cell? ⟨w.heap.size, 0, none⟩ = some (.pointer (some ⟨o, 0, none⟩)) ∧ w'.cell? ⟨o, 1, none⟩ = some (.int .i64 base) ∧ w'.cell? ⟨o, 9, none⟩ = some (.int .i64 (j : Int))) (by kernel_rfl) ?_
  have HS : (fun w' : World => w'.cell? ⟨w.heap.size, 0, none⟩ = some (.pointer (some ⟨o, 0, none⟩)) ∧ w'.cell? ⟨o, 1, none⟩ = some (.int .i64 base) ∧ w'.cell? ⟨o, 9, none⟩ = some (.int .i64 (j : Int))) (W0).drew := ⟨x0, c1, c9⟩
  refine AnyK.take (i := 0) rfl (by decide) (by kernel_rfl) (by kernel_rfl) (by kernel_rfl) (fun _ _ _ _ h => h) HS (fun K hK => ?_)
  go_simp
  refine hK.out _ ⟨_, by rfl, Or.inl ⟨by rfl, by intro w hSw; (try dsimp only at hSw); go_simp⟩, ?_⟩
  clear hK K
  refine AnyK.take (i := 1) rfl (by decide) (by kernel_rfl) (by kernel_rfl) (by kernel_rfl) (fun _ _ _ _ h => h) HS (fun K hK => ?_)
  go_simp
  refine hK.out _ ⟨_, by rfl, Or.inl ⟨by rfl, by intro w hSw; (try dsimp only at hSw); go_simp⟩, ?_⟩
  clear hK K
  refine AnyK.take (i := 2) rfl (by decide) (by kernel_rfl) (by kernel_rfl) (by kernel_rfl) (fun _ _ _ _ h => h) HS (fun K hK => ?_)
  go_simp
  refine hK.out _ ⟨_, by rfl, Or.inl ⟨by rfl, by intro w hSw; (try dsimp only at hSw); go_simp⟩, ?_⟩
  clear hK K
  refine AnyK.take (i := 4) rfl (by decide) (by kernel_rfl) (by kernel_rfl) (by kernel_rfl) (fun _ _ _ _ h => h) HS (fun K hK => ?_)
  go_simp
  refine hK.out _ ⟨_, by rfl, Or.inl ⟨by rfl, by intro w hSw; (try dsimp only at hSw); go_simp⟩, ?_⟩
  clear hK K
  refine AnyK.take (i := 5) rfl (by decide) (by kernel_rfl) (by kernel_rfl) (by kernel_rfl) (fun _ _ _ _ h => h) HS (fun K hK => ?_)
  go_simp
  refine hK.out _ ⟨_, by rfl, Or.inl ⟨by rfl, by intro w hSw; (try dsimp only at hSw); go_simp⟩, ?_⟩
  clear hK K
  refine AnyK.take (i := 6) rfl (by decide) (by kernel_rfl) (by kernel_rfl) (by kernel_rfl) (fun _ _ _ _ h => h) HS (fun K hK => ?_)
  go_simp
  refine hK.out _ ⟨_, by rfl, Or.inl ⟨by rfl, by intro w hSw; (try dsimp only at hSw); go_simp⟩, ?_⟩
  clear hK K
  refine AnyK.take (i := 7) rfl (by decide) (by kernel_rfl) (by kernel_rfl) (by kernel_rfl) (fun _ _ _ _ h => h) HS (fun K hK => ?_)
  go_simp
  refine hK.out _ ⟨_, by rfl, Or.inl ⟨by rfl, by intro w hSw; (try dsimp only at hSw); go_simp⟩, ?_⟩
  clear hK K
  refine AnyK.take (i := 8) rfl (by decide) (by kernel_rfl) (by kernel_rfl) (by kernel_rfl) (fun _ _ _ _ h => h) HS (fun K hK => ?_)
  go_simp
  refine hK.out _ ⟨_, by rfl, Or.inl ⟨by rfl, by intro w hSw; (try dsimp only at hSw); go_simp⟩, ?_⟩
  clear hK K
  refine AnyK.take (i := 10) rfl (by decide) (by kernel_rfl) (by kernel_rfl) (by kernel_rfl) (fun _ _ _ _ h => h) HS (fun K hK => ?_)
  go_simp
  refine hK.out _ ⟨_, by rfl, Or.inl ⟨by rfl, by intro w hSw; (try dsimp only at hSw); go_simp⟩, ?_⟩
  clear hK K
  refine AnyK.take (i := 11) rfl (by decide) (by kernel_rfl) (by kernel_rfl) (by kernel_rfl) (fun _ _ _ _ h => h) HS (fun K hK => ?_)
  go_simp
  refine hK.out _ ⟨_, by rfl, Or.inl ⟨by rfl, by intro w hSw; (try dsimp only at hSw); go_simp⟩, ?_⟩
  clear hK K
  refine AnyK.one (i := 3) rfl (by kernel_rfl) (fun K hK => ?_)
  go_simp
  refine (wordE_any _ o base HS.2.1).mono ?_
  rintro e w1 ⟨rfl, rfl⟩
  refine hK.out _ _ (fun _ => HS) ?_
  clear hK K
  refine AnyK.one (i := 9) rfl (by kernel_rfl) (fun K hK => ?_)
  go_simp
  refine (store_mi HM.out.drew hb base m (j : Int) hi).mono ?_
  rintro e w1 ⟨rfl, hM1, hF1⟩
  have hO1 : OpAt w1 o v := OpAt.two HO.out.drew hF1 h1 h2
  have HS : (fun w' : World => w'.cell? ⟨w.heap.size, 0, none⟩ = some (.pointer (some ⟨o, 0, none⟩)) ∧ w'.cell? ⟨o, 1, none⟩ = some (.int .i64 base) ∧ w'.cell? ⟨o, 9, none⟩ = some (.int .i64 (j : Int))) w1 := ⟨hF1.held HS.1 (fun h => h.elim hXp hXs), (by rw [← HBASE.out]; rw [Blk.cell hO1]; rfl), (by rw [← HHE.out]; rw [Blk.cell hO1]; rfl)⟩
  refine hK.out _ _ (fun _ => HS) ?_
  clear hK K
  have HO1 := Lib.hid hO1
  have HM1 := Lib.hid hM1
  have HF1 := Lib.hid (Fr.trans (HF.out.drew) (hF1.mono (fun _ h => .inr h)))
  clear hO1 hM1 hF1
  refine AnyK.one (i := 12) rfl (by kernel_rfl) (fun K hK => ?_)
  go_simp
  refine (behind_ok _ _).mono ?_
  rintro e w1 ⟨rfl, rfl⟩
  refine hK.out _ _ (fun _ => HS) ?_
  clear hK K
  refine AnyK.take (i := 13) rfl (by decide) (by kernel_rfl) (by kernel_rfl) (by kernel_rfl) (fun _ _ _ _ h => h) HS (fun K hK => ?_)
  go_simp
  refine hK.out _ ⟨_, by rfl, Or.inl ⟨by rfl, by intro w hSw; (try dsimp only at hSw); go_simp⟩, ?_⟩
  clear hK K
  refine AnyK.take (i := 14) rfl (by decide) (by kernel_rfl) (by kernel_rfl) (by kernel_rfl) (fun _ _ _ _ h => h) HS (fun K hK => ?_)
  go_simp
  refine hK.out _ ⟨_, by rfl, Or.inl ⟨by rfl, by intro w hSw; (try dsimp only at hSw); go_simp⟩, ?_⟩
  clear hK K
  refine AnyK.take (i := 15) rfl (by decide) (by kernel_rfl) (by kernel_rfl) (by kernel_rfl) (fun _ _ _ _ h => h) HS (fun K hK => ?_)
  go_simp
  refine hK.out _ ⟨_, by rfl, Or.inl ⟨by rfl, by intro w hSw; (try dsimp only at hSw); go_simp⟩, ?_⟩
  clear hK K
  refine AnyK.take (i := 16) rfl (by decide) (by kernel_rfl) (by kernel_rfl) (by kernel_rfl) (fun _ _ _ _ h => h) HS (fun K hK => ?_)
  go_simp
  refine hK.out _ ⟨_, by rfl, Or.inl ⟨by rfl, by intro w hSw; (try dsimp only at hSw); go_simp⟩, ?_⟩
  clear hK K
  refine AnyK.done (by kernel_rfl) ?_ _
  go_wp2_with fail
  go_ret2
  exact ⟨rfl, HO1.out, HM1.out, HF1.out⟩

set_option maxHeartbeats 4000000 in
theorem ex_popFinds (w : World) (o p s : Nat) (v : OpV) (ws : List (Bool × Int)) (b : Nat) (hO : OpAt w o v) (hM : MI w p s ws b) (hb : b < 900000) (base : Nat) (hbase : v.base = base) (_hbl : base ≤ 60000) (j : Nat) (he : v.e = j) (hj : j ≤ 60000) (n : Int) (hi : ws[base + 2 + j]? = some (true, n)) :
    Calls Try.prog 70 #[.agg #[.pointer (some ⟨o, 0, none⟩)], .pointer (some ⟨p, 0, none⟩)] w (MvP w o p s { v with num := n } ws b (mv 78 o) 0) := by
  obtain ⟨h1, h2⟩ := hO.ne hM
  have hol : o < w.heap.size := Blk.lt hO
  obtain ⟨hpl, hsl⟩ := hM.lt
  have hXp : w.heap.size ≠ p := by omega
  have hXs : w.heap.size ≠ s := by omega
  have hXo : w.heap.size ≠ o := by omega
  have hF0 : Fr (Thr o p s) w (w.alloc (.cells #[.pointer (some ⟨o, 0, none⟩)] 94)) := (Fr.refl _ _).alloc _
  have hX : Blk (w.alloc (.cells #[.pointer (some ⟨o, 0, none⟩)] 94)) w.heap.size 94 #[.pointer (some ⟨o, 0, none⟩)] := Blk.new _ _ _
  have hO0 : OpAt (w.alloc (.cells #[.pointer (some ⟨o, 0, none⟩)] 94)) o v := Blk.alloc hO _
  have hM0 : MI (w.alloc (.cells #[.pointer (some ⟨o, 0, none⟩)] 94)) p s ws b := hM.fr (B := fun _ => False) ((Fr.refl _ _).alloc _) (fun h => h) (fun h => h)
  have x0 : (w.alloc (.cells #[.pointer (some ⟨o, 0, none⟩)] 94)).cell? ⟨w.heap.size, 0, none⟩ = some (.pointer (some ⟨o, 0, none⟩)) := by rw [hX.cell]; rfl
  have c1 : (w.alloc (.cells #[.pointer (some ⟨o, 0, none⟩)] 94)).cell? ⟨o, 1, none⟩ = some (.int .i64 base) := by rw [← hbase]; rw [Blk.cell hO0]; rfl
  have c9 : (w.alloc (.cells #[.pointer (some ⟨o, 0, none⟩)] 94)).cell? ⟨o, 9, none⟩ = some (.int .i64 (j : Int)) := by rw [← he]; rw [Blk.cell hO0]; rfl
  have hmf := mf_any
  have HBASE := Lib.hid hbase
  clear hbase
  have HHE := Lib.hid he
  clear he
  have HX := Lib.hid hX
  have HO := Lib.hid hO0
  have HM := Lib.hid hM0
  have HF := Lib.hid hF0
  clear hX hO hO0 hM hM0 hF0
  go_enter Try.func70, Try.ntmps70
  go_wp2_with fail
  generalize hW0 : (w.alloc (.cells #[.pointer (some ⟨o, 0, none⟩)] 94)) = W0 at *
  clear hW0
  refine region_K 15 (fun w' : World => w'.cell? ⟨w.heap.size, 0, none⟩ = some (.pointer (some ⟨o, 0, none⟩)) ∧ w'.cell? ⟨o, 1, none⟩ = some (.int .i64 base) ∧ w'.cell? ⟨o, 9, none⟩ = some (.int .i64 (j : Int))) (by kernel_rfl) ?_
  have HS : (fun w' : World => w'.cell? ⟨w.heap.size, 0, none⟩ = some (.pointer (some ⟨o, 0, none⟩)) ∧ w'.cell? ⟨o, 1, none⟩ = some (.int .i64 base) ∧ w'.cell? ⟨o, 9, none⟩ = some (.int .i64 (j : Int))) (W0).drew := ⟨x0, c1, c9⟩
  refine AnyK.take (i := 0) rfl (by decide) (by kernel_rfl) (by kernel_rfl) (by kernel_rfl) (fun _ _ _ _ h => h) HS (fun K hK => ?_)
  go_simp
  refine hK.out _ ⟨_, by rfl, Or.inl ⟨by rfl, by intro w hSw; (try dsimp only at hSw); go_simp⟩, ?_⟩
  clear hK K
  refine AnyK.take (i := 1) rfl (by decide) (by kernel_rfl) (by kernel_rfl) (by kernel_rfl) (fun _ _ _ _ h => h) HS (fun K hK => ?_)
  go_simp
  refine hK.out _ ⟨_, by rfl, Or.inl ⟨by rfl, by intro w hSw; (try dsimp only at hSw); go_simp⟩, ?_⟩
  clear hK K
  refine AnyK.take (i := 2) rfl (by decide) (by kernel_rfl) (by kernel_rfl) (by kernel_rfl) (fun _ _ _ _ h => h) HS (fun K hK => ?_)
  go_simp
  refine hK.out _ ⟨_, by rfl, Or.inl ⟨by rfl, by intro w hSw; (try dsimp only at hSw); go_simp⟩, ?_⟩
  clear hK K
  refine AnyK.take (i := 3) rfl (by decide) (by kernel_rfl) (by kernel_rfl) (by kernel_rfl) (fun _ _ _ _ h => h) HS (fun K hK => ?_)
  go_simp
  refine hK.out _ ⟨_, by rfl, Or.inl ⟨by rfl, by intro w hSw; (try dsimp only at hSw); go_simp⟩, ?_⟩
  clear hK K
  refine AnyK.take (i := 4) rfl (by decide) (by kernel_rfl) (by kernel_rfl) (by kernel_rfl) (fun _ _ _ _ h => h) HS (fun K hK => ?_)
  go_simp
  refine hK.out _ ⟨_, by rfl, Or.inl ⟨by rfl, by intro w hSw; (try dsimp only at hSw); go_simp⟩, ?_⟩
  clear hK K
  refine AnyK.take (i := 5) rfl (by decide) (by kernel_rfl) (by kernel_rfl) (by kernel_rfl) (fun _ _ _ _ h => h) HS (fun K hK => ?_)
  go_simp
  refine hK.out _ ⟨_, by rfl, Or.inl ⟨by rfl, by intro w hSw; (try dsimp only at hSw); go_simp⟩, ?_⟩
  clear hK K
  refine AnyK.take (i := 6) rfl (by decide) (by kernel_rfl) (by kernel_rfl) (by kernel_rfl) (fun _ _ _ _ h => h) HS (fun K hK => ?_)
  go_simp
  refine hK.out _ ⟨_, by rfl, Or.inl ⟨by rfl, by intro w hSw; (try dsimp only at hSw); go_simp⟩, ?_⟩
  clear hK K
  refine AnyK.take (i := 7) rfl (by decide) (by kernel_rfl) (by kernel_rfl) (by kernel_rfl) (fun _ _ _ _ h => h) HS (fun K hK => ?_)
  go_simp
  refine hK.out _ ⟨_, by rfl, Or.inl ⟨by rfl, by intro w hSw; (try dsimp only at hSw); go_simp⟩, ?_⟩
  clear hK K
  refine AnyK.take (i := 8) rfl (by decide) (by kernel_rfl) (by kernel_rfl) (by kernel_rfl) (fun _ _ _ _ h => h) HS (fun K hK => ?_)
  go_simp
  refine hK.out _ ⟨_, by rfl, Or.inl ⟨by rfl, by intro w hSw; (try dsimp only at hSw); go_simp⟩, ?_⟩
  clear hK K
  refine AnyK.take (i := 9) rfl (by decide) (by kernel_rfl) (by kernel_rfl) (by kernel_rfl) (fun _ _ _ _ h => h) HS (fun K hK => ?_)
  go_simp
  refine hK.out _ ⟨_, by rfl, Or.inl ⟨by rfl, by intro w hSw; (try dsimp only at hSw); go_simp⟩, ?_⟩
  clear hK K
  refine AnyK.one (i := 10) rfl (by kernel_rfl) (fun K hK => ?_)
  go_simp
  refine (find_any W0.drew o p s v ws b HO.out.drew HM.out.drew hb base j HBASE.out (by omega) (by omega) n hi _).mono ?_
  rintro e w1 ⟨rfl, hO1, hM1, hF1⟩
  have HS : (fun w' : World => w'.cell? ⟨w.heap.size, 0, none⟩ = some (.pointer (some ⟨o, 0, none⟩)) ∧ w'.cell? ⟨o, 1, none⟩ = some (.int .i64 base) ∧ w'.cell? ⟨o, 9, none⟩ = some (.int .i64 (j : Int))) w1 := ⟨hF1.held HS.1 (fun h => h.elim hXo (fun h => h.elim hXp hXs)), (by rw [← HBASE.out]; rw [Blk.cell hO1]; rfl), (by rw [← HHE.out]; rw [Blk.cell hO1]; rfl)⟩
  refine hK.out _ _ (fun _ => HS) ?_
  clear hK K
  have HO1 := Lib.hid hO1
  have HM1 := Lib.hid hM1
  have HF1 := Lib.hid (Fr.trans (HF.out.drew) hF1)
  clear hO1 hM1 hF1
  refine AnyK.take (i := 11) rfl (by decide) (by kernel_rfl) (by kernel_rfl) (by kernel_rfl) (fun _ _ _ _ h => h) HS (fun K hK => ?_)
  go_simp
  refine hK.out _ ⟨_, by rfl, Or.inl ⟨by rfl, by intro w hSw; (try dsimp only at hSw); go_simp⟩, ?_⟩
  clear hK K
  refine AnyK.take (i := 12) rfl (by decide) (by kernel_rfl) (by kernel_rfl) (by kernel_rfl) (fun _ _ _ _ h => h) HS (fun K hK => ?_)
  go_simp
  refine hK.out _ ⟨_, by rfl, Or.inl ⟨by rfl, by intro w hSw; (try dsimp only at hSw); go_simp⟩, ?_⟩
  clear hK K
  refine AnyK.take (i := 13) rfl (by decide) (by kernel_rfl) (by kernel_rfl) (by kernel_rfl) (fun _ _ _ _ h => h) HS (fun K hK => ?_)
  go_simp
  refine hK.out _ ⟨_, by rfl, Or.inl ⟨by rfl, by intro w hSw; (try dsimp only at hSw); go_simp⟩, ?_⟩
  clear hK K
  refine AnyK.take (i := 14) rfl (by decide) (by kernel_rfl) (by kernel_rfl) (by kernel_rfl) (fun _ _ _ _ h => h) HS (fun K hK => ?_)
  go_simp
  refine hK.out _ ⟨_, by rfl, Or.inl ⟨by rfl, by intro w hSw; (try dsimp only at hSw); go_simp⟩, ?_⟩
  clear hK K
  refine AnyK.done (by kernel_rfl) ?_ _
  go_wp2_with fail
  go_ret2
  exact ⟨rfl, HO1.out, HM1.out, HF1.out⟩

set_option maxHeartbeats 4000000 in
theorem ex_stealFinds (w : World) (o p s : Nat) (v : OpV) (ws : List (Bool × Int)) (b : Nat) (hO : OpAt w o v) (hM : MI w p s ws b) (hb : b < 900000) (base : Nat) (hbase : v.base = base) (_hbl : base ≤ 60000) (t : Nat) (ht : v.t = t) (htl : t < 1152921504606846976) (q : Nat) (hq : t % 65536 = q) (n : Int) (hi : ws[base + 2 + q]? = some (true, n)) :
    Calls Try.prog 75 #[.agg #[.pointer (some ⟨o, 0, none⟩)], .pointer (some ⟨p, 0, none⟩)] w (MvP w o p s { v with num := n } ws b (mv 80 o) 0) := by
  obtain ⟨h1, h2⟩ := hO.ne hM
  have hol : o < w.heap.size := Blk.lt hO
  obtain ⟨hpl, hsl⟩ := hM.lt
  have hXp : w.heap.size ≠ p := by omega
  have hXs : w.heap.size ≠ s := by omega
  have hXo : w.heap.size ≠ o := by omega
  have hF0 : Fr (Thr o p s) w (w.alloc (.cells #[.pointer (some ⟨o, 0, none⟩)] 94)) := (Fr.refl _ _).alloc _
  have hX : Blk (w.alloc (.cells #[.pointer (some ⟨o, 0, none⟩)] 94)) w.heap.size 94 #[.pointer (some ⟨o, 0, none⟩)] := Blk.new _ _ _
  have hO0 : OpAt (w.alloc (.cells #[.pointer (some ⟨o, 0, none⟩)] 94)) o v := Blk.alloc hO _
  have hM0 : MI (w.alloc (.cells #[.pointer (some ⟨o, 0, none⟩)] 94)) p s ws b := hM.fr (B := fun _ => False) ((Fr.refl _ _).alloc _) (fun h => h) (fun h => h)
  have x0 : (w.alloc (.cells #[.pointer (some ⟨o, 0, none⟩)] 94)).cell? ⟨w.heap.size, 0, none⟩ = some (.pointer (some ⟨o, 0, none⟩)) := by rw [hX.cell]; rfl
  have c1 : (w.alloc (.cells #[.pointer (some ⟨o, 0, none⟩)] 94)).cell? ⟨o, 1, none⟩ = some (.int .i64 base) := by rw [← hbase]; rw [Blk.cell hO0]; rfl
  have c10 : (w.alloc (.cells #[.pointer (some ⟨o, 0, none⟩)] 94)).cell? ⟨o, 10, none⟩ = some (.int .i64 (t : Int)) := by rw [← ht]; rw [Blk.cell hO0]; rfl
  have hmf := mf_any
  have HBASE := Lib.hid hbase
  clear hbase
  have HHT := Lib.hid ht
  clear ht
  have HX := Lib.hid hX
  have HO := Lib.hid hO0
  have HM := Lib.hid hM0
  have HF := Lib.hid hF0
  clear hX hO hO0 hM hM0 hF0
  have hql : q ≤ 65536 := by omega
  have HQ := Lib.hid hq
  clear hq
  go_enter Try.func75, Try.ntmps75
  go_wp2_with fail
  generalize hW0 : (w.alloc (.cells #[.pointer (some ⟨o, 0, none⟩)] 94)) = W0 at *
  clear hW0
  refine region_K 16 (fun w' : World => w'.cell? ⟨w.heap.size, 0, none⟩ = some (.pointer (some ⟨o, 0, none⟩)) ∧ w'.cell? ⟨o, 1, none⟩ = some (.int .i64 base) ∧ w'.cell? ⟨o, 10, none⟩ = some (.int .i64 (t : Int))) (by kernel_rfl) ?_
  have HS : (fun w' : World => w'.cell? ⟨w.heap.size, 0, none⟩ = some (.pointer (some ⟨o, 0, none⟩)) ∧ w'.cell? ⟨o, 1, none⟩ = some (.int .i64 base) ∧ w'.cell? ⟨o, 10, none⟩ = some (.int .i64 (t : Int))) (W0).drew := ⟨x0, c1, c10⟩
  refine AnyK.take (i := 0) rfl (by decide) (by kernel_rfl) (by kernel_rfl) (by kernel_rfl) (fun _ _ _ _ h => h) HS (fun K hK => ?_)
  go_simp
  refine hK.out _ ⟨_, by rfl, Or.inl ⟨by rfl, by intro w hSw; (try dsimp only at hSw); go_simp⟩, ?_⟩
  clear hK K
  refine AnyK.take (i := 1) rfl (by decide) (by kernel_rfl) (by kernel_rfl) (by kernel_rfl) (fun _ _ _ _ h => h) HS (fun K hK => ?_)
  go_simp
  refine hK.out _ ⟨_, by rfl, Or.inl ⟨by rfl, by intro w hSw; (try dsimp only at hSw); go_simp⟩, ?_⟩
  clear hK K
  refine AnyK.take (i := 2) rfl (by decide) (by kernel_rfl) (by kernel_rfl) (by kernel_rfl) (fun _ _ _ _ h => h) HS (fun K hK => ?_)
  go_simp
  refine hK.out _ ⟨_, by rfl, Or.inl ⟨by rfl, by intro w hSw; (try dsimp only at hSw); go_simp⟩, ?_⟩
  clear hK K
  refine AnyK.take (i := 3) rfl (by decide) (by kernel_rfl) (by kernel_rfl) (by kernel_rfl) (fun _ _ _ _ h => h) HS (fun K hK => ?_)
  go_simp
  refine hK.out _ ⟨_, by rfl, Or.inl ⟨by rfl, by intro w hSw; (try dsimp only at hSw); go_simp⟩, ?_⟩
  clear hK K
  refine AnyK.take (i := 4) rfl (by decide) (by kernel_rfl) (by kernel_rfl) (by kernel_rfl) (fun _ _ _ _ h => h) HS (fun K hK => ?_)
  go_simp
  refine hK.out _ ⟨_, by rfl, Or.inl ⟨by rfl, by intro w hSw; (try dsimp only at hSw); go_simp⟩, ?_⟩
  clear hK K
  refine AnyK.take (i := 5) rfl (by decide) (by kernel_rfl) (by kernel_rfl) (by kernel_rfl) (fun _ _ _ _ h => h) HS (fun K hK => ?_)
  go_simp
  refine hK.out _ ⟨_, by rfl, Or.inl ⟨by rfl, by intro w hSw; (try dsimp only at hSw); go_simp⟩, ?_⟩
  clear hK K
  refine AnyK.take (i := 6) rfl (by decide) (by kernel_rfl) (by kernel_rfl) (by kernel_rfl) (fun _ _ _ _ h => h) HS (fun K hK => ?_)
  go_simp
  refine hK.out _ ⟨_, by rfl, Or.inl ⟨by rfl, by intro w hSw; (try dsimp only at hSw); go_simp⟩, ?_⟩
  clear hK K
  refine AnyK.take (i := 7) rfl (by decide) (by kernel_rfl) (by kernel_rfl) (by kernel_rfl) (fun _ _ _ _ h => h) HS (fun K hK => ?_)
  go_simp
  refine hK.out _ ⟨_, by rfl, Or.inl ⟨by rfl, by intro w hSw; (try dsimp only at hSw); go_simp⟩, ?_⟩
  clear hK K
  refine AnyK.take (i := 9) rfl (by decide) (by kernel_rfl) (by kernel_rfl) (by kernel_rfl) (fun _ _ _ _ h => h) HS (fun K hK => ?_)
  go_simp
  refine hK.out _ ⟨_, by rfl, Or.inl ⟨by rfl, by intro w hSw; (try dsimp only at hSw); go_simp⟩, ?_⟩
  clear hK K
  refine AnyK.take (i := 10) rfl (by decide) (by kernel_rfl) (by kernel_rfl) (by kernel_rfl) (fun _ _ _ _ h => h) HS (fun K hK => ?_)
  go_simp
  refine hK.out _ ⟨_, by rfl, Or.inl ⟨by rfl, by intro w hSw; (try dsimp only at hSw); go_simp⟩, ?_⟩
  clear hK K
  refine AnyK.one (i := 8) rfl (by kernel_rfl) (fun K hK => ?_)
  go_simp
  refine (place_q _ t q htl HQ.out).mono ?_
  rintro e w1 ⟨rfl, rfl⟩
  refine hK.out _ _ (fun _ => HS) ?_
  clear hK K
  refine AnyK.one (i := 11) rfl (by kernel_rfl) (fun K hK => ?_)
  go_simp
  refine (find_any W0.drew o p s v ws b HO.out.drew HM.out.drew hb base q HBASE.out (by omega) hql n hi _).mono ?_
  rintro e w1 ⟨rfl, hO1, hM1, hF1⟩
  have HS : (fun w' : World => w'.cell? ⟨w.heap.size, 0, none⟩ = some (.pointer (some ⟨o, 0, none⟩)) ∧ w'.cell? ⟨o, 1, none⟩ = some (.int .i64 base) ∧ w'.cell? ⟨o, 10, none⟩ = some (.int .i64 (t : Int))) w1 := ⟨hF1.held HS.1 (fun h => h.elim hXo (fun h => h.elim hXp hXs)), (by rw [← HBASE.out]; rw [Blk.cell hO1]; rfl), (by rw [← HHT.out]; rw [Blk.cell hO1]; rfl)⟩
  refine hK.out _ _ (fun _ => HS) ?_
  clear hK K
  have HO1 := Lib.hid hO1
  have HM1 := Lib.hid hM1
  have HF1 := Lib.hid (Fr.trans (HF.out.drew) hF1)
  clear hO1 hM1 hF1
  refine AnyK.take (i := 12) rfl (by decide) (by kernel_rfl) (by kernel_rfl) (by kernel_rfl) (fun _ _ _ _ h => h) HS (fun K hK => ?_)
  go_simp
  refine hK.out _ ⟨_, by rfl, Or.inl ⟨by rfl, by intro w hSw; (try dsimp only at hSw); go_simp⟩, ?_⟩
  clear hK K
  refine AnyK.take (i := 13) rfl (by decide) (by kernel_rfl) (by kernel_rfl) (by kernel_rfl) (fun _ _ _ _ h => h) HS (fun K hK => ?_)
  go_simp
  refine hK.out _ ⟨_, by rfl, Or.inl ⟨by rfl, by intro w hSw; (try dsimp only at hSw); go_simp⟩, ?_⟩
  clear hK K
  refine AnyK.take (i := 14) rfl (by decide) (by kernel_rfl) (by kernel_rfl) (by kernel_rfl) (fun _ _ _ _ h => h) HS (fun K hK => ?_)
  go_simp
  refine hK.out _ ⟨_, by rfl, Or.inl ⟨by rfl, by intro w hSw; (try dsimp only at hSw); go_simp⟩, ?_⟩
  clear hK K
  refine AnyK.take (i := 15) rfl (by decide) (by kernel_rfl) (by kernel_rfl) (by kernel_rfl) (fun _ _ _ _ h => h) HS (fun K hK => ?_)
  go_simp
  refine hK.out _ ⟨_, by rfl, Or.inl ⟨by rfl, by intro w hSw; (try dsimp only at hSw); go_simp⟩, ?_⟩
  clear hK K
  refine AnyK.done (by kernel_rfl) ?_ _
  go_wp2_with fail
  go_ret2
  exact ⟨rfl, HO1.out, HM1.out, HF1.out⟩

set_option maxHeartbeats 4000000 in
theorem ex_stealRaces_yes (w : World) (o p s : Nat) (v : OpV) (ws : List (Bool × Int)) (b : Nat) (hO : OpAt w o v) (hM : MI w p s ws b) (hb : b < 900000) (base : Nat) (hbase : v.base = base) (_hbl : base ≤ 60000) (t : Nat) (ht : v.t = t) (htl : t < 1152921504606846976) (m : Int) (hi : ws[base + 1]? = some (true, m)) (hm : m = v.t) :
    Calls Try.prog 80 #[.agg #[.pointer (some ⟨o, 0, none⟩)], .pointer (some ⟨p, 0, none⟩)] w (MvP w o p s v (ws.set (base + 1) (true, ((t + 1 : Nat) : Int))) b .nilFunc 0) := by
  obtain ⟨h1, h2⟩ := hO.ne hM
  have hol : o < w.heap.size := Blk.lt hO
  obtain ⟨hpl, hsl⟩ := hM.lt
  have hXp : w.heap.size ≠ p := by omega
  have hXs : w.heap.size ≠ s := by omega
  have hXo : w.heap.size ≠ o := by omega
  have hF0 : Fr (Thr o p s) w (w.alloc (.cells #[.pointer (some ⟨o, 0, none⟩)] 94)) := (Fr.refl _ _).alloc _
  have hX : Blk (w.alloc (.cells #[.pointer (some ⟨o, 0, none⟩)] 94)) w.heap.size 94 #[.pointer (some ⟨o, 0, none⟩)] := Blk.new _ _ _
  have hO0 : OpAt (w.alloc (.cells #[.pointer (some ⟨o, 0, none⟩)] 94)) o v := Blk.alloc hO _
  have hM0 : MI (w.alloc (.cells #[.pointer (some ⟨o, 0, none⟩)] 94)) p s ws b := hM.fr (B := fun _ => False) ((Fr.refl _ _).alloc _) (fun h => h) (fun h => h)
  have x0 : (w.alloc (.cells #[.pointer (some ⟨o, 0, none⟩)] 94)).cell? ⟨w.heap.size, 0, none⟩ = some (.pointer (some ⟨o, 0, none⟩)) := by rw [hX.cell]; rfl
  have c1 : (w.alloc (.cells #[.pointer (some ⟨o, 0, none⟩)] 94)).cell? ⟨o, 1, none⟩ = some (.int .i64 base) := by rw [← hbase]; rw [Blk.cell hO0]; rfl
  have c10 : (w.alloc (.cells #[.pointer (some ⟨o, 0, none⟩)] 94)).cell? ⟨o, 10, none⟩ = some (.int .i64 (t : Int)) := by rw [← ht]; rw [Blk.cell hO0]; rfl
  have hmf := mf_any
  have HBASE := Lib.hid hbase
  clear hbase
  have HHT := Lib.hid ht
  clear ht
  have HX := Lib.hid hX
  have HO := Lib.hid hO0
  have HM := Lib.hid hM0
  have HF := Lib.hid hF0
  clear hX hO hO0 hM hM0 hF0
  have hw : IntKind.i64.wrap ((t : Int) + 1) = (t : Int) + 1 := IntWalk.i64_in _ (by omega)
  have HMM := Lib.hid hm
  clear hm
  go_enter Try.func80, Try.ntmps80
  go_wp2_with fail
  generalize hW0 : (w.alloc (.cells #[.pointer (some ⟨o, 0, none⟩)] 94)) = W0 at *
  clear hW0
  refine region_K 14 (fun w' : World => w'.cell? ⟨w.heap.size, 0, none⟩ = some (.pointer (some ⟨o, 0, none⟩)) ∧ w'.cell? ⟨o, 1, none⟩ = some (.int .i64 base) ∧ w'.cell? ⟨o, 10, none⟩ = some (.int .i64 (t : Int))) (by kernel_rfl) ?_
  have HS : (fun w' : World => w'.cell? ⟨w.heap.size, 0, none⟩ = some (.pointer (some ⟨o, 0, none⟩)) ∧ w'.cell? ⟨o, 1, none⟩ = some (.int .i64 base) ∧ w'.cell? ⟨o, 10, none⟩ = some (.int .i64 (t : Int))) (W0).drew := ⟨x0, c1, c10⟩
  refine AnyK.take (i := 0) rfl (by decide) (by kernel_rfl) (by kernel_rfl) (by kernel_rfl) (fun _ _ _ _ h => h) HS (fun K hK => ?_)
  go_simp
  refine hK.out _ ⟨_, by rfl, Or.inl ⟨by rfl, by intro w hSw; (try dsimp only at hSw); go_simp⟩, ?_⟩
  clear hK K
  refine AnyK.take (i := 1) rfl (by decide) (by kernel_rfl) (by kernel_rfl) (by kernel_rfl) (fun _ _ _ _ h => h) HS (fun K hK => ?_)
  go_simp
  refine hK.out _ ⟨_, by rfl, Or.inl ⟨by rfl, by intro w hSw; (try dsimp only at hSw); go_simp⟩, ?_⟩
  clear hK K
  refine AnyK.take (i := 2) rfl (by decide) (by kernel_rfl) (by kernel_rfl) (by kernel_rfl) (fun _ _ _ _ h => h) HS (fun K hK => ?_)
  go_simp
  refine hK.out _ ⟨_, by rfl, Or.inl ⟨by rfl, by intro w hSw; (try dsimp only at hSw); go_simp⟩, ?_⟩
  clear hK K
  refine AnyK.take (i := 3) rfl (by decide) (by kernel_rfl) (by kernel_rfl) (by kernel_rfl) (fun _ _ _ _ h => h) HS (fun K hK => ?_)
  go_simp
  refine hK.out _ ⟨_, by rfl, Or.inl ⟨by rfl, by intro w hSw; (try dsimp only at hSw); go_simp⟩, ?_⟩
  clear hK K
  refine AnyK.take (i := 4) rfl (by decide) (by kernel_rfl) (by kernel_rfl) (by kernel_rfl) (fun _ _ _ _ h => h) HS (fun K hK => ?_)
  go_simp
  refine hK.out _ ⟨_, by rfl, Or.inl ⟨by rfl, by intro w hSw; (try dsimp only at hSw); go_simp⟩, ?_⟩
  clear hK K
  refine AnyK.take (i := 5) rfl (by decide) (by kernel_rfl) (by kernel_rfl) (by kernel_rfl) (fun _ _ _ _ h => h) HS (fun K hK => ?_)
  go_simp
  refine hK.out _ ⟨_, by rfl, Or.inl ⟨by rfl, by intro w hSw; (try dsimp only at hSw); go_simp⟩, ?_⟩
  clear hK K
  refine AnyK.take (i := 6) rfl (by decide) (by kernel_rfl) (by kernel_rfl) (by kernel_rfl) (fun _ _ _ _ h => h) HS (fun K hK => ?_)
  go_simp
  refine hK.out _ ⟨_, by rfl, Or.inl ⟨by rfl, by intro w hSw; (try dsimp only at hSw); go_simp⟩, ?_⟩
  clear hK K
  refine AnyK.take (i := 7) rfl (by decide) (by kernel_rfl) (by kernel_rfl) (by kernel_rfl) (fun _ _ _ _ h => h) HS (fun K hK => ?_)
  go_simp
  refine hK.out _ ⟨_, by rfl, Or.inl ⟨by rfl, by intro w hSw; (try dsimp only at hSw); go_simp⟩, ?_⟩
  clear hK K
  refine AnyK.take (i := 8) rfl (by decide) (by kernel_rfl) (by kernel_rfl) (by kernel_rfl) (fun _ _ _ _ h => h) HS (fun K hK => ?_)
  go_simp
  refine hK.out _ ⟨_, by rfl, Or.inl ⟨by rfl, by intro w hSw; (try dsimp only at hSw); go_simp⟩, ?_⟩
  clear hK K
  refine AnyK.one (i := 9) rfl (by kernel_rfl) (fun K hK => ?_)
  go_simp
  refine (race_yes W0.drew o p s v ws b HO.out.drew HM.out.drew hb base HBASE.out (by omega) m hi ((t + 1 : Nat) : Int) HMM.out).mono ?_
  rintro e w1 ⟨rfl, hO1, hM1, hF1⟩
  have HS : (fun w' : World => w'.cell? ⟨w.heap.size, 0, none⟩ = some (.pointer (some ⟨o, 0, none⟩)) ∧ w'.cell? ⟨o, 1, none⟩ = some (.int .i64 base) ∧ w'.cell? ⟨o, 10, none⟩ = some (.int .i64 (t : Int))) w1 := ⟨hF1.held HS.1 (fun h => h.elim hXo (fun h => h.elim hXp hXs)), (by rw [← HBASE.out]; rw [Blk.cell hO1]; rfl), (by rw [← HHT.out]; rw [Blk.cell hO1]; rfl)⟩
  refine hK.out _ _ (fun _ => HS) ?_
  clear hK K
  have HO1 := Lib.hid hO1
  have HM1 := Lib.hid hM1
  have HF1 := Lib.hid (Fr.trans (HF.out.drew) hF1)
  clear hO1 hM1 hF1
  refine AnyK.take (i := 10) rfl (by decide) (by kernel_rfl) (by kernel_rfl) (by kernel_rfl) (fun _ _ _ _ h => h) HS (fun K hK => ?_)
  go_simp
  refine hK.out _ ⟨_, by rfl, Or.inl ⟨by rfl, by intro w hSw; (try dsimp only at hSw); go_simp⟩, ?_⟩
  clear hK K
  refine AnyK.take (i := 11) rfl (by decide) (by kernel_rfl) (by kernel_rfl) (by kernel_rfl) (fun _ _ _ _ h => h) HS (fun K hK => ?_)
  go_simp
  refine hK.out _ ⟨_, by rfl, Or.inl ⟨by rfl, by intro w hSw; (try dsimp only at hSw); go_simp⟩, ?_⟩
  clear hK K
  refine AnyK.take (i := 12) rfl (by decide) (by kernel_rfl) (by kernel_rfl) (by kernel_rfl) (fun _ _ _ _ h => h) HS (fun K hK => ?_)
  go_simp
  refine hK.out _ ⟨_, by rfl, Or.inl ⟨by rfl, by intro w hSw; (try dsimp only at hSw); go_simp⟩, ?_⟩
  clear hK K
  refine AnyK.take (i := 13) rfl (by decide) (by kernel_rfl) (by kernel_rfl) (by kernel_rfl) (fun _ _ _ _ h => h) HS (fun K hK => ?_)
  go_simp
  refine hK.out _ ⟨_, by rfl, Or.inl ⟨by rfl, by intro w hSw; (try dsimp only at hSw); go_simp⟩, ?_⟩
  clear hK K
  refine AnyK.done (by kernel_rfl) ?_ _
  go_wp2_with fail
  go_ret2
  exact ⟨rfl, HO1.out, HM1.out, HF1.out⟩

set_option maxHeartbeats 4000000 in
theorem ex_stealRaces_no (w : World) (o p s : Nat) (v : OpV) (ws : List (Bool × Int)) (b : Nat) (hO : OpAt w o v) (hM : MI w p s ws b) (hb : b < 900000) (base : Nat) (hbase : v.base = base) (_hbl : base ≤ 60000) (t : Nat) (ht : v.t = t) (htl : t < 1152921504606846976) (m : Int) (hi : ws[base + 1]? = some (true, m)) (hm : ¬ m = v.t) :
    Calls Try.prog 80 #[.agg #[.pointer (some ⟨o, 0, none⟩)], .pointer (some ⟨p, 0, none⟩)] w (MvP w o p s v ws b .nilFunc 10) := by
  obtain ⟨h1, h2⟩ := hO.ne hM
  have hol : o < w.heap.size := Blk.lt hO
  obtain ⟨hpl, hsl⟩ := hM.lt
  have hXp : w.heap.size ≠ p := by omega
  have hXs : w.heap.size ≠ s := by omega
  have hXo : w.heap.size ≠ o := by omega
  have hF0 : Fr (Thr o p s) w (w.alloc (.cells #[.pointer (some ⟨o, 0, none⟩)] 94)) := (Fr.refl _ _).alloc _
  have hX : Blk (w.alloc (.cells #[.pointer (some ⟨o, 0, none⟩)] 94)) w.heap.size 94 #[.pointer (some ⟨o, 0, none⟩)] := Blk.new _ _ _
  have hO0 : OpAt (w.alloc (.cells #[.pointer (some ⟨o, 0, none⟩)] 94)) o v := Blk.alloc hO _
  have hM0 : MI (w.alloc (.cells #[.pointer (some ⟨o, 0, none⟩)] 94)) p s ws b := hM.fr (B := fun _ => False) ((Fr.refl _ _).alloc _) (fun h => h) (fun h => h)
  have x0 : (w.alloc (.cells #[.pointer (some ⟨o, 0, none⟩)] 94)).cell? ⟨w.heap.size, 0, none⟩ = some (.pointer (some ⟨o, 0, none⟩)) := by rw [hX.cell]; rfl
  have c1 : (w.alloc (.cells #[.pointer (some ⟨o, 0, none⟩)] 94)).cell? ⟨o, 1, none⟩ = some (.int .i64 base) := by rw [← hbase]; rw [Blk.cell hO0]; rfl
  have c10 : (w.alloc (.cells #[.pointer (some ⟨o, 0, none⟩)] 94)).cell? ⟨o, 10, none⟩ = some (.int .i64 (t : Int)) := by rw [← ht]; rw [Blk.cell hO0]; rfl
  have hmf := mf_any
  have HBASE := Lib.hid hbase
  clear hbase
  have HHT := Lib.hid ht
  clear ht
  have HX := Lib.hid hX
  have HO := Lib.hid hO0
  have HM := Lib.hid hM0
  have HF := Lib.hid hF0
  clear hX hO hO0 hM hM0 hF0
  have hw : IntKind.i64.wrap ((t : Int) + 1) = (t : Int) + 1 := IntWalk.i64_in _ (by omega)
  have HMM := Lib.hid hm
  clear hm
  go_enter Try.func80, Try.ntmps80
  go_wp2_with fail
  generalize hW0 : (w.alloc (.cells #[.pointer (some ⟨o, 0, none⟩)] 94)) = W0 at *
  clear hW0
  refine region_K 14 (fun w' : World => w'.cell? ⟨w.heap.size, 0, none⟩ = some (.pointer (some ⟨o, 0, none⟩)) ∧ w'.cell? ⟨o, 1, none⟩ = some (.int .i64 base) ∧ w'.cell? ⟨o, 10, none⟩ = some (.int .i64 (t : Int))) (by kernel_rfl) ?_
  have HS : (fun w' : World => w'.cell? ⟨w.heap.size, 0, none⟩ = some (.pointer (some ⟨o, 0, none⟩)) ∧ w'.cell? ⟨o, 1, none⟩ = some (.int .i64 base) ∧ w'.cell? ⟨o, 10, none⟩ = some (.int .i64 (t : Int))) (W0).drew := ⟨x0, c1, c10⟩
  refine AnyK.take (i := 0) rfl (by decide) (by kernel_rfl) (by kernel_rfl) (by kernel_rfl) (fun _ _ _ _ h => h) HS (fun K hK => ?_)
  go_simp
  refine hK.out _ ⟨_, by rfl, Or.inl ⟨by rfl, by intro w hSw; (try dsimp only at hSw); go_simp⟩, ?_⟩
  clear hK K
  refine AnyK.take (i := 1) rfl (by decide) (by kernel_rfl) (by kernel_rfl) (by kernel_rfl) (fun _ _ _ _ h => h) HS (fun K hK => ?_)
  go_simp
  refine hK.out _ ⟨_, by rfl, Or.inl ⟨by rfl, by intro w hSw; (try dsimp only at hSw); go_simp⟩, ?_⟩
  clear hK K
  refine AnyK.take (i := 2) rfl (by decide) (by kernel_rfl) (by kernel_rfl) (by kernel_rfl) (fun _ _ _ _ h => h) HS (fun K hK => ?_)
  go_simp
  refine hK.out _ ⟨_, by rfl, Or.inl ⟨by rfl, by intro w hSw; (try dsimp only at hSw); go_simp⟩, ?_⟩
  clear hK K
  refine AnyK.take (i := 3) rfl (by decide) (by kernel_rfl) (by kernel_rfl) (by kernel_rfl) (fun _ _ _ _ h => h) HS (fun K hK => ?_)
  go_simp
  refine hK.out _ ⟨_, by rfl, Or.inl ⟨by rfl, by intro w hSw; (try dsimp only at hSw); go_simp⟩, ?_⟩
  clear hK K
  refine AnyK.take (i := 4) rfl (by decide) (by kernel_rfl) (by kernel_rfl) (by kernel_rfl) (fun _ _ _ _ h => h) HS (fun K hK => ?_)
  go_simp
  refine hK.out _ ⟨_, by rfl, Or.inl ⟨by rfl, by intro w hSw; (try dsimp only at hSw); go_simp⟩, ?_⟩
  clear hK K
  refine AnyK.take (i := 5) rfl (by decide) (by kernel_rfl) (by kernel_rfl) (by kernel_rfl) (fun _ _ _ _ h => h) HS (fun K hK => ?_)
  go_simp
  refine hK.out _ ⟨_, by rfl, Or.inl ⟨by rfl, by intro w hSw; (try dsimp only at hSw); go_simp⟩, ?_⟩
  clear hK K
  refine AnyK.take (i := 6) rfl (by decide) (by kernel_rfl) (by kernel_rfl) (by kernel_rfl) (fun _ _ _ _ h => h) HS (fun K hK => ?_)
  go_simp
  refine hK.out _ ⟨_, by rfl, Or.inl ⟨by rfl, by intro w hSw; (try dsimp only at hSw); go_simp⟩, ?_⟩
  clear hK K
  refine AnyK.take (i := 7) rfl (by decide) (by kernel_rfl) (by kernel_rfl) (by kernel_rfl) (fun _ _ _ _ h => h) HS (fun K hK => ?_)
  go_simp
  refine hK.out _ ⟨_, by rfl, Or.inl ⟨by rfl, by intro w hSw; (try dsimp only at hSw); go_simp⟩, ?_⟩
  clear hK K
  refine AnyK.take (i := 8) rfl (by decide) (by kernel_rfl) (by kernel_rfl) (by kernel_rfl) (fun _ _ _ _ h => h) HS (fun K hK => ?_)
  go_simp
  refine hK.out _ ⟨_, by rfl, Or.inl ⟨by rfl, by intro w hSw; (try dsimp only at hSw); go_simp⟩, ?_⟩
  clear hK K
  refine AnyK.one (i := 9) rfl (by kernel_rfl) (fun K hK => ?_)
  go_simp
  refine (race_no W0.drew o p s v ws b HO.out.drew HM.out.drew hb base HBASE.out (by omega) m hi ((t + 1 : Nat) : Int) HMM.out).mono ?_
  rintro e w1 ⟨rfl, hO1, hM1, hF1⟩
  have HS : (fun w' : World => w'.cell? ⟨w.heap.size, 0, none⟩ = some (.pointer (some ⟨o, 0, none⟩)) ∧ w'.cell? ⟨o, 1, none⟩ = some (.int .i64 base) ∧ w'.cell? ⟨o, 10, none⟩ = some (.int .i64 (t : Int))) w1 := ⟨hF1.held HS.1 (fun h => h.elim hXo (fun h => h.elim hXp hXs)), (by rw [← HBASE.out]; rw [Blk.cell hO1]; rfl), (by rw [← HHT.out]; rw [Blk.cell hO1]; rfl)⟩
  refine hK.out _ _ (fun _ => HS) ?_
  clear hK K
  have HO1 := Lib.hid hO1
  have HM1 := Lib.hid hM1
  have HF1 := Lib.hid (Fr.trans (HF.out.drew) hF1)
  clear hO1 hM1 hF1
  refine AnyK.take (i := 10) rfl (by decide) (by kernel_rfl) (by kernel_rfl) (by kernel_rfl) (fun _ _ _ _ h => h) HS (fun K hK => ?_)
  go_simp
  refine hK.out _ ⟨_, by rfl, Or.inl ⟨by rfl, by intro w hSw; (try dsimp only at hSw); go_simp⟩, ?_⟩
  clear hK K
  refine AnyK.take (i := 11) rfl (by decide) (by kernel_rfl) (by kernel_rfl) (by kernel_rfl) (fun _ _ _ _ h => h) HS (fun K hK => ?_)
  go_simp
  refine hK.out _ ⟨_, by rfl, Or.inl ⟨by rfl, by intro w hSw; (try dsimp only at hSw); go_simp⟩, ?_⟩
  clear hK K
  refine AnyK.take (i := 12) rfl (by decide) (by kernel_rfl) (by kernel_rfl) (by kernel_rfl) (fun _ _ _ _ h => h) HS (fun K hK => ?_)
  go_simp
  refine hK.out _ ⟨_, by rfl, Or.inl ⟨by rfl, by intro w hSw; (try dsimp only at hSw); go_simp⟩, ?_⟩
  clear hK K
  refine AnyK.take (i := 13) rfl (by decide) (by kernel_rfl) (by kernel_rfl) (by kernel_rfl) (fun _ _ _ _ h => h) HS (fun K hK => ?_)
  go_simp
  refine hK.out _ ⟨_, by rfl, Or.inl ⟨by rfl, by intro w hSw; (try dsimp only at hSw); go_simp⟩, ?_⟩
  clear hK K
  refine AnyK.done (by kernel_rfl) ?_ _
  go_wp2_with fail
  go_ret2
  exact ⟨rfl, HO1.out, HM1.out, HF1.out⟩

set_option maxHeartbeats 4000000 in
theorem ex_popLost (w : World) (o p s : Nat) (v : OpV) (ws : List (Bool × Int)) (b : Nat) (hO : OpAt w o v) (hM : MI w p s ws b) (hb : b < 900000) (base : Nat) (hbase : v.base = base) (_hbl : base ≤ 60000) (t : Nat) (ht : v.t = t) (htl : t < 1152921504606846976) (r : Nat) (hr : t - t % 65536 + 65536 + 0 = r) (m : Int) (hi : ws[base + 1]? = some (true, m)) :
    Calls Try.prog 84 #[.agg #[.pointer (some ⟨o, 0, none⟩)], .pointer (some ⟨p, 0, none⟩)] w (MvP w o p s v (ws.set (base + 1) (true, (r : Int))) b .nilFunc 9) := by
  obtain ⟨h1, h2⟩ := hO.ne hM
  have hol : o < w.heap.size := Blk.lt hO
  obtain ⟨hpl, hsl⟩ := hM.lt
  have hXp : w.heap.size ≠ p := by omega
  have hXs : w.heap.size ≠ s := by omega
  have hXo : w.heap.size ≠ o := by omega
  have hF0 : Fr (Thr o p s) w (w.alloc (.cells #[.pointer (some ⟨o, 0, none⟩)] 94)) := (Fr.refl _ _).alloc _
  have hX : Blk (w.alloc (.cells #[.pointer (some ⟨o, 0, none⟩)] 94)) w.heap.size 94 #[.pointer (some ⟨o, 0, none⟩)] := Blk.new _ _ _
  have hO0 : OpAt (w.alloc (.cells #[.pointer (some ⟨o, 0, none⟩)] 94)) o v := Blk.alloc hO _
  have hM0 : MI (w.alloc (.cells #[.pointer (some ⟨o, 0, none⟩)] 94)) p s ws b := hM.fr (B := fun _ => False) ((Fr.refl _ _).alloc _) (fun h => h) (fun h => h)
  have x0 : (w.alloc (.cells #[.pointer (some ⟨o, 0, none⟩)] 94)).cell? ⟨w.heap.size, 0, none⟩ = some (.pointer (some ⟨o, 0, none⟩)) := by rw [hX.cell]; rfl
  have c1 : (w.alloc (.cells #[.pointer (some ⟨o, 0, none⟩)] 94)).cell? ⟨o, 1, none⟩ = some (.int .i64 base) := by rw [← hbase]; rw [Blk.cell hO0]; rfl
  have c10 : (w.alloc (.cells #[.pointer (some ⟨o, 0, none⟩)] 94)).cell? ⟨o, 10, none⟩ = some (.int .i64 (t : Int)) := by rw [← ht]; rw [Blk.cell hO0]; rfl
  have hmf := mf_any
  have HBASE := Lib.hid hbase
  clear hbase
  have HHT := Lib.hid ht
  clear ht
  have HX := Lib.hid hX
  have HO := Lib.hid hO0
  have HM := Lib.hid hM0
  have HF := Lib.hid hF0
  clear hX hO hO0 hM hM0 hF0
  have HRR := Lib.hid hr
  clear hr
  go_enter Try.func84, Try.ntmps84
  go_wp2_with fail
  generalize hW0 : (w.alloc (.cells #[.pointer (some ⟨o, 0, none⟩)] 94)) = W0 at *
  clear hW0
  refine region_K 12 (fun w' : World => w'.cell? ⟨w.heap.size, 0, none⟩ = some (.pointer (some ⟨o, 0, none⟩)) ∧ w'.cell? ⟨o, 1, none⟩ = some (.int .i64 base) ∧ w'.cell? ⟨o, 10, none⟩ = some (.int .i64 (t : Int))) (by kernel_rfl) ?_
  have HS : (fun w' : World => w'.cell? ⟨w.heap.size, 0, none⟩ = some (.pointer (some ⟨o, 0, none⟩)) ∧ w'.cell? ⟨o, 1, none⟩ = some (.int .i64 base) ∧ w'.cell? ⟨o, 10, none⟩ = some (.int .i64 (t : Int))) (W0).drew := ⟨x0, c1, c10⟩
  refine AnyK.take (i := 0) rfl (by decide) (by kernel_rfl) (by kernel_rfl) (by kernel_rfl) (fun _ _ _ _ h => h) HS (fun K hK => ?_)
  go_simp
  refine hK.out _ ⟨_, by rfl, Or.inl ⟨by rfl, by intro w hSw; (try dsimp only at hSw); go_simp⟩, ?_⟩
  clear hK K
  refine AnyK.take (i := 1) rfl (by decide) (by kernel_rfl) (by kernel_rfl) (by kernel_rfl) (fun _ _ _ _ h => h) HS (fun K hK => ?_)
  go_simp
  refine hK.out _ ⟨_, by rfl, Or.inl ⟨by rfl, by intro w hSw; (try dsimp only at hSw); go_simp⟩, ?_⟩
  clear hK K
  refine AnyK.take (i := 2) rfl (by decide) (by kernel_rfl) (by kernel_rfl) (by kernel_rfl) (fun _ _ _ _ h => h) HS (fun K hK => ?_)
  go_simp
  refine hK.out _ ⟨_, by rfl, Or.inl ⟨by rfl, by intro w hSw; (try dsimp only at hSw); go_simp⟩, ?_⟩
  clear hK K
  refine AnyK.take (i := 4) rfl (by decide) (by kernel_rfl) (by kernel_rfl) (by kernel_rfl) (fun _ _ _ _ h => h) HS (fun K hK => ?_)
  go_simp
  refine hK.out _ ⟨_, by rfl, Or.inl ⟨by rfl, by intro w hSw; (try dsimp only at hSw); go_simp⟩, ?_⟩
  clear hK K
  refine AnyK.take (i := 5) rfl (by decide) (by kernel_rfl) (by kernel_rfl) (by kernel_rfl) (fun _ _ _ _ h => h) HS (fun K hK => ?_)
  go_simp
  refine hK.out _ ⟨_, by rfl, Or.inl ⟨by rfl, by intro w hSw; (try dsimp only at hSw); go_simp⟩, ?_⟩
  clear hK K
  refine AnyK.take (i := 6) rfl (by decide) (by kernel_rfl) (by kernel_rfl) (by kernel_rfl) (fun _ _ _ _ h => h) HS (fun K hK => ?_)
  go_simp
  refine hK.out _ ⟨_, by rfl, Or.inl ⟨by rfl, by intro w hSw; (try dsimp only at hSw); go_simp⟩, ?_⟩
  clear hK K
  refine AnyK.take (i := 7) rfl (by decide) (by kernel_rfl) (by kernel_rfl) (by kernel_rfl) (fun _ _ _ _ h => h) HS (fun K hK => ?_)
  go_simp
  refine hK.out _ ⟨_, by rfl, Or.inl ⟨by rfl, by intro w hSw; (try dsimp only at hSw); go_simp⟩, ?_⟩
  clear hK K
  refine AnyK.take (i := 8) rfl (by decide) (by kernel_rfl) (by kernel_rfl) (by kernel_rfl) (fun _ _ _ _ h => h) HS (fun K hK => ?_)
  go_simp
  refine hK.out _ ⟨_, by rfl, Or.inl ⟨by rfl, by intro w hSw; (try dsimp only at hSw); go_simp⟩, ?_⟩
  clear hK K
  refine AnyK.one (i := 3) rfl (by kernel_rfl) (fun K hK => ?_)
  go_simp
  refine (wordT_any _ o base (by omega) HS.2.1).mono ?_
  rintro e w1 ⟨rfl, rfl⟩
  refine hK.out _ _ (fun _ => HS) ?_
  clear hK K
  refine AnyK.one (i := 9) rfl (by kernel_rfl) (fun K hK => ?_)
  go_simp
  refine (raised_q _ t 0 r htl (by omega) HRR.out).mono ?_
  rintro e w1 ⟨rfl, rfl⟩
  refine hK.out _ _ (fun _ => HS) ?_
  clear hK K
  refine AnyK.one (i := 10) rfl (by kernel_rfl) (fun K hK => ?_)
  go_simp
  refine (store_mi HM.out.drew hb (base + 1) m (r : Int) hi).mono ?_
  rintro e w1 ⟨rfl, hM1, hF1⟩
  have hO1 : OpAt w1 o v := OpAt.two HO.out.drew hF1 h1 h2
  have HS : (fun w' : World => w'.cell? ⟨w.heap.size, 0, none⟩ = some (.pointer (some ⟨o, 0, none⟩)) ∧ w'.cell? ⟨o, 1, none⟩ = some (.int .i64 base) ∧ w'.cell? ⟨o, 10, none⟩ = some (.int .i64 (t : Int))) w1 := ⟨hF1.held HS.1 (fun h => h.elim hXp hXs), (by rw [← HBASE.out]; rw [Blk.cell hO1]; rfl), (by rw [← HHT.out]; rw [Blk.cell hO1]; rfl)⟩
  refine hK.out _ _ (fun _ => HS) ?_
  clear hK K
  have HO1 := Lib.hid hO1
  have HM1 := Lib.hid hM1
  have HF1 := Lib.hid (Fr.trans (HF.out.drew) (hF1.mono (fun _ h => .inr h)))
  clear hO1 hM1 hF1
  refine AnyK.take (i := 11) rfl (by decide) (by kernel_rfl) (by kernel_rfl) (by kernel_rfl) (fun _ _ _ _ h => h) HS (fun K hK => ?_)
  go_simp
  refine hK.out _ ⟨_, by rfl, Or.inl ⟨by rfl, by intro w hSw; (try dsimp only at hSw); go_simp⟩, ?_⟩
  clear hK K
  refine AnyK.done (by kernel_rfl) ?_ _
  go_wp2_with fail
  go_ret2
  exact ⟨rfl, HO1.out, HM1.out, HF1.out⟩

set_option maxHeartbeats 4000000 in
theorem ex_popRaces_yes (w : World) (o p s : Nat) (v : OpV) (ws : List (Bool × Int)) (b : Nat) (hO : OpAt w o v) (hM : MI w p s ws b) (hb : b < 900000) (base : Nat) (hbase : v.base = base) (_hbl : base ≤ 60000) (t : Nat) (ht : v.t = t) (htl : t < 1152921504606846976) (r : Nat) (hr : t - t % 65536 + 65536 + 0 = r) (m : Int) (hi : ws[base + 1]? = some (true, m)) (hm : m = v.t) :
    Calls Try.prog 83 #[.agg #[.pointer (some ⟨o, 0, none⟩)], .pointer (some ⟨p, 0, none⟩)] w (MvP w o p s v (ws.set (base + 1) (true, (r : Int))) b .nilFunc 0) := by
  obtain ⟨h1, h2⟩ := hO.ne hM
  have hol : o < w.heap.size := Blk.lt hO
  obtain ⟨hpl, hsl⟩ := hM.lt
  have hXp : w.heap.size ≠ p := by omega
  have hXs : w.heap.size ≠ s := by omega
  have hXo : w.heap.size ≠ o := by omega
  have hF0 : Fr (Thr o p s) w (w.alloc (.cells #[.pointer (some ⟨o, 0, none⟩)] 94)) := (Fr.refl _ _).alloc _
  have hX : Blk (w.alloc (.cells #[.pointer (some ⟨o, 0, none⟩)] 94)) w.heap.size 94 #[.pointer (some ⟨o, 0, none⟩)] := Blk.new _ _ _
  have hO0 : OpAt (w.alloc (.cells #[.pointer (some ⟨o, 0, none⟩)] 94)) o v := Blk.alloc hO _
  have hM0 : MI (w.alloc (.cells #[.pointer (some ⟨o, 0, none⟩)] 94)) p s ws b := hM.fr (B := fun _ => False) ((Fr.refl _ _).alloc _) (fun h => h) (fun h => h)
  have x0 : (w.alloc (.cells #[.pointer (some ⟨o, 0, none⟩)] 94)).cell? ⟨w.heap.size, 0, none⟩ = some (.pointer (some ⟨o, 0, none⟩)) := by rw [hX.cell]; rfl
  have c1 : (w.alloc (.cells #[.pointer (some ⟨o, 0, none⟩)] 94)).cell? ⟨o, 1, none⟩ = some (.int .i64 base) := by rw [← hbase]; rw [Blk.cell hO0]; rfl
  have c10 : (w.alloc (.cells #[.pointer (some ⟨o, 0, none⟩)] 94)).cell? ⟨o, 10, none⟩ = some (.int .i64 (t : Int)) := by rw [← ht]; rw [Blk.cell hO0]; rfl
  have hmf := mf_any
  have HBASE := Lib.hid hbase
  clear hbase
  have HHT := Lib.hid ht
  clear ht
  have HX := Lib.hid hX
  have HO := Lib.hid hO0
  have HM := Lib.hid hM0
  have HF := Lib.hid hF0
  clear hX hO hO0 hM hM0 hF0
  have HRR := Lib.hid hr
  clear hr
  have HSW : Hid (∀ W : World, MI W p s ws b → Calls Try.prog 85 #[.pointer (some ⟨p, 0, none⟩), .int .i64 ((base + 1 : Nat) : Int), .int .i64 (t : Int), .int .i64 (r : Int)] W.drew fun e w' => e = .returned (.tuple #[.bool true, .int .i64 0]) ∧ MI w' p s (ws.set (base + 1) (true, (r : Int))) (b + 1) ∧ Fr (Two p s) W.drew w') := Lib.hid (fun W hW => by
    have := swap_mi hW.drew hb (base + 1) m (t : Int) (r : Int) hi
    unfold swapW at this
    have hm' : m = (t : Int) := by rw [← HHT.out]; exact hm
    rw [decide_eq_true hm', if_pos hm'] at this
    exact this)
  clear hm
  go_enter Try.func83, Try.ntmps83
  go_wp2_with fail
  generalize hW0 : (w.alloc (.cells #[.pointer (some ⟨o, 0, none⟩)] 94)) = W0 at *
  clear hW0
  refine region_K 21 (fun w' : World => w'.cell? ⟨w.heap.size, 0, none⟩ = some (.pointer (some ⟨o, 0, none⟩)) ∧ w'.cell? ⟨o, 1, none⟩ = some (.int .i64 base) ∧ w'.cell? ⟨o, 10, none⟩ = some (.int .i64 (t : Int))) (by kernel_rfl) ?_
  have HS : (fun w' : World => w'.cell? ⟨w.heap.size, 0, none⟩ = some (.pointer (some ⟨o, 0, none⟩)) ∧ w'.cell? ⟨o, 1, none⟩ = some (.int .i64 base) ∧ w'.cell? ⟨o, 10, none⟩ = some (.int .i64 (t : Int))) (W0).drew := ⟨x0, c1, c10⟩
  refine AnyK.take (i := 0) rfl (by decide) (by kernel_rfl) (by kernel_rfl) (by kernel_rfl) (fun _ _ _ _ h => h) HS (fun K hK => ?_)
  go_simp
  refine hK.out _ ⟨_, by rfl, Or.inl ⟨by rfl, by intro w hSw; (try dsimp only at hSw); go_simp⟩, ?_⟩
  clear hK K
  refine AnyK.take (i := 1) rfl (by decide) (by kernel_rfl) (by kernel_rfl) (by kernel_rfl) (fun _ _ _ _ h => h) HS (fun K hK => ?_)
  go_simp
  refine hK.out _ ⟨_, by rfl, Or.inl ⟨by rfl, by intro w hSw; (try dsimp only at hSw); go_simp⟩, ?_⟩
  clear hK K
  refine AnyK.take (i := 2) rfl (by decide) (by kernel_rfl) (by kernel_rfl) (by kernel_rfl) (fun _ _ _ _ h => h) HS (fun K hK => ?_)
  go_simp
  refine hK.out _ ⟨_, by rfl, Or.inl ⟨by rfl, by intro w hSw; (try dsimp only at hSw); go_simp⟩, ?_⟩
  clear hK K
  refine AnyK.take (i := 4) rfl (by decide) (by kernel_rfl) (by kernel_rfl) (by kernel_rfl) (fun _ _ _ _ h => h) HS (fun K hK => ?_)
  go_simp
  refine hK.out _ ⟨_, by rfl, Or.inl ⟨by rfl, by intro w hSw; (try dsimp only at hSw); go_simp⟩, ?_⟩
  clear hK K
  refine AnyK.take (i := 5) rfl (by decide) (by kernel_rfl) (by kernel_rfl) (by kernel_rfl) (fun _ _ _ _ h => h) HS (fun K hK => ?_)
  go_simp
  refine hK.out _ ⟨_, by rfl, Or.inl ⟨by rfl, by intro w hSw; (try dsimp only at hSw); go_simp⟩, ?_⟩
  clear hK K
  refine AnyK.take (i := 6) rfl (by decide) (by kernel_rfl) (by kernel_rfl) (by kernel_rfl) (fun _ _ _ _ h => h) HS (fun K hK => ?_)
  go_simp
  refine hK.out _ ⟨_, by rfl, Or.inl ⟨by rfl, by intro w hSw; (try dsimp only at hSw); go_simp⟩, ?_⟩
  clear hK K
  refine AnyK.take (i := 7) rfl (by decide) (by kernel_rfl) (by kernel_rfl) (by kernel_rfl) (fun _ _ _ _ h => h) HS (fun K hK => ?_)
  go_simp
  refine hK.out _ ⟨_, by rfl, Or.inl ⟨by rfl, by intro w hSw; (try dsimp only at hSw); go_simp⟩, ?_⟩
  clear hK K
  refine AnyK.take (i := 8) rfl (by decide) (by kernel_rfl) (by kernel_rfl) (by kernel_rfl) (fun _ _ _ _ h => h) HS (fun K hK => ?_)
  go_simp
  refine hK.out _ ⟨_, by rfl, Or.inl ⟨by rfl, by intro w hSw; (try dsimp only at hSw); go_simp⟩, ?_⟩
  clear hK K
  refine AnyK.take (i := 9) rfl (by decide) (by kernel_rfl) (by kernel_rfl) (by kernel_rfl) (fun _ _ _ _ h => h) HS (fun K hK => ?_)
  go_simp
  refine hK.out _ ⟨_, by rfl, Or.inl ⟨by rfl, by intro w hSw; (try dsimp only at hSw); go_simp⟩, ?_⟩
  clear hK K
  refine AnyK.take (i := 10) rfl (by decide) (by kernel_rfl) (by kernel_rfl) (by kernel_rfl) (fun _ _ _ _ h => h) HS (fun K hK => ?_)
  go_simp
  refine hK.out _ ⟨_, by rfl, Or.inl ⟨by rfl, by intro w hSw; (try dsimp only at hSw); go_simp⟩, ?_⟩
  clear hK K
  refine AnyK.take (i := 11) rfl (by decide) (by kernel_rfl) (by kernel_rfl) (by kernel_rfl) (fun _ _ _ _ h => h) HS (fun K hK => ?_)
  go_simp
  refine hK.out _ ⟨_, by rfl, Or.inl ⟨by rfl, by intro w hSw; (try dsimp only at hSw); go_simp⟩, ?_⟩
  clear hK K
  refine AnyK.take (i := 12) rfl (by decide) (by kernel_rfl) (by kernel_rfl) (by kernel_rfl) (fun _ _ _ _ h => h) HS (fun K hK => ?_)
  go_simp
  refine hK.out _ ⟨_, by rfl, Or.inl ⟨by rfl, by intro w hSw; (try dsimp only at hSw); go_simp⟩, ?_⟩
  clear hK K
  refine AnyK.take (i := 13) rfl (by decide) (by kernel_rfl) (by kernel_rfl) (by kernel_rfl) (fun _ _ _ _ h => h) HS (fun K hK => ?_)
  go_simp
  refine hK.out _ ⟨_, by rfl, Or.inl ⟨by rfl, by intro w hSw; (try dsimp only at hSw); go_simp⟩, ?_⟩
  clear hK K
  refine AnyK.one (i := 3) rfl (by kernel_rfl) (fun K hK => ?_)
  go_simp
  refine (wordT_any _ o base (by omega) HS.2.1).mono ?_
  rintro e w1 ⟨rfl, rfl⟩
  refine hK.out _ _ (fun _ => HS) ?_
  clear hK K
  refine AnyK.one (i := 14) rfl (by kernel_rfl) (fun K hK => ?_)
  go_simp
  refine (raised_q _ t 0 r htl (by omega) HRR.out).mono ?_
  rintro e w1 ⟨rfl, rfl⟩
  refine hK.out _ _ (fun _ => HS) ?_
  clear hK K
  refine AnyK.one (i := 15) rfl (by kernel_rfl) (fun K hK => ?_)
  go_simp
  refine (HSW.out _ HM.out).mono ?_
  rintro e w1 ⟨rfl, hM1, hF1⟩
  have hO1 : OpAt w1 o v := OpAt.two HO.out.drew hF1 h1 h2
  have HS : (fun w' : World => w'.cell? ⟨w.heap.size, 0, none⟩ = some (.pointer (some ⟨o, 0, none⟩)) ∧ w'.cell? ⟨o, 1, none⟩ = some (.int .i64 base) ∧ w'.cell? ⟨o, 10, none⟩ = some (.int .i64 (t : Int))) w1 := ⟨hF1.held HS.1 (fun h => h.elim hXp hXs), (by rw [← HBASE.out]; rw [Blk.cell hO1]; rfl), (by rw [← HHT.out]; rw [Blk.cell hO1]; rfl)⟩
  refine hK.out _ _ (fun _ => HS) ?_
  clear hK K
  have HO1 := Lib.hid hO1
  have HM1 := Lib.hid hM1
  have HF1 := Lib.hid (Fr.trans (HF.out.drew) (hF1.mono (fun _ h => .inr h)))
  clear hO1 hM1 hF1
  refine AnyK.take (i := 16) rfl (by decide) (by kernel_rfl) (by kernel_rfl) (by kernel_rfl) (fun _ _ _ _ h => h) HS (fun K hK => ?_)
  go_simp
  refine hK.out _ ⟨_, by rfl, Or.inl ⟨by rfl, by intro w hSw; (try dsimp only at hSw); go_simp⟩, ?_⟩
  clear hK K
  refine AnyK.take (i := 17) rfl (by decide) (by kernel_rfl) (by kernel_rfl) (by kernel_rfl) (fun _ _ _ _ h => h) HS (fun K hK => ?_)
  go_simp
  refine hK.out _ ⟨_, by rfl, Or.inl ⟨by rfl, by intro w hSw; (try dsimp only at hSw); go_simp⟩, ?_⟩
  clear hK K
  refine AnyK.take (i := 18) rfl (by decide) (by kernel_rfl) (by kernel_rfl) (by kernel_rfl) (fun _ _ _ _ h => h) HS (fun K hK => ?_)
  go_simp
  refine hK.out _ ⟨_, by rfl, Or.inl ⟨by rfl, by intro w hSw; (try dsimp only at hSw); go_simp⟩, ?_⟩
  clear hK K
  refine AnyK.take (i := 19) rfl (by decide) (by kernel_rfl) (by kernel_rfl) (by kernel_rfl) (fun _ _ _ _ h => h) HS (fun K hK => ?_)
  go_simp
  refine hK.out _ ⟨_, by rfl, Or.inl ⟨by rfl, by intro w hSw; (try dsimp only at hSw); go_simp⟩, ?_⟩
  clear hK K
  refine AnyK.take (i := 20) rfl (by decide) (by kernel_rfl) (by kernel_rfl) (by kernel_rfl) (fun _ _ _ _ h => h) HS (fun K hK => ?_)
  go_simp
  refine hK.out _ ⟨_, by rfl, Or.inl ⟨by rfl, by intro w hSw; (try dsimp only at hSw); go_simp⟩, ?_⟩
  clear hK K
  refine AnyK.done (by kernel_rfl) ?_ _
  go_wp2_with fail
  go_ret2
  exact ⟨rfl, HO1.out, HM1.out, HF1.out⟩

set_option maxHeartbeats 4000000 in
theorem ex_popRaces_no (w : World) (o p s : Nat) (v : OpV) (ws : List (Bool × Int)) (b : Nat) (hO : OpAt w o v) (hM : MI w p s ws b) (hb : b < 900000) (base : Nat) (hbase : v.base = base) (_hbl : base ≤ 60000) (t : Nat) (ht : v.t = t) (htl : t < 1152921504606846976) (r : Nat) (hr : t - t % 65536 + 65536 + 0 = r) (m : Int) (hi : ws[base + 1]? = some (true, m)) (hm : ¬ m = v.t) :
    Calls Try.prog 83 #[.agg #[.pointer (some ⟨o, 0, none⟩)], .pointer (some ⟨p, 0, none⟩)] w (MvP w o p s v ws b (mv 84 o) 0) := by
  obtain ⟨h1, h2⟩ := hO.ne hM
  have hol : o < w.heap.size := Blk.lt hO
  obtain ⟨hpl, hsl⟩ := hM.lt
  have hXp : w.heap.size ≠ p := by omega
  have hXs : w.heap.size ≠ s := by omega
  have hXo : w.heap.size ≠ o := by omega
  have hF0 : Fr (Thr o p s) w (w.alloc (.cells #[.pointer (some ⟨o, 0, none⟩)] 94)) := (Fr.refl _ _).alloc _
  have hX : Blk (w.alloc (.cells #[.pointer (some ⟨o, 0, none⟩)] 94)) w.heap.size 94 #[.pointer (some ⟨o, 0, none⟩)] := Blk.new _ _ _
  have hO0 : OpAt (w.alloc (.cells #[.pointer (some ⟨o, 0, none⟩)] 94)) o v := Blk.alloc hO _
  have hM0 : MI (w.alloc (.cells #[.pointer (some ⟨o, 0, none⟩)] 94)) p s ws b := hM.fr (B := fun _ => False) ((Fr.refl _ _).alloc _) (fun h => h) (fun h => h)
  have x0 : (w.alloc (.cells #[.pointer (some ⟨o, 0, none⟩)] 94)).cell? ⟨w.heap.size, 0, none⟩ = some (.pointer (some ⟨o, 0, none⟩)) := by rw [hX.cell]; rfl
  have c1 : (w.alloc (.cells #[.pointer (some ⟨o, 0, none⟩)] 94)).cell? ⟨o, 1, none⟩ = some (.int .i64 base) := by rw [← hbase]; rw [Blk.cell hO0]; rfl
  have c10 : (w.alloc (.cells #[.pointer (some ⟨o, 0, none⟩)] 94)).cell? ⟨o, 10, none⟩ = some (.int .i64 (t : Int)) := by rw [← ht]; rw [Blk.cell hO0]; rfl
  have hmf := mf_any
  have HBASE := Lib.hid hbase
  clear hbase
  have HHT := Lib.hid ht
  clear ht
  have HX := Lib.hid hX
  have HO := Lib.hid hO0
  have HM := Lib.hid hM0
  have HF := Lib.hid hF0
  clear hX hO hO0 hM hM0 hF0
  have HRR := Lib.hid hr
  clear hr
  have HSW : Hid (∀ W : World, MI W p s ws b → Calls Try.prog 85 #[.pointer (some ⟨p, 0, none⟩), .int .i64 ((base + 1 : Nat) : Int), .int .i64 (t : Int), .int .i64 (r : Int)] W.drew fun e w' => e = .returned (.tuple #[.bool false, .int .i64 0]) ∧ MI w' p s ws (b + 1) ∧ Fr (Two p s) W.drew w') := Lib.hid (fun W hW => by
    have := swap_mi hW.drew hb (base + 1) m (t : Int) (r : Int) hi
    unfold swapW at this
    have hm' : ¬ m = (t : Int) := by rw [← HHT.out]; exact hm
    rw [decide_eq_false hm', if_neg hm'] at this
    exact this)
  clear hm
  go_enter Try.func83, Try.ntmps83
  go_wp2_with fail
  generalize hW0 : (w.alloc (.cells #[.pointer (some ⟨o, 0, none⟩)] 94)) = W0 at *
  clear hW0
  refine region_K 21 (fun w' : World => w'.cell? ⟨w.heap.size, 0, none⟩ = some (.pointer (some ⟨o, 0, none⟩)) ∧ w'.cell? ⟨o, 1, none⟩ = some (.int .i64 base) ∧ w'.cell? ⟨o, 10, none⟩ = some (.int .i64 (t : Int))) (by kernel_rfl) ?_
  have HS : (fun w' : World => w'.cell? ⟨w.heap.size, 0, none⟩ = some (.pointer (some ⟨o, 0, none⟩)) ∧ w'.cell? ⟨o, 1, none⟩ = some (.int .i64 base) ∧ w'.cell? ⟨o, 10, none⟩ = some (.int .i64 (t : Int))) (W0).drew := ⟨x0, c1, c10⟩
  refine AnyK.take (i := 0) rfl (by decide) (by kernel_rfl) (by kernel_rfl) (by kernel_rfl) (fun _ _ _ _ h => h) HS (fun K hK => ?_)
  go_simp
  refine hK.out _ ⟨_, by rfl, Or.inl ⟨by rfl, by intro w hSw; (try dsimp only at hSw); go_simp⟩, ?_⟩
  clear hK K
  refine AnyK.take (i := 1) rfl (by decide) (by kernel_rfl) (by kernel_rfl) (by kernel_rfl) (fun _ _ _ _ h => h) HS (fun K hK => ?_)
  go_simp
  refine hK.out _ ⟨_, by rfl, Or.inl ⟨by rfl, by intro w hSw; (try dsimp only at hSw); go_simp⟩, ?_⟩
  clear hK K
  refine AnyK.take (i := 2) rfl (by decide) (by kernel_rfl) (by kernel_rfl) (by kernel_rfl) (fun _ _ _ _ h => h) HS (fun K hK => ?_)
  go_simp
  refine hK.out _ ⟨_, by rfl, Or.inl ⟨by rfl, by intro w hSw; (try dsimp only at hSw); go_simp⟩, ?_⟩
  clear hK K
  refine AnyK.take (i := 4) rfl (by decide) (by kernel_rfl) (by kernel_rfl) (by kernel_rfl) (fun _ _ _ _ h => h) HS (fun K hK => ?_)
  go_simp
  refine hK.out _ ⟨_, by rfl, Or.inl ⟨by rfl, by intro w hSw; (try dsimp only at hSw); go_simp⟩, ?_⟩
  clear hK K
  refine AnyK.take (i := 5) rfl (by decide) (by kernel_rfl) (by kernel_rfl) (by kernel_rfl) (fun _ _ _ _ h => h) HS (fun K hK => ?_)
  go_simp
  refine hK.out _ ⟨_, by rfl, Or.inl ⟨by rfl, by intro w hSw; (try dsimp only at hSw); go_simp⟩, ?_⟩
  clear hK K
  refine AnyK.take (i := 6) rfl (by decide) (by kernel_rfl) (by kernel_rfl) (by kernel_rfl) (fun _ _ _ _ h => h) HS (fun K hK => ?_)
  go_simp
  refine hK.out _ ⟨_, by rfl, Or.inl ⟨by rfl, by intro w hSw; (try dsimp only at hSw); go_simp⟩, ?_⟩
  clear hK K
  refine AnyK.take (i := 7) rfl (by decide) (by kernel_rfl) (by kernel_rfl) (by kernel_rfl) (fun _ _ _ _ h => h) HS (fun K hK => ?_)
  go_simp
  refine hK.out _ ⟨_, by rfl, Or.inl ⟨by rfl, by intro w hSw; (try dsimp only at hSw); go_simp⟩, ?_⟩
  clear hK K
  refine AnyK.take (i := 8) rfl (by decide) (by kernel_rfl) (by kernel_rfl) (by kernel_rfl) (fun _ _ _ _ h => h) HS (fun K hK => ?_)
  go_simp
  refine hK.out _ ⟨_, by rfl, Or.inl ⟨by rfl, by intro w hSw; (try dsimp only at hSw); go_simp⟩, ?_⟩
  clear hK K
  refine AnyK.take (i := 9) rfl (by decide) (by kernel_rfl) (by kernel_rfl) (by kernel_rfl) (fun _ _ _ _ h => h) HS (fun K hK => ?_)
  go_simp
  refine hK.out _ ⟨_, by rfl, Or.inl ⟨by rfl, by intro w hSw; (try dsimp only at hSw); go_simp⟩, ?_⟩
  clear hK K
  refine AnyK.take (i := 10) rfl (by decide) (by kernel_rfl) (by kernel_rfl) (by kernel_rfl) (fun _ _ _ _ h => h) HS (fun K hK => ?_)
  go_simp
  refine hK.out _ ⟨_, by rfl, Or.inl ⟨by rfl, by intro w hSw; (try dsimp only at hSw); go_simp⟩, ?_⟩
  clear hK K
  refine AnyK.take (i := 11) rfl (by decide) (by kernel_rfl) (by kernel_rfl) (by kernel_rfl) (fun _ _ _ _ h => h) HS (fun K hK => ?_)
  go_simp
  refine hK.out _ ⟨_, by rfl, Or.inl ⟨by rfl, by intro w hSw; (try dsimp only at hSw); go_simp⟩, ?_⟩
  clear hK K
  refine AnyK.take (i := 12) rfl (by decide) (by kernel_rfl) (by kernel_rfl) (by kernel_rfl) (fun _ _ _ _ h => h) HS (fun K hK => ?_)
  go_simp
  refine hK.out _ ⟨_, by rfl, Or.inl ⟨by rfl, by intro w hSw; (try dsimp only at hSw); go_simp⟩, ?_⟩
  clear hK K
  refine AnyK.take (i := 13) rfl (by decide) (by kernel_rfl) (by kernel_rfl) (by kernel_rfl) (fun _ _ _ _ h => h) HS (fun K hK => ?_)
  go_simp
  refine hK.out _ ⟨_, by rfl, Or.inl ⟨by rfl, by intro w hSw; (try dsimp only at hSw); go_simp⟩, ?_⟩
  clear hK K
  refine AnyK.one (i := 3) rfl (by kernel_rfl) (fun K hK => ?_)
  go_simp
  refine (wordT_any _ o base (by omega) HS.2.1).mono ?_
  rintro e w1 ⟨rfl, rfl⟩
  refine hK.out _ _ (fun _ => HS) ?_
  clear hK K
  refine AnyK.one (i := 14) rfl (by kernel_rfl) (fun K hK => ?_)
  go_simp
  refine (raised_q _ t 0 r htl (by omega) HRR.out).mono ?_
  rintro e w1 ⟨rfl, rfl⟩
  refine hK.out _ _ (fun _ => HS) ?_
  clear hK K
  refine AnyK.one (i := 15) rfl (by kernel_rfl) (fun K hK => ?_)
  go_simp
  refine (HSW.out _ HM.out).mono ?_
  rintro e w1 ⟨rfl, hM1, hF1⟩
  have hO1 : OpAt w1 o v := OpAt.two HO.out.drew hF1 h1 h2
  have HS : (fun w' : World => w'.cell? ⟨w.heap.size, 0, none⟩ = some (.pointer (some ⟨o, 0, none⟩)) ∧ w'.cell? ⟨o, 1, none⟩ = some (.int .i64 base) ∧ w'.cell? ⟨o, 10, none⟩ = some (.int .i64 (t : Int))) w1 := ⟨hF1.held HS.1 (fun h => h.elim hXp hXs), (by rw [← HBASE.out]; rw [Blk.cell hO1]; rfl), (by rw [← HHT.out]; rw [Blk.cell hO1]; rfl)⟩
  refine hK.out _ _ (fun _ => HS) ?_
  clear hK K
  have HO1 := Lib.hid hO1
  have HM1 := Lib.hid hM1
  have HF1 := Lib.hid (Fr.trans (HF.out.drew) (hF1.mono (fun _ h => .inr h)))
  clear hO1 hM1 hF1
  refine AnyK.take (i := 16) rfl (by decide) (by kernel_rfl) (by kernel_rfl) (by kernel_rfl) (fun _ _ _ _ h => h) HS (fun K hK => ?_)
  go_simp
  refine hK.out _ ⟨_, by rfl, Or.inl ⟨by rfl, by intro w hSw; (try dsimp only at hSw); go_simp⟩, ?_⟩
  clear hK K
  refine AnyK.take (i := 17) rfl (by decide) (by kernel_rfl) (by kernel_rfl) (by kernel_rfl) (fun _ _ _ _ h => h) HS (fun K hK => ?_)
  go_simp
  refine hK.out _ ⟨_, by rfl, Or.inl ⟨by rfl, by intro w hSw; (try dsimp only at hSw); go_simp⟩, ?_⟩
  clear hK K
  refine AnyK.take (i := 18) rfl (by decide) (by kernel_rfl) (by kernel_rfl) (by kernel_rfl) (fun _ _ _ _ h => h) HS (fun K hK => ?_)
  go_simp
  refine hK.out _ ⟨_, by rfl, Or.inl ⟨by rfl, by intro w hSw; (try dsimp only at hSw); go_simp⟩, ?_⟩
  clear hK K
  refine AnyK.take (i := 19) rfl (by decide) (by kernel_rfl) (by kernel_rfl) (by kernel_rfl) (fun _ _ _ _ h => h) HS (fun K hK => ?_)
  go_simp
  refine hK.out _ ⟨_, by rfl, Or.inl ⟨by rfl, by intro w hSw; (try dsimp only at hSw); go_simp⟩, ?_⟩
  clear hK K
  refine AnyK.take (i := 20) rfl (by decide) (by kernel_rfl) (by kernel_rfl) (by kernel_rfl) (fun _ _ _ _ h => h) HS (fun K hK => ?_)
  go_simp
  refine hK.out _ ⟨_, by rfl, Or.inl ⟨by rfl, by intro w hSw; (try dsimp only at hSw); go_simp⟩, ?_⟩
  clear hK K
  refine AnyK.done (by kernel_rfl) ?_ _
  go_wp2_with fail
  go_ret2
  exact ⟨rfl, HO1.out, HM1.out, HF1.out⟩

set_option maxHeartbeats 4000000 in
theorem ex_steal (w : World) (o p s : Nat) (v : OpV) (ws : List (Bool × Int)) (b : Nat) (hO : OpAt w o v) (hM : MI w p s ws b) (hb : b < 900000) (base : Nat) (hbase : v.base = base) (_hbl : base ≤ 60000) (n : Int) (hi : ws[base + 1]? = some (true, n)) :
    Calls Try.prog 62 #[.agg #[.pointer (some ⟨o, 0, none⟩)], .pointer (some ⟨p, 0, none⟩)] w (MvP w o p s { v with t := n } ws b (mv 68 o) 0) := by
  obtain ⟨h1, h2⟩ := hO.ne hM
  have hol : o < w.heap.size := Blk.lt hO
  obtain ⟨hpl, hsl⟩ := hM.lt
  have hXp : w.heap.size ≠ p := by omega
  have hXs : w.heap.size ≠ s := by omega
  have hXo : w.heap.size ≠ o := by omega
  have hF0 : Fr (Thr o p s) w (w.alloc (.cells #[.pointer (some ⟨o, 0, none⟩)] 94)) := (Fr.refl _ _).alloc _
  have hX : Blk (w.alloc (.cells #[.pointer (some ⟨o, 0, none⟩)] 94)) w.heap.size 94 #[.pointer (some ⟨o, 0, none⟩)] := Blk.new _ _ _
  have hO0 : OpAt (w.alloc (.cells #[.pointer (some ⟨o, 0, none⟩)] 94)) o v := Blk.alloc hO _
  have hM0 : MI (w.alloc (.cells #[.pointer (some ⟨o, 0, none⟩)] 94)) p s ws b := hM.fr (B := fun _ => False) ((Fr.refl _ _).alloc _) (fun h => h) (fun h => h)
  have x0 : (w.alloc (.cells #[.pointer (some ⟨o, 0, none⟩)] 94)).cell? ⟨w.heap.size, 0, none⟩ = some (.pointer (some ⟨o, 0, none⟩)) := by rw [hX.cell]; rfl
  have c1 : (w.alloc (.cells #[.pointer (some ⟨o, 0, none⟩)] 94)).cell? ⟨o, 1, none⟩ = some (.int .i64 base) := by rw [← hbase]; rw [Blk.cell hO0]; rfl
  have hmf := mf_any
  have HBASE := Lib.hid hbase
  clear hbase
  have HX := Lib.hid hX
  have HO := Lib.hid hO0
  have HM := Lib.hid hM0
  have HF := Lib.hid hF0
  clear hX hO hO0 hM hM0 hF0
  go_enter Try.func62, Try.ntmps62
  go_wp2_with fail
  refine (loadT_any _ o p s v ws b HO.out HM.out hb base HBASE.out (by omega) n hi _).mono ?_
  rintro e w1 ⟨rfl, hO1, hM1, hF1⟩
  have HO1 := Lib.hid hO1
  have HM1 := Lib.hid hM1
  have HF1 := Lib.hid (Fr.trans HF.out hF1)
  clear hO1 hM1 hF1
  go_wp2_with fail
  go_ret2
  exact ⟨rfl, HO1.out, HM1.out, HF1.out⟩

set_option maxHeartbeats 4000000 in
theorem ex_stealLooks_go (w : World) (o p s : Nat) (v : OpV) (ws : List (Bool × Int)) (b : Nat) (hO : OpAt w o v) (hM : MI w p s ws b) (hb : b < 900000) (base : Nat) (hbase : v.base = base) (_hbl : base ≤ 60000) (t : Nat) (ht : v.t = t) (htl : t < 1152921504606846976) (q : Nat) (hq : t % 65536 = q) (n : Nat) (hi : ws[base]? = some (true, (n : Int))) (hm : q < n) :
    Calls Try.prog 68 #[.agg #[.pointer (some ⟨o, 0, none⟩)], .pointer (some ⟨p, 0, none⟩)] w (MvP w o p s v ws b (mv 75 o) 0) := by
  obtain ⟨h1, h2⟩ := hO.ne hM
  have hol : o < w.heap.size := Blk.lt hO
  obtain ⟨hpl, hsl⟩ := hM.lt
  have hXp : w.heap.size ≠ p := by omega
  have hXs : w.heap.size ≠ s := by omega
  have hXo : w.heap.size ≠ o := by omega
  have hF0 : Fr (Thr o p s) w (w.alloc (.cells #[.pointer (some ⟨o, 0, none⟩)] 94)) := (Fr.refl _ _).alloc _
  have hX : Blk (w.alloc (.cells #[.pointer (some ⟨o, 0, none⟩)] 94)) w.heap.size 94 #[.pointer (some ⟨o, 0, none⟩)] := Blk.new _ _ _
  have hO0 : OpAt (w.alloc (.cells #[.pointer (some ⟨o, 0, none⟩)] 94)) o v := Blk.alloc hO _
  have hM0 : MI (w.alloc (.cells #[.pointer (some ⟨o, 0, none⟩)] 94)) p s ws b := hM.fr (B := fun _ => False) ((Fr.refl _ _).alloc _) (fun h => h) (fun h => h)
  have x0 : (w.alloc (.cells #[.pointer (some ⟨o, 0, none⟩)] 94)).cell? ⟨w.heap.size, 0, none⟩ = some (.pointer (some ⟨o, 0, none⟩)) := by rw [hX.cell]; rfl
  have c1 : (w.alloc (.cells #[.pointer (some ⟨o, 0, none⟩)] 94)).cell? ⟨o, 1, none⟩ = some (.int .i64 base) := by rw [← hbase]; rw [Blk.cell hO0]; rfl
  have c10 : (w.alloc (.cells #[.pointer (some ⟨o, 0, none⟩)] 94)).cell? ⟨o, 10, none⟩ = some (.int .i64 (t : Int)) := by rw [← ht]; rw [Blk.cell hO0]; rfl
  have hmf := mf_any
  have HBASE := Lib.hid hbase
  clear hbase
  have HHT := Lib.hid ht
  clear ht
  have HX := Lib.hid hX
  have HO := Lib.hid hO0
  have HM := Lib.hid hM0
  have HF := Lib.hid hF0
  clear hX hO hO0 hM hM0 hF0
  have hd : decide ((n : Int) ≤ (q : Int)) = false := decide_eq_false (by omega)
  have hd2 : decide (n ≤ q) = false := decide_eq_false (by omega)
  have hd3 : ¬ (n : Int) ≤ (q : Int) := by omega
  have HQ := Lib.hid hq
  clear hq
  go_enter Try.func68, Try.ntmps68
  go_wp2_with fail
  refine (wordE_any _ o base c1).mono ?_
  rintro e w1 ⟨rfl, rfl⟩
  go_wp2_with fail
  refine (load_mi HM.out hb (base) (n : Int) hi).mono ?_
  rintro e w1 ⟨rfl, hM1, hF1⟩
  have hO1 : OpAt w1 o v := Blk.fr HO.out hF1 (fun h => h.elim h1 h2)
  have xx := hF1.held x0 (fun h => h.elim hXp hXs)
  have d1 : w1.cell? ⟨o, 1, none⟩ = some (.int .i64 base) := hF1.held c1 (fun h => h.elim h1 h2)
  have d10 : w1.cell? ⟨o, 10, none⟩ = some (.int .i64 (t : Int)) := hF1.held c10 (fun h => h.elim h1 h2)
  have HO1 := Lib.hid hO1
  have HM1 := Lib.hid hM1
  have HF1 := Lib.hid (HF.out.trans (hF1.mono (fun _ h => .inr h)))
  clear hO1 hM1 hF1
  go_wp2_with fail
  refine (place_q _ t q htl HQ.out).mono ?_
  rintro e w1 ⟨rfl, rfl⟩
  go_wp2_with fail
  refine (behind_ok _ _).mono ?_
  rintro e w1 ⟨rfl, rfl⟩
  go_wp2_with fail
  go_ret2
  exact ⟨rfl, HO1.out, HM1.out, HF1.out⟩

set_option maxHeartbeats 4000000 in
theorem ex_stealLooks_empty (w : World) (o p s : Nat) (v : OpV) (ws : List (Bool × Int)) (b : Nat) (hO : OpAt w o v) (hM : MI w p s ws b) (hb : b < 900000) (base : Nat) (hbase : v.base = base) (_hbl : base ≤ 60000) (t : Nat) (ht : v.t = t) (htl : t < 1152921504606846976) (q : Nat) (hq : t % 65536 = q) (n : Nat) (hi : ws[base]? = some (true, (n : Int))) (hm : n ≤ q) :
    Calls Try.prog 68 #[.agg #[.pointer (some ⟨o, 0, none⟩)], .pointer (some ⟨p, 0, none⟩)] w (MvP w o p s v ws b .nilFunc 9) := by
  obtain ⟨h1, h2⟩ := hO.ne hM
  have hol : o < w.heap.size := Blk.lt hO
  obtain ⟨hpl, hsl⟩ := hM.lt
  have hXp : w.heap.size ≠ p := by omega
  have hXs : w.heap.size ≠ s := by omega
  have hXo : w.heap.size ≠ o := by omega
  have hF0 : Fr (Thr o p s) w (w.alloc (.cells #[.pointer (some ⟨o, 0, none⟩)] 94)) := (Fr.refl _ _).alloc _
  have hX : Blk (w.alloc (.cells #[.pointer (some ⟨o, 0, none⟩)] 94)) w.heap.size 94 #[.pointer (some ⟨o, 0, none⟩)] := Blk.new _ _ _
  have hO0 : OpAt (w.alloc (.cells #[.pointer (some ⟨o, 0, none⟩)] 94)) o v := Blk.alloc hO _
  have hM0 : MI (w.alloc (.cells #[.pointer (some ⟨o, 0, none⟩)] 94)) p s ws b := hM.fr (B := fun _ => False) ((Fr.refl _ _).alloc _) (fun h => h) (fun h => h)
  have x0 : (w.alloc (.cells #[.pointer (some ⟨o, 0, none⟩)] 94)).cell? ⟨w.heap.size, 0, none⟩ = some (.pointer (some ⟨o, 0, none⟩)) := by rw [hX.cell]; rfl
  have c1 : (w.alloc (.cells #[.pointer (some ⟨o, 0, none⟩)] 94)).cell? ⟨o, 1, none⟩ = some (.int .i64 base) := by rw [← hbase]; rw [Blk.cell hO0]; rfl
  have c10 : (w.alloc (.cells #[.pointer (some ⟨o, 0, none⟩)] 94)).cell? ⟨o, 10, none⟩ = some (.int .i64 (t : Int)) := by rw [← ht]; rw [Blk.cell hO0]; rfl
  have hmf := mf_any
  have HBASE := Lib.hid hbase
  clear hbase
  have HHT := Lib.hid ht
  clear ht
  have HX := Lib.hid hX
  have HO := Lib.hid hO0
  have HM := Lib.hid hM0
  have HF := Lib.hid hF0
  clear hX hO hO0 hM hM0 hF0
  have hd : decide ((n : Int) ≤ (q : Int)) = true := decide_eq_true (by omega)
  have hd2 : decide (n ≤ q) = true := decide_eq_true (by omega)
  have hd3 : (n : Int) ≤ (q : Int) := by omega
  have HQ := Lib.hid hq
  clear hq
  go_enter Try.func68, Try.ntmps68
  go_wp2_with fail
  refine (wordE_any _ o base c1).mono ?_
  rintro e w1 ⟨rfl, rfl⟩
  go_wp2_with fail
  refine (load_mi HM.out hb (base) (n : Int) hi).mono ?_
  rintro e w1 ⟨rfl, hM1, hF1⟩
  have hO1 : OpAt w1 o v := Blk.fr HO.out hF1 (fun h => h.elim h1 h2)
  have xx := hF1.held x0 (fun h => h.elim hXp hXs)
  have d1 : w1.cell? ⟨o, 1, none⟩ = some (.int .i64 base) := hF1.held c1 (fun h => h.elim h1 h2)
  have d10 : w1.cell? ⟨o, 10, none⟩ = some (.int .i64 (t : Int)) := hF1.held c10 (fun h => h.elim h1 h2)
  have HO1 := Lib.hid hO1
  have HM1 := Lib.hid hM1
  have HF1 := Lib.hid (HF.out.trans (hF1.mono (fun _ h => .inr h)))
  clear hO1 hM1 hF1
  go_wp2_with fail
  refine (place_q _ t q htl HQ.out).mono ?_
  rintro e w1 ⟨rfl, rfl⟩
  go_wp2_with fail
  refine (behind_er _ 9 (by decide) _).mono ?_
  rintro e w1 ⟨rfl, rfl⟩
  go_wp2_with fail
  go_ret2
  exact ⟨rfl, HO1.out, HM1.out, HF1.out⟩
end Go.Proofs.Ytfcboacmailfiaa
