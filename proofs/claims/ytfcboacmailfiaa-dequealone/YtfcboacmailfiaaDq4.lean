/-
  Package deque: the moves of kind 1, the last two, and what quiet calls come to.
-/
import Derived.Test.YtfcboacmailfiaaDq3
import Derived.Laws.EntriesVeiled
namespace Go.Proofs.Ytfcboacmailfiaa
open Go.RowKit

theorem MI.drewN {w : World} {p s b : Nat} {ws : List (Bool × Int)} (h : MI w p s ws b) (n : Nat) : MI (w.drewN n) p s ws b := by
  obtain ⟨st, h, a, c⟩ := h
  exact ⟨st, ⟨h.hp, h.hs⟩, a, c⟩
theorem sf_any : ∀ (fn : Fn) (first cap : Array Value) (a : Addr) (w : World), (store a (.func fn first cap)).run Try.prog w = stored Try.prog w a (.func fn first cap) .plain := fun fn first cap a w => run_store Try.prog w a (.func fn first cap) .plain rfl
theorem room_quiet (W : World) (n o : Nat) (r : Int) (h : W.cell? ⟨o, 2, none⟩ = some (.int .i64 r)) : Calls Try.prog 59 #[.pointer (some ⟨o, 0, none⟩)] (W.drewN n) fun e w' => e = .returned (.int .i64 r) ∧ ∃ m, w' = W.drewN m :=
  (room_any (W.drewN n) o r h).mono fun _ _ ⟨he, hw⟩ => ⟨he, n, hw⟩

set_option maxHeartbeats 4000000 in
theorem ex_popLooks_done (w : World) (o p s : Nat) (v : OpV) (ws : List (Bool × Int)) (b : Nat) (hO : OpAt w o v) (hM : MI w p s ws b) (hb : b < 900000) (base : Nat) (hbase : v.base = base) (_hbl : base ≤ 60000) (j : Nat) (he : v.e = j) (t : Nat) (htl : t < 1152921504606846976) (q : Nat) (hq : t % 65536 = q) (hi : ws[base + 1]? = some (true, (t : Int))) (hm : q < j) :
    Calls Try.prog 78 #[.agg #[.pointer (some ⟨o, 0, none⟩)], .pointer (some ⟨p, 0, none⟩)] w (MvP w o p s { v with t := (t : Int) } ws b .nilFunc 0) := by
  obtain ⟨h1, h2⟩ := hO.ne hM
  have hol : o < w.heap.size := Blk.lt hO
  obtain ⟨hpl, hsl⟩ := hM.lt
  have hXp : w.heap.size ≠ p := by omega
  have hXs : w.heap.size ≠ s := by omega
  have hXo : w.heap.size ≠ o := by omega
  have hF0 : Fr (Thr o p s) w (w.alloc (.cells #[.pointer (some ⟨o, 0, none⟩)] 94)) := (Fr.refl _ _).alloc _
  have hX : Blk (w.alloc (.cells #[.pointer (some ⟨o, 0, none⟩)] 94)) w.heap.size 94 #[.pointer (some ⟨o, 0, none⟩)] := Blk.new _ _ _
  have hO0 : OpAt (w.alloc (.cells #[.pointer (some ⟨o, 0, none⟩)] 94)) o v := Blk.alloc hO _
  have hM0 : MI (w.alloc (.cells #[.pointer (some ⟨o, 0, none⟩)] 94)) p s ws b := hM.fr (B := fun _ => False) ((Fr.refl _ _).alloc _) (fun h => h) (fun h => h)
  have x0 : (w.alloc (.cells #[.pointer (some ⟨o, 0, none⟩)] 94)).cell? ⟨w.heap.size, 0, none⟩ = some (.pointer (some ⟨o, 0, none⟩)) := by rw [hX.cell]; rfl
  have c1 : (w.alloc (.cells #[.pointer (some ⟨o, 0, none⟩)] 94)).cell? ⟨o, 1, none⟩ = some (.int .i64 base) := by rw [← hbase]; rw [Blk.cell hO0]; rfl
  have c9 : (w.alloc (.cells #[.pointer (some ⟨o, 0, none⟩)] 94)).cell? ⟨o, 9, none⟩ = some (.int .i64 (j : Int)) := by rw [← he]; rw [Blk.cell hO0]; rfl
  have c10 : (w.alloc (.cells #[.pointer (some ⟨o, 0, none⟩)] 94)).cell? ⟨o, 10, none⟩ = some (.int .i64 v.t) := by rw [Blk.cell hO0]; rfl
  have hmf := mf_any
  have HBASE := Lib.hid hbase
  clear hbase
  have HHE := Lib.hid he
  clear he
  have HX := Lib.hid hX
  have HO := Lib.hid hO0
  have HM := Lib.hid hM0
  have HF := Lib.hid hF0
  clear hX hO hO0 hM hM0 hF0
  have hd : decide ((q : Int) < (j : Int)) = true := decide_eq_true (by omega)
  have hd2 : decide (q < j) = true := decide_eq_true (by omega)
  have hd3 : (q : Int) < (j : Int) := by omega
  have HQ := Lib.hid hq
  clear hq
  go_enter Try.func78, Try.ntmps78
  go_wp2_with fail
  refine (wordT_any _ o base (by omega) c1).mono ?_
  rintro e w1 ⟨rfl, rfl⟩
  go_wp2_with fail
  refine (load_mi HM.out hb (base + 1) (t : Int) hi).mono ?_
  rintro e w1 ⟨rfl, hM1, hF1⟩
  have hO1 : OpAt w1 o v := Blk.fr HO.out hF1 (fun h => h.elim h1 h2)
  have xx := hF1.held x0 (fun h => h.elim hXp hXs)
  have d1 : w1.cell? ⟨o, 1, none⟩ = some (.int .i64 base) := hF1.held c1 (fun h => h.elim h1 h2)
  have d9 : w1.cell? ⟨o, 9, none⟩ = some (.int .i64 (j : Int)) := hF1.held c9 (fun h => h.elim h1 h2)
  have d10 : w1.cell? ⟨o, 10, none⟩ = some (.int .i64 v.t) := hF1.held c10 (fun h => h.elim h1 h2)
  have f10 := Blk.frozen hO1 10
  have HO1 := Lib.hid hO1
  have HM1 := Lib.hid hM1
  have HF1 := Lib.hid (HF.out.trans (hF1.mono (fun _ h => .inr h)))
  clear hO1 hM1 hF1
  go_wp2_with fail
  go_quiet ((exact place_quiet _ _ t q htl HQ.out))
  go_wp2_with fail
  go_ret2
  have hFs : Fr (fun k => k = o) w1 (w1.setCell ⟨o, 10, none⟩ (.int .i64 (t : Int))) := (Fr.refl (fun k => k = o) w1).setCell (p := ⟨o, 10, none⟩) (.inl rfl) _
  have hMs := HM1.out.fr hFs (fun h => h1 h.symm) (fun h => h2 h.symm)
  have hFw := HF1.out.trans (hFs.mono (fun _ h => .inl h))
  exact ⟨rfl, Blk.set_ HO1.out 10 _, by first | exact hMs | exact hMs.drewN _, by first | exact hFw | exact hFw.drewN _⟩

set_option maxHeartbeats 4000000 in
theorem ex_popLooks_go (w : World) (o p s : Nat) (v : OpV) (ws : List (Bool × Int)) (b : Nat) (hO : OpAt w o v) (hM : MI w p s ws b) (hb : b < 900000) (base : Nat) (hbase : v.base = base) (_hbl : base ≤ 60000) (j : Nat) (he : v.e = j) (t : Nat) (htl : t < 1152921504606846976) (q : Nat) (hq : t % 65536 = q) (hi : ws[base + 1]? = some (true, (t : Int))) (hm : j ≤ q) :
    Calls Try.prog 78 #[.agg #[.pointer (some ⟨o, 0, none⟩)], .pointer (some ⟨p, 0, none⟩)] w (MvP w o p s { v with t := (t : Int) } ws b (mv 81 o) 0) := by
  obtain ⟨h1, h2⟩ := hO.ne hM
  have hol : o < w.heap.size := Blk.lt hO
  obtain ⟨hpl, hsl⟩ := hM.lt
  have hXp : w.heap.size ≠ p := by omega
  have hXs : w.heap.size ≠ s := by omega
  have hXo : w.heap.size ≠ o := by omega
  have hF0 : Fr (Thr o p s) w (w.alloc (.cells #[.pointer (some ⟨o, 0, none⟩)] 94)) := (Fr.refl _ _).alloc _
  have hX : Blk (w.alloc (.cells #[.pointer (some ⟨o, 0, none⟩)] 94)) w.heap.size 94 #[.pointer (some ⟨o, 0, none⟩)] := Blk.new _ _ _
  have hO0 : OpAt (w.alloc (.cells #[.pointer (some ⟨o, 0, none⟩)] 94)) o v := Blk.alloc hO _
  have hM0 : MI (w.alloc (.cells #[.pointer (some ⟨o, 0, none⟩)] 94)) p s ws b := hM.fr (B := fun _ => False) ((Fr.refl _ _).alloc _) (fun h => h) (fun h => h)
  have x0 : (w.alloc (.cells #[.pointer (some ⟨o, 0, none⟩)] 94)).cell? ⟨w.heap.size, 0, none⟩ = some (.pointer (some ⟨o, 0, none⟩)) := by rw [hX.cell]; rfl
  have c1 : (w.alloc (.cells #[.pointer (some ⟨o, 0, none⟩)] 94)).cell? ⟨o, 1, none⟩ = some (.int .i64 base) := by rw [← hbase]; rw [Blk.cell hO0]; rfl
  have c9 : (w.alloc (.cells #[.pointer (some ⟨o, 0, none⟩)] 94)).cell? ⟨o, 9, none⟩ = some (.int .i64 (j : Int)) := by rw [← he]; rw [Blk.cell hO0]; rfl
  have c10 : (w.alloc (.cells #[.pointer (some ⟨o, 0, none⟩)] 94)).cell? ⟨o, 10, none⟩ = some (.int .i64 v.t) := by rw [Blk.cell hO0]; rfl
  have hmf := mf_any
  have HBASE := Lib.hid hbase
  clear hbase
  have HHE := Lib.hid he
  clear he
  have HX := Lib.hid hX
  have HO := Lib.hid hO0
  have HM := Lib.hid hM0
  have HF := Lib.hid hF0
  clear hX hO hO0 hM hM0 hF0
  have hd : decide ((q : Int) < (j : Int)) = false := decide_eq_false (by omega)
  have hd2 : decide (q < j) = false := decide_eq_false (by omega)
  have hd3 : ¬ (q : Int) < (j : Int) := by omega
  have HQ := Lib.hid hq
  clear hq
  go_enter Try.func78, Try.ntmps78
  go_wp2_with fail
  refine (wordT_any _ o base (by omega) c1).mono ?_
  rintro e w1 ⟨rfl, rfl⟩
  go_wp2_with fail
  refine (load_mi HM.out hb (base + 1) (t : Int) hi).mono ?_
  rintro e w1 ⟨rfl, hM1, hF1⟩
  have hO1 : OpAt w1 o v := Blk.fr HO.out hF1 (fun h => h.elim h1 h2)
  have xx := hF1.held x0 (fun h => h.elim hXp hXs)
  have d1 : w1.cell? ⟨o, 1, none⟩ = some (.int .i64 base) := hF1.held c1 (fun h => h.elim h1 h2)
  have d9 : w1.cell? ⟨o, 9, none⟩ = some (.int .i64 (j : Int)) := hF1.held c9 (fun h => h.elim h1 h2)
  have d10 : w1.cell? ⟨o, 10, none⟩ = some (.int .i64 v.t) := hF1.held c10 (fun h => h.elim h1 h2)
  have f10 := Blk.frozen hO1 10
  have HO1 := Lib.hid hO1
  have HM1 := Lib.hid hM1
  have HF1 := Lib.hid (HF.out.trans (hF1.mono (fun _ h => .inr h)))
  clear hO1 hM1 hF1
  go_wp2_with fail
  go_quiet ((exact place_quiet _ _ t q htl HQ.out))
  go_wp2_with fail
  go_ret2
  have hFs : Fr (fun k => k = o) w1 (w1.setCell ⟨o, 10, none⟩ (.int .i64 (t : Int))) := (Fr.refl (fun k => k = o) w1).setCell (p := ⟨o, 10, none⟩) (.inl rfl) _
  have hMs := HM1.out.fr hFs (fun h => h1 h.symm) (fun h => h2 h.symm)
  have hFw := HF1.out.trans (hFs.mono (fun _ h => .inl h))
  exact ⟨rfl, Blk.set_ HO1.out 10 _, by first | exact hMs | exact hMs.drewN _, by first | exact hFw | exact hFw.drewN _⟩

set_option maxHeartbeats 4000000 in
theorem ex_popClears_race (w : World) (o p s : Nat) (v : OpV) (ws : List (Bool × Int)) (b : Nat) (hO : OpAt w o v) (hM : MI w p s ws b) (hb : b < 900000) (base : Nat) (hbase : v.base = base) (_hbl : base ≤ 60000) (j : Nat) (he : v.e = j) (t : Nat) (ht : v.t = t) (htl : t < 1152921504606846976) (q : Nat) (hq : t % 65536 = q) (m : Int) (hi : ws[base]? = some (true, m)) (hm : j = q) :
    Calls Try.prog 81 #[.agg #[.pointer (some ⟨o, 0, none⟩)], .pointer (some ⟨p, 0, none⟩)] w (MvP w o p s v (ws.set base (true, 0)) b (mv 83 o) 0) := by
  obtain ⟨h1, h2⟩ := hO.ne hM
  have hol : o < w.heap.size := Blk.lt hO
  obtain ⟨hpl, hsl⟩ := hM.lt
  have hXp : w.heap.size ≠ p := by omega
  have hXs : w.heap.size ≠ s := by omega
  have hXo : w.heap.size ≠ o := by omega
  have hF0 : Fr (Thr o p s) w (w.alloc (.cells #[.pointer (some ⟨o, 0, none⟩)] 94)) := (Fr.refl _ _).alloc _
  have hX : Blk (w.alloc (.cells #[.pointer (some ⟨o, 0, none⟩)] 94)) w.heap.size 94 #[.pointer (some ⟨o, 0, none⟩)] := Blk.new _ _ _
  have hO0 : OpAt (w.alloc (.cells #[.pointer (some ⟨o, 0, none⟩)] 94)) o v := Blk.alloc hO _
  have hM0 : MI (w.alloc (.cells #[.pointer (some ⟨o, 0, none⟩)] 94)) p s ws b := hM.fr (B := fun _ => False) ((Fr.refl _ _).alloc _) (fun h => h) (fun h => h)
  have x0 : (w.alloc (.cells #[.pointer (some ⟨o, 0, none⟩)] 94)).cell? ⟨w.heap.size, 0, none⟩ = some (.pointer (some ⟨o, 0, none⟩)) := by rw [hX.cell]; rfl
  have c1 : (w.alloc (.cells #[.pointer (some ⟨o, 0, none⟩)] 94)).cell? ⟨o, 1, none⟩ = some (.int .i64 base) := by rw [← hbase]; rw [Blk.cell hO0]; rfl
  have c9 : (w.alloc (.cells #[.pointer (some ⟨o, 0, none⟩)] 94)).cell? ⟨o, 9, none⟩ = some (.int .i64 (j : Int)) := by rw [← he]; rw [Blk.cell hO0]; rfl
  have c10 : (w.alloc (.cells #[.pointer (some ⟨o, 0, none⟩)] 94)).cell? ⟨o, 10, none⟩ = some (.int .i64 (t : Int)) := by rw [← ht]; rw [Blk.cell hO0]; rfl
  have hmf := mf_any
  have HBASE := Lib.hid hbase
  clear hbase
  have HHE := Lib.hid he
  clear he
  have HHT := Lib.hid ht
  clear ht
  have HX := Lib.hid hX
  have HO := Lib.hid hO0
  have HM := Lib.hid hM0
  have HF := Lib.hid hF0
  clear hX hO hO0 hM hM0 hF0
  have hd : ((j : Int) == (q : Int)) = true := by simp; omega
  have hd2 : (j == q) = true := by simp; omega
  have HQ := Lib.hid hq
  clear hq
  clear hm
  go_enter Try.func81, Try.ntmps81
  go_wp2_with fail
  refine (wordE_any _ o base c1).mono ?_
  rintro e w1 ⟨rfl, rfl⟩
  go_wp2_with fail
  refine (store_mi HM.out hb base m 0 hi).mono ?_
  rintro e w1 ⟨rfl, hM1, hF1⟩
  have hO1 : OpAt w1 o v := OpAt.two HO.out hF1 h1 h2
  have xx := hF1.held x0 (fun h => h.elim hXp hXs)
  have d9 : w1.cell? ⟨o, 9, none⟩ = some (.int .i64 (j : Int)) := hF1.held c9 (fun h => h.elim h1 h2)
  have d10 : w1.cell? ⟨o, 10, none⟩ = some (.int .i64 (t : Int)) := hF1.held c10 (fun h => h.elim h1 h2)
  have HO1 := Lib.hid hO1
  have HM1 := Lib.hid hM1
  have HF1 := Lib.hid (HF.out.trans (hF1.mono (fun _ h => .inr h)))
  clear hO1 hM1 hF1
  go_wp2_with fail
  go_quiet ((exact place_quiet _ _ t q htl HQ.out))
  go_wp2_with fail
  refine (behind_ok _ _).mono ?_
  rintro e w1 ⟨rfl, rfl⟩
  go_wp2_with fail
  go_ret2
  exact ⟨rfl, HO1.out, by first | exact HM1.out | exact HM1.out.drewN _, by first | exact HF1.out | exact HF1.out.drewN _⟩

set_option maxHeartbeats 4000000 in
theorem ex_popClears_lost (w : World) (o p s : Nat) (v : OpV) (ws : List (Bool × Int)) (b : Nat) (hO : OpAt w o v) (hM : MI w p s ws b) (hb : b < 900000) (base : Nat) (hbase : v.base = base) (_hbl : base ≤ 60000) (j : Nat) (he : v.e = j) (t : Nat) (ht : v.t = t) (htl : t < 1152921504606846976) (q : Nat) (hq : t % 65536 = q) (m : Int) (hi : ws[base]? = some (true, m)) (hm : ¬ j = q) :
    Calls Try.prog 81 #[.agg #[.pointer (some ⟨o, 0, none⟩)], .pointer (some ⟨p, 0, none⟩)] w (MvP w o p s v (ws.set base (true, 0)) b (mv 84 o) 0) := by
  obtain ⟨h1, h2⟩ := hO.ne hM
  have hol : o < w.heap.size := Blk.lt hO
  obtain ⟨hpl, hsl⟩ := hM.lt
  have hXp : w.heap.size ≠ p := by omega
  have hXs : w.heap.size ≠ s := by omega
  have hXo : w.heap.size ≠ o := by omega
  have hF0 : Fr (Thr o p s) w (w.alloc (.cells #[.pointer (some ⟨o, 0, none⟩)] 94)) := (Fr.refl _ _).alloc _
  have hX : Blk (w.alloc (.cells #[.pointer (some ⟨o, 0, none⟩)] 94)) w.heap.size 94 #[.pointer (some ⟨o, 0, none⟩)] := Blk.new _ _ _
  have hO0 : OpAt (w.alloc (.cells #[.pointer (some ⟨o, 0, none⟩)] 94)) o v := Blk.alloc hO _
  have hM0 : MI (w.alloc (.cells #[.pointer (some ⟨o, 0, none⟩)] 94)) p s ws b := hM.fr (B := fun _ => False) ((Fr.refl _ _).alloc _) (fun h => h) (fun h => h)
  have x0 : (w.alloc (.cells #[.pointer (some ⟨o, 0, none⟩)] 94)).cell? ⟨w.heap.size, 0, none⟩ = some (.pointer (some ⟨o, 0, none⟩)) := by rw [hX.cell]; rfl
  have c1 : (w.alloc (.cells #[.pointer (some ⟨o, 0, none⟩)] 94)).cell? ⟨o, 1, none⟩ = some (.int .i64 base) := by rw [← hbase]; rw [Blk.cell hO0]; rfl
  have c9 : (w.alloc (.cells #[.pointer (some ⟨o, 0, none⟩)] 94)).cell? ⟨o, 9, none⟩ = some (.int .i64 (j : Int)) := by rw [← he]; rw [Blk.cell hO0]; rfl
  have c10 : (w.alloc (.cells #[.pointer (some ⟨o, 0, none⟩)] 94)).cell? ⟨o, 10, none⟩ = some (.int .i64 (t : Int)) := by rw [← ht]; rw [Blk.cell hO0]; rfl
  have hmf := mf_any
  have HBASE := Lib.hid hbase
  clear hbase
  have HHE := Lib.hid he
  clear he
  have HHT := Lib.hid ht
  clear ht
  have HX := Lib.hid hX
  have HO := Lib.hid hO0
  have HM := Lib.hid hM0
  have HF := Lib.hid hF0
  clear hX hO hO0 hM hM0 hF0
  have hd : ((j : Int) == (q : Int)) = false := by simp; omega
  have hd2 : (j == q) = false := by simp; omega
  have HQ := Lib.hid hq
  clear hq
  clear hm
  go_enter Try.func81, Try.ntmps81
  go_wp2_with fail
  refine (wordE_any _ o base c1).mono ?_
  rintro e w1 ⟨rfl, rfl⟩
  go_wp2_with fail
  refine (store_mi HM.out hb base m 0 hi).mono ?_
  rintro e w1 ⟨rfl, hM1, hF1⟩
  have hO1 : OpAt w1 o v := OpAt.two HO.out hF1 h1 h2
  have xx := hF1.held x0 (fun h => h.elim hXp hXs)
  have d9 : w1.cell? ⟨o, 9, none⟩ = some (.int .i64 (j : Int)) := hF1.held c9 (fun h => h.elim h1 h2)
  have d10 : w1.cell? ⟨o, 10, none⟩ = some (.int .i64 (t : Int)) := hF1.held c10 (fun h => h.elim h1 h2)
  have HO1 := Lib.hid hO1
  have HM1 := Lib.hid hM1
  have HF1 := Lib.hid (HF.out.trans (hF1.mono (fun _ h => .inr h)))
  clear hO1 hM1 hF1
  go_wp2_with fail
  go_quiet ((exact place_quiet _ _ t q htl HQ.out))
  go_wp2_with fail
  refine (behind_ok _ _).mono ?_
  rintro e w1 ⟨rfl, rfl⟩
  go_wp2_with fail
  go_ret2
  exact ⟨rfl, HO1.out, by first | exact HM1.out | exact HM1.out.drewN _, by first | exact HF1.out | exact HF1.out.drewN _⟩
end Go.Proofs.Ytfcboacmailfiaa
