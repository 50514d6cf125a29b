/-
  Package deque: the moves of kind 3.
-/
import Derived.Test.YtfcboacmailfiaaDq4
import Derived.Laws.EntriesVeiled
namespace Go.Proofs.Ytfcboacmailfiaa
open Go.RowKit

set_option maxHeartbeats 4000000 in
theorem fi_push (w : World) (o p s : Nat) (v : OpV) (ws : List (Bool × Int)) (b : Nat) (hO : OpAt w o v) (hM : MI w p s ws b) (hb : b < 900000) (base : Nat) (hbase : v.base = base) (_hbl : base ≤ 60000) (n : Int) (hi : ws[base + 1]? = some (true, n)) :
    Calls Try.prog 98 #[.agg #[.pointer (some ⟨o, 0, none⟩)], .pointer (some ⟨p, 0, none⟩)] w (MvP w o p s { v with t := n } ws b (mv 102 o) 0) := by
  obtain ⟨h1, h2⟩ := hO.ne hM
  have hol : o < w.heap.size := Blk.lt hO
  obtain ⟨hpl, hsl⟩ := hM.lt
  have hXp : w.heap.size ≠ p := by omega
  have hXs : w.heap.size ≠ s := by omega
  have hXo : w.heap.size ≠ o := by omega
  have hF0 : Fr (Thr o p s) w (w.alloc (.cells #[.pointer (some ⟨o, 0, none⟩)] 96)) := (Fr.refl _ _).alloc _
  have hX : Blk (w.alloc (.cells #[.pointer (some ⟨o, 0, none⟩)] 96)) w.heap.size 96 #[.pointer (some ⟨o, 0, none⟩)] := Blk.new _ _ _
  have hO0 : OpAt (w.alloc (.cells #[.pointer (some ⟨o, 0, none⟩)] 96)) o v := Blk.alloc hO _
  have hM0 : MI (w.alloc (.cells #[.pointer (some ⟨o, 0, none⟩)] 96)) p s ws b := hM.fr (B := fun _ => False) ((Fr.refl _ _).alloc _) (fun h => h) (fun h => h)
  have x0 : (w.alloc (.cells #[.pointer (some ⟨o, 0, none⟩)] 96)).cell? ⟨w.heap.size, 0, none⟩ = some (.pointer (some ⟨o, 0, none⟩)) := by rw [hX.cell]; rfl
  have c1 : (w.alloc (.cells #[.pointer (some ⟨o, 0, none⟩)] 96)).cell? ⟨o, 1, none⟩ = some (.int .i64 base) := by rw [← hbase]; rw [Blk.cell hO0]; rfl
  have hmf := mf_any
  have HBASE := Lib.hid hbase
  clear hbase
  have HX := Lib.hid hX
  have HO := Lib.hid hO0
  have HM := Lib.hid hM0
  have HF := Lib.hid hF0
  clear hX hO hO0 hM hM0 hF0
  go_enter Try.func98, Try.ntmps98
  go_wp2_with fail
  refine (loadT_any _ o p s v ws b HO.out HM.out hb base HBASE.out (by omega) n hi _).mono ?_
  rintro e w1 ⟨rfl, hO1, hM1, hF1⟩
  have HO1 := Lib.hid hO1
  have HM1 := Lib.hid hM1
  have HF1 := Lib.hid (Fr.trans HF.out hF1)
  clear hO1 hM1 hF1
  go_wp2_with fail
  go_ret2
  exact ⟨rfl, HO1.out, HM1.out, HF1.out⟩

set_option maxHeartbeats 4000000 in
theorem fi_pop (w : World) (o p s : Nat) (v : OpV) (ws : List (Bool × Int)) (b : Nat) (hO : OpAt w o v) (hM : MI w p s ws b) (hb : b < 900000) (base : Nat) (hbase : v.base = base) (_hbl : base ≤ 60000) (n : Int) (hi : ws[base + 1]? = some (true, n)) :
    Calls Try.prog 97 #[.agg #[.pointer (some ⟨o, 0, none⟩)], .pointer (some ⟨p, 0, none⟩)] w (MvP w o p s { v with final := mv 100 o, t := n } ws b (mv 101 o) 0) := by
  obtain ⟨h1, h2⟩ := hO.ne hM
  have hol : o < w.heap.size := Blk.lt hO
  obtain ⟨hpl, hsl⟩ := hM.lt
  have hXp : w.heap.size ≠ p := by omega
  have hXs : w.heap.size ≠ s := by omega
  have hXo : w.heap.size ≠ o := by omega
  have hF0 : Fr (Thr o p s) w (w.alloc (.cells #[.pointer (some ⟨o, 0, none⟩)] 96)) := (Fr.refl _ _).alloc _
  have hX : Blk (w.alloc (.cells #[.pointer (some ⟨o, 0, none⟩)] 96)) w.heap.size 96 #[.pointer (some ⟨o, 0, none⟩)] := Blk.new _ _ _
  have hO0 : OpAt (w.alloc (.cells #[.pointer (some ⟨o, 0, none⟩)] 96)) o v := Blk.alloc hO _
  have hM0 : MI (w.alloc (.cells #[.pointer (some ⟨o, 0, none⟩)] 96)) p s ws b := hM.fr (B := fun _ => False) ((Fr.refl _ _).alloc _) (fun h => h) (fun h => h)
  have x0 : (w.alloc (.cells #[.pointer (some ⟨o, 0, none⟩)] 96)).cell? ⟨w.heap.size, 0, none⟩ = some (.pointer (some ⟨o, 0, none⟩)) := by rw [hX.cell]; rfl
  have c1 : (w.alloc (.cells #[.pointer (some ⟨o, 0, none⟩)] 96)).cell? ⟨o, 1, none⟩ = some (.int .i64 base) := by rw [← hbase]; rw [Blk.cell hO0]; rfl
  have c4 : (w.alloc (.cells #[.pointer (some ⟨o, 0, none⟩)] 96)).cell? ⟨o, 4, none⟩ = some (v.final) := by rw [Blk.cell hO0]; rfl
  have hmf := mf_any
  have HBASE := Lib.hid hbase
  clear hbase
  have HX := Lib.hid hX
  have HOW := Lib.hid hO
  have HMW := Lib.hid hM
  have HO := Lib.hid hO0
  have HM := Lib.hid hM0
  have HF := Lib.hid hF0
  clear hX hO hO0 hM hM0 hF0
  have f4 := Blk.frozen HO.out 4
  go_enter Try.func97, Try.ntmps97
  go_wp2_with fail
  have hFs : Fr (Thr o p s) w ((w.setCell ⟨o, 4, none⟩ (mv 100 o)).alloc (.cells #[.pointer (some ⟨o, 0, none⟩)] 96)) := ((Fr.refl (Thr o p s) w).setCell (p := ⟨o, 4, none⟩) (.inl (.inl rfl)) _).alloc _
  have hOs : OpAt ((w.setCell ⟨o, 4, none⟩ (mv 100 o)).alloc (.cells #[.pointer (some ⟨o, 0, none⟩)] 96)) o { v with final := mv 100 o } := Blk.alloc (Blk.set_ HOW.out 4 _) _
  have hMs : MI ((w.setCell ⟨o, 4, none⟩ (mv 100 o)).alloc (.cells #[.pointer (some ⟨o, 0, none⟩)] 96)) p s ws b := HMW.out.fr (B := fun k => k = o) (((Fr.refl (fun k => k = o) w).setCell (p := ⟨o, 4, none⟩) (.inl rfl) _).alloc _) (fun h => h1 h.symm) (fun h => h2 h.symm)
  refine (loadT_any _ o p s { v with final := mv 100 o } ws b hOs hMs hb base HBASE.out (by omega) n hi _).mono ?_
  rintro e w1 ⟨rfl, hO1, hM1, hF1⟩
  have HO1 := Lib.hid hO1
  have HM1 := Lib.hid hM1
  have HF1 := Lib.hid (Fr.trans hFs hF1)
  clear hO1 hM1 hF1 hFs hOs hMs
  go_wp2_with fail
  go_ret2
  exact ⟨rfl, HO1.out, HM1.out, HF1.out⟩

set_option maxHeartbeats 4000000 in
theorem fi_steal (w : World) (o p s : Nat) (v : OpV) (ws : List (Bool × Int)) (b : Nat) (hO : OpAt w o v) (hM : MI w p s ws b) (hb : b < 900000) (base : Nat) (hbase : v.base = base) (_hbl : base ≤ 60000) (n : Int) (hi : ws[base + 1]? = some (true, n)) :
    Calls Try.prog 99 #[.agg #[.pointer (some ⟨o, 0, none⟩)], .pointer (some ⟨p, 0, none⟩)] w (MvP w o p s { v with final := mv 103 o, t := n } ws b (mv 101 o) 0) := by
  obtain ⟨h1, h2⟩ := hO.ne hM
  have hol : o < w.heap.size := Blk.lt hO
  obtain ⟨hpl, hsl⟩ := hM.lt
  have hXp : w.heap.size ≠ p := by omega
  have hXs : w.heap.size ≠ s := by omega
  have hXo : w.heap.size ≠ o := by omega
  have hF0 : Fr (Thr o p s) w (w.alloc (.cells #[.pointer (some ⟨o, 0, none⟩)] 96)) := (Fr.refl _ _).alloc _
  have hX : Blk (w.alloc (.cells #[.pointer (some ⟨o, 0, none⟩)] 96)) w.heap.size 96 #[.pointer (some ⟨o, 0, none⟩)] := Blk.new _ _ _
  have hO0 : OpAt (w.alloc (.cells #[.pointer (some ⟨o, 0, none⟩)] 96)) o v := Blk.alloc hO _
  have hM0 : MI (w.alloc (.cells #[.pointer (some ⟨o, 0, none⟩)] 96)) p s ws b := hM.fr (B := fun _ => False) ((Fr.refl _ _).alloc _) (fun h => h) (fun h => h)
  have x0 : (w.alloc (.cells #[.pointer (some ⟨o, 0, none⟩)] 96)).cell? ⟨w.heap.size, 0, none⟩ = some (.pointer (some ⟨o, 0, none⟩)) := by rw [hX.cell]; rfl
  have c1 : (w.alloc (.cells #[.pointer (some ⟨o, 0, none⟩)] 96)).cell? ⟨o, 1, none⟩ = some (.int .i64 base) := by rw [← hbase]; rw [Blk.cell hO0]; rfl
  have c4 : (w.alloc (.cells #[.pointer (some ⟨o, 0, none⟩)] 96)).cell? ⟨o, 4, none⟩ = some (v.final) := by rw [Blk.cell hO0]; rfl
  have hmf := mf_any
  have HBASE := Lib.hid hbase
  clear hbase
  have HX := Lib.hid hX
  have HOW := Lib.hid hO
  have HMW := Lib.hid hM
  have HO := Lib.hid hO0
  have HM := Lib.hid hM0
  have HF := Lib.hid hF0
  clear hX hO hO0 hM hM0 hF0
  have f4 := Blk.frozen HO.out 4
  go_enter Try.func99, Try.ntmps99
  go_wp2_with fail
  have hFs : Fr (Thr o p s) w ((w.setCell ⟨o, 4, none⟩ (mv 103 o)).alloc (.cells #[.pointer (some ⟨o, 0, none⟩)] 96)) := ((Fr.refl (Thr o p s) w).setCell (p := ⟨o, 4, none⟩) (.inl (.inl rfl)) _).alloc _
  have hOs : OpAt ((w.setCell ⟨o, 4, none⟩ (mv 103 o)).alloc (.cells #[.pointer (some ⟨o, 0, none⟩)] 96)) o { v with final := mv 103 o } := Blk.alloc (Blk.set_ HOW.out 4 _) _
  have hMs : MI ((w.setCell ⟨o, 4, none⟩ (mv 103 o)).alloc (.cells #[.pointer (some ⟨o, 0, none⟩)] 96)) p s ws b := HMW.out.fr (B := fun k => k = o) (((Fr.refl (fun k => k = o) w).setCell (p := ⟨o, 4, none⟩) (.inl rfl) _).alloc _) (fun h => h1 h.symm) (fun h => h2 h.symm)
  refine (loadT_any _ o p s { v with final := mv 103 o } ws b hOs hMs hb base HBASE.out (by omega) n hi _).mono ?_
  rintro e w1 ⟨rfl, hO1, hM1, hF1⟩
  have HO1 := Lib.hid hO1
  have HM1 := Lib.hid hM1
  have HF1 := Lib.hid (Fr.trans hFs hF1)
  clear hO1 hM1 hF1 hFs hOs hMs
  go_wp2_with fail
  go_ret2
  exact ⟨rfl, HO1.out, HM1.out, HF1.out⟩

set_option maxHeartbeats 4000000 in
theorem fi_pushLooks_go (w : World) (o p s : Nat) (v : OpV) (ws : List (Bool × Int)) (b : Nat) (hO : OpAt w o v) (hM : MI w p s ws b) (hb : b < 900000) (base : Nat) (hbase : v.base = base) (_hbl : base ≤ 60000) (room : Nat) (hroom : v.room = room) (t : Nat) (ht : v.t = t) (htl : t < 1152921504606846976) (n : Nat) (hnl : n < 1152921504606846976) (hi : ws[base]? = some (true, (n : Int))) (hm : n < t + room) :
    Calls Try.prog 102 #[.agg #[.pointer (some ⟨o, 0, none⟩)], .pointer (some ⟨p, 0, none⟩)] w (MvP w o p s { v with e := (n : Int) } ws b (mv 105 o) 0) := by
  obtain ⟨h1, h2⟩ := hO.ne hM
  have hol : o < w.heap.size := Blk.lt hO
  obtain ⟨hpl, hsl⟩ := hM.lt
  have hXp : w.heap.size ≠ p := by omega
  have hXs : w.heap.size ≠ s := by omega
  have hXo : w.heap.size ≠ o := by omega
  have hF0 : Fr (Thr o p s) w (w.alloc (.cells #[.pointer (some ⟨o, 0, none⟩)] 96)) := (Fr.refl _ _).alloc _
  have hX : Blk (w.alloc (.cells #[.pointer (some ⟨o, 0, none⟩)] 96)) w.heap.size 96 #[.pointer (some ⟨o, 0, none⟩)] := Blk.new _ _ _
  have hO0 : OpAt (w.alloc (.cells #[.pointer (some ⟨o, 0, none⟩)] 96)) o v := Blk.alloc hO _
  have hM0 : MI (w.alloc (.cells #[.pointer (some ⟨o, 0, none⟩)] 96)) p s ws b := hM.fr (B := fun _ => False) ((Fr.refl _ _).alloc _) (fun h => h) (fun h => h)
  have x0 : (w.alloc (.cells #[.pointer (some ⟨o, 0, none⟩)] 96)).cell? ⟨w.heap.size, 0, none⟩ = some (.pointer (some ⟨o, 0, none⟩)) := by rw [hX.cell]; rfl
  have c1 : (w.alloc (.cells #[.pointer (some ⟨o, 0, none⟩)] 96)).cell? ⟨o, 1, none⟩ = some (.int .i64 base) := by rw [← hbase]; rw [Blk.cell hO0]; rfl
  have c2 : (w.alloc (.cells #[.pointer (some ⟨o, 0, none⟩)] 96)).cell? ⟨o, 2, none⟩ = some (.int .i64 (room : Int)) := by rw [← hroom]; rw [Blk.cell hO0]; rfl
  have c10 : (w.alloc (.cells #[.pointer (some ⟨o, 0, none⟩)] 96)).cell? ⟨o, 10, none⟩ = some (.int .i64 (t : Int)) := by rw [← ht]; rw [Blk.cell hO0]; rfl
  have c9 : (w.alloc (.cells #[.pointer (some ⟨o, 0, none⟩)] 96)).cell? ⟨o, 9, none⟩ = some (.int .i64 v.e) := by rw [Blk.cell hO0]; rfl
  have hmf := mf_any
  have HBASE := Lib.hid hbase
  clear hbase
  have HHROOM := Lib.hid hroom
  clear hroom
  have HHT := Lib.hid ht
  clear ht
  have HX := Lib.hid hX
  have HO := Lib.hid hO0
  have HM := Lib.hid hM0
  have HF := Lib.hid hF0
  clear hX hO hO0 hM hM0 hF0
  have hd : decide ((room : Int) ≤ (n : Int) - (t : Int)) = false := decide_eq_false (by omega)
  have hd3 : ¬ (room : Int) ≤ (n : Int) - (t : Int) := by omega
  have hw : IntKind.i64.wrap ((n : Int) - (t : Int)) = (n : Int) - (t : Int) := IntWalk.i64_in _ (by omega)
  clear hm
  go_enter Try.func102, Try.ntmps102
  go_wp2_with fail
  refine (wordE_any _ o base c1).mono ?_
  rintro e w1 ⟨rfl, rfl⟩
  go_wp2_with fail
  refine (load_mi HM.out hb (base) (n : Int) hi).mono ?_
  rintro e w1 ⟨rfl, hM1, hF1⟩
  have hO1 : OpAt w1 o v := Blk.fr HO.out hF1 (fun h => h.elim h1 h2)
  have xx := hF1.held x0 (fun h => h.elim hXp hXs)
  have d1 : w1.cell? ⟨o, 1, none⟩ = some (.int .i64 base) := hF1.held c1 (fun h => h.elim h1 h2)
  have d2 : w1.cell? ⟨o, 2, none⟩ = some (.int .i64 (room : Int)) := hF1.held c2 (fun h => h.elim h1 h2)
  have d10 : w1.cell? ⟨o, 10, none⟩ = some (.int .i64 (t : Int)) := hF1.held c10 (fun h => h.elim h1 h2)
  have d9 : w1.cell? ⟨o, 9, none⟩ = some (.int .i64 v.e) := hF1.held c9 (fun h => h.elim h1 h2)
  have f9 := Blk.frozen hO1 9
  have HO1 := Lib.hid hO1
  have HM1 := Lib.hid hM1
  have HF1 := Lib.hid (HF.out.trans (hF1.mono (fun _ h => .inr h)))
  clear hO1 hM1 hF1
  go_wp2_with fail
  go_quiet ((exact room_quiet _ _ o (room : Int) d2))
  go_wp2_with fail
  refine (behind_ok _ _).mono ?_
  rintro e w1 ⟨rfl, rfl⟩
  go_wp2_with fail
  go_ret2
  have hFs : Fr (fun k => k = o) w1 (w1.setCell ⟨o, 9, none⟩ (.int .i64 (n : Int))) := (Fr.refl (fun k => k = o) w1).setCell (p := ⟨o, 9, none⟩) (.inl rfl) _
  have hMs := HM1.out.fr hFs (fun h => h1 h.symm) (fun h => h2 h.symm)
  have hFw := HF1.out.trans (hFs.mono (fun _ h => .inl h))
  exact ⟨rfl, Blk.set_ HO1.out 9 _, by first | exact hMs | exact hMs.drewN _, by first | exact hFw | exact hFw.drewN _⟩

set_option maxHeartbeats 4000000 in
theorem fi_pushLooks_full (w : World) (o p s : Nat) (v : OpV) (ws : List (Bool × Int)) (b : Nat) (hO : OpAt w o v) (hM : MI w p s ws b) (hb : b < 900000) (base : Nat) (hbase : v.base = base) (_hbl : base ≤ 60000) (room : Nat) (hroom : v.room = room) (t : Nat) (ht : v.t = t) (htl : t < 1152921504606846976) (n : Nat) (hnl : n < 1152921504606846976) (hi : ws[base]? = some (true, (n : Int))) (hm : t + room ≤ n) :
    Calls Try.prog 102 #[.agg #[.pointer (some ⟨o, 0, none⟩)], .pointer (some ⟨p, 0, none⟩)] w (MvP w o p s { v with e := (n : Int) } ws b .nilFunc 8) := by
  obtain ⟨h1, h2⟩ := hO.ne hM
  have hol : o < w.heap.size := Blk.lt hO
  obtain ⟨hpl, hsl⟩ := hM.lt
  have hXp : w.heap.size ≠ p := by omega
  have hXs : w.heap.size ≠ s := by omega
  have hXo : w.heap.size ≠ o := by omega
  have hF0 : Fr (Thr o p s) w (w.alloc (.cells #[.pointer (some ⟨o, 0, none⟩)] 96)) := (Fr.refl _ _).alloc _
  have hX : Blk (w.alloc (.cells #[.pointer (some ⟨o, 0, none⟩)] 96)) w.heap.size 96 #[.pointer (some ⟨o, 0, none⟩)] := Blk.new _ _ _
  have hO0 : OpAt (w.alloc (.cells #[.pointer (some ⟨o, 0, none⟩)] 96)) o v := Blk.alloc hO _
  have hM0 : MI (w.alloc (.cells #[.pointer (some ⟨o, 0, none⟩)] 96)) p s ws b := hM.fr (B := fun _ => False) ((Fr.refl _ _).alloc _) (fun h => h) (fun h => h)
  have x0 : (w.alloc (.cells #[.pointer (some ⟨o, 0, none⟩)] 96)).cell? ⟨w.heap.size, 0, none⟩ = some (.pointer (some ⟨o, 0, none⟩)) := by rw [hX.cell]; rfl
  have c1 : (w.alloc (.cells #[.pointer (some ⟨o, 0, none⟩)] 96)).cell? ⟨o, 1, none⟩ = some (.int .i64 base) := by rw [← hbase]; rw [Blk.cell hO0]; rfl
  have c2 : (w.alloc (.cells #[.pointer (some ⟨o, 0, none⟩)] 96)).cell? ⟨o, 2, none⟩ = some (.int .i64 (room : Int)) := by rw [← hroom]; rw [Blk.cell hO0]; rfl
  have c10 : (w.alloc (.cells #[.pointer (some ⟨o, 0, none⟩)] 96)).cell? ⟨o, 10, none⟩ = some (.int .i64 (t : Int)) := by rw [← ht]; rw [Blk.cell hO0]; rfl
  have c9 : (w.alloc (.cells #[.pointer (some ⟨o, 0, none⟩)] 96)).cell? ⟨o, 9, none⟩ = some (.int .i64 v.e) := by rw [Blk.cell hO0]; rfl
  have hmf := mf_any
  have HBASE := Lib.hid hbase
  clear hbase
  have HHROOM := Lib.hid hroom
  clear hroom
  have HHT := Lib.hid ht
  clear ht
  have HX := Lib.hid hX
  have HO := Lib.hid hO0
  have HM := Lib.hid hM0
  have HF := Lib.hid hF0
  clear hX hO hO0 hM hM0 hF0
  have hd : decide ((room : Int) ≤ (n : Int) - (t : Int)) = true := decide_eq_true (by omega)
  have hd3 : (room : Int) ≤ (n : Int) - (t : Int) := by omega
  have hw : IntKind.i64.wrap ((n : Int) - (t : Int)) = (n : Int) - (t : Int) := IntWalk.i64_in _ (by omega)
  clear hm
  go_enter Try.func102, Try.ntmps102
  go_wp2_with fail
  refine (wordE_any _ o base c1).mono ?_
  rintro e w1 ⟨rfl, rfl⟩
  go_wp2_with fail
  refine (load_mi HM.out hb (base) (n : Int) hi).mono ?_
  rintro e w1 ⟨rfl, hM1, hF1⟩
  have hO1 : OpAt w1 o v := Blk.fr HO.out hF1 (fun h => h.elim h1 h2)
  have xx := hF1.held x0 (fun h => h.elim hXp hXs)
  have d1 : w1.cell? ⟨o, 1, none⟩ = some (.int .i64 base) := hF1.held c1 (fun h => h.elim h1 h2)
  have d2 : w1.cell? ⟨o, 2, none⟩ = some (.int .i64 (room : Int)) := hF1.held c2 (fun h => h.elim h1 h2)
  have d10 : w1.cell? ⟨o, 10, none⟩ = some (.int .i64 (t : Int)) := hF1.held c10 (fun h => h.elim h1 h2)
  have d9 : w1.cell? ⟨o, 9, none⟩ = some (.int .i64 v.e) := hF1.held c9 (fun h => h.elim h1 h2)
  have f9 := Blk.frozen hO1 9
  have HO1 := Lib.hid hO1
  have HM1 := Lib.hid hM1
  have HF1 := Lib.hid (HF.out.trans (hF1.mono (fun _ h => .inr h)))
  clear hO1 hM1 hF1
  go_wp2_with fail
  go_quiet ((exact room_quiet _ _ o (room : Int) d2))
  go_wp2_with fail
  refine (behind_er _ 8 (by decide) _).mono ?_
  rintro e w1 ⟨rfl, rfl⟩
  go_wp2_with fail
  go_ret2
  have hFs : Fr (fun k => k = o) w1 (w1.setCell ⟨o, 9, none⟩ (.int .i64 (n : Int))) := (Fr.refl (fun k => k = o) w1).setCell (p := ⟨o, 9, none⟩) (.inl rfl) _
  have hMs := HM1.out.fr hFs (fun h => h1 h.symm) (fun h => h2 h.symm)
  have hFw := HF1.out.trans (hFs.mono (fun _ h => .inl h))
  exact ⟨rfl, Blk.set_ HO1.out 9 _, by first | exact hMs | exact hMs.drewN _, by first | exact hFw | exact hFw.drewN _⟩

set_option maxHeartbeats 4000000 in
theorem fi_pushFills (w : World) (o p s : Nat) (v : OpV) (ws : List (Bool × Int)) (b : Nat) (hO : OpAt w o v) (hM : MI w p s ws b) (hb : b < 900000) (base : Nat) (hbase : v.base = base) (_hbl : base ≤ 60000) (room : Nat) (hroom : v.room = room) (hr0 : 0 < room) (hr1 : room ≤ 1000) (j : Nat) (he : v.e = j) (q : Nat) (hq : j % room = q) (m : Int) (hi : ws[base + 2 + q]? = some (true, m)) :
    Calls Try.prog 105 #[.agg #[.pointer (some ⟨o, 0, none⟩)], .pointer (some ⟨p, 0, none⟩)] w (MvP w o p s v (ws.set (base + 2 + q) (true, v.num)) b (mv 106 o) 0) := by
  obtain ⟨h1, h2⟩ := hO.ne hM
  have hol : o < w.heap.size := Blk.lt hO
  obtain ⟨hpl, hsl⟩ := hM.lt
  have hXp : w.heap.size ≠ p := by omega
  have hXs : w.heap.size ≠ s := by omega
  have hXo : w.heap.size ≠ o := by omega
  have hF0 : Fr (Thr o p s) w (w.alloc (.cells #[.pointer (some ⟨o, 0, none⟩)] 96)) := (Fr.refl _ _).alloc _
  have hX : Blk (w.alloc (.cells #[.pointer (some ⟨o, 0, none⟩)] 96)) w.heap.size 96 #[.pointer (some ⟨o, 0, none⟩)] := Blk.new _ _ _
  have hO0 : OpAt (w.alloc (.cells #[.pointer (some ⟨o, 0, none⟩)] 96)) o v := Blk.alloc hO _
  have hM0 : MI (w.alloc (.cells #[.pointer (some ⟨o, 0, none⟩)] 96)) p s ws b := hM.fr (B := fun _ => False) ((Fr.refl _ _).alloc _) (fun h => h) (fun h => h)
  have x0 : (w.alloc (.cells #[.pointer (some ⟨o, 0, none⟩)] 96)).cell? ⟨w.heap.size, 0, none⟩ = some (.pointer (some ⟨o, 0, none⟩)) := by rw [hX.cell]; rfl
  have c1 : (w.alloc (.cells #[.pointer (some ⟨o, 0, none⟩)] 96)).cell? ⟨o, 1, none⟩ = some (.int .i64 base) := by rw [← hbase]; rw [Blk.cell hO0]; rfl
  have c2 : (w.alloc (.cells #[.pointer (some ⟨o, 0, none⟩)] 96)).cell? ⟨o, 2, none⟩ = some (.int .i64 (room : Int)) := by rw [← hroom]; rw [Blk.cell hO0]; rfl
  have c9 : (w.alloc (.cells #[.pointer (some ⟨o, 0, none⟩)] 96)).cell? ⟨o, 9, none⟩ = some (.int .i64 (j : Int)) := by rw [← he]; rw [Blk.cell hO0]; rfl
  have hmf := mf_any
  have HBASE := Lib.hid hbase
  clear hbase
  have HHROOM := Lib.hid hroom
  clear hroom
  have HHE := Lib.hid he
  clear he
  have HX := Lib.hid hX
  have HO := Lib.hid hO0
  have HM := Lib.hid hM0
  have HF := Lib.hid hF0
  clear hX hO hO0 hM hM0 hF0
  have hrem : (j : Int).tmod (room : Int) = (q : Int) := by rw [Int.tmod_eq_emod_of_nonneg (by omega), ← hq, Int.natCast_emod]
  have hrz : ((room : Int) == 0) = false := by simp; omega
  have hrz2 : ¬ (room : Int) = 0 := by omega
  have hrz3 : ¬ room = 0 := by omega
  have hrz4 : (room == 0) = false := by simp; omega
  have hrm1 : ¬ (room : Int) = -1 := by omega
  have hql : q ≤ 65536 := by have := Nat.mod_lt j hr0; omega
  have HQ := Lib.hid hq
  clear hq
  go_enter Try.func105, Try.ntmps105
  go_wp2_with fail
  generalize hW0 : (w.alloc (.cells #[.pointer (some ⟨o, 0, none⟩)] 96)) = W0 at *
  clear hW0
  refine region_K 19 (fun w' : World => w'.cell? ⟨w.heap.size, 0, none⟩ = some (.pointer (some ⟨o, 0, none⟩)) ∧ w'.cell? ⟨o, 1, none⟩ = some (.int .i64 base) ∧ w'.cell? ⟨o, 2, none⟩ = some (.int .i64 (room : Int)) ∧ w'.cell? ⟨o, 9, none⟩ = some (.int .i64 (j : Int))) (by kernel_rfl) ?_
  have HS : (fun w' : World => w'.cell? ⟨w.heap.size, 0, none⟩ = some (.pointer (some ⟨o, 0, none⟩)) ∧ w'.cell? ⟨o, 1, none⟩ = some (.int .i64 base) ∧ w'.cell? ⟨o, 2, none⟩ = some (.int .i64 (room : Int)) ∧ w'.cell? ⟨o, 9, none⟩ = some (.int .i64 (j : Int))) (W0).drew := ⟨x0, c1, c2, c9⟩
  refine AnyK.take (i := 0) rfl (by decide) (by kernel_rfl) (by kernel_rfl) (by kernel_rfl) (fun _ _ _ _ h => h) HS (fun K hK => ?_)
  go_simp
  refine hK.out _ ⟨_, by rfl, Or.inl ⟨by rfl, by intro w hSw; (try dsimp only at hSw); go_simp⟩, ?_⟩
  clear hK K
  refine AnyK.take (i := 1) rfl (by decide) (by kernel_rfl) (by kernel_rfl) (by kernel_rfl) (fun _ _ _ _ h => h) HS (fun K hK => ?_)
  go_simp
  refine hK.out _ ⟨_, by rfl, Or.inl ⟨by rfl, by intro w hSw; (try dsimp only at hSw); go_simp⟩, ?_⟩
  clear hK K
  refine AnyK.take (i := 2) rfl (by decide) (by kernel_rfl) (by kernel_rfl) (by kernel_rfl) (fun _ _ _ _ h => h) HS (fun K hK => ?_)
  go_simp
  refine hK.out _ ⟨_, by rfl, Or.inl ⟨by rfl, by intro w hSw; (try dsimp only at hSw); go_simp⟩, ?_⟩
  clear hK K
  refine AnyK.take (i := 3) rfl (by decide) (by kernel_rfl) (by kernel_rfl) (by kernel_rfl) (fun _ _ _ _ h => h) HS (fun K hK => ?_)
  go_simp
  refine hK.out _ ⟨_, by rfl, Or.inl ⟨by rfl, by intro w hSw; (try dsimp only at hSw); go_simp⟩, ?_⟩
  clear hK K
  refine AnyK.take (i := 4) rfl (by decide) (by kernel_rfl) (by kernel_rfl) (by kernel_rfl) (fun _ _ _ _ h => h) HS (fun K hK => ?_)
  go_simp
  refine hK.out _ ⟨_, by rfl, Or.inl ⟨by rfl, by intro w hSw; (try dsimp only at hSw); go_simp⟩, ?_⟩
  clear hK K
  refine AnyK.take (i := 5) rfl (by decide) (by kernel_rfl) (by kernel_rfl) (by kernel_rfl) (fun _ _ _ _ h => h) HS (fun K hK => ?_)
  go_simp
  refine hK.out _ ⟨_, by rfl, Or.inl ⟨by rfl, by intro w hSw; (try dsimp only at hSw); go_simp⟩, ?_⟩
  clear hK K
  refine AnyK.take (i := 6) rfl (by decide) (by kernel_rfl) (by kernel_rfl) (by kernel_rfl) (fun _ _ _ _ h => h) HS (fun K hK => ?_)
  go_simp
  refine hK.out _ ⟨_, by rfl, Or.inl ⟨by rfl, by intro w hSw; (try dsimp only at hSw); go_simp⟩, ?_⟩
  clear hK K
  refine AnyK.take (i := 7) rfl (by decide) (by kernel_rfl) (by kernel_rfl) (by kernel_rfl) (fun _ _ _ _ h => h) HS (fun K hK => ?_)
  go_simp
  refine hK.out _ ⟨_, by rfl, Or.inl ⟨by rfl, by intro w hSw; (try dsimp only at hSw); go_simp⟩, ?_⟩
  clear hK K
  refine AnyK.take (i := 8) rfl (by decide) (by kernel_rfl) (by kernel_rfl) (by kernel_rfl) (fun _ _ _ _ h => h) HS (fun K hK => ?_)
  go_simp
  refine hK.out _ ⟨_, by rfl, Or.inl ⟨by rfl, by intro w hSw; (try dsimp only at hSw); go_simp⟩, ?_⟩
  clear hK K
  refine AnyK.take (i := 9) rfl (by decide) (by kernel_rfl) (by kernel_rfl) (by kernel_rfl) (fun _ _ _ _ h => h) HS (fun K hK => ?_)
  go_simp
  refine hK.out _ ⟨_, by rfl, Or.inl ⟨by rfl, by intro w hSw; (try dsimp only at hSw); go_simp⟩, ?_⟩
  clear hK K
  refine AnyK.take (i := 12) rfl (by decide) (by kernel_rfl) (by kernel_rfl) (by kernel_rfl) (fun _ _ _ _ h => h) HS (fun K hK => ?_)
  go_simp
  refine hK.out _ ⟨_, by rfl, Or.inl ⟨by rfl, by intro w hSw; (try dsimp only at hSw); go_simp⟩, ?_⟩
  clear hK K
  refine AnyK.take (i := 13) rfl (by decide) (by kernel_rfl) (by kernel_rfl) (by kernel_rfl) (fun _ _ _ _ h => h) HS (fun K hK => ?_)
  go_simp
  refine hK.out _ ⟨_, by rfl, Or.inl ⟨by rfl, by intro w hSw; (try dsimp only at hSw); go_simp⟩, ?_⟩
  clear hK K
  refine AnyK.one (i := 10) rfl (by kernel_rfl) (fun K hK => ?_)
  go_simp
  refine (room_any _ o (room : Int) HS.2.2.1).mono ?_
  rintro e w1 ⟨rfl, rfl⟩
  refine hK.out _ _ (fun _ => HS) ?_
  clear hK K
  refine AnyK.take (i := 11) rfl (by decide) (by kernel_rfl) (by kernel_rfl) (by kernel_rfl) (fun _ _ _ _ h => h) HS (fun K hK => ?_)
  go_simp
  refine hK.out _ ⟨_, by rfl, Or.inl ⟨by rfl, by intro w hSw; (try dsimp only at hSw); go_simp⟩, ?_⟩
  clear hK K
  refine AnyK.one (i := 14) rfl (by kernel_rfl) (fun K hK => ?_)
  go_simp
  refine (fill_any W0.drew o p s v ws b HO.out.drew HM.out.drew hb base q HBASE.out (by omega) hql m hi _).mono ?_
  rintro e w1 ⟨rfl, hO1, hM1, hF1⟩
  have HS : (fun w' : World => w'.cell? ⟨w.heap.size, 0, none⟩ = some (.pointer (some ⟨o, 0, none⟩)) ∧ w'.cell? ⟨o, 1, none⟩ = some (.int .i64 base) ∧ w'.cell? ⟨o, 2, none⟩ = some (.int .i64 (room : Int)) ∧ w'.cell? ⟨o, 9, none⟩ = some (.int .i64 (j : Int))) w1 := ⟨hF1.held HS.1 (fun h => h.elim hXo (fun h => h.elim hXp hXs)), (by rw [← HBASE.out]; rw [Blk.cell hO1]; rfl), (by rw [← HHROOM.out]; rw [Blk.cell hO1]; rfl), (by rw [← HHE.out]; rw [Blk.cell hO1]; rfl)⟩
  refine hK.out _ _ (fun _ => HS) ?_
  clear hK K
  have HO1 := Lib.hid hO1
  have HM1 := Lib.hid hM1
  have HF1 := Lib.hid (Fr.trans (HF.out.drew) hF1)
  clear hO1 hM1 hF1
  refine AnyK.take (i := 15) rfl (by decide) (by kernel_rfl) (by kernel_rfl) (by kernel_rfl) (fun _ _ _ _ h => h) HS (fun K hK => ?_)
  go_simp
  refine hK.out _ ⟨_, by rfl, Or.inl ⟨by rfl, by intro w hSw; (try dsimp only at hSw); go_simp⟩, ?_⟩
  clear hK K
  refine AnyK.take (i := 16) rfl (by decide) (by kernel_rfl) (by kernel_rfl) (by kernel_rfl) (fun _ _ _ _ h => h) HS (fun K hK => ?_)
  go_simp
  refine hK.out _ ⟨_, by rfl, Or.inl ⟨by rfl, by intro w hSw; (try dsimp only at hSw); go_simp⟩, ?_⟩
  clear hK K
  refine AnyK.take (i := 17) rfl (by decide) (by kernel_rfl) (by kernel_rfl) (by kernel_rfl) (fun _ _ _ _ h => h) HS (fun K hK => ?_)
  go_simp
  refine hK.out _ ⟨_, by rfl, Or.inl ⟨by rfl, by intro w hSw; (try dsimp only at hSw); go_simp⟩, ?_⟩
  clear hK K
  refine AnyK.take (i := 18) rfl (by decide) (by kernel_rfl) (by kernel_rfl) (by kernel_rfl) (fun _ _ _ _ h => h) HS (fun K hK => ?_)
  go_simp
  refine hK.out _ ⟨_, by rfl, Or.inl ⟨by rfl, by intro w hSw; (try dsimp only at hSw); go_simp⟩, ?_⟩
  clear hK K
  refine AnyK.done (by kernel_rfl) ?_ _
  go_wp2_with fail
  go_ret2
  exact ⟨rfl, HO1.out, HM1.out, HF1.out⟩

set_option maxHeartbeats 4000000 in
theorem fi_pushEnds (w : World) (o p s : Nat) (v : OpV) (ws : List (Bool × Int)) (b : Nat) (hO : OpAt w o v) (hM : MI w p s ws b) (hb : b < 900000) (base : Nat) (hbase : v.base = base) (_hbl : base ≤ 60000) (j : Nat) (he : v.e = j) (hj : j < 1152921504606846976) (m : Int) (hi : ws[base]? = some (true, m)) :
    Calls Try.prog 106 #[.agg #[.pointer (some ⟨o, 0, none⟩)], .pointer (some ⟨p, 0, none⟩)] w (MvP w o p s v (ws.set base (true, ((j + 1 : Nat) : Int))) b .nilFunc 0) := by
  obtain ⟨h1, h2⟩ := hO.ne hM
  have hol : o < w.heap.size := Blk.lt hO
  obtain ⟨hpl, hsl⟩ := hM.lt
  have hXp : w.heap.size ≠ p := by omega
  have hXs : w.heap.size ≠ s := by omega
  have hXo : w.heap.size ≠ o := by omega
  have hF0 : Fr (Thr o p s) w (w.alloc (.cells #[.pointer (some ⟨o, 0, none⟩)] 96)) := (Fr.refl _ _).alloc _
  have hX : Blk (w.alloc (.cells #[.pointer (some ⟨o, 0, none⟩)] 96)) w.heap.size 96 #[.pointer (some ⟨o, 0, none⟩)] := Blk.new _ _ _
  have hO0 : OpAt (w.alloc (.cells #[.pointer (some ⟨o, 0, none⟩)] 96)) o v := Blk.alloc hO _
  have hM0 : MI (w.alloc (.cells #[.pointer (some ⟨o, 0, none⟩)] 96)) p s ws b := hM.fr (B := fun _ => False) ((Fr.refl _ _).alloc _) (fun h => h) (fun h => h)
  have x0 : (w.alloc (.cells #[.pointer (some ⟨o, 0, none⟩)] 96)).cell? ⟨w.heap.size, 0, none⟩ = some (.pointer (some ⟨o, 0, none⟩)) := by rw [hX.cell]; rfl
  have c1 : (w.alloc (.cells #[.pointer (some ⟨o, 0, none⟩)] 96)).cell? ⟨o, 1, none⟩ = some (.int .i64 base) := by rw [← hbase]; rw [Blk.cell hO0]; rfl
  have c9 : (w.alloc (.cells #[.pointer (some ⟨o, 0, none⟩)] 96)).cell? ⟨o, 9, none⟩ = some (.int .i64 (j : Int)) := by rw [← he]; rw [Blk.cell hO0]; rfl
  have hmf := mf_any
  have HBASE := Lib.hid hbase
  clear hbase
  have HHE := Lib.hid he
  clear he
  have HX := Lib.hid hX
  have HO := Lib.hid hO0
  have HM := Lib.hid hM0
  have HF := Lib.hid hF0
  clear hX hO hO0 hM hM0 hF0
  have hw : IntKind.i64.wrap ((j : Int) + 1) = (j : Int) + 1 := IntWalk.i64_in _ (by omega)
  go_enter Try.func106, Try.ntmps106
  go_wp2_with fail
  generalize hW0 : (w.alloc (.cells #[.pointer (some ⟨o, 0, none⟩)] 96)) = W0 at *
  clear hW0
  refine region_K 13 (fun w' : World => w'.cell? ⟨w.heap.size, 0, none⟩ = some (.pointer (some ⟨o, 0, none⟩)) ∧ w'.cell? ⟨o, 1, none⟩ = some (.int .i64 base) ∧ w'.cell? ⟨o, 9, none⟩ = some (.int .i64 (j : Int))) (by kernel_rfl) ?_
  have HS : (fun w' : World => w'.cell? ⟨w.heap.size, 0, none⟩ = some (.pointer (some ⟨o, 0, none⟩)) ∧ w'.cell? ⟨o, 1, none⟩ = some (.int .i64 base) ∧ w'.cell? ⟨o, 9, none⟩ = some (.int .i64 (j : Int))) (W0).drew := ⟨x0, c1, c9⟩
  refine AnyK.take (i := 0) rfl (by decide) (by kernel_rfl) (by kernel_rfl) (by kernel_rfl) (fun _ _ _ _ h => h) HS (fun K hK => ?_)
  go_simp
  refine hK.out _ ⟨_, by rfl, Or.inl ⟨by rfl, by intro w hSw; (try dsimp only at hSw); go_simp⟩, ?_⟩
  clear hK K
  refine AnyK.take (i := 1) rfl (by decide) (by kernel_rfl) (by kernel_rfl) (by kernel_rfl) (fun _ _ _ _ h => h) HS (fun K hK => ?_)
  go_simp
  refine hK.out _ ⟨_, by rfl, Or.inl ⟨by rfl, by intro w hSw; (try dsimp only at hSw); go_simp⟩, ?_⟩
  clear hK K
  refine AnyK.take (i := 2) rfl (by decide) (by kernel_rfl) (by kernel_rfl) (by kernel_rfl) (fun _ _ _ _ h => h) HS (fun K hK => ?_)
  go_simp
  refine hK.out _ ⟨_, by rfl, Or.inl ⟨by rfl, by intro w hSw; (try dsimp only at hSw); go_simp⟩, ?_⟩
  clear hK K
  refine AnyK.take (i := 4) rfl (by decide) (by kernel_rfl) (by kernel_rfl) (by kernel_rfl) (fun _ _ _ _ h => h) HS (fun K hK => ?_)
  go_simp
  refine hK.out _ ⟨_, by rfl, Or.inl ⟨by rfl, by intro w hSw; (try dsimp only at hSw); go_simp⟩, ?_⟩
  clear hK K
  refine AnyK.take (i := 5) rfl (by decide) (by kernel_rfl) (by kernel_rfl) (by kernel_rfl) (fun _ _ _ _ h => h) HS (fun K hK => ?_)
  go_simp
  refine hK.out _ ⟨_, by rfl, Or.inl ⟨by rfl, by intro w hSw; (try dsimp only at hSw); go_simp⟩, ?_⟩
  clear hK K
  refine AnyK.take (i := 6) rfl (by decide) (by kernel_rfl) (by kernel_rfl) (by kernel_rfl) (fun _ _ _ _ h => h) HS (fun K hK => ?_)
  go_simp
  refine hK.out _ ⟨_, by rfl, Or.inl ⟨by rfl, by intro w hSw; (try dsimp only at hSw); go_simp⟩, ?_⟩
  clear hK K
  refine AnyK.take (i := 7) rfl (by decide) (by kernel_rfl) (by kernel_rfl) (by kernel_rfl) (fun _ _ _ _ h => h) HS (fun K hK => ?_)
  go_simp
  refine hK.out _ ⟨_, by rfl, Or.inl ⟨by rfl, by intro w hSw; (try dsimp only at hSw); go_simp⟩, ?_⟩
  clear hK K
  refine AnyK.take (i := 8) rfl (by decide) (by kernel_rfl) (by kernel_rfl) (by kernel_rfl) (fun _ _ _ _ h => h) HS (fun K hK => ?_)
  go_simp
  refine hK.out _ ⟨_, by rfl, Or.inl ⟨by rfl, by intro w hSw; (try dsimp only at hSw); go_simp⟩, ?_⟩
  clear hK K
  refine AnyK.take (i := 9) rfl (by decide) (by kernel_rfl) (by kernel_rfl) (by kernel_rfl) (fun _ _ _ _ h => h) HS (fun K hK => ?_)
  go_simp
  refine hK.out _ ⟨_, by rfl, Or.inl ⟨by rfl, by intro w hSw; (try dsimp only at hSw); go_simp⟩, ?_⟩
  clear hK K
  refine AnyK.one (i := 3) rfl (by kernel_rfl) (fun K hK => ?_)
  go_simp
  refine (wordE_any _ o base HS.2.1).mono ?_
  rintro e w1 ⟨rfl, rfl⟩
  refine hK.out _ _ (fun _ => HS) ?_
  clear hK K
  refine AnyK.one (i := 10) rfl (by kernel_rfl) (fun K hK => ?_)
  go_simp
  refine (store_mi HM.out.drew hb base m ((j + 1 : Nat) : Int) hi).mono ?_
  rintro e w1 ⟨rfl, hM1, hF1⟩
  have hO1 : OpAt w1 o v := OpAt.two HO.out.drew hF1 h1 h2
  have HS : (fun w' : World => w'.cell? ⟨w.heap.size, 0, none⟩ = some (.pointer (some ⟨o, 0, none⟩)) ∧ w'.cell? ⟨o, 1, none⟩ = some (.int .i64 base) ∧ w'.cell? ⟨o, 9, none⟩ = some (.int .i64 (j : Int))) w1 := ⟨hF1.held HS.1 (fun h => h.elim hXp hXs), (by rw [← HBASE.out]; rw [Blk.cell hO1]; rfl), (by rw [← HHE.out]; rw [Blk.cell hO1]; rfl)⟩
  refine hK.out _ _ (fun _ => HS) ?_
  clear hK K
  have HO1 := Lib.hid hO1
  have HM1 := Lib.hid hM1
  have HF1 := Lib.hid (Fr.trans (HF.out.drew) (hF1.mono (fun _ h => .inr h)))
  clear hO1 hM1 hF1
  refine AnyK.take (i := 11) rfl (by decide) (by kernel_rfl) (by kernel_rfl) (by kernel_rfl) (fun _ _ _ _ h => h) HS (fun K hK => ?_)
  go_simp
  refine hK.out _ ⟨_, by rfl, Or.inl ⟨by rfl, by intro w hSw; (try dsimp only at hSw); go_simp⟩, ?_⟩
  clear hK K
  refine AnyK.take (i := 12) rfl (by decide) (by kernel_rfl) (by kernel_rfl) (by kernel_rfl) (fun _ _ _ _ h => h) HS (fun K hK => ?_)
  go_simp
  refine hK.out _ ⟨_, by rfl, Or.inl ⟨by rfl, by intro w hSw; (try dsimp only at hSw); go_simp⟩, ?_⟩
  clear hK K
  refine AnyK.done (by kernel_rfl) ?_ _
  go_wp2_with fail
  go_ret2
  exact ⟨rfl, HO1.out, HM1.out, HF1.out⟩

set_option maxHeartbeats 4000000 in
theorem fi_popEnds (w : World) (o p s : Nat) (v : OpV) (ws : List (Bool × Int)) (b : Nat) (hO : OpAt w o v) (hM : MI w p s ws b) (hb : b < 900000) (base : Nat) (hbase : v.base = base) (_hbl : base ≤ 60000) (t : Nat) (ht : v.t = t) (htl : t < 1152921504606846976) (m : Int) (hi : ws[base + 1]? = some (true, m)) :
    Calls Try.prog 100 #[.agg #[.pointer (some ⟨o, 0, none⟩)], .pointer (some ⟨p, 0, none⟩)] w (MvP w o p s v (ws.set (base + 1) (true, ((t + 1 : Nat) : Int))) b .nilFunc 0) := by
  obtain ⟨h1, h2⟩ := hO.ne hM
  have hol : o < w.heap.size := Blk.lt hO
  obtain ⟨hpl, hsl⟩ := hM.lt
  have hXp : w.heap.size ≠ p := by omega
  have hXs : w.heap.size ≠ s := by omega
  have hXo : w.heap.size ≠ o := by omega
  have hF0 : Fr (Thr o p s) w (w.alloc (.cells #[.pointer (some ⟨o, 0, none⟩)] 96)) := (Fr.refl _ _).alloc _
  have hX : Blk (w.alloc (.cells #[.pointer (some ⟨o, 0, none⟩)] 96)) w.heap.size 96 #[.pointer (some ⟨o, 0, none⟩)] := Blk.new _ _ _
  have hO0 : OpAt (w.alloc (.cells #[.pointer (some ⟨o, 0, none⟩)] 96)) o v := Blk.alloc hO _
  have hM0 : MI (w.alloc (.cells #[.pointer (some ⟨o, 0, none⟩)] 96)) p s ws b := hM.fr (B := fun _ => False) ((Fr.refl _ _).alloc _) (fun h => h) (fun h => h)
  have x0 : (w.alloc (.cells #[.pointer (some ⟨o, 0, none⟩)] 96)).cell? ⟨w.heap.size, 0, none⟩ = some (.pointer (some ⟨o, 0, none⟩)) := by rw [hX.cell]; rfl
  have c1 : (w.alloc (.cells #[.pointer (some ⟨o, 0, none⟩)] 96)).cell? ⟨o, 1, none⟩ = some (.int .i64 base) := by rw [← hbase]; rw [Blk.cell hO0]; rfl
  have c10 : (w.alloc (.cells #[.pointer (some ⟨o, 0, none⟩)] 96)).cell? ⟨o, 10, none⟩ = some (.int .i64 (t : Int)) := by rw [← ht]; rw [Blk.cell hO0]; rfl
  have hmf := mf_any
  have HBASE := Lib.hid hbase
  clear hbase
  have HHT := Lib.hid ht
  clear ht
  have HX := Lib.hid hX
  have HO := Lib.hid hO0
  have HM := Lib.hid hM0
  have HF := Lib.hid hF0
  clear hX hO hO0 hM hM0 hF0
  have hw : IntKind.i64.wrap ((t : Int) + 1) = (t : Int) + 1 := IntWalk.i64_in _ (by omega)
  go_enter Try.func100, Try.ntmps100
  go_wp2_with fail
  generalize hW0 : (w.alloc (.cells #[.pointer (some ⟨o, 0, none⟩)] 96)) = W0 at *
  clear hW0
  refine region_K 13 (fun w' : World => w'.cell? ⟨w.heap.size, 0, none⟩ = some (.pointer (some ⟨o, 0, none⟩)) ∧ w'.cell? ⟨o, 1, none⟩ = some (.int .i64 base) ∧ w'.cell? ⟨o, 10, none⟩ = some (.int .i64 (t : Int))) (by kernel_rfl) ?_
  have HS : (fun w' : World => w'.cell? ⟨w.heap.size, 0, none⟩ = some (.pointer (some ⟨o, 0, none⟩)) ∧ w'.cell? ⟨o, 1, none⟩ = some (.int .i64 base) ∧ w'.cell? ⟨o, 10, none⟩ = some (.int .i64 (t : Int))) (W0).drew := ⟨x0, c1, c10⟩
  refine AnyK.take (i := 0) rfl (by decide) (by kernel_rfl) (by kernel_rfl) (by kernel_rfl) (fun _ _ _ _ h => h) HS (fun K hK => ?_)
  go_simp
  refine hK.out _ ⟨_, by rfl, Or.inl ⟨by rfl, by intro w hSw; (try dsimp only at hSw); go_simp⟩, ?_⟩
  clear hK K
  refine AnyK.take (i := 1) rfl (by decide) (by kernel_rfl) (by kernel_rfl) (by kernel_rfl) (fun _ _ _ _ h => h) HS (fun K hK => ?_)
  go_simp
  refine hK.out _ ⟨_, by rfl, Or.inl ⟨by rfl, by intro w hSw; (try dsimp only at hSw); go_simp⟩, ?_⟩
  clear hK K
  refine AnyK.take (i := 2) rfl (by decide) (by kernel_rfl) (by kernel_rfl) (by kernel_rfl) (fun _ _ _ _ h => h) HS (fun K hK => ?_)
  go_simp
  refine hK.out _ ⟨_, by rfl, Or.inl ⟨by rfl, by intro w hSw; (try dsimp only at hSw); go_simp⟩, ?_⟩
  clear hK K
  refine AnyK.take (i := 4) rfl (by decide) (by kernel_rfl) (by kernel_rfl) (by kernel_rfl) (fun _ _ _ _ h => h) HS (fun K hK => ?_)
  go_simp
  refine hK.out _ ⟨_, by rfl, Or.inl ⟨by rfl, by intro w hSw; (try dsimp only at hSw); go_simp⟩, ?_⟩
  clear hK K
  refine AnyK.take (i := 5) rfl (by decide) (by kernel_rfl) (by kernel_rfl) (by kernel_rfl) (fun _ _ _ _ h => h) HS (fun K hK => ?_)
  go_simp
  refine hK.out _ ⟨_, by rfl, Or.inl ⟨by rfl, by intro w hSw; (try dsimp only at hSw); go_simp⟩, ?_⟩
  clear hK K
  refine AnyK.take (i := 6) rfl (by decide) (by kernel_rfl) (by kernel_rfl) (by kernel_rfl) (fun _ _ _ _ h => h) HS (fun K hK => ?_)
  go_simp
  refine hK.out _ ⟨_, by rfl, Or.inl ⟨by rfl, by intro w hSw; (try dsimp only at hSw); go_simp⟩, ?_⟩
  clear hK K
  refine AnyK.take (i := 7) rfl (by decide) (by kernel_rfl) (by kernel_rfl) (by kernel_rfl) (fun _ _ _ _ h => h) HS (fun K hK => ?_)
  go_simp
  refine hK.out _ ⟨_, by rfl, Or.inl ⟨by rfl, by intro w hSw; (try dsimp only at hSw); go_simp⟩, ?_⟩
  clear hK K
  refine AnyK.take (i := 8) rfl (by decide) (by kernel_rfl) (by kernel_rfl) (by kernel_rfl) (fun _ _ _ _ h => h) HS (fun K hK => ?_)
  go_simp
  refine hK.out _ ⟨_, by rfl, Or.inl ⟨by rfl, by intro w hSw; (try dsimp only at hSw); go_simp⟩, ?_⟩
  clear hK K
  refine AnyK.take (i := 9) rfl (by decide) (by kernel_rfl) (by kernel_rfl) (by kernel_rfl) (fun _ _ _ _ h => h) HS (fun K hK => ?_)
  go_simp
  refine hK.out _ ⟨_, by rfl, Or.inl ⟨by rfl, by intro w hSw; (try dsimp only at hSw); go_simp⟩, ?_⟩
  clear hK K
  refine AnyK.one (i := 3) rfl (by kernel_rfl) (fun K hK => ?_)
  go_simp
  refine (wordT_any _ o base (by omega) HS.2.1).mono ?_
  rintro e w1 ⟨rfl, rfl⟩
  refine hK.out _ _ (fun _ => HS) ?_
  clear hK K
  refine AnyK.one (i := 10) rfl (by kernel_rfl) (fun K hK => ?_)
  go_simp
  refine (store_mi HM.out.drew hb (base + 1) m ((t + 1 : Nat) : Int) hi).mono ?_
  rintro e w1 ⟨rfl, hM1, hF1⟩
  have hO1 : OpAt w1 o v := OpAt.two HO.out.drew hF1 h1 h2
  have HS : (fun w' : World => w'.cell? ⟨w.heap.size, 0, none⟩ = some (.pointer (some ⟨o, 0, none⟩)) ∧ w'.cell? ⟨o, 1, none⟩ = some (.int .i64 base) ∧ w'.cell? ⟨o, 10, none⟩ = some (.int .i64 (t : Int))) w1 := ⟨hF1.held HS.1 (fun h => h.elim hXp hXs), (by rw [← HBASE.out]; rw [Blk.cell hO1]; rfl), (by rw [← HHT.out]; rw [Blk.cell hO1]; rfl)⟩
  refine hK.out _ _ (fun _ => HS) ?_
  clear hK K
  have HO1 := Lib.hid hO1
  have HM1 := Lib.hid hM1
  have HF1 := Lib.hid (Fr.trans (HF.out.drew) (hF1.mono (fun _ h => .inr h)))
  clear hO1 hM1 hF1
  refine AnyK.take (i := 11) rfl (by decide) (by kernel_rfl) (by kernel_rfl) (by kernel_rfl) (fun _ _ _ _ h => h) HS (fun K hK => ?_)
  go_simp
  refine hK.out _ ⟨_, by rfl, Or.inl ⟨by rfl, by intro w hSw; (try dsimp only at hSw); go_simp⟩, ?_⟩
  clear hK K
  refine AnyK.take (i := 12) rfl (by decide) (by kernel_rfl) (by kernel_rfl) (by kernel_rfl) (fun _ _ _ _ h => h) HS (fun K hK => ?_)
  go_simp
  refine hK.out _ ⟨_, by rfl, Or.inl ⟨by rfl, by intro w hSw; (try dsimp only at hSw); go_simp⟩, ?_⟩
  clear hK K
  refine AnyK.done (by kernel_rfl) ?_ _
  go_wp2_with fail
  go_ret2
  exact ⟨rfl, HO1.out, HM1.out, HF1.out⟩

set_option maxHeartbeats 4000000 in
theorem fi_stealRaces_yes (w : World) (o p s : Nat) (v : OpV) (ws : List (Bool × Int)) (b : Nat) (hO : OpAt w o v) (hM : MI w p s ws b) (hb : b < 900000) (base : Nat) (hbase : v.base = base) (_hbl : base ≤ 60000) (t : Nat) (ht : v.t = t) (htl : t < 1152921504606846976) (m : Int) (hi : ws[base + 1]? = some (true, m)) (hm : m = v.t) :
    Calls Try.prog 103 #[.agg #[.pointer (some ⟨o, 0, none⟩)], .pointer (some ⟨p, 0, none⟩)] w (MvP w o p s v (ws.set (base + 1) (true, ((t + 1 : Nat) : Int))) b .nilFunc 0) := by
  obtain ⟨h1, h2⟩ := hO.ne hM
  have hol : o < w.heap.size := Blk.lt hO
  obtain ⟨hpl, hsl⟩ := hM.lt
  have hXp : w.heap.size ≠ p := by omega
  have hXs : w.heap.size ≠ s := by omega
  have hXo : w.heap.size ≠ o := by omega
  have hF0 : Fr (Thr o p s) w (w.alloc (.cells #[.pointer (some ⟨o, 0, none⟩)] 96)) := (Fr.refl _ _).alloc _
  have hX : Blk (w.alloc (.cells #[.pointer (some ⟨o, 0, none⟩)] 96)) w.heap.size 96 #[.pointer (some ⟨o, 0, none⟩)] := Blk.new _ _ _
  have hO0 : OpAt (w.alloc (.cells #[.pointer (some ⟨o, 0, none⟩)] 96)) o v := Blk.alloc hO _
  have hM0 : MI (w.alloc (.cells #[.pointer (some ⟨o, 0, none⟩)] 96)) p s ws b := hM.fr (B := fun _ => False) ((Fr.refl _ _).alloc _) (fun h => h) (fun h => h)
  have x0 : (w.alloc (.cells #[.pointer (some ⟨o, 0, none⟩)] 96)).cell? ⟨w.heap.size, 0, none⟩ = some (.pointer (some ⟨o, 0, none⟩)) := by rw [hX.cell]; rfl
  have c1 : (w.alloc (.cells #[.pointer (some ⟨o, 0, none⟩)] 96)).cell? ⟨o, 1, none⟩ = some (.int .i64 base) := by rw [← hbase]; rw [Blk.cell hO0]; rfl
  have c10 : (w.alloc (.cells #[.pointer (some ⟨o, 0, none⟩)] 96)).cell? ⟨o, 10, none⟩ = some (.int .i64 (t : Int)) := by rw [← ht]; rw [Blk.cell hO0]; rfl
  have hmf := mf_any
  have HBASE := Lib.hid hbase
  clear hbase
  have HHT := Lib.hid ht
  clear ht
  have HX := Lib.hid hX
  have HO := Lib.hid hO0
  have HM := Lib.hid hM0
  have HF := Lib.hid hF0
  clear hX hO hO0 hM hM0 hF0
  have hw : IntKind.i64.wrap ((t : Int) + 1) = (t : Int) + 1 := IntWalk.i64_in _ (by omega)
  have HMM := Lib.hid hm
  clear hm
  go_enter Try.func103, Try.ntmps103
  go_wp2_with fail
  generalize hW0 : (w.alloc (.cells #[.pointer (some ⟨o, 0, none⟩)] 96)) = W0 at *
  clear hW0
  refine region_K 14 (fun w' : World => w'.cell? ⟨w.heap.size, 0, none⟩ = some (.pointer (some ⟨o, 0, none⟩)) ∧ w'.cell? ⟨o, 1, none⟩ = some (.int .i64 base) ∧ w'.cell? ⟨o, 10, none⟩ = some (.int .i64 (t : Int))) (by kernel_rfl) ?_
  have HS : (fun w' : World => w'.cell? ⟨w.heap.size, 0, none⟩ = some (.pointer (some ⟨o, 0, none⟩)) ∧ w'.cell? ⟨o, 1, none⟩ = some (.int .i64 base) ∧ w'.cell? ⟨o, 10, none⟩ = some (.int .i64 (t : Int))) (W0).drew := ⟨x0, c1, c10⟩
  refine AnyK.take (i := 0) rfl (by decide) (by kernel_rfl) (by kernel_rfl) (by kernel_rfl) (fun _ _ _ _ h => h) HS (fun K hK => ?_)
  go_simp
  refine hK.out _ ⟨_, by rfl, Or.inl ⟨by rfl, by intro w hSw; (try dsimp only at hSw); go_simp⟩, ?_⟩
  clear hK K
  refine AnyK.take (i := 1) rfl (by decide) (by kernel_rfl) (by kernel_rfl) (by kernel_rfl) (fun _ _ _ _ h => h) HS (fun K hK => ?_)
  go_simp
  refine hK.out _ ⟨_, by rfl, Or.inl ⟨by rfl, by intro w hSw; (try dsimp only at hSw); go_simp⟩, ?_⟩
  clear hK K
  refine AnyK.take (i := 2) rfl (by decide) (by kernel_rfl) (by kernel_rfl) (by kernel_rfl) (fun _ _ _ _ h => h) HS (fun K hK => ?_)
  go_simp
  refine hK.out _ ⟨_, by rfl, Or.inl ⟨by rfl, by intro w hSw; (try dsimp only at hSw); go_simp⟩, ?_⟩
  clear hK K
  refine AnyK.take (i := 3) rfl (by decide) (by kernel_rfl) (by kernel_rfl) (by kernel_rfl) (fun _ _ _ _ h => h) HS (fun K hK => ?_)
  go_simp
  refine hK.out _ ⟨_, by rfl, Or.inl ⟨by rfl, by intro w hSw; (try dsimp only at hSw); go_simp⟩, ?_⟩
  clear hK K
  refine AnyK.take (i := 4) rfl (by decide) (by kernel_rfl) (by kernel_rfl) (by kernel_rfl) (fun _ _ _ _ h => h) HS (fun K hK => ?_)
  go_simp
  refine hK.out _ ⟨_, by rfl, Or.inl ⟨by rfl, by intro w hSw; (try dsimp only at hSw); go_simp⟩, ?_⟩
  clear hK K
  refine AnyK.take (i := 5) rfl (by decide) (by kernel_rfl) (by kernel_rfl) (by kernel_rfl) (fun _ _ _ _ h => h) HS (fun K hK => ?_)
  go_simp
  refine hK.out _ ⟨_, by rfl, Or.inl ⟨by rfl, by intro w hSw; (try dsimp only at hSw); go_simp⟩, ?_⟩
  clear hK K
  refine AnyK.take (i := 6) rfl (by decide) (by kernel_rfl) (by kernel_rfl) (by kernel_rfl) (fun _ _ _ _ h => h) HS (fun K hK => ?_)
  go_simp
  refine hK.out _ ⟨_, by rfl, Or.inl ⟨by rfl, by intro w hSw; (try dsimp only at hSw); go_simp⟩, ?_⟩
  clear hK K
  refine AnyK.take (i := 7) rfl (by decide) (by kernel_rfl) (by kernel_rfl) (by kernel_rfl) (fun _ _ _ _ h => h) HS (fun K hK => ?_)
  go_simp
  refine hK.out _ ⟨_, by rfl, Or.inl ⟨by rfl, by intro w hSw; (try dsimp only at hSw); go_simp⟩, ?_⟩
  clear hK K
  refine AnyK.take (i := 8) rfl (by decide) (by kernel_rfl) (by kernel_rfl) (by kernel_rfl) (fun _ _ _ _ h => h) HS (fun K hK => ?_)
  go_simp
  refine hK.out _ ⟨_, by rfl, Or.inl ⟨by rfl, by intro w hSw; (try dsimp only at hSw); go_simp⟩, ?_⟩
  clear hK K
  refine AnyK.one (i := 9) rfl (by kernel_rfl) (fun K hK => ?_)
  go_simp
  refine (race_yes W0.drew o p s v ws b HO.out.drew HM.out.drew hb base HBASE.out (by omega) m hi ((t + 1 : Nat) : Int) HMM.out).mono ?_
  rintro e w1 ⟨rfl, hO1, hM1, hF1⟩
  have HS : (fun w' : World => w'.cell? ⟨w.heap.size, 0, none⟩ = some (.pointer (some ⟨o, 0, none⟩)) ∧ w'.cell? ⟨o, 1, none⟩ = some (.int .i64 base) ∧ w'.cell? ⟨o, 10, none⟩ = some (.int .i64 (t : Int))) w1 := ⟨hF1.held HS.1 (fun h => h.elim hXo (fun h => h.elim hXp hXs)), (by rw [← HBASE.out]; rw [Blk.cell hO1]; rfl), (by rw [← HHT.out]; rw [Blk.cell hO1]; rfl)⟩
  refine hK.out _ _ (fun _ => HS) ?_
  clear hK K
  have HO1 := Lib.hid hO1
  have HM1 := Lib.hid hM1
  have HF1 := Lib.hid (Fr.trans (HF.out.drew) hF1)
  clear hO1 hM1 hF1
  refine AnyK.take (i := 10) rfl (by decide) (by kernel_rfl) (by kernel_rfl) (by kernel_rfl) (fun _ _ _ _ h => h) HS (fun K hK => ?_)
  go_simp
  refine hK.out _ ⟨_, by rfl, Or.inl ⟨by rfl, by intro w hSw; (try dsimp only at hSw); go_simp⟩, ?_⟩
  clear hK K
  refine AnyK.take (i := 11) rfl (by decide) (by kernel_rfl) (by kernel_rfl) (by kernel_rfl) (fun _ _ _ _ h => h) HS (fun K hK => ?_)
  go_simp
  refine hK.out _ ⟨_, by rfl, Or.inl ⟨by rfl, by intro w hSw; (try dsimp only at hSw); go_simp⟩, ?_⟩
  clear hK K
  refine AnyK.take (i := 12) rfl (by decide) (by kernel_rfl) (by kernel_rfl) (by kernel_rfl) (fun _ _ _ _ h => h) HS (fun K hK => ?_)
  go_simp
  refine hK.out _ ⟨_, by rfl, Or.inl ⟨by rfl, by intro w hSw; (try dsimp only at hSw); go_simp⟩, ?_⟩
  clear hK K
  refine AnyK.take (i := 13) rfl (by decide) (by kernel_rfl) (by kernel_rfl) (by kernel_rfl) (fun _ _ _ _ h => h) HS (fun K hK => ?_)
  go_simp
  refine hK.out _ ⟨_, by rfl, Or.inl ⟨by rfl, by intro w hSw; (try dsimp only at hSw); go_simp⟩, ?_⟩
  clear hK K
  refine AnyK.done (by kernel_rfl) ?_ _
  go_wp2_with fail
  go_ret2
  exact ⟨rfl, HO1.out, HM1.out, HF1.out⟩

set_option maxHeartbeats 4000000 in
theorem fi_stealRaces_no (w : World) (o p s : Nat) (v : OpV) (ws : List (Bool × Int)) (b : Nat) (hO : OpAt w o v) (hM : MI w p s ws b) (hb : b < 900000) (base : Nat) (hbase : v.base = base) (_hbl : base ≤ 60000) (t : Nat) (ht : v.t = t) (htl : t < 1152921504606846976) (m : Int) (hi : ws[base + 1]? = some (true, m)) (hm : ¬ m = v.t) :
    Calls Try.prog 103 #[.agg #[.pointer (some ⟨o, 0, none⟩)], .pointer (some ⟨p, 0, none⟩)] w (MvP w o p s v ws b .nilFunc 10) := by
  obtain ⟨h1, h2⟩ := hO.ne hM
  have hol : o < w.heap.size := Blk.lt hO
  obtain ⟨hpl, hsl⟩ := hM.lt
  have hXp : w.heap.size ≠ p := by omega
  have hXs : w.heap.size ≠ s := by omega
  have hXo : w.heap.size ≠ o := by omega
  have hF0 : Fr (Thr o p s) w (w.alloc (.cells #[.pointer (some ⟨o, 0, none⟩)] 96)) := (Fr.refl _ _).alloc _
  have hX : Blk (w.alloc (.cells #[.pointer (some ⟨o, 0, none⟩)] 96)) w.heap.size 96 #[.pointer (some ⟨o, 0, none⟩)] := Blk.new _ _ _
  have hO0 : OpAt (w.alloc (.cells #[.pointer (some ⟨o, 0, none⟩)] 96)) o v := Blk.alloc hO _
  have hM0 : MI (w.alloc (.cells #[.pointer (some ⟨o, 0, none⟩)] 96)) p s ws b := hM.fr (B := fun _ => False) ((Fr.refl _ _).alloc _) (fun h => h) (fun h => h)
  have x0 : (w.alloc (.cells #[.pointer (some ⟨o, 0, none⟩)] 96)).cell? ⟨w.heap.size, 0, none⟩ = some (.pointer (some ⟨o, 0, none⟩)) := by rw [hX.cell]; rfl
  have c1 : (w.alloc (.cells #[.pointer (some ⟨o, 0, none⟩)] 96)).cell? ⟨o, 1, none⟩ = some (.int .i64 base) := by rw [← hbase]; rw [Blk.cell hO0]; rfl
  have c10 : (w.alloc (.cells #[.pointer (some ⟨o, 0, none⟩)] 96)).cell? ⟨o, 10, none⟩ = some (.int .i64 (t : Int)) := by rw [← ht]; rw [Blk.cell hO0]; rfl
  have hmf := mf_any
  have HBASE := Lib.hid hbase
  clear hbase
  have HHT := Lib.hid ht
  clear ht
  have HX := Lib.hid hX
  have HO := Lib.hid hO0
  have HM := Lib.hid hM0
  have HF := Lib.hid hF0
  clear hX hO hO0 hM hM0 hF0
  have hw : IntKind.i64.wrap ((t : Int) + 1) = (t : Int) + 1 := IntWalk.i64_in _ (by omega)
  have HMM := Lib.hid hm
  clear hm
  go_enter Try.func103, Try.ntmps103
  go_wp2_with fail
  generalize hW0 : (w.alloc (.cells #[.pointer (some ⟨o, 0, none⟩)] 96)) = W0 at *
  clear hW0
  refine region_K 14 (fun w' : World => w'.cell? ⟨w.heap.size, 0, none⟩ = some (.pointer (some ⟨o, 0, none⟩)) ∧ w'.cell? ⟨o, 1, none⟩ = some (.int .i64 base) ∧ w'.cell? ⟨o, 10, none⟩ = some (.int .i64 (t : Int))) (by kernel_rfl) ?_
  have HS : (fun w' : World => w'.cell? ⟨w.heap.size, 0, none⟩ = some (.pointer (some ⟨o, 0, none⟩)) ∧ w'.cell? ⟨o, 1, none⟩ = some (.int .i64 base) ∧ w'.cell? ⟨o, 10, none⟩ = some (.int .i64 (t : Int))) (W0).drew := ⟨x0, c1, c10⟩
  refine AnyK.take (i := 0) rfl (by decide) (by kernel_rfl) (by kernel_rfl) (by kernel_rfl) (fun _ _ _ _ h => h) HS (fun K hK => ?_)
  go_simp
  refine hK.out _ ⟨_, by rfl, Or.inl ⟨by rfl, by intro w hSw; (try dsimp only at hSw); go_simp⟩, ?_⟩
  clear hK K
  refine AnyK.take (i := 1) rfl (by decide) (by kernel_rfl) (by kernel_rfl) (by kernel_rfl) (fun _ _ _ _ h => h) HS (fun K hK => ?_)
  go_simp
  refine hK.out _ ⟨_, by rfl, Or.inl ⟨by rfl, by intro w hSw; (try dsimp only at hSw); go_simp⟩, ?_⟩
  clear hK K
  refine AnyK.take (i := 2) rfl (by decide) (by kernel_rfl) (by kernel_rfl) (by kernel_rfl) (fun _ _ _ _ h => h) HS (fun K hK => ?_)
  go_simp
  refine hK.out _ ⟨_, by rfl, Or.inl ⟨by rfl, by intro w hSw; (try dsimp only at hSw); go_simp⟩, ?_⟩
  clear hK K
  refine AnyK.take (i := 3) rfl (by decide) (by kernel_rfl) (by kernel_rfl) (by kernel_rfl) (fun _ _ _ _ h => h) HS (fun K hK => ?_)
  go_simp
  refine hK.out _ ⟨_, by rfl, Or.inl ⟨by rfl, by intro w hSw; (try dsimp only at hSw); go_simp⟩, ?_⟩
  clear hK K
  refine AnyK.take (i := 4) rfl (by decide) (by kernel_rfl) (by kernel_rfl) (by kernel_rfl) (fun _ _ _ _ h => h) HS (fun K hK => ?_)
  go_simp
  refine hK.out _ ⟨_, by rfl, Or.inl ⟨by rfl, by intro w hSw; (try dsimp only at hSw); go_simp⟩, ?_⟩
  clear hK K
  refine AnyK.take (i := 5) rfl (by decide) (by kernel_rfl) (by kernel_rfl) (by kernel_rfl) (fun _ _ _ _ h => h) HS (fun K hK => ?_)
  go_simp
  refine hK.out _ ⟨_, by rfl, Or.inl ⟨by rfl, by intro w hSw; (try dsimp only at hSw); go_simp⟩, ?_⟩
  clear hK K
  refine AnyK.take (i := 6) rfl (by decide) (by kernel_rfl) (by kernel_rfl) (by kernel_rfl) (fun _ _ _ _ h => h) HS (fun K hK => ?_)
  go_simp
  refine hK.out _ ⟨_, by rfl, Or.inl ⟨by rfl, by intro w hSw; (try dsimp only at hSw); go_simp⟩, ?_⟩
  clear hK K
  refine AnyK.take (i := 7) rfl (by decide) (by kernel_rfl) (by kernel_rfl) (by kernel_rfl) (fun _ _ _ _ h => h) HS (fun K hK => ?_)
  go_simp
  refine hK.out _ ⟨_, by rfl, Or.inl ⟨by rfl, by intro w hSw; (try dsimp only at hSw); go_simp⟩, ?_⟩
  clear hK K
  refine AnyK.take (i := 8) rfl (by decide) (by kernel_rfl) (by kernel_rfl) (by kernel_rfl) (fun _ _ _ _ h => h) HS (fun K hK => ?_)
  go_simp
  refine hK.out _ ⟨_, by rfl, Or.inl ⟨by rfl, by intro w hSw; (try dsimp only at hSw); go_simp⟩, ?_⟩
  clear hK K
  refine AnyK.one (i := 9) rfl (by kernel_rfl) (fun K hK => ?_)
  go_simp
  refine (race_no W0.drew o p s v ws b HO.out.drew HM.out.drew hb base HBASE.out (by omega) m hi ((t + 1 : Nat) : Int) HMM.out).mono ?_
  rintro e w1 ⟨rfl, hO1, hM1, hF1⟩
  have HS : (fun w' : World => w'.cell? ⟨w.heap.size, 0, none⟩ = some (.pointer (some ⟨o, 0, none⟩)) ∧ w'.cell? ⟨o, 1, none⟩ = some (.int .i64 base) ∧ w'.cell? ⟨o, 10, none⟩ = some (.int .i64 (t : Int))) w1 := ⟨hF1.held HS.1 (fun h => h.elim hXo (fun h => h.elim hXp hXs)), (by rw [← HBASE.out]; rw [Blk.cell hO1]; rfl), (by rw [← HHT.out]; rw [Blk.cell hO1]; rfl)⟩
  refine hK.out _ _ (fun _ => HS) ?_
  clear hK K
  have HO1 := Lib.hid hO1
  have HM1 := Lib.hid hM1
  have HF1 := Lib.hid (Fr.trans (HF.out.drew) hF1)
  clear hO1 hM1 hF1
  refine AnyK.take (i := 10) rfl (by decide) (by kernel_rfl) (by kernel_rfl) (by kernel_rfl) (fun _ _ _ _ h => h) HS (fun K hK => ?_)
  go_simp
  refine hK.out _ ⟨_, by rfl, Or.inl ⟨by rfl, by intro w hSw; (try dsimp only at hSw); go_simp⟩, ?_⟩
  clear hK K
  refine AnyK.take (i := 11) rfl (by decide) (by kernel_rfl) (by kernel_rfl) (by kernel_rfl) (fun _ _ _ _ h => h) HS (fun K hK => ?_)
  go_simp
  refine hK.out _ ⟨_, by rfl, Or.inl ⟨by rfl, by intro w hSw; (try dsimp only at hSw); go_simp⟩, ?_⟩
  clear hK K
  refine AnyK.take (i := 12) rfl (by decide) (by kernel_rfl) (by kernel_rfl) (by kernel_rfl) (fun _ _ _ _ h => h) HS (fun K hK => ?_)
  go_simp
  refine hK.out _ ⟨_, by rfl, Or.inl ⟨by rfl, by intro w hSw; (try dsimp only at hSw); go_simp⟩, ?_⟩
  clear hK K
  refine AnyK.take (i := 13) rfl (by decide) (by kernel_rfl) (by kernel_rfl) (by kernel_rfl) (fun _ _ _ _ h => h) HS (fun K hK => ?_)
  go_simp
  refine hK.out _ ⟨_, by rfl, Or.inl ⟨by rfl, by intro w hSw; (try dsimp only at hSw); go_simp⟩, ?_⟩
  clear hK K
  refine AnyK.done (by kernel_rfl) ?_ _
  go_wp2_with fail
  go_ret2
  exact ⟨rfl, HO1.out, HM1.out, HF1.out⟩

set_option maxHeartbeats 4000000 in
theorem fi_takeLooks_go (w : World) (o p s : Nat) (v : OpV) (ws : List (Bool × Int)) (b : Nat) (hO : OpAt w o v) (hM : MI w p s ws b) (hb : b < 900000) (base : Nat) (hbase : v.base = base) (_hbl : base ≤ 60000) (t : Nat) (ht : v.t = t) (n : Nat) (hi : ws[base]? = some (true, (n : Int))) (hm : t < n) :
    Calls Try.prog 101 #[.agg #[.pointer (some ⟨o, 0, none⟩)], .pointer (some ⟨p, 0, none⟩)] w (MvP w o p s v ws b (mv 104 o) 0) := by
  obtain ⟨h1, h2⟩ := hO.ne hM
  have hol : o < w.heap.size := Blk.lt hO
  obtain ⟨hpl, hsl⟩ := hM.lt
  have hXp : w.heap.size ≠ p := by omega
  have hXs : w.heap.size ≠ s := by omega
  have hXo : w.heap.size ≠ o := by omega
  have hF0 : Fr (Thr o p s) w (w.alloc (.cells #[.pointer (some ⟨o, 0, none⟩)] 96)) := (Fr.refl _ _).alloc _
  have hX : Blk (w.alloc (.cells #[.pointer (some ⟨o, 0, none⟩)] 96)) w.heap.size 96 #[.pointer (some ⟨o, 0, none⟩)] := Blk.new _ _ _
  have hO0 : OpAt (w.alloc (.cells #[.pointer (some ⟨o, 0, none⟩)] 96)) o v := Blk.alloc hO _
  have hM0 : MI (w.alloc (.cells #[.pointer (some ⟨o, 0, none⟩)] 96)) p s ws b := hM.fr (B := fun _ => False) ((Fr.refl _ _).alloc _) (fun h => h) (fun h => h)
  have x0 : (w.alloc (.cells #[.pointer (some ⟨o, 0, none⟩)] 96)).cell? ⟨w.heap.size, 0, none⟩ = some (.pointer (some ⟨o, 0, none⟩)) := by rw [hX.cell]; rfl
  have c1 : (w.alloc (.cells #[.pointer (some ⟨o, 0, none⟩)] 96)).cell? ⟨o, 1, none⟩ = some (.int .i64 base) := by rw [← hbase]; rw [Blk.cell hO0]; rfl
  have c10 : (w.alloc (.cells #[.pointer (some ⟨o, 0, none⟩)] 96)).cell? ⟨o, 10, none⟩ = some (.int .i64 (t : Int)) := by rw [← ht]; rw [Blk.cell hO0]; rfl
  have hmf := mf_any
  have HBASE := Lib.hid hbase
  clear hbase
  have HHT := Lib.hid ht
  clear ht
  have HX := Lib.hid hX
  have HO := Lib.hid hO0
  have HM := Lib.hid hM0
  have HF := Lib.hid hF0
  clear hX hO hO0 hM hM0 hF0
  have hd : decide ((n : Int) ≤ (t : Int)) = false := decide_eq_false (by omega)
  have hd2 : decide (n ≤ t) = false := decide_eq_false (by omega)
  have hd3 : ¬ (n : Int) ≤ (t : Int) := by omega
  go_enter Try.func101, Try.ntmps101
  go_wp2_with fail
  refine (wordE_any _ o base c1).mono ?_
  rintro e w1 ⟨rfl, rfl⟩
  go_wp2_with fail
  refine (load_mi HM.out hb (base) (n : Int) hi).mono ?_
  rintro e w1 ⟨rfl, hM1, hF1⟩
  have hO1 : OpAt w1 o v := Blk.fr HO.out hF1 (fun h => h.elim h1 h2)
  have xx := hF1.held x0 (fun h => h.elim hXp hXs)
  have d1 : w1.cell? ⟨o, 1, none⟩ = some (.int .i64 base) := hF1.held c1 (fun h => h.elim h1 h2)
  have d10 : w1.cell? ⟨o, 10, none⟩ = some (.int .i64 (t : Int)) := hF1.held c10 (fun h => h.elim h1 h2)
  have HO1 := Lib.hid hO1
  have HM1 := Lib.hid hM1
  have HF1 := Lib.hid (HF.out.trans (hF1.mono (fun _ h => .inr h)))
  clear hO1 hM1 hF1
  go_wp2_with fail
  refine (behind_ok _ _).mono ?_
  rintro e w1 ⟨rfl, rfl⟩
  go_wp2_with fail
  go_ret2
  exact ⟨rfl, HO1.out, HM1.out, HF1.out⟩

set_option maxHeartbeats 4000000 in
theorem fi_takeLooks_empty (w : World) (o p s : Nat) (v : OpV) (ws : List (Bool × Int)) (b : Nat) (hO : OpAt w o v) (hM : MI w p s ws b) (hb : b < 900000) (base : Nat) (hbase : v.base = base) (_hbl : base ≤ 60000) (t : Nat) (ht : v.t = t) (n : Nat) (hi : ws[base]? = some (true, (n : Int))) (hm : n ≤ t) :
    Calls Try.prog 101 #[.agg #[.pointer (some ⟨o, 0, none⟩)], .pointer (some ⟨p, 0, none⟩)] w (MvP w o p s v ws b .nilFunc 9) := by
  obtain ⟨h1, h2⟩ := hO.ne hM
  have hol : o < w.heap.size := Blk.lt hO
  obtain ⟨hpl, hsl⟩ := hM.lt
  have hXp : w.heap.size ≠ p := by omega
  have hXs : w.heap.size ≠ s := by omega
  have hXo : w.heap.size ≠ o := by omega
  have hF0 : Fr (Thr o p s) w (w.alloc (.cells #[.pointer (some ⟨o, 0, none⟩)] 96)) := (Fr.refl _ _).alloc _
  have hX : Blk (w.alloc (.cells #[.pointer (some ⟨o, 0, none⟩)] 96)) w.heap.size 96 #[.pointer (some ⟨o, 0, none⟩)] := Blk.new _ _ _
  have hO0 : OpAt (w.alloc (.cells #[.pointer (some ⟨o, 0, none⟩)] 96)) o v := Blk.alloc hO _
  have hM0 : MI (w.alloc (.cells #[.pointer (some ⟨o, 0, none⟩)] 96)) p s ws b := hM.fr (B := fun _ => False) ((Fr.refl _ _).alloc _) (fun h => h) (fun h => h)
  have x0 : (w.alloc (.cells #[.pointer (some ⟨o, 0, none⟩)] 96)).cell? ⟨w.heap.size, 0, none⟩ = some (.pointer (some ⟨o, 0, none⟩)) := by rw [hX.cell]; rfl
  have c1 : (w.alloc (.cells #[.pointer (some ⟨o, 0, none⟩)] 96)).cell? ⟨o, 1, none⟩ = some (.int .i64 base) := by rw [← hbase]; rw [Blk.cell hO0]; rfl
  have c10 : (w.alloc (.cells #[.pointer (some ⟨o, 0, none⟩)] 96)).cell? ⟨o, 10, none⟩ = some (.int .i64 (t : Int)) := by rw [← ht]; rw [Blk.cell hO0]; rfl
  have hmf := mf_any
  have HBASE := Lib.hid hbase
  clear hbase
  have HHT := Lib.hid ht
  clear ht
  have HX := Lib.hid hX
  have HO := Lib.hid hO0
  have HM := Lib.hid hM0
  have HF := Lib.hid hF0
  clear hX hO hO0 hM hM0 hF0
  have hd : decide ((n : Int) ≤ (t : Int)) = true := decide_eq_true (by omega)
  have hd2 : decide (n ≤ t) = true := decide_eq_true (by omega)
  have hd3 : (n : Int) ≤ (t : Int) := by omega
  go_enter Try.func101, Try.ntmps101
  go_wp2_with fail
  refine (wordE_any _ o base c1).mono ?_
  rintro e w1 ⟨rfl, rfl⟩
  go_wp2_with fail
  refine (load_mi HM.out hb (base) (n : Int) hi).mono ?_
  rintro e w1 ⟨rfl, hM1, hF1⟩
  have hO1 : OpAt w1 o v := Blk.fr HO.out hF1 (fun h => h.elim h1 h2)
  have xx := hF1.held x0 (fun h => h.elim hXp hXs)
  have d1 : w1.cell? ⟨o, 1, none⟩ = some (.int .i64 base) := hF1.held c1 (fun h => h.elim h1 h2)
  have d10 : w1.cell? ⟨o, 10, none⟩ = some (.int .i64 (t : Int)) := hF1.held c10 (fun h => h.elim h1 h2)
  have HO1 := Lib.hid hO1
  have HM1 := Lib.hid hM1
  have HF1 := Lib.hid (HF.out.trans (hF1.mono (fun _ h => .inr h)))
  clear hO1 hM1 hF1
  go_wp2_with fail
  refine (behind_er _ 9 (by decide) _).mono ?_
  rintro e w1 ⟨rfl, rfl⟩
  go_wp2_with fail
  go_ret2
  exact ⟨rfl, HO1.out, HM1.out, HF1.out⟩

set_option maxHeartbeats 4000000 in
theorem fi_takeFinds (w : World) (o p s : Nat) (v : OpV) (ws : List (Bool × Int)) (b : Nat) (hO : OpAt w o v) (hM : MI w p s ws b) (hb : b < 900000) (base : Nat) (hbase : v.base = base) (_hbl : base ≤ 60000) (room : Nat) (hroom : v.room = room) (hr0 : 0 < room) (hr1 : room ≤ 1000) (t : Nat) (ht : v.t = t) (q : Nat) (hq : t % room = q) (n : Int) (hi : ws[base + 2 + q]? = some (true, n)) :
    Calls Try.prog 104 #[.agg #[.pointer (some ⟨o, 0, none⟩)], .pointer (some ⟨p, 0, none⟩)] w (MvP w o p s { v with num := n } ws b v.final 0) := by
  obtain ⟨h1, h2⟩ := hO.ne hM
  have hol : o < w.heap.size := Blk.lt hO
  obtain ⟨hpl, hsl⟩ := hM.lt
  have hXp : w.heap.size ≠ p := by omega
  have hXs : w.heap.size ≠ s := by omega
  have hXo : w.heap.size ≠ o := by omega
  have hF0 : Fr (Thr o p s) w (w.alloc (.cells #[.pointer (some ⟨o, 0, none⟩)] 96)) := (Fr.refl _ _).alloc _
  have hX : Blk (w.alloc (.cells #[.pointer (some ⟨o, 0, none⟩)] 96)) w.heap.size 96 #[.pointer (some ⟨o, 0, none⟩)] := Blk.new _ _ _
  have hO0 : OpAt (w.alloc (.cells #[.pointer (some ⟨o, 0, none⟩)] 96)) o v := Blk.alloc hO _
  have hM0 : MI (w.alloc (.cells #[.pointer (some ⟨o, 0, none⟩)] 96)) p s ws b := hM.fr (B := fun _ => False) ((Fr.refl _ _).alloc _) (fun h => h) (fun h => h)
  have x0 : (w.alloc (.cells #[.pointer (some ⟨o, 0, none⟩)] 96)).cell? ⟨w.heap.size, 0, none⟩ = some (.pointer (some ⟨o, 0, none⟩)) := by rw [hX.cell]; rfl
  have c1 : (w.alloc (.cells #[.pointer (some ⟨o, 0, none⟩)] 96)).cell? ⟨o, 1, none⟩ = some (.int .i64 base) := by rw [← hbase]; rw [Blk.cell hO0]; rfl
  have c2 : (w.alloc (.cells #[.pointer (some ⟨o, 0, none⟩)] 96)).cell? ⟨o, 2, none⟩ = some (.int .i64 (room : Int)) := by rw [← hroom]; rw [Blk.cell hO0]; rfl
  have c10 : (w.alloc (.cells #[.pointer (some ⟨o, 0, none⟩)] 96)).cell? ⟨o, 10, none⟩ = some (.int .i64 (t : Int)) := by rw [← ht]; rw [Blk.cell hO0]; rfl
  have c4 : (w.alloc (.cells #[.pointer (some ⟨o, 0, none⟩)] 96)).cell? ⟨o, 4, none⟩ = some (v.final) := by rw [Blk.cell hO0]; rfl
  have hmf := mf_any
  have HBASE := Lib.hid hbase
  clear hbase
  have HHROOM := Lib.hid hroom
  clear hroom
  have HHT := Lib.hid ht
  clear ht
  have HX := Lib.hid hX
  have HO := Lib.hid hO0
  have HM := Lib.hid hM0
  have HF := Lib.hid hF0
  clear hX hO hO0 hM hM0 hF0
  have hrem : (t : Int).tmod (room : Int) = (q : Int) := by rw [Int.tmod_eq_emod_of_nonneg (by omega), ← hq, Int.natCast_emod]
  have hrz : ((room : Int) == 0) = false := by simp; omega
  have hrz2 : ¬ (room : Int) = 0 := by omega
  have hrz3 : ¬ room = 0 := by omega
  have hrz4 : (room == 0) = false := by simp; omega
  have hrm1 : ¬ (room : Int) = -1 := by omega
  have hql : q ≤ 65536 := by have := Nat.mod_lt t hr0; omega
  have HQ := Lib.hid hq
  clear hq
  go_enter Try.func104, Try.ntmps104
  go_wp2_with fail
  generalize hW0 : (w.alloc (.cells #[.pointer (some ⟨o, 0, none⟩)] 96)) = W0 at *
  clear hW0
  refine region_K 22 (fun w' : World => w'.cell? ⟨w.heap.size, 0, none⟩ = some (.pointer (some ⟨o, 0, none⟩)) ∧ w'.cell? ⟨o, 1, none⟩ = some (.int .i64 base) ∧ w'.cell? ⟨o, 2, none⟩ = some (.int .i64 (room : Int)) ∧ w'.cell? ⟨o, 10, none⟩ = some (.int .i64 (t : Int)) ∧ w'.cell? ⟨o, 4, none⟩ = some (v.final)) (by kernel_rfl) ?_
  have HS : (fun w' : World => w'.cell? ⟨w.heap.size, 0, none⟩ = some (.pointer (some ⟨o, 0, none⟩)) ∧ w'.cell? ⟨o, 1, none⟩ = some (.int .i64 base) ∧ w'.cell? ⟨o, 2, none⟩ = some (.int .i64 (room : Int)) ∧ w'.cell? ⟨o, 10, none⟩ = some (.int .i64 (t : Int)) ∧ w'.cell? ⟨o, 4, none⟩ = some (v.final)) (W0).drew := ⟨x0, c1, c2, c10, c4⟩
  refine AnyK.take (i := 0) rfl (by decide) (by kernel_rfl) (by kernel_rfl) (by kernel_rfl) (fun _ _ _ _ h => h) HS (fun K hK => ?_)
  go_simp
  refine hK.out _ ⟨_, by rfl, Or.inl ⟨by rfl, by intro w hSw; (try dsimp only at hSw); go_simp⟩, ?_⟩
  clear hK K
  refine AnyK.take (i := 1) rfl (by decide) (by kernel_rfl) (by kernel_rfl) (by kernel_rfl) (fun _ _ _ _ h => h) HS (fun K hK => ?_)
  go_simp
  refine hK.out _ ⟨_, by rfl, Or.inl ⟨by rfl, by intro w hSw; (try dsimp only at hSw); go_simp⟩, ?_⟩
  clear hK K
  refine AnyK.take (i := 2) rfl (by decide) (by kernel_rfl) (by kernel_rfl) (by kernel_rfl) (fun _ _ _ _ h => h) HS (fun K hK => ?_)
  go_simp
  refine hK.out _ ⟨_, by rfl, Or.inl ⟨by rfl, by intro w hSw; (try dsimp only at hSw); go_simp⟩, ?_⟩
  clear hK K
  refine AnyK.take (i := 3) rfl (by decide) (by kernel_rfl) (by kernel_rfl) (by kernel_rfl) (fun _ _ _ _ h => h) HS (fun K hK => ?_)
  go_simp
  refine hK.out _ ⟨_, by rfl, Or.inl ⟨by rfl, by intro w hSw; (try dsimp only at hSw); go_simp⟩, ?_⟩
  clear hK K
  refine AnyK.take (i := 4) rfl (by decide) (by kernel_rfl) (by kernel_rfl) (by kernel_rfl) (fun _ _ _ _ h => h) HS (fun K hK => ?_)
  go_simp
  refine hK.out _ ⟨_, by rfl, Or.inl ⟨by rfl, by intro w hSw; (try dsimp only at hSw); go_simp⟩, ?_⟩
  clear hK K
  refine AnyK.take (i := 5) rfl (by decide) (by kernel_rfl) (by kernel_rfl) (by kernel_rfl) (fun _ _ _ _ h => h) HS (fun K hK => ?_)
  go_simp
  refine hK.out _ ⟨_, by rfl, Or.inl ⟨by rfl, by intro w hSw; (try dsimp only at hSw); go_simp⟩, ?_⟩
  clear hK K
  refine AnyK.take (i := 6) rfl (by decide) (by kernel_rfl) (by kernel_rfl) (by kernel_rfl) (fun _ _ _ _ h => h) HS (fun K hK => ?_)
  go_simp
  refine hK.out _ ⟨_, by rfl, Or.inl ⟨by rfl, by intro w hSw; (try dsimp only at hSw); go_simp⟩, ?_⟩
  clear hK K
  refine AnyK.take (i := 7) rfl (by decide) (by kernel_rfl) (by kernel_rfl) (by kernel_rfl) (fun _ _ _ _ h => h) HS (fun K hK => ?_)
  go_simp
  refine hK.out _ ⟨_, by rfl, Or.inl ⟨by rfl, by intro w hSw; (try dsimp only at hSw); go_simp⟩, ?_⟩
  clear hK K
  refine AnyK.take (i := 8) rfl (by decide) (by kernel_rfl) (by kernel_rfl) (by kernel_rfl) (fun _ _ _ _ h => h) HS (fun K hK => ?_)
  go_simp
  refine hK.out _ ⟨_, by rfl, Or.inl ⟨by rfl, by intro w hSw; (try dsimp only at hSw); go_simp⟩, ?_⟩
  clear hK K
  refine AnyK.take (i := 9) rfl (by decide) (by kernel_rfl) (by kernel_rfl) (by kernel_rfl) (fun _ _ _ _ h => h) HS (fun K hK => ?_)
  go_simp
  refine hK.out _ ⟨_, by rfl, Or.inl ⟨by rfl, by intro w hSw; (try dsimp only at hSw); go_simp⟩, ?_⟩
  clear hK K
  refine AnyK.take (i := 12) rfl (by decide) (by kernel_rfl) (by kernel_rfl) (by kernel_rfl) (fun _ _ _ _ h => h) HS (fun K hK => ?_)
  go_simp
  refine hK.out _ ⟨_, by rfl, Or.inl ⟨by rfl, by intro w hSw; (try dsimp only at hSw); go_simp⟩, ?_⟩
  clear hK K
  refine AnyK.take (i := 13) rfl (by decide) (by kernel_rfl) (by kernel_rfl) (by kernel_rfl) (fun _ _ _ _ h => h) HS (fun K hK => ?_)
  go_simp
  refine hK.out _ ⟨_, by rfl, Or.inl ⟨by rfl, by intro w hSw; (try dsimp only at hSw); go_simp⟩, ?_⟩
  clear hK K
  refine AnyK.take (i := 14) rfl (by decide) (by kernel_rfl) (by kernel_rfl) (by kernel_rfl) (fun _ _ _ _ h => h) HS (fun K hK => ?_)
  go_simp
  refine hK.out _ ⟨_, by rfl, Or.inl ⟨by rfl, by intro w hSw; (try dsimp only at hSw); go_simp⟩, ?_⟩
  clear hK K
  refine AnyK.take (i := 15) rfl (by decide) (by kernel_rfl) (by kernel_rfl) (by kernel_rfl) (fun _ _ _ _ h => h) HS (fun K hK => ?_)
  go_simp
  refine hK.out _ ⟨_, by rfl, Or.inl ⟨by rfl, by intro w hSw; (try dsimp only at hSw); go_simp⟩, ?_⟩
  clear hK K
  refine AnyK.take (i := 16) rfl (by decide) (by kernel_rfl) (by kernel_rfl) (by kernel_rfl) (fun _ _ _ _ h => h) HS (fun K hK => ?_)
  go_simp
  refine hK.out _ ⟨_, by rfl, Or.inl ⟨by rfl, by intro w hSw; (try dsimp only at hSw); go_simp⟩, ?_⟩
  clear hK K
  refine AnyK.one (i := 10) rfl (by kernel_rfl) (fun K hK => ?_)
  go_simp
  refine (room_any _ o (room : Int) HS.2.2.1).mono ?_
  rintro e w1 ⟨rfl, rfl⟩
  refine hK.out _ _ (fun _ => HS) ?_
  clear hK K
  refine AnyK.take (i := 11) rfl (by decide) (by kernel_rfl) (by kernel_rfl) (by kernel_rfl) (fun _ _ _ _ h => h) HS (fun K hK => ?_)
  go_simp
  refine hK.out _ ⟨_, by rfl, Or.inl ⟨by rfl, by intro w hSw; (try dsimp only at hSw); go_simp⟩, ?_⟩
  clear hK K
  refine AnyK.one (i := 17) rfl (by kernel_rfl) (fun K hK => ?_)
  go_simp
  refine (find_any W0.drew o p s v ws b HO.out.drew HM.out.drew hb base q HBASE.out (by omega) hql n hi _).mono ?_
  rintro e w1 ⟨rfl, hO1, hM1, hF1⟩
  have HS : (fun w' : World => w'.cell? ⟨w.heap.size, 0, none⟩ = some (.pointer (some ⟨o, 0, none⟩)) ∧ w'.cell? ⟨o, 1, none⟩ = some (.int .i64 base) ∧ w'.cell? ⟨o, 2, none⟩ = some (.int .i64 (room : Int)) ∧ w'.cell? ⟨o, 10, none⟩ = some (.int .i64 (t : Int)) ∧ w'.cell? ⟨o, 4, none⟩ = some (v.final)) w1 := ⟨hF1.held HS.1 (fun h => h.elim hXo (fun h => h.elim hXp hXs)), (by rw [← HBASE.out]; rw [Blk.cell hO1]; rfl), (by rw [← HHROOM.out]; rw [Blk.cell hO1]; rfl), (by rw [← HHT.out]; rw [Blk.cell hO1]; rfl), (by rw [Blk.cell hO1]; rfl)⟩
  refine hK.out _ _ (fun _ => HS) ?_
  clear hK K
  have HO1 := Lib.hid hO1
  have HM1 := Lib.hid hM1
  have HF1 := Lib.hid (Fr.trans (HF.out.drew) hF1)
  clear hO1 hM1 hF1
  refine AnyK.take (i := 18) rfl (by decide) (by kernel_rfl) (by kernel_rfl) (by kernel_rfl) (fun _ _ _ _ h => h) HS (fun K hK => ?_)
  go_simp
  refine hK.out _ ⟨_, by rfl, Or.inl ⟨by rfl, by intro w hSw; (try dsimp only at hSw); go_simp⟩, ?_⟩
  clear hK K
  refine AnyK.take (i := 19) rfl (by decide) (by kernel_rfl) (by kernel_rfl) (by kernel_rfl) (fun _ _ _ _ h => h) HS (fun K hK => ?_)
  go_simp
  refine hK.out _ ⟨_, by rfl, Or.inl ⟨by rfl, by intro w hSw; (try dsimp only at hSw); go_simp⟩, ?_⟩
  clear hK K
  refine AnyK.take (i := 20) rfl (by decide) (by kernel_rfl) (by kernel_rfl) (by kernel_rfl) (fun _ _ _ _ h => h) HS (fun K hK => ?_)
  go_simp
  refine hK.out _ ⟨_, by rfl, Or.inl ⟨by rfl, by intro w hSw; (try dsimp only at hSw); go_simp⟩, ?_⟩
  clear hK K
  refine AnyK.take (i := 21) rfl (by decide) (by kernel_rfl) (by kernel_rfl) (by kernel_rfl) (fun _ _ _ _ h => h) HS (fun K hK => ?_)
  go_simp
  refine hK.out _ ⟨_, by rfl, Or.inl ⟨by rfl, by intro w hSw; (try dsimp only at hSw); go_simp⟩, ?_⟩
  clear hK K
  refine AnyK.done (by kernel_rfl) ?_ _
  go_wp2_with fail
  go_ret2
  exact ⟨rfl, HO1.out, HM1.out, HF1.out⟩
end Go.Proofs.Ytfcboacmailfiaa
