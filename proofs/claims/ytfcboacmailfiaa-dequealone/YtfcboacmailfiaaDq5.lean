/-
  Package deque: the moves of kind 2.
-/
import Derived.Test.YtfcboacmailfiaaDq4
import Derived.Laws.EntriesVeiled
namespace Go.Proofs.Ytfcboacmailfiaa
open Go.RowKit

set_option maxHeartbeats 4000000 in
theorem la_push_go (w : World) (o p s : Nat) (v : OpV) (ws : List (Bool × Int)) (b : Nat) (hO : OpAt w o v) (hM : MI w p s ws b) (hb : b < 900000) (base : Nat) (hbase : v.base = base) (_hbl : base ≤ 60000) (room : Nat) (hroom : v.room = room) (t : Nat) (htl : t < 1152921504606846976) (q : Nat) (hq : t % 65536 = q) (hi : ws[base + 1]? = some (true, (t : Int))) (hm : ¬ q = room) :
    Calls Try.prog 89 #[.agg #[.pointer (some ⟨o, 0, none⟩)], .pointer (some ⟨p, 0, none⟩)] w (MvP w o p s { v with t := (t : Int) } ws b (mv 93 o) 0) := by
  obtain ⟨h1, h2⟩ := hO.ne hM
  have hol : o < w.heap.size := Blk.lt hO
  obtain ⟨hpl, hsl⟩ := hM.lt
  have hXp : w.heap.size ≠ p := by omega
  have hXs : w.heap.size ≠ s := by omega
  have hXo : w.heap.size ≠ o := by omega
  have hF0 : Fr (Thr o p s) w (w.alloc (.cells #[.pointer (some ⟨o, 0, none⟩)] 95)) := (Fr.refl _ _).alloc _
  have hX : Blk (w.alloc (.cells #[.pointer (some ⟨o, 0, none⟩)] 95)) w.heap.size 95 #[.pointer (some ⟨o, 0, none⟩)] := Blk.new _ _ _
  have hO0 : OpAt (w.alloc (.cells #[.pointer (some ⟨o, 0, none⟩)] 95)) o v := Blk.alloc hO _
  have hM0 : MI (w.alloc (.cells #[.pointer (some ⟨o, 0, none⟩)] 95)) p s ws b := hM.fr (B := fun _ => False) ((Fr.refl _ _).alloc _) (fun h => h) (fun h => h)
  have x0 : (w.alloc (.cells #[.pointer (some ⟨o, 0, none⟩)] 95)).cell? ⟨w.heap.size, 0, none⟩ = some (.pointer (some ⟨o, 0, none⟩)) := by rw [hX.cell]; rfl
  have c1 : (w.alloc (.cells #[.pointer (some ⟨o, 0, none⟩)] 95)).cell? ⟨o, 1, none⟩ = some (.int .i64 base) := by rw [← hbase]; rw [Blk.cell hO0]; rfl
  have c2 : (w.alloc (.cells #[.pointer (some ⟨o, 0, none⟩)] 95)).cell? ⟨o, 2, none⟩ = some (.int .i64 (room : Int)) := by rw [← hroom]; rw [Blk.cell hO0]; rfl
  have c10 : (w.alloc (.cells #[.pointer (some ⟨o, 0, none⟩)] 95)).cell? ⟨o, 10, none⟩ = some (.int .i64 v.t) := by rw [Blk.cell hO0]; rfl
  have hmf := mf_any
  have HBASE := Lib.hid hbase
  clear hbase
  have HHROOM := Lib.hid hroom
  clear hroom
  have HX := Lib.hid hX
  have HO := Lib.hid hO0
  have HM := Lib.hid hM0
  have HF := Lib.hid hF0
  clear hX hO hO0 hM hM0 hF0
  have hd : ((q : Int) == (room : Int)) = false := by simp; omega
  have hd2 : (q == room) = false := by simp; omega
  have HQ := Lib.hid hq
  clear hq
  clear hm
  go_enter Try.func89, Try.ntmps89
  go_wp2_with fail
  refine (wordT_any _ o base (by omega) c1).mono ?_
  rintro e w1 ⟨rfl, rfl⟩
  go_wp2_with fail
  refine (load_mi HM.out hb (base + 1) (t : Int) hi).mono ?_
  rintro e w1 ⟨rfl, hM1, hF1⟩
  have hO1 : OpAt w1 o v := Blk.fr HO.out hF1 (fun h => h.elim h1 h2)
  have xx := hF1.held x0 (fun h => h.elim hXp hXs)
  have d1 : w1.cell? ⟨o, 1, none⟩ = some (.int .i64 base) := hF1.held c1 (fun h => h.elim h1 h2)
  have d2 : w1.cell? ⟨o, 2, none⟩ = some (.int .i64 (room : Int)) := hF1.held c2 (fun h => h.elim h1 h2)
  have d10 : w1.cell? ⟨o, 10, none⟩ = some (.int .i64 v.t) := hF1.held c10 (fun h => h.elim h1 h2)
  have f10 := Blk.frozen hO1 10
  have HO1 := Lib.hid hO1
  have HM1 := Lib.hid hM1
  have HF1 := Lib.hid (HF.out.trans (hF1.mono (fun _ h => .inr h)))
  clear hO1 hM1 hF1
  go_wp2_with fail
  go_quiet ((first | exact place_quiet _ _ t q htl HQ.out | exact room_quiet _ _ o (room : Int) d2))
  go_wp2_with fail
  refine (behind_ok _ _).mono ?_
  rintro e w1 ⟨rfl, rfl⟩
  go_wp2_with fail
  go_ret2
  have hFs : Fr (fun k => k = o) w1 (w1.setCell ⟨o, 10, none⟩ (.int .i64 (t : Int))) := (Fr.refl (fun k => k = o) w1).setCell (p := ⟨o, 10, none⟩) (.inl rfl) _
  have hMs := HM1.out.fr hFs (fun h => h1 h.symm) (fun h => h2 h.symm)
  have hFw := HF1.out.trans (hFs.mono (fun _ h => .inl h))
  exact ⟨rfl, Blk.set_ HO1.out 10 _, by first | exact hMs | exact hMs.drewN _, by first | exact hFw | exact hFw.drewN _⟩

set_option maxHeartbeats 4000000 in
theorem la_push_full (w : World) (o p s : Nat) (v : OpV) (ws : List (Bool × Int)) (b : Nat) (hO : OpAt w o v) (hM : MI w p s ws b) (hb : b < 900000) (base : Nat) (hbase : v.base = base) (_hbl : base ≤ 60000) (room : Nat) (hroom : v.room = room) (t : Nat) (htl : t < 1152921504606846976) (q : Nat) (hq : t % 65536 = q) (hi : ws[base + 1]? = some (true, (t : Int))) (hm : q = room) :
    Calls Try.prog 89 #[.agg #[.pointer (some ⟨o, 0, none⟩)], .pointer (some ⟨p, 0, none⟩)] w (MvP w o p s { v with t := (t : Int) } ws b .nilFunc 8) := by
  obtain ⟨h1, h2⟩ := hO.ne hM
  have hol : o < w.heap.size := Blk.lt hO
  obtain ⟨hpl, hsl⟩ := hM.lt
  have hXp : w.heap.size ≠ p := by omega
  have hXs : w.heap.size ≠ s := by omega
  have hXo : w.heap.size ≠ o := by omega
  have hF0 : Fr (Thr o p s) w (w.alloc (.cells #[.pointer (some ⟨o, 0, none⟩)] 95)) := (Fr.refl _ _).alloc _
  have hX : Blk (w.alloc (.cells #[.pointer (some ⟨o, 0, none⟩)] 95)) w.heap.size 95 #[.pointer (some ⟨o, 0, none⟩)] := Blk.new _ _ _
  have hO0 : OpAt (w.alloc (.cells #[.pointer (some ⟨o, 0, none⟩)] 95)) o v := Blk.alloc hO _
  have hM0 : MI (w.alloc (.cells #[.pointer (some ⟨o, 0, none⟩)] 95)) p s ws b := hM.fr (B := fun _ => False) ((Fr.refl _ _).alloc _) (fun h => h) (fun h => h)
  have x0 : (w.alloc (.cells #[.pointer (some ⟨o, 0, none⟩)] 95)).cell? ⟨w.heap.size, 0, none⟩ = some (.pointer (some ⟨o, 0, none⟩)) := by rw [hX.cell]; rfl
  have c1 : (w.alloc (.cells #[.pointer (some ⟨o, 0, none⟩)] 95)).cell? ⟨o, 1, none⟩ = some (.int .i64 base) := by rw [← hbase]; rw [Blk.cell hO0]; rfl
  have c2 : (w.alloc (.cells #[.pointer (some ⟨o, 0, none⟩)] 95)).cell? ⟨o, 2, none⟩ = some (.int .i64 (room : Int)) := by rw [← hroom]; rw [Blk.cell hO0]; rfl
  have c10 : (w.alloc (.cells #[.pointer (some ⟨o, 0, none⟩)] 95)).cell? ⟨o, 10, none⟩ = some (.int .i64 v.t) := by rw [Blk.cell hO0]; rfl
  have hmf := mf_any
  have HBASE := Lib.hid hbase
  clear hbase
  have HHROOM := Lib.hid hroom
  clear hroom
  have HX := Lib.hid hX
  have HO := Lib.hid hO0
  have HM := Lib.hid hM0
  have HF := Lib.hid hF0
  clear hX hO hO0 hM hM0 hF0
  have hd : ((q : Int) == (room : Int)) = true := by simp; omega
  have hd2 : (q == room) = true := by simp; omega
  have HQ := Lib.hid hq
  clear hq
  clear hm
  go_enter Try.func89, Try.ntmps89
  go_wp2_with fail
  refine (wordT_any _ o base (by omega) c1).mono ?_
  rintro e w1 ⟨rfl, rfl⟩
  go_wp2_with fail
  refine (load_mi HM.out hb (base + 1) (t : Int) hi).mono ?_
  rintro e w1 ⟨rfl, hM1, hF1⟩
  have hO1 : OpAt w1 o v := Blk.fr HO.out hF1 (fun h => h.elim h1 h2)
  have xx := hF1.held x0 (fun h => h.elim hXp hXs)
  have d1 : w1.cell? ⟨o, 1, none⟩ = some (.int .i64 base) := hF1.held c1 (fun h => h.elim h1 h2)
  have d2 : w1.cell? ⟨o, 2, none⟩ = some (.int .i64 (room : Int)) := hF1.held c2 (fun h => h.elim h1 h2)
  have d10 : w1.cell? ⟨o, 10, none⟩ = some (.int .i64 v.t) := hF1.held c10 (fun h => h.elim h1 h2)
  have f10 := Blk.frozen hO1 10
  have HO1 := Lib.hid hO1
  have HM1 := Lib.hid hM1
  have HF1 := Lib.hid (HF.out.trans (hF1.mono (fun _ h => .inr h)))
  clear hO1 hM1 hF1
  go_wp2_with fail
  go_quiet ((first | exact place_quiet _ _ t q htl HQ.out | exact room_quiet _ _ o (room : Int) d2))
  go_wp2_with fail
  refine (behind_er _ 8 (by decide) _).mono ?_
  rintro e w1 ⟨rfl, rfl⟩
  go_wp2_with fail
  go_ret2
  have hFs : Fr (fun k => k = o) w1 (w1.setCell ⟨o, 10, none⟩ (.int .i64 (t : Int))) := (Fr.refl (fun k => k = o) w1).setCell (p := ⟨o, 10, none⟩) (.inl rfl) _
  have hMs := HM1.out.fr hFs (fun h => h1 h.symm) (fun h => h2 h.symm)
  have hFw := HF1.out.trans (hFs.mono (fun _ h => .inl h))
  exact ⟨rfl, Blk.set_ HO1.out 10 _, by first | exact hMs | exact hMs.drewN _, by first | exact hFw | exact hFw.drewN _⟩

set_option maxHeartbeats 4000000 in
theorem la_pushFills (w : World) (o p s : Nat) (v : OpV) (ws : List (Bool × Int)) (b : Nat) (hO : OpAt w o v) (hM : MI w p s ws b) (hb : b < 900000) (base : Nat) (hbase : v.base = base) (_hbl : base ≤ 60000) (t : Nat) (ht : v.t = t) (htl : t < 1152921504606846976) (q : Nat) (hq : t % 65536 = q) (m : Int) (hi : ws[base + 2 + q]? = some (true, m)) :
    Calls Try.prog 93 #[.agg #[.pointer (some ⟨o, 0, none⟩)], .pointer (some ⟨p, 0, none⟩)] w (MvP w o p s v (ws.set (base + 2 + q) (true, v.num)) b (mv 96 o) 0) := by
  obtain ⟨h1, h2⟩ := hO.ne hM
  have hol : o < w.heap.size := Blk.lt hO
  obtain ⟨hpl, hsl⟩ := hM.lt
  have hXp : w.heap.size ≠ p := by omega
  have hXs : w.heap.size ≠ s := by omega
  have hXo : w.heap.size ≠ o := by omega
  have hF0 : Fr (Thr o p s) w (w.alloc (.cells #[.pointer (some ⟨o, 0, none⟩)] 95)) := (Fr.refl _ _).alloc _
  have hX : Blk (w.alloc (.cells #[.pointer (some ⟨o, 0, none⟩)] 95)) w.heap.size 95 #[.pointer (some ⟨o, 0, none⟩)] := Blk.new _ _ _
  have hO0 : OpAt (w.alloc (.cells #[.pointer (some ⟨o, 0, none⟩)] 95)) o v := Blk.alloc hO _
  have hM0 : MI (w.alloc (.cells #[.pointer (some ⟨o, 0, none⟩)] 95)) p s ws b := hM.fr (B := fun _ => False) ((Fr.refl _ _).alloc _) (fun h => h) (fun h => h)
  have x0 : (w.alloc (.cells #[.pointer (some ⟨o, 0, none⟩)] 95)).cell? ⟨w.heap.size, 0, none⟩ = some (.pointer (some ⟨o, 0, none⟩)) := by rw [hX.cell]; rfl
  have c1 : (w.alloc (.cells #[.pointer (some ⟨o, 0, none⟩)] 95)).cell? ⟨o, 1, none⟩ = some (.int .i64 base) := by rw [← hbase]; rw [Blk.cell hO0]; rfl
  have c10 : (w.alloc (.cells #[.pointer (some ⟨o, 0, none⟩)] 95)).cell? ⟨o, 10, none⟩ = some (.int .i64 (t : Int)) := by rw [← ht]; rw [Blk.cell hO0]; rfl
  have hmf := mf_any
  have HBASE := Lib.hid hbase
  clear hbase
  have HHT := Lib.hid ht
  clear ht
  have HX := Lib.hid hX
  have HO := Lib.hid hO0
  have HM := Lib.hid hM0
  have HF := Lib.hid hF0
  clear hX hO hO0 hM hM0 hF0
  have hql : q ≤ 65536 := by omega
  have HQ := Lib.hid hq
  clear hq
  go_enter Try.func93, Try.ntmps93
  go_wp2_with fail
  generalize hW0 : (w.alloc (.cells #[.pointer (some ⟨o, 0, none⟩)] 95)) = W0 at *
  clear hW0
  refine region_K 16 (fun w' : World => w'.cell? ⟨w.heap.size, 0, none⟩ = some (.pointer (some ⟨o, 0, none⟩)) ∧ w'.cell? ⟨o, 1, none⟩ = some (.int .i64 base) ∧ w'.cell? ⟨o, 10, none⟩ = some (.int .i64 (t : Int))) (by kernel_rfl) ?_
  have HS : (fun w' : World => w'.cell? ⟨w.heap.size, 0, none⟩ = some (.pointer (some ⟨o, 0, none⟩)) ∧ w'.cell? ⟨o, 1, none⟩ = some (.int .i64 base) ∧ w'.cell? ⟨o, 10, none⟩ = some (.int .i64 (t : Int))) (W0).drew := ⟨x0, c1, c10⟩
  refine AnyK.take (i := 0) rfl (by decide) (by kernel_rfl) (by kernel_rfl) (by kernel_rfl) (fun _ _ _ _ h => h) HS (fun K hK => ?_)
  go_simp
  refine hK.out _ ⟨_, by rfl, Or.inl ⟨by rfl, by intro w hSw; (try dsimp only at hSw); go_simp⟩, ?_⟩
  clear hK K
  refine AnyK.take (i := 1) rfl (by decide) (by kernel_rfl) (by kernel_rfl) (by kernel_rfl) (fun _ _ _ _ h => h) HS (fun K hK => ?_)
  go_simp
  refine hK.out _ ⟨_, by rfl, Or.inl ⟨by rfl, by intro w hSw; (try dsimp only at hSw); go_simp⟩, ?_⟩
  clear hK K
  refine AnyK.take (i := 2) rfl (by decide) (by kernel_rfl) (by kernel_rfl) (by kernel_rfl) (fun _ _ _ _ h => h) HS (fun K hK => ?_)
  go_simp
  refine hK.out _ ⟨_, by rfl, Or.inl ⟨by rfl, by intro w hSw; (try dsimp only at hSw); go_simp⟩, ?_⟩
  clear hK K
  refine AnyK.take (i := 3) rfl (by decide) (by kernel_rfl) (by kernel_rfl) (by kernel_rfl) (fun _ _ _ _ h => h) HS (fun K hK => ?_)
  go_simp
  refine hK.out _ ⟨_, by rfl, Or.inl ⟨by rfl, by intro w hSw; (try dsimp only at hSw); go_simp⟩, ?_⟩
  clear hK K
  refine AnyK.take (i := 4) rfl (by decide) (by kernel_rfl) (by kernel_rfl) (by kernel_rfl) (fun _ _ _ _ h => h) HS (fun K hK => ?_)
  go_simp
  refine hK.out _ ⟨_, by rfl, Or.inl ⟨by rfl, by intro w hSw; (try dsimp only at hSw); go_simp⟩, ?_⟩
  clear hK K
  refine AnyK.take (i := 5) rfl (by decide) (by kernel_rfl) (by kernel_rfl) (by kernel_rfl) (fun _ _ _ _ h => h) HS (fun K hK => ?_)
  go_simp
  refine hK.out _ ⟨_, by rfl, Or.inl ⟨by rfl, by intro w hSw; (try dsimp only at hSw); go_simp⟩, ?_⟩
  clear hK K
  refine AnyK.take (i := 6) rfl (by decide) (by kernel_rfl) (by kernel_rfl) (by kernel_rfl) (fun _ _ _ _ h => h) HS (fun K hK => ?_)
  go_simp
  refine hK.out _ ⟨_, by rfl, Or.inl ⟨by rfl, by intro w hSw; (try dsimp only at hSw); go_simp⟩, ?_⟩
  clear hK K
  refine AnyK.take (i := 7) rfl (by decide) (by kernel_rfl) (by kernel_rfl) (by kernel_rfl) (fun _ _ _ _ h => h) HS (fun K hK => ?_)
  go_simp
  refine hK.out _ ⟨_, by rfl, Or.inl ⟨by rfl, by intro w hSw; (try dsimp only at hSw); go_simp⟩, ?_⟩
  clear hK K
  refine AnyK.take (i := 9) rfl (by decide) (by kernel_rfl) (by kernel_rfl) (by kernel_rfl) (fun _ _ _ _ h => h) HS (fun K hK => ?_)
  go_simp
  refine hK.out _ ⟨_, by rfl, Or.inl ⟨by rfl, by intro w hSw; (try dsimp only at hSw); go_simp⟩, ?_⟩
  clear hK K
  refine AnyK.take (i := 10) rfl (by decide) (by kernel_rfl) (by kernel_rfl) (by kernel_rfl) (fun _ _ _ _ h => h) HS (fun K hK => ?_)
  go_simp
  refine hK.out _ ⟨_, by rfl, Or.inl ⟨by rfl, by intro w hSw; (try dsimp only at hSw); go_simp⟩, ?_⟩
  clear hK K
  refine AnyK.one (i := 8) rfl (by kernel_rfl) (fun K hK => ?_)
  go_simp
  refine (place_q _ t q htl HQ.out).mono ?_
  rintro e w1 ⟨rfl, rfl⟩
  refine hK.out _ _ (fun _ => HS) ?_
  clear hK K
  refine AnyK.one (i := 11) rfl (by kernel_rfl) (fun K hK => ?_)
  go_simp
  refine (fill_any W0.drew o p s v ws b HO.out.drew HM.out.drew hb base q HBASE.out (by omega) hql m hi _).mono ?_
  rintro e w1 ⟨rfl, hO1, hM1, hF1⟩
  have HS : (fun w' : World => w'.cell? ⟨w.heap.size, 0, none⟩ = some (.pointer (some ⟨o, 0, none⟩)) ∧ w'.cell? ⟨o, 1, none⟩ = some (.int .i64 base) ∧ w'.cell? ⟨o, 10, none⟩ = some (.int .i64 (t : Int))) w1 := ⟨hF1.held HS.1 (fun h => h.elim hXo (fun h => h.elim hXp hXs)), (by rw [← HBASE.out]; rw [Blk.cell hO1]; rfl), (by rw [← HHT.out]; rw [Blk.cell hO1]; rfl)⟩
  refine hK.out _ _ (fun _ => HS) ?_
  clear hK K
  have HO1 := Lib.hid hO1
  have HM1 := Lib.hid hM1
  have HF1 := Lib.hid (Fr.trans (HF.out.drew) hF1)
  clear hO1 hM1 hF1
  refine AnyK.take (i := 12) rfl (by decide) (by kernel_rfl) (by kernel_rfl) (by kernel_rfl) (fun _ _ _ _ h => h) HS (fun K hK => ?_)
  go_simp
  refine hK.out _ ⟨_, by rfl, Or.inl ⟨by rfl, by intro w hSw; (try dsimp only at hSw); go_simp⟩, ?_⟩
  clear hK K
  refine AnyK.take (i := 13) rfl (by decide) (by kernel_rfl) (by kernel_rfl) (by kernel_rfl) (fun _ _ _ _ h => h) HS (fun K hK => ?_)
  go_simp
  refine hK.out _ ⟨_, by rfl, Or.inl ⟨by rfl, by intro w hSw; (try dsimp only at hSw); go_simp⟩, ?_⟩
  clear hK K
  refine AnyK.take (i := 14) rfl (by decide) (by kernel_rfl) (by kernel_rfl) (by kernel_rfl) (fun _ _ _ _ h => h) HS (fun K hK => ?_)
  go_simp
  refine hK.out _ ⟨_, by rfl, Or.inl ⟨by rfl, by intro w hSw; (try dsimp only at hSw); go_simp⟩, ?_⟩
  clear hK K
  refine AnyK.take (i := 15) rfl (by decide) (by kernel_rfl) (by kernel_rfl) (by kernel_rfl) (fun _ _ _ _ h => h) HS (fun K hK => ?_)
  go_simp
  refine hK.out _ ⟨_, by rfl, Or.inl ⟨by rfl, by intro w hSw; (try dsimp only at hSw); go_simp⟩, ?_⟩
  clear hK K
  refine AnyK.done (by kernel_rfl) ?_ _
  go_wp2_with fail
  go_ret2
  exact ⟨rfl, HO1.out, HM1.out, HF1.out⟩

set_option maxHeartbeats 4000000 in
theorem la_pushEnds (w : World) (o p s : Nat) (v : OpV) (ws : List (Bool × Int)) (b : Nat) (hO : OpAt w o v) (hM : MI w p s ws b) (hb : b < 900000) (base : Nat) (hbase : v.base = base) (_hbl : base ≤ 60000) (t : Nat) (ht : v.t = t) (htl : t < 1152921504606846976) (q : Nat) (hq : t % 65536 = q) (r : Nat) (hr : t - t % 65536 + 65536 + (q + 1) = r) (m : Int) (hi : ws[base + 1]? = some (true, m)) :
    Calls Try.prog 96 #[.agg #[.pointer (some ⟨o, 0, none⟩)], .pointer (some ⟨p, 0, none⟩)] w (MvP w o p s v (ws.set (base + 1) (true, (r : Int))) b .nilFunc 0) := by
  obtain ⟨h1, h2⟩ := hO.ne hM
  have hol : o < w.heap.size := Blk.lt hO
  obtain ⟨hpl, hsl⟩ := hM.lt
  have hXp : w.heap.size ≠ p := by omega
  have hXs : w.heap.size ≠ s := by omega
  have hXo : w.heap.size ≠ o := by omega
  have hF0 : Fr (Thr o p s) w (w.alloc (.cells #[.pointer (some ⟨o, 0, none⟩)] 95)) := (Fr.refl _ _).alloc _
  have hX : Blk (w.alloc (.cells #[.pointer (some ⟨o, 0, none⟩)] 95)) w.heap.size 95 #[.pointer (some ⟨o, 0, none⟩)] := Blk.new _ _ _
  have hO0 : OpAt (w.alloc (.cells #[.pointer (some ⟨o, 0, none⟩)] 95)) o v := Blk.alloc hO _
  have hM0 : MI (w.alloc (.cells #[.pointer (some ⟨o, 0, none⟩)] 95)) p s ws b := hM.fr (B := fun _ => False) ((Fr.refl _ _).alloc _) (fun h => h) (fun h => h)
  have x0 : (w.alloc (.cells #[.pointer (some ⟨o, 0, none⟩)] 95)).cell? ⟨w.heap.size, 0, none⟩ = some (.pointer (some ⟨o, 0, none⟩)) := by rw [hX.cell]; rfl
  have c1 : (w.alloc (.cells #[.pointer (some ⟨o, 0, none⟩)] 95)).cell? ⟨o, 1, none⟩ = some (.int .i64 base) := by rw [← hbase]; rw [Blk.cell hO0]; rfl
  have c10 : (w.alloc (.cells #[.pointer (some ⟨o, 0, none⟩)] 95)).cell? ⟨o, 10, none⟩ = some (.int .i64 (t : Int)) := by rw [← ht]; rw [Blk.cell hO0]; rfl
  have hmf := mf_any
  have HBASE := Lib.hid hbase
  clear hbase
  have HHT := Lib.hid ht
  clear ht
  have HX := Lib.hid hX
  have HO := Lib.hid hO0
  have HM := Lib.hid hM0
  have HF := Lib.hid hF0
  clear hX hO hO0 hM hM0 hF0
  have hql : q + 1 ≤ 65536 := by omega
  have hw : IntKind.i64.wrap ((q : Int) + 1) = (q : Int) + 1 := IntWalk.i64_in _ (by omega)
  have HRR := Lib.hid hr
  clear hr
  have HQ := Lib.hid hq
  clear hq
  go_enter Try.func96, Try.ntmps96
  go_wp2_with fail
  generalize hW0 : (w.alloc (.cells #[.pointer (some ⟨o, 0, none⟩)] 95)) = W0 at *
  clear hW0
  refine region_K 20 (fun w' : World => w'.cell? ⟨w.heap.size, 0, none⟩ = some (.pointer (some ⟨o, 0, none⟩)) ∧ w'.cell? ⟨o, 1, none⟩ = some (.int .i64 base) ∧ w'.cell? ⟨o, 10, none⟩ = some (.int .i64 (t : Int))) (by kernel_rfl) ?_
  have HS : (fun w' : World => w'.cell? ⟨w.heap.size, 0, none⟩ = some (.pointer (some ⟨o, 0, none⟩)) ∧ w'.cell? ⟨o, 1, none⟩ = some (.int .i64 base) ∧ w'.cell? ⟨o, 10, none⟩ = some (.int .i64 (t : Int))) (W0).drew := ⟨x0, c1, c10⟩
  refine AnyK.take (i := 0) rfl (by decide) (by kernel_rfl) (by kernel_rfl) (by kernel_rfl) (fun _ _ _ _ h => h) HS (fun K hK => ?_)
  go_simp
  refine hK.out _ ⟨_, by rfl, Or.inl ⟨by rfl, by intro w hSw; (try dsimp only at hSw); go_simp⟩, ?_⟩
  clear hK K
  refine AnyK.take (i := 1) rfl (by decide) (by kernel_rfl) (by kernel_rfl) (by kernel_rfl) (fun _ _ _ _ h => h) HS (fun K hK => ?_)
  go_simp
  refine hK.out _ ⟨_, by rfl, Or.inl ⟨by rfl, by intro w hSw; (try dsimp only at hSw); go_simp⟩, ?_⟩
  clear hK K
  refine AnyK.take (i := 2) rfl (by decide) (by kernel_rfl) (by kernel_rfl) (by kernel_rfl) (fun _ _ _ _ h => h) HS (fun K hK => ?_)
  go_simp
  refine hK.out _ ⟨_, by rfl, Or.inl ⟨by rfl, by intro w hSw; (try dsimp only at hSw); go_simp⟩, ?_⟩
  clear hK K
  refine AnyK.take (i := 4) rfl (by decide) (by kernel_rfl) (by kernel_rfl) (by kernel_rfl) (fun _ _ _ _ h => h) HS (fun K hK => ?_)
  go_simp
  refine hK.out _ ⟨_, by rfl, Or.inl ⟨by rfl, by intro w hSw; (try dsimp only at hSw); go_simp⟩, ?_⟩
  clear hK K
  refine AnyK.take (i := 5) rfl (by decide) (by kernel_rfl) (by kernel_rfl) (by kernel_rfl) (fun _ _ _ _ h => h) HS (fun K hK => ?_)
  go_simp
  refine hK.out _ ⟨_, by rfl, Or.inl ⟨by rfl, by intro w hSw; (try dsimp only at hSw); go_simp⟩, ?_⟩
  clear hK K
  refine AnyK.take (i := 6) rfl (by decide) (by kernel_rfl) (by kernel_rfl) (by kernel_rfl) (fun _ _ _ _ h => h) HS (fun K hK => ?_)
  go_simp
  refine hK.out _ ⟨_, by rfl, Or.inl ⟨by rfl, by intro w hSw; (try dsimp only at hSw); go_simp⟩, ?_⟩
  clear hK K
  refine AnyK.take (i := 7) rfl (by decide) (by kernel_rfl) (by kernel_rfl) (by kernel_rfl) (fun _ _ _ _ h => h) HS (fun K hK => ?_)
  go_simp
  refine hK.out _ ⟨_, by rfl, Or.inl ⟨by rfl, by intro w hSw; (try dsimp only at hSw); go_simp⟩, ?_⟩
  clear hK K
  refine AnyK.take (i := 8) rfl (by decide) (by kernel_rfl) (by kernel_rfl) (by kernel_rfl) (fun _ _ _ _ h => h) HS (fun K hK => ?_)
  go_simp
  refine hK.out _ ⟨_, by rfl, Or.inl ⟨by rfl, by intro w hSw; (try dsimp only at hSw); go_simp⟩, ?_⟩
  clear hK K
  refine AnyK.take (i := 9) rfl (by decide) (by kernel_rfl) (by kernel_rfl) (by kernel_rfl) (fun _ _ _ _ h => h) HS (fun K hK => ?_)
  go_simp
  refine hK.out _ ⟨_, by rfl, Or.inl ⟨by rfl, by intro w hSw; (try dsimp only at hSw); go_simp⟩, ?_⟩
  clear hK K
  refine AnyK.take (i := 10) rfl (by decide) (by kernel_rfl) (by kernel_rfl) (by kernel_rfl) (fun _ _ _ _ h => h) HS (fun K hK => ?_)
  go_simp
  refine hK.out _ ⟨_, by rfl, Or.inl ⟨by rfl, by intro w hSw; (try dsimp only at hSw); go_simp⟩, ?_⟩
  clear hK K
  refine AnyK.take (i := 11) rfl (by decide) (by kernel_rfl) (by kernel_rfl) (by kernel_rfl) (fun _ _ _ _ h => h) HS (fun K hK => ?_)
  go_simp
  refine hK.out _ ⟨_, by rfl, Or.inl ⟨by rfl, by intro w hSw; (try dsimp only at hSw); go_simp⟩, ?_⟩
  clear hK K
  refine AnyK.take (i := 12) rfl (by decide) (by kernel_rfl) (by kernel_rfl) (by kernel_rfl) (fun _ _ _ _ h => h) HS (fun K hK => ?_)
  go_simp
  refine hK.out _ ⟨_, by rfl, Or.inl ⟨by rfl, by intro w hSw; (try dsimp only at hSw); go_simp⟩, ?_⟩
  clear hK K
  refine AnyK.take (i := 13) rfl (by decide) (by kernel_rfl) (by kernel_rfl) (by kernel_rfl) (fun _ _ _ _ h => h) HS (fun K hK => ?_)
  go_simp
  refine hK.out _ ⟨_, by rfl, Or.inl ⟨by rfl, by intro w hSw; (try dsimp only at hSw); go_simp⟩, ?_⟩
  clear hK K
  refine AnyK.one (i := 3) rfl (by kernel_rfl) (fun K hK => ?_)
  go_simp
  refine (wordT_any _ o base (by omega) HS.2.1).mono ?_
  rintro e w1 ⟨rfl, rfl⟩
  refine hK.out _ _ (fun _ => HS) ?_
  clear hK K
  refine AnyK.one (i := 14) rfl (by kernel_rfl) (fun K hK => ?_)
  go_simp
  refine (place_q _ t q htl HQ.out).mono ?_
  rintro e w1 ⟨rfl, rfl⟩
  refine hK.out _ _ (fun _ => HS) ?_
  clear hK K
  refine AnyK.take (i := 15) rfl (by decide) (by kernel_rfl) (by kernel_rfl) (by kernel_rfl) (fun _ _ _ _ h => h) HS (fun K hK => ?_)
  go_simp
  refine hK.out _ ⟨_, by rfl, Or.inl ⟨by rfl, by intro w hSw; (try dsimp only at hSw); go_simp⟩, ?_⟩
  clear hK K
  refine AnyK.one (i := 16) rfl (by kernel_rfl) (fun K hK => ?_)
  go_simp
  refine (raised_q _ t (q + 1) r htl hql HRR.out).mono ?_
  rintro e w1 ⟨rfl, rfl⟩
  refine hK.out _ _ (fun _ => HS) ?_
  clear hK K
  refine AnyK.one (i := 17) rfl (by kernel_rfl) (fun K hK => ?_)
  go_simp
  refine (store_mi HM.out.drew hb (base + 1) m (r : Int) hi).mono ?_
  rintro e w1 ⟨rfl, hM1, hF1⟩
  have hO1 : OpAt w1 o v := OpAt.two HO.out.drew hF1 h1 h2
  have HS : (fun w' : World => w'.cell? ⟨w.heap.size, 0, none⟩ = some (.pointer (some ⟨o, 0, none⟩)) ∧ w'.cell? ⟨o, 1, none⟩ = some (.int .i64 base) ∧ w'.cell? ⟨o, 10, none⟩ = some (.int .i64 (t : Int))) w1 := ⟨hF1.held HS.1 (fun h => h.elim hXp hXs), (by rw [← HBASE.out]; rw [Blk.cell hO1]; rfl), (by rw [← HHT.out]; rw [Blk.cell hO1]; rfl)⟩
  refine hK.out _ _ (fun _ => HS) ?_
  clear hK K
  have HO1 := Lib.hid hO1
  have HM1 := Lib.hid hM1
  have HF1 := Lib.hid (Fr.trans (HF.out.drew) (hF1.mono (fun _ h => .inr h)))
  clear hO1 hM1 hF1
  refine AnyK.take (i := 18) rfl (by decide) (by kernel_rfl) (by kernel_rfl) (by kernel_rfl) (fun _ _ _ _ h => h) HS (fun K hK => ?_)
  go_simp
  refine hK.out _ ⟨_, by rfl, Or.inl ⟨by rfl, by intro w hSw; (try dsimp only at hSw); go_simp⟩, ?_⟩
  clear hK K
  refine AnyK.take (i := 19) rfl (by decide) (by kernel_rfl) (by kernel_rfl) (by kernel_rfl) (fun _ _ _ _ h => h) HS (fun K hK => ?_)
  go_simp
  refine hK.out _ ⟨_, by rfl, Or.inl ⟨by rfl, by intro w hSw; (try dsimp only at hSw); go_simp⟩, ?_⟩
  clear hK K
  refine AnyK.done (by kernel_rfl) ?_ _
  go_wp2_with fail
  go_ret2
  exact ⟨rfl, HO1.out, HM1.out, HF1.out⟩

set_option maxHeartbeats 4000000 in
theorem la_popEnds (w : World) (o p s : Nat) (v : OpV) (ws : List (Bool × Int)) (b : Nat) (hO : OpAt w o v) (hM : MI w p s ws b) (hb : b < 900000) (base : Nat) (hbase : v.base = base) (_hbl : base ≤ 60000) (t : Nat) (ht : v.t = t) (htl : t < 1152921504606846976) (m : Int) (hi : ws[base + 1]? = some (true, m)) :
    Calls Try.prog 91 #[.agg #[.pointer (some ⟨o, 0, none⟩)], .pointer (some ⟨p, 0, none⟩)] w (MvP w o p s v (ws.set (base + 1) (true, (t : Int) - 1)) b .nilFunc 0) := by
  obtain ⟨h1, h2⟩ := hO.ne hM
  have hol : o < w.heap.size := Blk.lt hO
  obtain ⟨hpl, hsl⟩ := hM.lt
  have hXp : w.heap.size ≠ p := by omega
  have hXs : w.heap.size ≠ s := by omega
  have hXo : w.heap.size ≠ o := by omega
  have hF0 : Fr (Thr o p s) w (w.alloc (.cells #[.pointer (some ⟨o, 0, none⟩)] 95)) := (Fr.refl _ _).alloc _
  have hX : Blk (w.alloc (.cells #[.pointer (some ⟨o, 0, none⟩)] 95)) w.heap.size 95 #[.pointer (some ⟨o, 0, none⟩)] := Blk.new _ _ _
  have hO0 : OpAt (w.alloc (.cells #[.pointer (some ⟨o, 0, none⟩)] 95)) o v := Blk.alloc hO _
  have hM0 : MI (w.alloc (.cells #[.pointer (some ⟨o, 0, none⟩)] 95)) p s ws b := hM.fr (B := fun _ => False) ((Fr.refl _ _).alloc _) (fun h => h) (fun h => h)
  have x0 : (w.alloc (.cells #[.pointer (some ⟨o, 0, none⟩)] 95)).cell? ⟨w.heap.size, 0, none⟩ = some (.pointer (some ⟨o, 0, none⟩)) := by rw [hX.cell]; rfl
  have c1 : (w.alloc (.cells #[.pointer (some ⟨o, 0, none⟩)] 95)).cell? ⟨o, 1, none⟩ = some (.int .i64 base) := by rw [← hbase]; rw [Blk.cell hO0]; rfl
  have c10 : (w.alloc (.cells #[.pointer (some ⟨o, 0, none⟩)] 95)).cell? ⟨o, 10, none⟩ = some (.int .i64 (t : Int)) := by rw [← ht]; rw [Blk.cell hO0]; rfl
  have hmf := mf_any
  have HBASE := Lib.hid hbase
  clear hbase
  have HHT := Lib.hid ht
  clear ht
  have HX := Lib.hid hX
  have HO := Lib.hid hO0
  have HM := Lib.hid hM0
  have HF := Lib.hid hF0
  clear hX hO hO0 hM hM0 hF0
  have hw : IntKind.i64.wrap ((t : Int) - 1) = (t : Int) - 1 := IntWalk.i64_in _ (by omega)
  go_enter Try.func91, Try.ntmps91
  go_wp2_with fail
  generalize hW0 : (w.alloc (.cells #[.pointer (some ⟨o, 0, none⟩)] 95)) = W0 at *
  clear hW0
  refine region_K 13 (fun w' : World => w'.cell? ⟨w.heap.size, 0, none⟩ = some (.pointer (some ⟨o, 0, none⟩)) ∧ w'.cell? ⟨o, 1, none⟩ = some (.int .i64 base) ∧ w'.cell? ⟨o, 10, none⟩ = some (.int .i64 (t : Int))) (by kernel_rfl) ?_
  have HS : (fun w' : World => w'.cell? ⟨w.heap.size, 0, none⟩ = some (.pointer (some ⟨o, 0, none⟩)) ∧ w'.cell? ⟨o, 1, none⟩ = some (.int .i64 base) ∧ w'.cell? ⟨o, 10, none⟩ = some (.int .i64 (t : Int))) (W0).drew := ⟨x0, c1, c10⟩
  refine AnyK.take (i := 0) rfl (by decide) (by kernel_rfl) (by kernel_rfl) (by kernel_rfl) (fun _ _ _ _ h => h) HS (fun K hK => ?_)
  go_simp
  refine hK.out _ ⟨_, by rfl, Or.inl ⟨by rfl, by intro w hSw; (try dsimp only at hSw); go_simp⟩, ?_⟩
  clear hK K
  refine AnyK.take (i := 1) rfl (by decide) (by kernel_rfl) (by kernel_rfl) (by kernel_rfl) (fun _ _ _ _ h => h) HS (fun K hK => ?_)
  go_simp
  refine hK.out _ ⟨_, by rfl, Or.inl ⟨by rfl, by intro w hSw; (try dsimp only at hSw); go_simp⟩, ?_⟩
  clear hK K
  refine AnyK.take (i := 2) rfl (by decide) (by kernel_rfl) (by kernel_rfl) (by kernel_rfl) (fun _ _ _ _ h => h) HS (fun K hK => ?_)
  go_simp
  refine hK.out _ ⟨_, by rfl, Or.inl ⟨by rfl, by intro w hSw; (try dsimp only at hSw); go_simp⟩, ?_⟩
  clear hK K
  refine AnyK.take (i := 4) rfl (by decide) (by kernel_rfl) (by kernel_rfl) (by kernel_rfl) (fun _ _ _ _ h => h) HS (fun K hK => ?_)
  go_simp
  refine hK.out _ ⟨_, by rfl, Or.inl ⟨by rfl, by intro w hSw; (try dsimp only at hSw); go_simp⟩, ?_⟩
  clear hK K
  refine AnyK.take (i := 5) rfl (by decide) (by kernel_rfl) (by kernel_rfl) (by kernel_rfl) (fun _ _ _ _ h => h) HS (fun K hK => ?_)
  go_simp
  refine hK.out _ ⟨_, by rfl, Or.inl ⟨by rfl, by intro w hSw; (try dsimp only at hSw); go_simp⟩, ?_⟩
  clear hK K
  refine AnyK.take (i := 6) rfl (by decide) (by kernel_rfl) (by kernel_rfl) (by kernel_rfl) (fun _ _ _ _ h => h) HS (fun K hK => ?_)
  go_simp
  refine hK.out _ ⟨_, by rfl, Or.inl ⟨by rfl, by intro w hSw; (try dsimp only at hSw); go_simp⟩, ?_⟩
  clear hK K
  refine AnyK.take (i := 7) rfl (by decide) (by kernel_rfl) (by kernel_rfl) (by kernel_rfl) (fun _ _ _ _ h => h) HS (fun K hK => ?_)
  go_simp
  refine hK.out _ ⟨_, by rfl, Or.inl ⟨by rfl, by intro w hSw; (try dsimp only at hSw); go_simp⟩, ?_⟩
  clear hK K
  refine AnyK.take (i := 8) rfl (by decide) (by kernel_rfl) (by kernel_rfl) (by kernel_rfl) (fun _ _ _ _ h => h) HS (fun K hK => ?_)
  go_simp
  refine hK.out _ ⟨_, by rfl, Or.inl ⟨by rfl, by intro w hSw; (try dsimp only at hSw); go_simp⟩, ?_⟩
  clear hK K
  refine AnyK.take (i := 9) rfl (by decide) (by kernel_rfl) (by kernel_rfl) (by kernel_rfl) (fun _ _ _ _ h => h) HS (fun K hK => ?_)
  go_simp
  refine hK.out _ ⟨_, by rfl, Or.inl ⟨by rfl, by intro w hSw; (try dsimp only at hSw); go_simp⟩, ?_⟩
  clear hK K
  refine AnyK.one (i := 3) rfl (by kernel_rfl) (fun K hK => ?_)
  go_simp
  refine (wordT_any _ o base (by omega) HS.2.1).mono ?_
  rintro e w1 ⟨rfl, rfl⟩
  refine hK.out _ _ (fun _ => HS) ?_
  clear hK K
  refine AnyK.one (i := 10) rfl (by kernel_rfl) (fun K hK => ?_)
  go_simp
  refine (store_mi HM.out.drew hb (base + 1) m ((t : Int) - 1) hi).mono ?_
  rintro e w1 ⟨rfl, hM1, hF1⟩
  have hO1 : OpAt w1 o v := OpAt.two HO.out.drew hF1 h1 h2
  have HS : (fun w' : World => w'.cell? ⟨w.heap.size, 0, none⟩ = some (.pointer (some ⟨o, 0, none⟩)) ∧ w'.cell? ⟨o, 1, none⟩ = some (.int .i64 base) ∧ w'.cell? ⟨o, 10, none⟩ = some (.int .i64 (t : Int))) w1 := ⟨hF1.held HS.1 (fun h => h.elim hXp hXs), (by rw [← HBASE.out]; rw [Blk.cell hO1]; rfl), (by rw [← HHT.out]; rw [Blk.cell hO1]; rfl)⟩
  refine hK.out _ _ (fun _ => HS) ?_
  clear hK K
  have HO1 := Lib.hid hO1
  have HM1 := Lib.hid hM1
  have HF1 := Lib.hid (Fr.trans (HF.out.drew) (hF1.mono (fun _ h => .inr h)))
  clear hO1 hM1 hF1
  refine AnyK.take (i := 11) rfl (by decide) (by kernel_rfl) (by kernel_rfl) (by kernel_rfl) (fun _ _ _ _ h => h) HS (fun K hK => ?_)
  go_simp
  refine hK.out _ ⟨_, by rfl, Or.inl ⟨by rfl, by intro w hSw; (try dsimp only at hSw); go_simp⟩, ?_⟩
  clear hK K
  refine AnyK.take (i := 12) rfl (by decide) (by kernel_rfl) (by kernel_rfl) (by kernel_rfl) (fun _ _ _ _ h => h) HS (fun K hK => ?_)
  go_simp
  refine hK.out _ ⟨_, by rfl, Or.inl ⟨by rfl, by intro w hSw; (try dsimp only at hSw); go_simp⟩, ?_⟩
  clear hK K
  refine AnyK.done (by kernel_rfl) ?_ _
  go_wp2_with fail
  go_ret2
  exact ⟨rfl, HO1.out, HM1.out, HF1.out⟩

set_option maxHeartbeats 4000000 in
theorem la_stealRaces_yes (w : World) (o p s : Nat) (v : OpV) (ws : List (Bool × Int)) (b : Nat) (hO : OpAt w o v) (hM : MI w p s ws b) (hb : b < 900000) (base : Nat) (hbase : v.base = base) (_hbl : base ≤ 60000) (t : Nat) (ht : v.t = t) (htl : t < 1152921504606846976) (m : Int) (hi : ws[base + 1]? = some (true, m)) (hm : m = v.t) :
    Calls Try.prog 94 #[.agg #[.pointer (some ⟨o, 0, none⟩)], .pointer (some ⟨p, 0, none⟩)] w (MvP w o p s v (ws.set (base + 1) (true, (t : Int) - 1)) b .nilFunc 0) := by
  obtain ⟨h1, h2⟩ := hO.ne hM
  have hol : o < w.heap.size := Blk.lt hO
  obtain ⟨hpl, hsl⟩ := hM.lt
  have hXp : w.heap.size ≠ p := by omega
  have hXs : w.heap.size ≠ s := by omega
  have hXo : w.heap.size ≠ o := by omega
  have hF0 : Fr (Thr o p s) w (w.alloc (.cells #[.pointer (some ⟨o, 0, none⟩)] 95)) := (Fr.refl _ _).alloc _
  have hX : Blk (w.alloc (.cells #[.pointer (some ⟨o, 0, none⟩)] 95)) w.heap.size 95 #[.pointer (some ⟨o, 0, none⟩)] := Blk.new _ _ _
  have hO0 : OpAt (w.alloc (.cells #[.pointer (some ⟨o, 0, none⟩)] 95)) o v := Blk.alloc hO _
  have hM0 : MI (w.alloc (.cells #[.pointer (some ⟨o, 0, none⟩)] 95)) p s ws b := hM.fr (B := fun _ => False) ((Fr.refl _ _).alloc _) (fun h => h) (fun h => h)
  have x0 : (w.alloc (.cells #[.pointer (some ⟨o, 0, none⟩)] 95)).cell? ⟨w.heap.size, 0, none⟩ = some (.pointer (some ⟨o, 0, none⟩)) := by rw [hX.cell]; rfl
  have c1 : (w.alloc (.cells #[.pointer (some ⟨o, 0, none⟩)] 95)).cell? ⟨o, 1, none⟩ = some (.int .i64 base) := by rw [← hbase]; rw [Blk.cell hO0]; rfl
  have c10 : (w.alloc (.cells #[.pointer (some ⟨o, 0, none⟩)] 95)).cell? ⟨o, 10, none⟩ = some (.int .i64 (t : Int)) := by rw [← ht]; rw [Blk.cell hO0]; rfl
  have hmf := mf_any
  have HBASE := Lib.hid hbase
  clear hbase
  have HHT := Lib.hid ht
  clear ht
  have HX := Lib.hid hX
  have HO := Lib.hid hO0
  have HM := Lib.hid hM0
  have HF := Lib.hid hF0
  clear hX hO hO0 hM hM0 hF0
  have hw : IntKind.i64.wrap ((t : Int) - 1) = (t : Int) - 1 := IntWalk.i64_in _ (by omega)
  have HMM := Lib.hid hm
  clear hm
  go_enter Try.func94, Try.ntmps94
  go_wp2_with fail
  generalize hW0 : (w.alloc (.cells #[.pointer (some ⟨o, 0, none⟩)] 95)) = W0 at *
  clear hW0
  refine region_K 14 (fun w' : World => w'.cell? ⟨w.heap.size, 0, none⟩ = some (.pointer (some ⟨o, 0, none⟩)) ∧ w'.cell? ⟨o, 1, none⟩ = some (.int .i64 base) ∧ w'.cell? ⟨o, 10, none⟩ = some (.int .i64 (t : Int))) (by kernel_rfl) ?_
  have HS : (fun w' : World => w'.cell? ⟨w.heap.size, 0, none⟩ = some (.pointer (some ⟨o, 0, none⟩)) ∧ w'.cell? ⟨o, 1, none⟩ = some (.int .i64 base) ∧ w'.cell? ⟨o, 10, none⟩ = some (.int .i64 (t : Int))) (W0).drew := ⟨x0, c1, c10⟩
  refine AnyK.take (i := 0) rfl (by decide) (by kernel_rfl) (by kernel_rfl) (by kernel_rfl) (fun _ _ _ _ h => h) HS (fun K hK => ?_)
  go_simp
  refine hK.out _ ⟨_, by rfl, Or.inl ⟨by rfl, by intro w hSw; (try dsimp only at hSw); go_simp⟩, ?_⟩
  clear hK K
  refine AnyK.take (i := 1) rfl (by decide) (by kernel_rfl) (by kernel_rfl) (by kernel_rfl) (fun _ _ _ _ h => h) HS (fun K hK => ?_)
  go_simp
  refine hK.out _ ⟨_, by rfl, Or.inl ⟨by rfl, by intro w hSw; (try dsimp only at hSw); go_simp⟩, ?_⟩
  clear hK K
  refine AnyK.take (i := 2) rfl (by decide) (by kernel_rfl) (by kernel_rfl) (by kernel_rfl) (fun _ _ _ _ h => h) HS (fun K hK => ?_)
  go_simp
  refine hK.out _ ⟨_, by rfl, Or.inl ⟨by rfl, by intro w hSw; (try dsimp only at hSw); go_simp⟩, ?_⟩
  clear hK K
  refine AnyK.take (i := 3) rfl (by decide) (by kernel_rfl) (by kernel_rfl) (by kernel_rfl) (fun _ _ _ _ h => h) HS (fun K hK => ?_)
  go_simp
  refine hK.out _ ⟨_, by rfl, Or.inl ⟨by rfl, by intro w hSw; (try dsimp only at hSw); go_simp⟩, ?_⟩
  clear hK K
  refine AnyK.take (i := 4) rfl (by decide) (by kernel_rfl) (by kernel_rfl) (by kernel_rfl) (fun _ _ _ _ h => h) HS (fun K hK => ?_)
  go_simp
  refine hK.out _ ⟨_, by rfl, Or.inl ⟨by rfl, by intro w hSw; (try dsimp only at hSw); go_simp⟩, ?_⟩
  clear hK K
  refine AnyK.take (i := 5) rfl (by decide) (by kernel_rfl) (by kernel_rfl) (by kernel_rfl) (fun _ _ _ _ h => h) HS (fun K hK => ?_)
  go_simp
  refine hK.out _ ⟨_, by rfl, Or.inl ⟨by rfl, by intro w hSw; (try dsimp only at hSw); go_simp⟩, ?_⟩
  clear hK K
  refine AnyK.take (i := 6) rfl (by decide) (by kernel_rfl) (by kernel_rfl) (by kernel_rfl) (fun _ _ _ _ h => h) HS (fun K hK => ?_)
  go_simp
  refine hK.out _ ⟨_, by rfl, Or.inl ⟨by rfl, by intro w hSw; (try dsimp only at hSw); go_simp⟩, ?_⟩
  clear hK K
  refine AnyK.take (i := 7) rfl (by decide) (by kernel_rfl) (by kernel_rfl) (by kernel_rfl) (fun _ _ _ _ h => h) HS (fun K hK => ?_)
  go_simp
  refine hK.out _ ⟨_, by rfl, Or.inl ⟨by rfl, by intro w hSw; (try dsimp only at hSw); go_simp⟩, ?_⟩
  clear hK K
  refine AnyK.take (i := 8) rfl (by decide) (by kernel_rfl) (by kernel_rfl) (by kernel_rfl) (fun _ _ _ _ h => h) HS (fun K hK => ?_)
  go_simp
  refine hK.out _ ⟨_, by rfl, Or.inl ⟨by rfl, by intro w hSw; (try dsimp only at hSw); go_simp⟩, ?_⟩
  clear hK K
  refine AnyK.one (i := 9) rfl (by kernel_rfl) (fun K hK => ?_)
  go_simp
  refine (race_yes W0.drew o p s v ws b HO.out.drew HM.out.drew hb base HBASE.out (by omega) m hi ((t : Int) - 1) HMM.out).mono ?_
  rintro e w1 ⟨rfl, hO1, hM1, hF1⟩
  have HS : (fun w' : World => w'.cell? ⟨w.heap.size, 0, none⟩ = some (.pointer (some ⟨o, 0, none⟩)) ∧ w'.cell? ⟨o, 1, none⟩ = some (.int .i64 base) ∧ w'.cell? ⟨o, 10, none⟩ = some (.int .i64 (t : Int))) w1 := ⟨hF1.held HS.1 (fun h => h.elim hXo (fun h => h.elim hXp hXs)), (by rw [← HBASE.out]; rw [Blk.cell hO1]; rfl), (by rw [← HHT.out]; rw [Blk.cell hO1]; rfl)⟩
  refine hK.out _ _ (fun _ => HS) ?_
  clear hK K
  have HO1 := Lib.hid hO1
  have HM1 := Lib.hid hM1
  have HF1 := Lib.hid (Fr.trans (HF.out.drew) hF1)
  clear hO1 hM1 hF1
  refine AnyK.take (i := 10) rfl (by decide) (by kernel_rfl) (by kernel_rfl) (by kernel_rfl) (fun _ _ _ _ h => h) HS (fun K hK => ?_)
  go_simp
  refine hK.out _ ⟨_, by rfl, Or.inl ⟨by rfl, by intro w hSw; (try dsimp only at hSw); go_simp⟩, ?_⟩
  clear hK K
  refine AnyK.take (i := 11) rfl (by decide) (by kernel_rfl) (by kernel_rfl) (by kernel_rfl) (fun _ _ _ _ h => h) HS (fun K hK => ?_)
  go_simp
  refine hK.out _ ⟨_, by rfl, Or.inl ⟨by rfl, by intro w hSw; (try dsimp only at hSw); go_simp⟩, ?_⟩
  clear hK K
  refine AnyK.take (i := 12) rfl (by decide) (by kernel_rfl) (by kernel_rfl) (by kernel_rfl) (fun _ _ _ _ h => h) HS (fun K hK => ?_)
  go_simp
  refine hK.out _ ⟨_, by rfl, Or.inl ⟨by rfl, by intro w hSw; (try dsimp only at hSw); go_simp⟩, ?_⟩
  clear hK K
  refine AnyK.take (i := 13) rfl (by decide) (by kernel_rfl) (by kernel_rfl) (by kernel_rfl) (fun _ _ _ _ h => h) HS (fun K hK => ?_)
  go_simp
  refine hK.out _ ⟨_, by rfl, Or.inl ⟨by rfl, by intro w hSw; (try dsimp only at hSw); go_simp⟩, ?_⟩
  clear hK K
  refine AnyK.done (by kernel_rfl) ?_ _
  go_wp2_with fail
  go_ret2
  exact ⟨rfl, HO1.out, HM1.out, HF1.out⟩

set_option maxHeartbeats 4000000 in
theorem la_stealRaces_no (w : World) (o p s : Nat) (v : OpV) (ws : List (Bool × Int)) (b : Nat) (hO : OpAt w o v) (hM : MI w p s ws b) (hb : b < 900000) (base : Nat) (hbase : v.base = base) (_hbl : base ≤ 60000) (t : Nat) (ht : v.t = t) (htl : t < 1152921504606846976) (m : Int) (hi : ws[base + 1]? = some (true, m)) (hm : ¬ m = v.t) :
    Calls Try.prog 94 #[.agg #[.pointer (some ⟨o, 0, none⟩)], .pointer (some ⟨p, 0, none⟩)] w (MvP w o p s v ws b .nilFunc 10) := by
  obtain ⟨h1, h2⟩ := hO.ne hM
  have hol : o < w.heap.size := Blk.lt hO
  obtain ⟨hpl, hsl⟩ := hM.lt
  have hXp : w.heap.size ≠ p := by omega
  have hXs : w.heap.size ≠ s := by omega
  have hXo : w.heap.size ≠ o := by omega
  have hF0 : Fr (Thr o p s) w (w.alloc (.cells #[.pointer (some ⟨o, 0, none⟩)] 95)) := (Fr.refl _ _).alloc _
  have hX : Blk (w.alloc (.cells #[.pointer (some ⟨o, 0, none⟩)] 95)) w.heap.size 95 #[.pointer (some ⟨o, 0, none⟩)] := Blk.new _ _ _
  have hO0 : OpAt (w.alloc (.cells #[.pointer (some ⟨o, 0, none⟩)] 95)) o v := Blk.alloc hO _
  have hM0 : MI (w.alloc (.cells #[.pointer (some ⟨o, 0, none⟩)] 95)) p s ws b := hM.fr (B := fun _ => False) ((Fr.refl _ _).alloc _) (fun h => h) (fun h => h)
  have x0 : (w.alloc (.cells #[.pointer (some ⟨o, 0, none⟩)] 95)).cell? ⟨w.heap.size, 0, none⟩ = some (.pointer (some ⟨o, 0, none⟩)) := by rw [hX.cell]; rfl
  have c1 : (w.alloc (.cells #[.pointer (some ⟨o, 0, none⟩)] 95)).cell? ⟨o, 1, none⟩ = some (.int .i64 base) := by rw [← hbase]; rw [Blk.cell hO0]; rfl
  have c10 : (w.alloc (.cells #[.pointer (some ⟨o, 0, none⟩)] 95)).cell? ⟨o, 10, none⟩ = some (.int .i64 (t : Int)) := by rw [← ht]; rw [Blk.cell hO0]; rfl
  have hmf := mf_any
  have HBASE := Lib.hid hbase
  clear hbase
  have HHT := Lib.hid ht
  clear ht
  have HX := Lib.hid hX
  have HO := Lib.hid hO0
  have HM := Lib.hid hM0
  have HF := Lib.hid hF0
  clear hX hO hO0 hM hM0 hF0
  have hw : IntKind.i64.wrap ((t : Int) - 1) = (t : Int) - 1 := IntWalk.i64_in _ (by omega)
  have HMM := Lib.hid hm
  clear hm
  go_enter Try.func94, Try.ntmps94
  go_wp2_with fail
  generalize hW0 : (w.alloc (.cells #[.pointer (some ⟨o, 0, none⟩)] 95)) = W0 at *
  clear hW0
  refine region_K 14 (fun w' : World => w'.cell? ⟨w.heap.size, 0, none⟩ = some (.pointer (some ⟨o, 0, none⟩)) ∧ w'.cell? ⟨o, 1, none⟩ = some (.int .i64 base) ∧ w'.cell? ⟨o, 10, none⟩ = some (.int .i64 (t : Int))) (by kernel_rfl) ?_
  have HS : (fun w' : World => w'.cell? ⟨w.heap.size, 0, none⟩ = some (.pointer (some ⟨o, 0, none⟩)) ∧ w'.cell? ⟨o, 1, none⟩ = some (.int .i64 base) ∧ w'.cell? ⟨o, 10, none⟩ = some (.int .i64 (t : Int))) (W0).drew := ⟨x0, c1, c10⟩
  refine AnyK.take (i := 0) rfl (by decide) (by kernel_rfl) (by kernel_rfl) (by kernel_rfl) (fun _ _ _ _ h => h) HS (fun K hK => ?_)
  go_simp
  refine hK.out _ ⟨_, by rfl, Or.inl ⟨by rfl, by intro w hSw; (try dsimp only at hSw); go_simp⟩, ?_⟩
  clear hK K
  refine AnyK.take (i := 1) rfl (by decide) (by kernel_rfl) (by kernel_rfl) (by kernel_rfl) (fun _ _ _ _ h => h) HS (fun K hK => ?_)
  go_simp
  refine hK.out _ ⟨_, by rfl, Or.inl ⟨by rfl, by intro w hSw; (try dsimp only at hSw); go_simp⟩, ?_⟩
  clear hK K
  refine AnyK.take (i := 2) rfl (by decide) (by kernel_rfl) (by kernel_rfl) (by kernel_rfl) (fun _ _ _ _ h => h) HS (fun K hK => ?_)
  go_simp
  refine hK.out _ ⟨_, by rfl, Or.inl ⟨by rfl, by intro w hSw; (try dsimp only at hSw); go_simp⟩, ?_⟩
  clear hK K
  refine AnyK.take (i := 3) rfl (by decide) (by kernel_rfl) (by kernel_rfl) (by kernel_rfl) (fun _ _ _ _ h => h) HS (fun K hK => ?_)
  go_simp
  refine hK.out _ ⟨_, by rfl, Or.inl ⟨by rfl, by intro w hSw; (try dsimp only at hSw); go_simp⟩, ?_⟩
  clear hK K
  refine AnyK.take (i := 4) rfl (by decide) (by kernel_rfl) (by kernel_rfl) (by kernel_rfl) (fun _ _ _ _ h => h) HS (fun K hK => ?_)
  go_simp
  refine hK.out _ ⟨_, by rfl, Or.inl ⟨by rfl, by intro w hSw; (try dsimp only at hSw); go_simp⟩, ?_⟩
  clear hK K
  refine AnyK.take (i := 5) rfl (by decide) (by kernel_rfl) (by kernel_rfl) (by kernel_rfl) (fun _ _ _ _ h => h) HS (fun K hK => ?_)
  go_simp
  refine hK.out _ ⟨_, by rfl, Or.inl ⟨by rfl, by intro w hSw; (try dsimp only at hSw); go_simp⟩, ?_⟩
  clear hK K
  refine AnyK.take (i := 6) rfl (by decide) (by kernel_rfl) (by kernel_rfl) (by kernel_rfl) (fun _ _ _ _ h => h) HS (fun K hK => ?_)
  go_simp
  refine hK.out _ ⟨_, by rfl, Or.inl ⟨by rfl, by intro w hSw; (try dsimp only at hSw); go_simp⟩, ?_⟩
  clear hK K
  refine AnyK.take (i := 7) rfl (by decide) (by kernel_rfl) (by kernel_rfl) (by kernel_rfl) (fun _ _ _ _ h => h) HS (fun K hK => ?_)
  go_simp
  refine hK.out _ ⟨_, by rfl, Or.inl ⟨by rfl, by intro w hSw; (try dsimp only at hSw); go_simp⟩, ?_⟩
  clear hK K
  refine AnyK.take (i := 8) rfl (by decide) (by kernel_rfl) (by kernel_rfl) (by kernel_rfl) (fun _ _ _ _ h => h) HS (fun K hK => ?_)
  go_simp
  refine hK.out _ ⟨_, by rfl, Or.inl ⟨by rfl, by intro w hSw; (try dsimp only at hSw); go_simp⟩, ?_⟩
  clear hK K
  refine AnyK.one (i := 9) rfl (by kernel_rfl) (fun K hK => ?_)
  go_simp
  refine (race_no W0.drew o p s v ws b HO.out.drew HM.out.drew hb base HBASE.out (by omega) m hi ((t : Int) - 1) HMM.out).mono ?_
  rintro e w1 ⟨rfl, hO1, hM1, hF1⟩
  have HS : (fun w' : World => w'.cell? ⟨w.heap.size, 0, none⟩ = some (.pointer (some ⟨o, 0, none⟩)) ∧ w'.cell? ⟨o, 1, none⟩ = some (.int .i64 base) ∧ w'.cell? ⟨o, 10, none⟩ = some (.int .i64 (t : Int))) w1 := ⟨hF1.held HS.1 (fun h => h.elim hXo (fun h => h.elim hXp hXs)), (by rw [← HBASE.out]; rw [Blk.cell hO1]; rfl), (by rw [← HHT.out]; rw [Blk.cell hO1]; rfl)⟩
  refine hK.out _ _ (fun _ => HS) ?_
  clear hK K
  have HO1 := Lib.hid hO1
  have HM1 := Lib.hid hM1
  have HF1 := Lib.hid (Fr.trans (HF.out.drew) hF1)
  clear hO1 hM1 hF1
  refine AnyK.take (i := 10) rfl (by decide) (by kernel_rfl) (by kernel_rfl) (by kernel_rfl) (fun _ _ _ _ h => h) HS (fun K hK => ?_)
  go_simp
  refine hK.out _ ⟨_, by rfl, Or.inl ⟨by rfl, by intro w hSw; (try dsimp only at hSw); go_simp⟩, ?_⟩
  clear hK K
  refine AnyK.take (i := 11) rfl (by decide) (by kernel_rfl) (by kernel_rfl) (by kernel_rfl) (fun _ _ _ _ h => h) HS (fun K hK => ?_)
  go_simp
  refine hK.out _ ⟨_, by rfl, Or.inl ⟨by rfl, by intro w hSw; (try dsimp only at hSw); go_simp⟩, ?_⟩
  clear hK K
  refine AnyK.take (i := 12) rfl (by decide) (by kernel_rfl) (by kernel_rfl) (by kernel_rfl) (fun _ _ _ _ h => h) HS (fun K hK => ?_)
  go_simp
  refine hK.out _ ⟨_, by rfl, Or.inl ⟨by rfl, by intro w hSw; (try dsimp only at hSw); go_simp⟩, ?_⟩
  clear hK K
  refine AnyK.take (i := 13) rfl (by decide) (by kernel_rfl) (by kernel_rfl) (by kernel_rfl) (fun _ _ _ _ h => h) HS (fun K hK => ?_)
  go_simp
  refine hK.out _ ⟨_, by rfl, Or.inl ⟨by rfl, by intro w hSw; (try dsimp only at hSw); go_simp⟩, ?_⟩
  clear hK K
  refine AnyK.done (by kernel_rfl) ?_ _
  go_wp2_with fail
  go_ret2
  exact ⟨rfl, HO1.out, HM1.out, HF1.out⟩

set_option maxHeartbeats 4000000 in
theorem la_takeLooks_go (w : World) (o p s : Nat) (v : OpV) (ws : List (Bool × Int)) (b : Nat) (hO : OpAt w o v) (hM : MI w p s ws b) (hb : b < 900000) (base : Nat) (hbase : v.base = base) (_hbl : base ≤ 60000) (t : Nat) (htl : t < 1152921504606846976) (q : Nat) (hq : t % 65536 = q) (hi : ws[base + 1]? = some (true, (t : Int))) (hm : ¬ q = 0) :
    Calls Try.prog 92 #[.agg #[.pointer (some ⟨o, 0, none⟩)], .pointer (some ⟨p, 0, none⟩)] w (MvP w o p s { v with t := (t : Int) } ws b (mv 95 o) 0) := by
  obtain ⟨h1, h2⟩ := hO.ne hM
  have hol : o < w.heap.size := Blk.lt hO
  obtain ⟨hpl, hsl⟩ := hM.lt
  have hXp : w.heap.size ≠ p := by omega
  have hXs : w.heap.size ≠ s := by omega
  have hXo : w.heap.size ≠ o := by omega
  have hF0 : Fr (Thr o p s) w (w.alloc (.cells #[.pointer (some ⟨o, 0, none⟩)] 95)) := (Fr.refl _ _).alloc _
  have hX : Blk (w.alloc (.cells #[.pointer (some ⟨o, 0, none⟩)] 95)) w.heap.size 95 #[.pointer (some ⟨o, 0, none⟩)] := Blk.new _ _ _
  have hO0 : OpAt (w.alloc (.cells #[.pointer (some ⟨o, 0, none⟩)] 95)) o v := Blk.alloc hO _
  have hM0 : MI (w.alloc (.cells #[.pointer (some ⟨o, 0, none⟩)] 95)) p s ws b := hM.fr (B := fun _ => False) ((Fr.refl _ _).alloc _) (fun h => h) (fun h => h)
  have x0 : (w.alloc (.cells #[.pointer (some ⟨o, 0, none⟩)] 95)).cell? ⟨w.heap.size, 0, none⟩ = some (.pointer (some ⟨o, 0, none⟩)) := by rw [hX.cell]; rfl
  have c1 : (w.alloc (.cells #[.pointer (some ⟨o, 0, none⟩)] 95)).cell? ⟨o, 1, none⟩ = some (.int .i64 base) := by rw [← hbase]; rw [Blk.cell hO0]; rfl
  have c10 : (w.alloc (.cells #[.pointer (some ⟨o, 0, none⟩)] 95)).cell? ⟨o, 10, none⟩ = some (.int .i64 v.t) := by rw [Blk.cell hO0]; rfl
  have hmf := mf_any
  have HBASE := Lib.hid hbase
  clear hbase
  have HX := Lib.hid hX
  have HO := Lib.hid hO0
  have HM := Lib.hid hM0
  have HF := Lib.hid hF0
  clear hX hO hO0 hM hM0 hF0
  have hd : ((q : Int) == 0) = false := by simp; omega
  have hd2 : (q == 0) = false := by simp; omega
  have HQ := Lib.hid hq
  clear hq
  clear hm
  go_enter Try.func92, Try.ntmps92
  go_wp2_with fail
  refine (wordT_any _ o base (by omega) c1).mono ?_
  rintro e w1 ⟨rfl, rfl⟩
  go_wp2_with fail
  refine (load_mi HM.out hb (base + 1) (t : Int) hi).mono ?_
  rintro e w1 ⟨rfl, hM1, hF1⟩
  have hO1 : OpAt w1 o v := Blk.fr HO.out hF1 (fun h => h.elim h1 h2)
  have xx := hF1.held x0 (fun h => h.elim hXp hXs)
  have d1 : w1.cell? ⟨o, 1, none⟩ = some (.int .i64 base) := hF1.held c1 (fun h => h.elim h1 h2)
  have d10 : w1.cell? ⟨o, 10, none⟩ = some (.int .i64 v.t) := hF1.held c10 (fun h => h.elim h1 h2)
  have f10 := Blk.frozen hO1 10
  have HO1 := Lib.hid hO1
  have HM1 := Lib.hid hM1
  have HF1 := Lib.hid (HF.out.trans (hF1.mono (fun _ h => .inr h)))
  clear hO1 hM1 hF1
  go_wp2_with fail
  refine (place_q _ t q htl HQ.out).mono ?_
  rintro e w1 ⟨rfl, rfl⟩
  go_wp2_with fail
  refine (behind_ok _ _).mono ?_
  rintro e w1 ⟨rfl, rfl⟩
  go_wp2_with fail
  go_ret2
  have hFs : Fr (fun k => k = o) w1 (w1.setCell ⟨o, 10, none⟩ (.int .i64 (t : Int))) := (Fr.refl (fun k => k = o) w1).setCell (p := ⟨o, 10, none⟩) (.inl rfl) _
  exact ⟨rfl, Blk.set_ HO1.out 10 _, HM1.out.fr hFs (fun h => h1 h.symm) (fun h => h2 h.symm), HF1.out.trans (hFs.mono (fun _ h => .inl h))⟩

set_option maxHeartbeats 4000000 in
theorem la_pop_go (w : World) (o p s : Nat) (v : OpV) (ws : List (Bool × Int)) (b : Nat) (hO : OpAt w o v) (hM : MI w p s ws b) (hb : b < 900000) (base : Nat) (hbase : v.base = base) (_hbl : base ≤ 60000) (t : Nat) (htl : t < 1152921504606846976) (q : Nat) (hq : t % 65536 = q) (hi : ws[base + 1]? = some (true, (t : Int))) (hm : ¬ q = 0) :
    Calls Try.prog 88 #[.agg #[.pointer (some ⟨o, 0, none⟩)], .pointer (some ⟨p, 0, none⟩)] w (MvP w o p s { v with final := mv 91 o, t := (t : Int) } ws b (mv 95 o) 0) := by
  obtain ⟨h1, h2⟩ := hO.ne hM
  have hol : o < w.heap.size := Blk.lt hO
  obtain ⟨hpl, hsl⟩ := hM.lt
  have hXp : w.heap.size ≠ p := by omega
  have hXs : w.heap.size ≠ s := by omega
  have hXo : w.heap.size ≠ o := by omega
  have hF0 : Fr (Thr o p s) w (w.alloc (.cells #[.pointer (some ⟨o, 0, none⟩)] 95)) := (Fr.refl _ _).alloc _
  have hX : Blk (w.alloc (.cells #[.pointer (some ⟨o, 0, none⟩)] 95)) w.heap.size 95 #[.pointer (some ⟨o, 0, none⟩)] := Blk.new _ _ _
  have hO0 : OpAt (w.alloc (.cells #[.pointer (some ⟨o, 0, none⟩)] 95)) o v := Blk.alloc hO _
  have hM0 : MI (w.alloc (.cells #[.pointer (some ⟨o, 0, none⟩)] 95)) p s ws b := hM.fr (B := fun _ => False) ((Fr.refl _ _).alloc _) (fun h => h) (fun h => h)
  have x0 : (w.alloc (.cells #[.pointer (some ⟨o, 0, none⟩)] 95)).cell? ⟨w.heap.size, 0, none⟩ = some (.pointer (some ⟨o, 0, none⟩)) := by rw [hX.cell]; rfl
  have c1 : (w.alloc (.cells #[.pointer (some ⟨o, 0, none⟩)] 95)).cell? ⟨o, 1, none⟩ = some (.int .i64 base) := by rw [← hbase]; rw [Blk.cell hO0]; rfl
  have c4 : (w.alloc (.cells #[.pointer (some ⟨o, 0, none⟩)] 95)).cell? ⟨o, 4, none⟩ = some (v.final) := by rw [Blk.cell hO0]; rfl
  have hmf := mf_any
  have HBASE := Lib.hid hbase
  clear hbase
  have HX := Lib.hid hX
  have HOW := Lib.hid hO
  have HMW := Lib.hid hM
  have HO := Lib.hid hO0
  have HM := Lib.hid hM0
  have HF := Lib.hid hF0
  clear hX hO hO0 hM hM0 hF0
  have f4 := Blk.frozen HO.out 4
  go_enter Try.func88, Try.ntmps88
  go_wp2_with fail
  have hFs : Fr (Thr o p s) w ((w.setCell ⟨o, 4, none⟩ (mv 91 o)).alloc (.cells #[.pointer (some ⟨o, 0, none⟩)] 95)) := ((Fr.refl (Thr o p s) w).setCell (p := ⟨o, 4, none⟩) (.inl (.inl rfl)) _).alloc _
  have hOs : OpAt ((w.setCell ⟨o, 4, none⟩ (mv 91 o)).alloc (.cells #[.pointer (some ⟨o, 0, none⟩)] 95)) o { v with final := mv 91 o } := Blk.alloc (Blk.set_ HOW.out 4 _) _
  have hMs : MI ((w.setCell ⟨o, 4, none⟩ (mv 91 o)).alloc (.cells #[.pointer (some ⟨o, 0, none⟩)] 95)) p s ws b := HMW.out.fr (B := fun k => k = o) (((Fr.refl (fun k => k = o) w).setCell (p := ⟨o, 4, none⟩) (.inl rfl) _).alloc _) (fun h => h1 h.symm) (fun h => h2 h.symm)
  refine (la_takeLooks_go _ o p s { v with final := mv 91 o } ws b hOs hMs hb base HBASE.out _hbl t htl q hq hi hm).mono ?_
  rintro e w1 ⟨rfl, hO1, hM1, hF1⟩
  have HO1 := Lib.hid hO1
  have HM1 := Lib.hid hM1
  have HF1 := Lib.hid (hFs.trans hF1)
  clear hO1 hM1 hF1 hFs hOs hMs
  go_wp2_with fail
  go_ret2
  exact ⟨rfl, HO1.out, HM1.out, HF1.out⟩

set_option maxHeartbeats 4000000 in
theorem la_steal_go (w : World) (o p s : Nat) (v : OpV) (ws : List (Bool × Int)) (b : Nat) (hO : OpAt w o v) (hM : MI w p s ws b) (hb : b < 900000) (base : Nat) (hbase : v.base = base) (_hbl : base ≤ 60000) (t : Nat) (htl : t < 1152921504606846976) (q : Nat) (hq : t % 65536 = q) (hi : ws[base + 1]? = some (true, (t : Int))) (hm : ¬ q = 0) :
    Calls Try.prog 90 #[.agg #[.pointer (some ⟨o, 0, none⟩)], .pointer (some ⟨p, 0, none⟩)] w (MvP w o p s { v with final := mv 94 o, t := (t : Int) } ws b (mv 95 o) 0) := by
  obtain ⟨h1, h2⟩ := hO.ne hM
  have hol : o < w.heap.size := Blk.lt hO
  obtain ⟨hpl, hsl⟩ := hM.lt
  have hXp : w.heap.size ≠ p := by omega
  have hXs : w.heap.size ≠ s := by omega
  have hXo : w.heap.size ≠ o := by omega
  have hF0 : Fr (Thr o p s) w (w.alloc (.cells #[.pointer (some ⟨o, 0, none⟩)] 95)) := (Fr.refl _ _).alloc _
  have hX : Blk (w.alloc (.cells #[.pointer (some ⟨o, 0, none⟩)] 95)) w.heap.size 95 #[.pointer (some ⟨o, 0, none⟩)] := Blk.new _ _ _
  have hO0 : OpAt (w.alloc (.cells #[.pointer (some ⟨o, 0, none⟩)] 95)) o v := Blk.alloc hO _
  have hM0 : MI (w.alloc (.cells #[.pointer (some ⟨o, 0, none⟩)] 95)) p s ws b := hM.fr (B := fun _ => False) ((Fr.refl _ _).alloc _) (fun h => h) (fun h => h)
  have x0 : (w.alloc (.cells #[.pointer (some ⟨o, 0, none⟩)] 95)).cell? ⟨w.heap.size, 0, none⟩ = some (.pointer (some ⟨o, 0, none⟩)) := by rw [hX.cell]; rfl
  have c1 : (w.alloc (.cells #[.pointer (some ⟨o, 0, none⟩)] 95)).cell? ⟨o, 1, none⟩ = some (.int .i64 base) := by rw [← hbase]; rw [Blk.cell hO0]; rfl
  have c4 : (w.alloc (.cells #[.pointer (some ⟨o, 0, none⟩)] 95)).cell? ⟨o, 4, none⟩ = some (v.final) := by rw [Blk.cell hO0]; rfl
  have hmf := mf_any
  have HBASE := Lib.hid hbase
  clear hbase
  have HX := Lib.hid hX
  have HOW := Lib.hid hO
  have HMW := Lib.hid hM
  have HO := Lib.hid hO0
  have HM := Lib.hid hM0
  have HF := Lib.hid hF0
  clear hX hO hO0 hM hM0 hF0
  have f4 := Blk.frozen HO.out 4
  go_enter Try.func90, Try.ntmps90
  go_wp2_with fail
  have hFs : Fr (Thr o p s) w ((w.setCell ⟨o, 4, none⟩ (mv 94 o)).alloc (.cells #[.pointer (some ⟨o, 0, none⟩)] 95)) := ((Fr.refl (Thr o p s) w).setCell (p := ⟨o, 4, none⟩) (.inl (.inl rfl)) _).alloc _
  have hOs : OpAt ((w.setCell ⟨o, 4, none⟩ (mv 94 o)).alloc (.cells #[.pointer (some ⟨o, 0, none⟩)] 95)) o { v with final := mv 94 o } := Blk.alloc (Blk.set_ HOW.out 4 _) _
  have hMs : MI ((w.setCell ⟨o, 4, none⟩ (mv 94 o)).alloc (.cells #[.pointer (some ⟨o, 0, none⟩)] 95)) p s ws b := HMW.out.fr (B := fun k => k = o) (((Fr.refl (fun k => k = o) w).setCell (p := ⟨o, 4, none⟩) (.inl rfl) _).alloc _) (fun h => h1 h.symm) (fun h => h2 h.symm)
  refine (la_takeLooks_go _ o p s { v with final := mv 94 o } ws b hOs hMs hb base HBASE.out _hbl t htl q hq hi hm).mono ?_
  rintro e w1 ⟨rfl, hO1, hM1, hF1⟩
  have HO1 := Lib.hid hO1
  have HM1 := Lib.hid hM1
  have HF1 := Lib.hid (hFs.trans hF1)
  clear hO1 hM1 hF1 hFs hOs hMs
  go_wp2_with fail
  go_ret2
  exact ⟨rfl, HO1.out, HM1.out, HF1.out⟩

set_option maxHeartbeats 4000000 in
theorem la_takeLooks_empty (w : World) (o p s : Nat) (v : OpV) (ws : List (Bool × Int)) (b : Nat) (hO : OpAt w o v) (hM : MI w p s ws b) (hb : b < 900000) (base : Nat) (hbase : v.base = base) (_hbl : base ≤ 60000) (t : Nat) (htl : t < 1152921504606846976) (q : Nat) (hq : t % 65536 = q) (hi : ws[base + 1]? = some (true, (t : Int))) (hm : q = 0) :
    Calls Try.prog 92 #[.agg #[.pointer (some ⟨o, 0, none⟩)], .pointer (some ⟨p, 0, none⟩)] w (MvP w o p s { v with t := (t : Int) } ws b .nilFunc 9) := by
  obtain ⟨h1, h2⟩ := hO.ne hM
  have hol : o < w.heap.size := Blk.lt hO
  obtain ⟨hpl, hsl⟩ := hM.lt
  have hXp : w.heap.size ≠ p := by omega
  have hXs : w.heap.size ≠ s := by omega
  have hXo : w.heap.size ≠ o := by omega
  have hF0 : Fr (Thr o p s) w (w.alloc (.cells #[.pointer (some ⟨o, 0, none⟩)] 95)) := (Fr.refl _ _).alloc _
  have hX : Blk (w.alloc (.cells #[.pointer (some ⟨o, 0, none⟩)] 95)) w.heap.size 95 #[.pointer (some ⟨o, 0, none⟩)] := Blk.new _ _ _
  have hO0 : OpAt (w.alloc (.cells #[.pointer (some ⟨o, 0, none⟩)] 95)) o v := Blk.alloc hO _
  have hM0 : MI (w.alloc (.cells #[.pointer (some ⟨o, 0, none⟩)] 95)) p s ws b := hM.fr (B := fun _ => False) ((Fr.refl _ _).alloc _) (fun h => h) (fun h => h)
  have x0 : (w.alloc (.cells #[.pointer (some ⟨o, 0, none⟩)] 95)).cell? ⟨w.heap.size, 0, none⟩ = some (.pointer (some ⟨o, 0, none⟩)) := by rw [hX.cell]; rfl
  have c1 : (w.alloc (.cells #[.pointer (some ⟨o, 0, none⟩)] 95)).cell? ⟨o, 1, none⟩ = some (.int .i64 base) := by rw [← hbase]; rw [Blk.cell hO0]; rfl
  have c10 : (w.alloc (.cells #[.pointer (some ⟨o, 0, none⟩)] 95)).cell? ⟨o, 10, none⟩ = some (.int .i64 v.t) := by rw [Blk.cell hO0]; rfl
  have hmf := mf_any
  have HBASE := Lib.hid hbase
  clear hbase
  have HX := Lib.hid hX
  have HO := Lib.hid hO0
  have HM := Lib.hid hM0
  have HF := Lib.hid hF0
  clear hX hO hO0 hM hM0 hF0
  have hd : ((q : Int) == 0) = true := by simp; omega
  have hd2 : (q == 0) = true := by simp; omega
  have HQ := Lib.hid hq
  clear hq
  clear hm
  go_enter Try.func92, Try.ntmps92
  go_wp2_with fail
  refine (wordT_any _ o base (by omega) c1).mono ?_
  rintro e w1 ⟨rfl, rfl⟩
  go_wp2_with fail
  refine (load_mi HM.out hb (base + 1) (t : Int) hi).mono ?_
  rintro e w1 ⟨rfl, hM1, hF1⟩
  have hO1 : OpAt w1 o v := Blk.fr HO.out hF1 (fun h => h.elim h1 h2)
  have xx := hF1.held x0 (fun h => h.elim hXp hXs)
  have d1 : w1.cell? ⟨o, 1, none⟩ = some (.int .i64 base) := hF1.held c1 (fun h => h.elim h1 h2)
  have d10 : w1.cell? ⟨o, 10, none⟩ = some (.int .i64 v.t) := hF1.held c10 (fun h => h.elim h1 h2)
  have f10 := Blk.frozen hO1 10
  have HO1 := Lib.hid hO1
  have HM1 := Lib.hid hM1
  have HF1 := Lib.hid (HF.out.trans (hF1.mono (fun _ h => .inr h)))
  clear hO1 hM1 hF1
  go_wp2_with fail
  refine (place_q _ t q htl HQ.out).mono ?_
  rintro e w1 ⟨rfl, rfl⟩
  go_wp2_with fail
  refine (behind_er _ 9 (by decide) _).mono ?_
  rintro e w1 ⟨rfl, rfl⟩
  go_wp2_with fail
  go_ret2
  have hFs : Fr (fun k => k = o) w1 (w1.setCell ⟨o, 10, none⟩ (.int .i64 (t : Int))) := (Fr.refl (fun k => k = o) w1).setCell (p := ⟨o, 10, none⟩) (.inl rfl) _
  exact ⟨rfl, Blk.set_ HO1.out 10 _, HM1.out.fr hFs (fun h => h1 h.symm) (fun h => h2 h.symm), HF1.out.trans (hFs.mono (fun _ h => .inl h))⟩

set_option maxHeartbeats 4000000 in
theorem la_pop_empty (w : World) (o p s : Nat) (v : OpV) (ws : List (Bool × Int)) (b : Nat) (hO : OpAt w o v) (hM : MI w p s ws b) (hb : b < 900000) (base : Nat) (hbase : v.base = base) (_hbl : base ≤ 60000) (t : Nat) (htl : t < 1152921504606846976) (q : Nat) (hq : t % 65536 = q) (hi : ws[base + 1]? = some (true, (t : Int))) (hm : q = 0) :
    Calls Try.prog 88 #[.agg #[.pointer (some ⟨o, 0, none⟩)], .pointer (some ⟨p, 0, none⟩)] w (MvP w o p s { v with final := mv 91 o, t := (t : Int) } ws b .nilFunc 9) := by
  obtain ⟨h1, h2⟩ := hO.ne hM
  have hol : o < w.heap.size := Blk.lt hO
  obtain ⟨hpl, hsl⟩ := hM.lt
  have hXp : w.heap.size ≠ p := by omega
  have hXs : w.heap.size ≠ s := by omega
  have hXo : w.heap.size ≠ o := by omega
  have hF0 : Fr (Thr o p s) w (w.alloc (.cells #[.pointer (some ⟨o, 0, none⟩)] 95)) := (Fr.refl _ _).alloc _
  have hX : Blk (w.alloc (.cells #[.pointer (some ⟨o, 0, none⟩)] 95)) w.heap.size 95 #[.pointer (some ⟨o, 0, none⟩)] := Blk.new _ _ _
  have hO0 : OpAt (w.alloc (.cells #[.pointer (some ⟨o, 0, none⟩)] 95)) o v := Blk.alloc hO _
  have hM0 : MI (w.alloc (.cells #[.pointer (some ⟨o, 0, none⟩)] 95)) p s ws b := hM.fr (B := fun _ => False) ((Fr.refl _ _).alloc _) (fun h => h) (fun h => h)
  have x0 : (w.alloc (.cells #[.pointer (some ⟨o, 0, none⟩)] 95)).cell? ⟨w.heap.size, 0, none⟩ = some (.pointer (some ⟨o, 0, none⟩)) := by rw [hX.cell]; rfl
  have c1 : (w.alloc (.cells #[.pointer (some ⟨o, 0, none⟩)] 95)).cell? ⟨o, 1, none⟩ = some (.int .i64 base) := by rw [← hbase]; rw [Blk.cell hO0]; rfl
  have c4 : (w.alloc (.cells #[.pointer (some ⟨o, 0, none⟩)] 95)).cell? ⟨o, 4, none⟩ = some (v.final) := by rw [Blk.cell hO0]; rfl
  have hmf := mf_any
  have HBASE := Lib.hid hbase
  clear hbase
  have HX := Lib.hid hX
  have HOW := Lib.hid hO
  have HMW := Lib.hid hM
  have HO := Lib.hid hO0
  have HM := Lib.hid hM0
  have HF := Lib.hid hF0
  clear hX hO hO0 hM hM0 hF0
  have f4 := Blk.frozen HO.out 4
  go_enter Try.func88, Try.ntmps88
  go_wp2_with fail
  have hFs : Fr (Thr o p s) w ((w.setCell ⟨o, 4, none⟩ (mv 91 o)).alloc (.cells #[.pointer (some ⟨o, 0, none⟩)] 95)) := ((Fr.refl (Thr o p s) w).setCell (p := ⟨o, 4, none⟩) (.inl (.inl rfl)) _).alloc _
  have hOs : OpAt ((w.setCell ⟨o, 4, none⟩ (mv 91 o)).alloc (.cells #[.pointer (some ⟨o, 0, none⟩)] 95)) o { v with final := mv 91 o } := Blk.alloc (Blk.set_ HOW.out 4 _) _
  have hMs : MI ((w.setCell ⟨o, 4, none⟩ (mv 91 o)).alloc (.cells #[.pointer (some ⟨o, 0, none⟩)] 95)) p s ws b := HMW.out.fr (B := fun k => k = o) (((Fr.refl (fun k => k = o) w).setCell (p := ⟨o, 4, none⟩) (.inl rfl) _).alloc _) (fun h => h1 h.symm) (fun h => h2 h.symm)
  refine (la_takeLooks_empty _ o p s { v with final := mv 91 o } ws b hOs hMs hb base HBASE.out _hbl t htl q hq hi hm).mono ?_
  rintro e w1 ⟨rfl, hO1, hM1, hF1⟩
  have HO1 := Lib.hid hO1
  have HM1 := Lib.hid hM1
  have HF1 := Lib.hid (hFs.trans hF1)
  clear hO1 hM1 hF1 hFs hOs hMs
  go_wp2_with fail
  go_ret2
  exact ⟨rfl, HO1.out, HM1.out, HF1.out⟩

set_option maxHeartbeats 4000000 in
theorem la_steal_empty (w : World) (o p s : Nat) (v : OpV) (ws : List (Bool × Int)) (b : Nat) (hO : OpAt w o v) (hM : MI w p s ws b) (hb : b < 900000) (base : Nat) (hbase : v.base = base) (_hbl : base ≤ 60000) (t : Nat) (htl : t < 1152921504606846976) (q : Nat) (hq : t % 65536 = q) (hi : ws[base + 1]? = some (true, (t : Int))) (hm : q = 0) :
    Calls Try.prog 90 #[.agg #[.pointer (some ⟨o, 0, none⟩)], .pointer (some ⟨p, 0, none⟩)] w (MvP w o p s { v with final := mv 94 o, t := (t : Int) } ws b .nilFunc 9) := by
  obtain ⟨h1, h2⟩ := hO.ne hM
  have hol : o < w.heap.size := Blk.lt hO
  obtain ⟨hpl, hsl⟩ := hM.lt
  have hXp : w.heap.size ≠ p := by omega
  have hXs : w.heap.size ≠ s := by omega
  have hXo : w.heap.size ≠ o := by omega
  have hF0 : Fr (Thr o p s) w (w.alloc (.cells #[.pointer (some ⟨o, 0, none⟩)] 95)) := (Fr.refl _ _).alloc _
  have hX : Blk (w.alloc (.cells #[.pointer (some ⟨o, 0, none⟩)] 95)) w.heap.size 95 #[.pointer (some ⟨o, 0, none⟩)] := Blk.new _ _ _
  have hO0 : OpAt (w.alloc (.cells #[.pointer (some ⟨o, 0, none⟩)] 95)) o v := Blk.alloc hO _
  have hM0 : MI (w.alloc (.cells #[.pointer (some ⟨o, 0, none⟩)] 95)) p s ws b := hM.fr (B := fun _ => False) ((Fr.refl _ _).alloc _) (fun h => h) (fun h => h)
  have x0 : (w.alloc (.cells #[.pointer (some ⟨o, 0, none⟩)] 95)).cell? ⟨w.heap.size, 0, none⟩ = some (.pointer (some ⟨o, 0, none⟩)) := by rw [hX.cell]; rfl
  have c1 : (w.alloc (.cells #[.pointer (some ⟨o, 0, none⟩)] 95)).cell? ⟨o, 1, none⟩ = some (.int .i64 base) := by rw [← hbase]; rw [Blk.cell hO0]; rfl
  have c4 : (w.alloc (.cells #[.pointer (some ⟨o, 0, none⟩)] 95)).cell? ⟨o, 4, none⟩ = some (v.final) := by rw [Blk.cell hO0]; rfl
  have hmf := mf_any
  have HBASE := Lib.hid hbase
  clear hbase
  have HX := Lib.hid hX
  have HOW := Lib.hid hO
  have HMW := Lib.hid hM
  have HO := Lib.hid hO0
  have HM := Lib.hid hM0
  have HF := Lib.hid hF0
  clear hX hO hO0 hM hM0 hF0
  have f4 := Blk.frozen HO.out 4
  go_enter Try.func90, Try.ntmps90
  go_wp2_with fail
  have hFs : Fr (Thr o p s) w ((w.setCell ⟨o, 4, none⟩ (mv 94 o)).alloc (.cells #[.pointer (some ⟨o, 0, none⟩)] 95)) := ((Fr.refl (Thr o p s) w).setCell (p := ⟨o, 4, none⟩) (.inl (.inl rfl)) _).alloc _
  have hOs : OpAt ((w.setCell ⟨o, 4, none⟩ (mv 94 o)).alloc (.cells #[.pointer (some ⟨o, 0, none⟩)] 95)) o { v with final := mv 94 o } := Blk.alloc (Blk.set_ HOW.out 4 _) _
  have hMs : MI ((w.setCell ⟨o, 4, none⟩ (mv 94 o)).alloc (.cells #[.pointer (some ⟨o, 0, none⟩)] 95)) p s ws b := HMW.out.fr (B := fun k => k = o) (((Fr.refl (fun k => k = o) w).setCell (p := ⟨o, 4, none⟩) (.inl rfl) _).alloc _) (fun h => h1 h.symm) (fun h => h2 h.symm)
  refine (la_takeLooks_empty _ o p s { v with final := mv 94 o } ws b hOs hMs hb base HBASE.out _hbl t htl q hq hi hm).mono ?_
  rintro e w1 ⟨rfl, hO1, hM1, hF1⟩
  have HO1 := Lib.hid hO1
  have HM1 := Lib.hid hM1
  have HF1 := Lib.hid (hFs.trans hF1)
  clear hO1 hM1 hF1 hFs hOs hMs
  go_wp2_with fail
  go_ret2
  exact ⟨rfl, HO1.out, HM1.out, HF1.out⟩

set_option maxHeartbeats 4000000 in
theorem la_takeFinds (w : World) (o p s : Nat) (v : OpV) (ws : List (Bool × Int)) (b : Nat) (hO : OpAt w o v) (hM : MI w p s ws b) (hb : b < 900000) (base : Nat) (hbase : v.base = base) (_hbl : base ≤ 60000) (t : Nat) (ht : v.t = t) (htl : t < 1152921504606846976) (q : Nat) (hq : t % 65536 = q) (j : Nat) (hj : j + 1 = q) (n : Int) (hi : ws[base + 2 + j]? = some (true, n)) :
    Calls Try.prog 95 #[.agg #[.pointer (some ⟨o, 0, none⟩)], .pointer (some ⟨p, 0, none⟩)] w (MvP w o p s { v with num := n } ws b v.final 0) := by
  obtain ⟨h1, h2⟩ := hO.ne hM
  have hol : o < w.heap.size := Blk.lt hO
  obtain ⟨hpl, hsl⟩ := hM.lt
  have hXp : w.heap.size ≠ p := by omega
  have hXs : w.heap.size ≠ s := by omega
  have hXo : w.heap.size ≠ o := by omega
  have hF0 : Fr (Thr o p s) w (w.alloc (.cells #[.pointer (some ⟨o, 0, none⟩)] 95)) := (Fr.refl _ _).alloc _
  have hX : Blk (w.alloc (.cells #[.pointer (some ⟨o, 0, none⟩)] 95)) w.heap.size 95 #[.pointer (some ⟨o, 0, none⟩)] := Blk.new _ _ _
  have hO0 : OpAt (w.alloc (.cells #[.pointer (some ⟨o, 0, none⟩)] 95)) o v := Blk.alloc hO _
  have hM0 : MI (w.alloc (.cells #[.pointer (some ⟨o, 0, none⟩)] 95)) p s ws b := hM.fr (B := fun _ => False) ((Fr.refl _ _).alloc _) (fun h => h) (fun h => h)
  have x0 : (w.alloc (.cells #[.pointer (some ⟨o, 0, none⟩)] 95)).cell? ⟨w.heap.size, 0, none⟩ = some (.pointer (some ⟨o, 0, none⟩)) := by rw [hX.cell]; rfl
  have c1 : (w.alloc (.cells #[.pointer (some ⟨o, 0, none⟩)] 95)).cell? ⟨o, 1, none⟩ = some (.int .i64 base) := by rw [← hbase]; rw [Blk.cell hO0]; rfl
  have c10 : (w.alloc (.cells #[.pointer (some ⟨o, 0, none⟩)] 95)).cell? ⟨o, 10, none⟩ = some (.int .i64 (t : Int)) := by rw [← ht]; rw [Blk.cell hO0]; rfl
  have c4 : (w.alloc (.cells #[.pointer (some ⟨o, 0, none⟩)] 95)).cell? ⟨o, 4, none⟩ = some (v.final) := by rw [Blk.cell hO0]; rfl
  have hmf := mf_any
  have HBASE := Lib.hid hbase
  clear hbase
  have HHT := Lib.hid ht
  clear ht
  have HX := Lib.hid hX
  have HO := Lib.hid hO0
  have HM := Lib.hid hM0
  have HF := Lib.hid hF0
  clear hX hO hO0 hM hM0 hF0
  have hql : j ≤ 65536 := by omega
  have hj1 : (q : Int) - 1 = (j : Int) := by omega
  have hw : IntKind.i64.wrap (j : Int) = (j : Int) := IntWalk.i64_in _ (by omega)
  clear hj
  have HQ := Lib.hid hq
  clear hq
  go_enter Try.func95, Try.ntmps95
  go_wp2_with fail
  generalize hW0 : (w.alloc (.cells #[.pointer (some ⟨o, 0, none⟩)] 95)) = W0 at *
  clear hW0
  refine region_K 20 (fun w' : World => w'.cell? ⟨w.heap.size, 0, none⟩ = some (.pointer (some ⟨o, 0, none⟩)) ∧ w'.cell? ⟨o, 1, none⟩ = some (.int .i64 base) ∧ w'.cell? ⟨o, 10, none⟩ = some (.int .i64 (t : Int)) ∧ w'.cell? ⟨o, 4, none⟩ = some (v.final)) (by kernel_rfl) ?_
  have HS : (fun w' : World => w'.cell? ⟨w.heap.size, 0, none⟩ = some (.pointer (some ⟨o, 0, none⟩)) ∧ w'.cell? ⟨o, 1, none⟩ = some (.int .i64 base) ∧ w'.cell? ⟨o, 10, none⟩ = some (.int .i64 (t : Int)) ∧ w'.cell? ⟨o, 4, none⟩ = some (v.final)) (W0).drew := ⟨x0, c1, c10, c4⟩
  refine AnyK.take (i := 0) rfl (by decide) (by kernel_rfl) (by kernel_rfl) (by kernel_rfl) (fun _ _ _ _ h => h) HS (fun K hK => ?_)
  go_simp
  refine hK.out _ ⟨_, by rfl, Or.inl ⟨by rfl, by intro w hSw; (try dsimp only at hSw); go_simp⟩, ?_⟩
  clear hK K
  refine AnyK.take (i := 1) rfl (by decide) (by kernel_rfl) (by kernel_rfl) (by kernel_rfl) (fun _ _ _ _ h => h) HS (fun K hK => ?_)
  go_simp
  refine hK.out _ ⟨_, by rfl, Or.inl ⟨by rfl, by intro w hSw; (try dsimp only at hSw); go_simp⟩, ?_⟩
  clear hK K
  refine AnyK.take (i := 2) rfl (by decide) (by kernel_rfl) (by kernel_rfl) (by kernel_rfl) (fun _ _ _ _ h => h) HS (fun K hK => ?_)
  go_simp
  refine hK.out _ ⟨_, by rfl, Or.inl ⟨by rfl, by intro w hSw; (try dsimp only at hSw); go_simp⟩, ?_⟩
  clear hK K
  refine AnyK.take (i := 3) rfl (by decide) (by kernel_rfl) (by kernel_rfl) (by kernel_rfl) (fun _ _ _ _ h => h) HS (fun K hK => ?_)
  go_simp
  refine hK.out _ ⟨_, by rfl, Or.inl ⟨by rfl, by intro w hSw; (try dsimp only at hSw); go_simp⟩, ?_⟩
  clear hK K
  refine AnyK.take (i := 4) rfl (by decide) (by kernel_rfl) (by kernel_rfl) (by kernel_rfl) (fun _ _ _ _ h => h) HS (fun K hK => ?_)
  go_simp
  refine hK.out _ ⟨_, by rfl, Or.inl ⟨by rfl, by intro w hSw; (try dsimp only at hSw); go_simp⟩, ?_⟩
  clear hK K
  refine AnyK.take (i := 5) rfl (by decide) (by kernel_rfl) (by kernel_rfl) (by kernel_rfl) (fun _ _ _ _ h => h) HS (fun K hK => ?_)
  go_simp
  refine hK.out _ ⟨_, by rfl, Or.inl ⟨by rfl, by intro w hSw; (try dsimp only at hSw); go_simp⟩, ?_⟩
  clear hK K
  refine AnyK.take (i := 6) rfl (by decide) (by kernel_rfl) (by kernel_rfl) (by kernel_rfl) (fun _ _ _ _ h => h) HS (fun K hK => ?_)
  go_simp
  refine hK.out _ ⟨_, by rfl, Or.inl ⟨by rfl, by intro w hSw; (try dsimp only at hSw); go_simp⟩, ?_⟩
  clear hK K
  refine AnyK.take (i := 7) rfl (by decide) (by kernel_rfl) (by kernel_rfl) (by kernel_rfl) (fun _ _ _ _ h => h) HS (fun K hK => ?_)
  go_simp
  refine hK.out _ ⟨_, by rfl, Or.inl ⟨by rfl, by intro w hSw; (try dsimp only at hSw); go_simp⟩, ?_⟩
  clear hK K
  refine AnyK.take (i := 10) rfl (by decide) (by kernel_rfl) (by kernel_rfl) (by kernel_rfl) (fun _ _ _ _ h => h) HS (fun K hK => ?_)
  go_simp
  refine hK.out _ ⟨_, by rfl, Or.inl ⟨by rfl, by intro w hSw; (try dsimp only at hSw); go_simp⟩, ?_⟩
  clear hK K
  refine AnyK.take (i := 11) rfl (by decide) (by kernel_rfl) (by kernel_rfl) (by kernel_rfl) (fun _ _ _ _ h => h) HS (fun K hK => ?_)
  go_simp
  refine hK.out _ ⟨_, by rfl, Or.inl ⟨by rfl, by intro w hSw; (try dsimp only at hSw); go_simp⟩, ?_⟩
  clear hK K
  refine AnyK.take (i := 12) rfl (by decide) (by kernel_rfl) (by kernel_rfl) (by kernel_rfl) (fun _ _ _ _ h => h) HS (fun K hK => ?_)
  go_simp
  refine hK.out _ ⟨_, by rfl, Or.inl ⟨by rfl, by intro w hSw; (try dsimp only at hSw); go_simp⟩, ?_⟩
  clear hK K
  refine AnyK.take (i := 13) rfl (by decide) (by kernel_rfl) (by kernel_rfl) (by kernel_rfl) (fun _ _ _ _ h => h) HS (fun K hK => ?_)
  go_simp
  refine hK.out _ ⟨_, by rfl, Or.inl ⟨by rfl, by intro w hSw; (try dsimp only at hSw); go_simp⟩, ?_⟩
  clear hK K
  refine AnyK.take (i := 14) rfl (by decide) (by kernel_rfl) (by kernel_rfl) (by kernel_rfl) (fun _ _ _ _ h => h) HS (fun K hK => ?_)
  go_simp
  refine hK.out _ ⟨_, by rfl, Or.inl ⟨by rfl, by intro w hSw; (try dsimp only at hSw); go_simp⟩, ?_⟩
  clear hK K
  refine AnyK.one (i := 8) rfl (by kernel_rfl) (fun K hK => ?_)
  go_simp
  refine (place_q _ t q htl HQ.out).mono ?_
  rintro e w1 ⟨rfl, rfl⟩
  refine hK.out _ _ (fun _ => HS) ?_
  clear hK K
  refine AnyK.take (i := 9) rfl (by decide) (by kernel_rfl) (by kernel_rfl) (by kernel_rfl) (fun _ _ _ _ h => h) HS (fun K hK => ?_)
  go_simp
  refine hK.out _ ⟨_, by rfl, Or.inl ⟨by rfl, by intro w hSw; (try dsimp only at hSw); go_simp⟩, ?_⟩
  clear hK K
  refine AnyK.one (i := 15) rfl (by kernel_rfl) (fun K hK => ?_)
  go_simp
  refine (find_any W0.drew o p s v ws b HO.out.drew HM.out.drew hb base j HBASE.out (by omega) hql n hi _).mono ?_
  rintro e w1 ⟨rfl, hO1, hM1, hF1⟩
  have HS : (fun w' : World => w'.cell? ⟨w.heap.size, 0, none⟩ = some (.pointer (some ⟨o, 0, none⟩)) ∧ w'.cell? ⟨o, 1, none⟩ = some (.int .i64 base) ∧ w'.cell? ⟨o, 10, none⟩ = some (.int .i64 (t : Int)) ∧ w'.cell? ⟨o, 4, none⟩ = some (v.final)) w1 := ⟨hF1.held HS.1 (fun h => h.elim hXo (fun h => h.elim hXp hXs)), (by rw [← HBASE.out]; rw [Blk.cell hO1]; rfl), (by rw [← HHT.out]; rw [Blk.cell hO1]; rfl), (by rw [Blk.cell hO1]; rfl)⟩
  refine hK.out _ _ (fun _ => HS) ?_
  clear hK K
  have HO1 := Lib.hid hO1
  have HM1 := Lib.hid hM1
  have HF1 := Lib.hid (Fr.trans (HF.out.drew) hF1)
  clear hO1 hM1 hF1
  refine AnyK.take (i := 16) rfl (by decide) (by kernel_rfl) (by kernel_rfl) (by kernel_rfl) (fun _ _ _ _ h => h) HS (fun K hK => ?_)
  go_simp
  refine hK.out _ ⟨_, by rfl, Or.inl ⟨by rfl, by intro w hSw; (try dsimp only at hSw); go_simp⟩, ?_⟩
  clear hK K
  refine AnyK.take (i := 17) rfl (by decide) (by kernel_rfl) (by kernel_rfl) (by kernel_rfl) (fun _ _ _ _ h => h) HS (fun K hK => ?_)
  go_simp
  refine hK.out _ ⟨_, by rfl, Or.inl ⟨by rfl, by intro w hSw; (try dsimp only at hSw); go_simp⟩, ?_⟩
  clear hK K
  refine AnyK.take (i := 18) rfl (by decide) (by kernel_rfl) (by kernel_rfl) (by kernel_rfl) (fun _ _ _ _ h => h) HS (fun K hK => ?_)
  go_simp
  refine hK.out _ ⟨_, by rfl, Or.inl ⟨by rfl, by intro w hSw; (try dsimp only at hSw); go_simp⟩, ?_⟩
  clear hK K
  refine AnyK.take (i := 19) rfl (by decide) (by kernel_rfl) (by kernel_rfl) (by kernel_rfl) (fun _ _ _ _ h => h) HS (fun K hK => ?_)
  go_simp
  refine hK.out _ ⟨_, by rfl, Or.inl ⟨by rfl, by intro w hSw; (try dsimp only at hSw); go_simp⟩, ?_⟩
  clear hK K
  refine AnyK.done (by kernel_rfl) ?_ _
  go_wp2_with fail
  go_ret2
  exact ⟨rfl, HO1.out, HM1.out, HF1.out⟩
end Go.Proofs.Ytfcboacmailfiaa
