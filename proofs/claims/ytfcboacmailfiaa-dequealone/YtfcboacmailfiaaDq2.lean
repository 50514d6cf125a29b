/-
  Package deque: what an operation's common steps do: load T, find, fill, race.
-/
import Derived.Test.YtfcboacmailfiaaDq1
import Derived.Test.YtfcboacmailfiaaHeld
namespace Go.Proofs.Ytfcboacmailfiaa
open Go.RowKit

/-- The memory, behind at most so many steps. -/
def MI (w : World) (p s : Nat) (ws : List (Bool × Int)) (b : Nat) : Prop := ∃ st : Int, MemIs w p s ws st ∧ 0 ≤ st ∧ st ≤ b
abbrev Thr (o p s : Nat) : Nat → Prop := fun k => k = o ∨ k = p ∨ k = s
section
variable {w w' : World} {o p s b : Nat} {v : OpV} {ws : List (Bool × Int)}
theorem MI.fr {B : Nat → Prop} (h : MI w p s ws b) (hf : Fr B w w') (h1 : ¬ B p) (h2 : ¬ B s) : MI w' p s ws b := by
  obtain ⟨st, h, a, c⟩ := h
  exact ⟨st, h.fr hf h1 h2, a, c⟩
theorem MI.drew (h : MI w p s ws b) : MI w.drew p s ws b := by
  obtain ⟨st, h, a, c⟩ := h
  exact ⟨st, h.drew, a, c⟩
theorem OpAt.ne (hO : OpAt w o v) (hM : MI w p s ws b) : o ≠ p ∧ o ≠ s := by
  obtain ⟨st, h, _, _⟩ := hM
  exact ⟨Blk.ne_ hO h.hp (by decide), Blk.ne_ hO h.hs (by decide)⟩
theorem MI.lt (hM : MI w p s ws b) : p < w.heap.size ∧ s < w.heap.size := by
  obtain ⟨st, h, _, _⟩ := hM
  exact ⟨h.hp.lt, h.hs.lt⟩
theorem load_mi (hM : MI w p s ws b) (hb : b < 900000) (i : Nat) (n : Int) (hi : ws[i]? = some (true, n)) :
    Calls Try.prog 27 #[.pointer (some ⟨p, 0, none⟩), .int .i64 (i : Int)] w fun e w' => e = .returned (.tuple #[.int .i64 n, .int .i64 0]) ∧ MI w' p s ws (b + 1) ∧ Fr (Two p s) w w' := by
  obtain ⟨st, h, h0, h1⟩ := hM
  exact (load_ok w p s ws st h i n hi h0 (by omega)).mono fun _ _ ⟨he, hm, hf⟩ => ⟨he, ⟨_, hm, by omega, by omega⟩, hf⟩
theorem store_mi (hM : MI w p s ws b) (hb : b < 900000) (i : Nat) (m n : Int) (hi : ws[i]? = some (true, m)) :
    Calls Try.prog 69 #[.pointer (some ⟨p, 0, none⟩), .int .i64 (i : Int), .int .i64 n] w fun e w' => e = .returned (.int .i64 0) ∧ MI w' p s (ws.set i (true, n)) (b + 1) ∧ Fr (Two p s) w w' := by
  obtain ⟨st, h, h0, h1⟩ := hM
  exact (store_ok w p s ws st h i m n hi h0 (by omega)).mono fun _ _ ⟨he, hm, hf⟩ => ⟨he, ⟨_, hm, by omega, by omega⟩, hf⟩
/-- What an exchange comes to. -/
def swapW (ws : List (Bool × Int)) (i : Nat) (m was n : Int) : List (Bool × Int) := if m = was then ws.set i (true, n) else ws
theorem swap_mi (hM : MI w p s ws b) (hb : b < 900000) (i : Nat) (m was n : Int) (hi : ws[i]? = some (true, m)) :
    Calls Try.prog 85 #[.pointer (some ⟨p, 0, none⟩), .int .i64 (i : Int), .int .i64 was, .int .i64 n] w fun e w' => e = .returned (.tuple #[.bool (decide (m = was)), .int .i64 0]) ∧ MI w' p s (swapW ws i m was n) (b + 1) ∧ Fr (Two p s) w w' := by
  obtain ⟨st, h, h0, h1⟩ := hM
  by_cases hm : m = was
  · subst hm
    have := (swap_yes w p s ws st h i m n hi h0 (by omega))
    refine this.mono fun _ _ ⟨he, hm, hf⟩ => ⟨by rw [he]; simp, ⟨_, by unfold swapW; rw [if_pos rfl]; exact hm, by omega, by omega⟩, hf⟩
  · have := (swap_no w p s ws st h i m was n hi (by simpa using hm) h0 (by omega))
    refine this.mono fun _ _ ⟨he, hm', hf⟩ => ⟨by rw [he]; simp [hm], ⟨_, by unfold swapW; rw [if_neg hm]; exact hm', by omega, by omega⟩, hf⟩
theorem behind_ok (w : World) (v : Value) : Calls Try.prog 64 #[.int .i64 0, v] w fun x w' => x = .returned (.tuple #[v, .int .i64 0]) ∧ w' = w := behind_any w 0 v
theorem behind_er (w : World) (e : Int) (he : e ≠ 0) (v : Value) : Calls Try.prog 64 #[.int .i64 e, v] w fun x w' => x = .returned (.tuple #[.nilFunc, .int .i64 e]) ∧ w' = w := by
  have := behind_any w e v
  rwa [if_neg he] at this
end

set_option maxHeartbeats 4000000 in
theorem loadT_any (w : World) (o p s : Nat) (v : OpV) (ws : List (Bool × Int)) (b : Nat) (hO : OpAt w o v) (hM : MI w p s ws b) (hb : b < 900000) (base : Nat) (hbase : v.base = base) (hbl : base ≤ 65536) (n : Int) (hi : ws[base + 1]? = some (true, n)) (nx : Value) :
    Calls Try.prog 67 #[.pointer (some ⟨o, 0, none⟩), .pointer (some ⟨p, 0, none⟩), nx] w fun e w' => e = .returned (.tuple #[nx, .int .i64 0]) ∧ OpAt w' o { v with t := n } ∧ MI w' p s ws (b + 1) ∧ Fr (Thr o p s) w w' := by
  have c1 : w.cell? ⟨o, 1, none⟩ = some (.int .i64 base) := by rw [← hbase]; rw [Blk.cell hO]; rfl
  obtain ⟨h1, h2⟩ := hO.ne hM
  have HO := Lib.hid hO
  have HM := Lib.hid hM
  clear hO hM
  go_enter Try.func67, Try.ntmps67
  go_wp2_with fail
  refine (wordT_any _ o base hbl c1).mono ?_
  rintro e w1 ⟨rfl, rfl⟩
  go_wp2_with fail
  refine (load_mi HM.out hb (base + 1) n hi).mono ?_
  rintro e w1 ⟨rfl, hM1, hF1⟩
  have hO1 : OpAt w1 o v := Blk.fr HO.out hF1 (fun h => h.elim h1 h2)
  have c10 : w1.cell? ⟨o, 10, none⟩ = some (.int .i64 v.t) := by rw [Blk.cell hO1]; rfl
  have f10 := Blk.frozen hO1 10
  have HO1 := Lib.hid hO1
  have HM1 := Lib.hid hM1
  have HF1 := Lib.hid hF1
  clear hO1 hM1 hF1
  go_wp2_with fail
  refine (behind_ok _ nx).mono ?_
  rintro e w2 ⟨rfl, rfl⟩
  go_wp2_with fail
  go_ret2
  have hFs : Fr (fun k => k = o) w1 (w1.setCell ⟨o, 10, none⟩ (.int .i64 n)) := (Fr.refl (fun k => k = o) w1).setCell (p := ⟨o, 10, none⟩) (.inl rfl) _
  exact ⟨rfl, Blk.set_ HO1.out 10 _, HM1.out.fr hFs (fun h => h1 h.symm) (fun h => h2 h.symm), (HF1.out.mono (fun _ h => .inr h)).trans (hFs.mono (fun _ h => .inl h))⟩

set_option maxHeartbeats 4000000 in
theorem find_any (w : World) (o p s : Nat) (v : OpV) (ws : List (Bool × Int)) (b : Nat) (hO : OpAt w o v) (hM : MI w p s ws b) (hb : b < 900000) (base j : Nat) (hbase : v.base = base) (hbl : base ≤ 65536) (hj : j ≤ 65536) (n : Int) (hi : ws[base + 2 + j]? = some (true, n)) (nx : Value) :
    Calls Try.prog 77 #[.pointer (some ⟨o, 0, none⟩), .pointer (some ⟨p, 0, none⟩), .int .i64 j, nx] w fun e w' => e = .returned (.tuple #[nx, .int .i64 0]) ∧ OpAt w' o { v with num := n } ∧ MI w' p s ws (b + 1) ∧ Fr (Thr o p s) w w' := by
  have c1 : w.cell? ⟨o, 1, none⟩ = some (.int .i64 base) := by rw [← hbase]; rw [Blk.cell hO]; rfl
  obtain ⟨h1, h2⟩ := hO.ne hM
  have HO := Lib.hid hO
  have HM := Lib.hid hM
  clear hO hM
  go_enter Try.func77, Try.ntmps77
  go_wp2_with fail
  refine (slot_any _ o base j hbl hj c1).mono ?_
  rintro e w1 ⟨rfl, rfl⟩
  go_wp2_with fail
  refine (load_mi HM.out hb (base + 2 + j) n hi).mono ?_
  rintro e w1 ⟨rfl, hM1, hF1⟩
  have hO1 : OpAt w1 o v := Blk.fr HO.out hF1 (fun h => h.elim h1 h2)
  have c8 : w1.cell? ⟨o, 8, none⟩ = some (.int .i64 v.num) := by rw [Blk.cell hO1]; rfl
  have f8 := Blk.frozen hO1 8
  have HO1 := Lib.hid hO1
  have HM1 := Lib.hid hM1
  have HF1 := Lib.hid hF1
  clear hO1 hM1 hF1
  go_wp2_with fail
  refine (behind_ok _ nx).mono ?_
  rintro e w2 ⟨rfl, rfl⟩
  go_wp2_with fail
  go_ret2
  have hFs : Fr (fun k => k = o) w1 (w1.setCell ⟨o, 8, none⟩ (.int .i64 n)) := (Fr.refl (fun k => k = o) w1).setCell (p := ⟨o, 8, none⟩) (.inl rfl) _
  exact ⟨rfl, Blk.set_ HO1.out 8 _, HM1.out.fr hFs (fun h => h1 h.symm) (fun h => h2 h.symm), (HF1.out.mono (fun _ h => .inr h)).trans (hFs.mono (fun _ h => .inl h))⟩

set_option maxHeartbeats 4000000 in
theorem fill_any (w : World) (o p s : Nat) (v : OpV) (ws : List (Bool × Int)) (b : Nat) (hO : OpAt w o v) (hM : MI w p s ws b) (hb : b < 900000) (base j : Nat) (hbase : v.base = base) (hbl : base ≤ 65536) (hj : j ≤ 65536) (m : Int) (hi : ws[base + 2 + j]? = some (true, m)) (nx : Value) :
    Calls Try.prog 71 #[.pointer (some ⟨o, 0, none⟩), .pointer (some ⟨p, 0, none⟩), .int .i64 j, nx] w fun e w' => e = .returned (.tuple #[nx, .int .i64 0]) ∧ OpAt w' o v ∧ MI w' p s (ws.set (base + 2 + j) (true, v.num)) (b + 1) ∧ Fr (Thr o p s) w w' := by
  have c1 : w.cell? ⟨o, 1, none⟩ = some (.int .i64 base) := by rw [← hbase]; rw [Blk.cell hO]; rfl
  have c8 : w.cell? ⟨o, 8, none⟩ = some (.int .i64 v.num) := by rw [Blk.cell hO]; rfl
  obtain ⟨h1, h2⟩ := hO.ne hM
  have HO := Lib.hid hO
  have HM := Lib.hid hM
  clear hO hM
  go_enter Try.func71, Try.ntmps71
  go_wp2_with fail
  refine region_K 15 (fun w' : World => w'.cell? ⟨o, 1, none⟩ = some (.int .i64 base) ∧ w'.cell? ⟨o, 8, none⟩ = some (.int .i64 v.num)) (by kernel_rfl) ?_
  have HS : (fun w' : World => w'.cell? ⟨o, 1, none⟩ = some (.int .i64 base) ∧ w'.cell? ⟨o, 8, none⟩ = some (.int .i64 v.num)) (_ : World).drew := ⟨c1, c8⟩
  refine AnyK.take (i := 0) rfl (by decide) (by kernel_rfl) (by kernel_rfl) (by kernel_rfl) (fun _ _ _ _ h => h) HS (fun K hK => ?_)
  go_simp
  refine hK.out _ ⟨_, by rfl, Or.inl ⟨by rfl, by intro w hSw; (try dsimp only at hSw); go_simp⟩, ?_⟩
  clear hK K
  refine AnyK.take (i := 1) rfl (by decide) (by kernel_rfl) (by kernel_rfl) (by kernel_rfl) (fun _ _ _ _ h => h) HS (fun K hK => ?_)
  go_simp
  refine hK.out _ ⟨_, by rfl, Or.inl ⟨by rfl, by intro w hSw; (try dsimp only at hSw); go_simp⟩, ?_⟩
  clear hK K
  refine AnyK.take (i := 2) rfl (by decide) (by kernel_rfl) (by kernel_rfl) (by kernel_rfl) (fun _ _ _ _ h => h) HS (fun K hK => ?_)
  go_simp
  refine hK.out _ ⟨_, by rfl, Or.inl ⟨by rfl, by intro w hSw; (try dsimp only at hSw); go_simp⟩, ?_⟩
  clear hK K
  refine AnyK.take (i := 4) rfl (by decide) (by kernel_rfl) (by kernel_rfl) (by kernel_rfl) (fun _ _ _ _ h => h) HS (fun K hK => ?_)
  go_simp
  refine hK.out _ ⟨_, by rfl, Or.inl ⟨by rfl, by intro w hSw; (try dsimp only at hSw); go_simp⟩, ?_⟩
  clear hK K
  refine AnyK.take (i := 5) rfl (by decide) (by kernel_rfl) (by kernel_rfl) (by kernel_rfl) (fun _ _ _ _ h => h) HS (fun K hK => ?_)
  go_simp
  refine hK.out _ ⟨_, by rfl, Or.inl ⟨by rfl, by intro w hSw; (try dsimp only at hSw); go_simp⟩, ?_⟩
  clear hK K
  refine AnyK.take (i := 6) rfl (by decide) (by kernel_rfl) (by kernel_rfl) (by kernel_rfl) (fun _ _ _ _ h => h) HS (fun K hK => ?_)
  go_simp
  refine hK.out _ ⟨_, by rfl, Or.inl ⟨by rfl, by intro w hSw; (try dsimp only at hSw); go_simp⟩, ?_⟩
  clear hK K
  refine AnyK.take (i := 7) rfl (by decide) (by kernel_rfl) (by kernel_rfl) (by kernel_rfl) (fun _ _ _ _ h => h) HS (fun K hK => ?_)
  go_simp
  refine hK.out _ ⟨_, by rfl, Or.inl ⟨by rfl, by intro w hSw; (try dsimp only at hSw); go_simp⟩, ?_⟩
  clear hK K
  refine AnyK.take (i := 9) rfl (by decide) (by kernel_rfl) (by kernel_rfl) (by kernel_rfl) (fun _ _ _ _ h => h) HS (fun K hK => ?_)
  go_simp
  refine hK.out _ ⟨_, by rfl, Or.inl ⟨by rfl, by intro w hSw; (try dsimp only at hSw); go_simp⟩, ?_⟩
  clear hK K
  refine AnyK.one (i := 3) rfl (by kernel_rfl) (fun K hK => ?_)
  go_simp
  refine (slot_any _ o base j hbl hj HS.1).mono ?_
  rintro e w1 ⟨rfl, rfl⟩
  refine hK.out _ _ (fun _ => HS) ?_
  clear hK K
  refine AnyK.one (i := 8) rfl (by kernel_rfl) (fun K hK => ?_)
  go_simp
  refine (store_mi HM.out.drew hb (base + 2 + j) m v.num hi).mono ?_
  rintro e w1 ⟨rfl, hM1, hF1⟩
  have HS : (fun w' : World => w'.cell? ⟨o, 1, none⟩ = some (.int .i64 base) ∧ w'.cell? ⟨o, 8, none⟩ = some (.int .i64 v.num)) w1 := ⟨hF1.held HS.1 (fun h => h.elim h1 h2), hF1.held HS.2 (fun h => h.elim h1 h2)⟩
  refine hK.out _ _ (fun _ => HS) ?_
  clear hK K
  have HM1 := Lib.hid hM1
  have HF1 := Lib.hid hF1
  clear hM1 hF1
  refine AnyK.one (i := 10) rfl (by kernel_rfl) (fun K hK => ?_)
  go_simp
  refine (behind_ok _ nx).mono ?_
  rintro e w2 ⟨rfl, rfl⟩
  refine hK.out _ _ (fun _ => HS) ?_
  clear hK K
  refine AnyK.take (i := 11) rfl (by decide) (by kernel_rfl) (by kernel_rfl) (by kernel_rfl) (fun _ _ _ _ h => h) HS (fun K hK => ?_)
  go_simp
  refine hK.out _ ⟨_, by rfl, Or.inl ⟨by rfl, by intro w hSw; (try dsimp only at hSw); go_simp⟩, ?_⟩
  clear hK K
  refine AnyK.take (i := 12) rfl (by decide) (by kernel_rfl) (by kernel_rfl) (by kernel_rfl) (fun _ _ _ _ h => h) HS (fun K hK => ?_)
  go_simp
  refine hK.out _ ⟨_, by rfl, Or.inl ⟨by rfl, by intro w hSw; (try dsimp only at hSw); go_simp⟩, ?_⟩
  clear hK K
  refine AnyK.take (i := 13) rfl (by decide) (by kernel_rfl) (by kernel_rfl) (by kernel_rfl) (fun _ _ _ _ h => h) HS (fun K hK => ?_)
  go_simp
  refine hK.out _ ⟨_, by rfl, Or.inl ⟨by rfl, by intro w hSw; (try dsimp only at hSw); go_simp⟩, ?_⟩
  clear hK K
  refine AnyK.take (i := 14) rfl (by decide) (by kernel_rfl) (by kernel_rfl) (by kernel_rfl) (fun _ _ _ _ h => h) HS (fun K hK => ?_)
  go_simp
  refine hK.out _ ⟨_, by rfl, Or.inl ⟨by rfl, by intro w hSw; (try dsimp only at hSw); go_simp⟩, ?_⟩
  clear hK K
  refine AnyK.done (by kernel_rfl) ?_ _
  go_wp2_with fail
  go_ret2
  have hFw := Fr.trans ((Fr.refl (Two p s) w).drew) HF1.out
  exact ⟨rfl, Blk.fr HO.out hFw (fun h => h.elim h1 h2), HM1.out, hFw.mono (fun _ h => .inr h)⟩

set_option maxHeartbeats 4000000 in
theorem race_yes (w : World) (o p s : Nat) (v : OpV) (ws : List (Bool × Int)) (b : Nat) (hO : OpAt w o v) (hM : MI w p s ws b) (hb : b < 900000) (base : Nat) (hbase : v.base = base) (hbl : base ≤ 65536) (m : Int) (hi : ws[base + 1]? = some (true, m)) (n : Int) (hmt : m = v.t) :
    Calls Try.prog 82 #[.pointer (some ⟨o, 0, none⟩), .pointer (some ⟨p, 0, none⟩), .int .i64 n] w fun e w' => e = .returned (.tuple #[.nilFunc, .int .i64 0]) ∧ OpAt w' o v ∧ MI w' p s (ws.set (base + 1) (true, n)) (b + 1) ∧ Fr (Thr o p s) w w' := by
  have c1 : w.cell? ⟨o, 1, none⟩ = some (.int .i64 base) := by rw [← hbase]; rw [Blk.cell hO]; rfl
  have c10 : w.cell? ⟨o, 10, none⟩ = some (.int .i64 v.t) := by rw [Blk.cell hO]; rfl
  obtain ⟨h1, h2⟩ := hO.ne hM
  have hsw := swap_mi hM.drew hb (base + 1) m v.t n hi
  unfold swapW at hsw
  rw [decide_eq_true hmt, if_pos hmt] at hsw
  have HSW := Lib.hid hsw
  have HO := Lib.hid hO
  clear hO hM hsw hmt
  go_enter Try.func82, Try.ntmps82
  go_wp2_with fail
  refine region_K 14 (fun w' : World => w'.cell? ⟨o, 1, none⟩ = some (.int .i64 base) ∧ w'.cell? ⟨o, 10, none⟩ = some (.int .i64 v.t)) (by kernel_rfl) ?_
  have HS : (fun w' : World => w'.cell? ⟨o, 1, none⟩ = some (.int .i64 base) ∧ w'.cell? ⟨o, 10, none⟩ = some (.int .i64 v.t)) (_ : World).drew := ⟨c1, c10⟩
  refine AnyK.take (i := 0) rfl (by decide) (by kernel_rfl) (by kernel_rfl) (by kernel_rfl) (fun _ _ _ _ h => h) HS (fun K hK => ?_)
  go_simp
  refine hK.out _ ⟨_, by rfl, Or.inl ⟨by rfl, by intro w hSw; (try dsimp only at hSw); go_simp⟩, ?_⟩
  clear hK K
  refine AnyK.take (i := 1) rfl (by decide) (by kernel_rfl) (by kernel_rfl) (by kernel_rfl) (fun _ _ _ _ h => h) HS (fun K hK => ?_)
  go_simp
  refine hK.out _ ⟨_, by rfl, Or.inl ⟨by rfl, by intro w hSw; (try dsimp only at hSw); go_simp⟩, ?_⟩
  clear hK K
  refine AnyK.take (i := 3) rfl (by decide) (by kernel_rfl) (by kernel_rfl) (by kernel_rfl) (fun _ _ _ _ h => h) HS (fun K hK => ?_)
  go_simp
  refine hK.out _ ⟨_, by rfl, Or.inl ⟨by rfl, by intro w hSw; (try dsimp only at hSw); go_simp⟩, ?_⟩
  clear hK K
  refine AnyK.take (i := 4) rfl (by decide) (by kernel_rfl) (by kernel_rfl) (by kernel_rfl) (fun _ _ _ _ h => h) HS (fun K hK => ?_)
  go_simp
  refine hK.out _ ⟨_, by rfl, Or.inl ⟨by rfl, by intro w hSw; (try dsimp only at hSw); go_simp⟩, ?_⟩
  clear hK K
  refine AnyK.take (i := 5) rfl (by decide) (by kernel_rfl) (by kernel_rfl) (by kernel_rfl) (fun _ _ _ _ h => h) HS (fun K hK => ?_)
  go_simp
  refine hK.out _ ⟨_, by rfl, Or.inl ⟨by rfl, by intro w hSw; (try dsimp only at hSw); go_simp⟩, ?_⟩
  clear hK K
  refine AnyK.take (i := 6) rfl (by decide) (by kernel_rfl) (by kernel_rfl) (by kernel_rfl) (fun _ _ _ _ h => h) HS (fun K hK => ?_)
  go_simp
  refine hK.out _ ⟨_, by rfl, Or.inl ⟨by rfl, by intro w hSw; (try dsimp only at hSw); go_simp⟩, ?_⟩
  clear hK K
  refine AnyK.take (i := 7) rfl (by decide) (by kernel_rfl) (by kernel_rfl) (by kernel_rfl) (fun _ _ _ _ h => h) HS (fun K hK => ?_)
  go_simp
  refine hK.out _ ⟨_, by rfl, Or.inl ⟨by rfl, by intro w hSw; (try dsimp only at hSw); go_simp⟩, ?_⟩
  clear hK K
  refine AnyK.one (i := 2) rfl (by kernel_rfl) (fun K hK => ?_)
  go_simp
  refine (wordT_any _ o base hbl HS.1).mono ?_
  rintro e w1 ⟨rfl, rfl⟩
  refine hK.out _ _ (fun _ => HS) ?_
  clear hK K
  refine AnyK.one (i := 8) rfl (by kernel_rfl) (fun K hK => ?_)
  go_simp
  refine HSW.out.mono ?_
  rintro e w1 ⟨rfl, hM1, hF1⟩
  have HS : (fun w' : World => w'.cell? ⟨o, 1, none⟩ = some (.int .i64 base) ∧ w'.cell? ⟨o, 10, none⟩ = some (.int .i64 v.t)) w1 := ⟨hF1.held HS.1 (fun h => h.elim h1 h2), hF1.held HS.2 (fun h => h.elim h1 h2)⟩
  refine hK.out _ _ (fun _ => HS) ?_
  clear hK K
  have HM1 := Lib.hid hM1
  have HF1 := Lib.hid hF1
  clear hM1 hF1
  refine AnyK.take (i := 9) rfl (by decide) (by kernel_rfl) (by kernel_rfl) (by kernel_rfl) (fun _ _ _ _ h => h) HS (fun K hK => ?_)
  go_simp
  refine hK.out _ ⟨_, by rfl, Or.inl ⟨by rfl, by intro w hSw; (try dsimp only at hSw); go_simp⟩, ?_⟩
  clear hK K
  refine AnyK.take (i := 10) rfl (by decide) (by kernel_rfl) (by kernel_rfl) (by kernel_rfl) (fun _ _ _ _ h => h) HS (fun K hK => ?_)
  go_simp
  refine hK.out _ ⟨_, by rfl, Or.inl ⟨by rfl, by intro w hSw; (try dsimp only at hSw); go_simp⟩, ?_⟩
  clear hK K
  refine AnyK.take (i := 11) rfl (by decide) (by kernel_rfl) (by kernel_rfl) (by kernel_rfl) (fun _ _ _ _ h => h) HS (fun K hK => ?_)
  go_simp
  refine hK.out _ ⟨_, by rfl, Or.inl ⟨by rfl, by intro w hSw; (try dsimp only at hSw); go_simp⟩, ?_⟩
  clear hK K
  refine AnyK.take (i := 12) rfl (by decide) (by kernel_rfl) (by kernel_rfl) (by kernel_rfl) (fun _ _ _ _ h => h) HS (fun K hK => ?_)
  go_simp
  refine hK.out _ ⟨_, by rfl, Or.inl ⟨by rfl, by intro w hSw; (try dsimp only at hSw); go_simp⟩, ?_⟩
  clear hK K
  refine AnyK.take (i := 13) rfl (by decide) (by kernel_rfl) (by kernel_rfl) (by kernel_rfl) (fun _ _ _ _ h => h) HS (fun K hK => ?_)
  go_simp
  refine hK.out _ ⟨_, by rfl, Or.inl ⟨by rfl, by intro w hSw; (try dsimp only at hSw); go_simp⟩, ?_⟩
  clear hK K
  refine AnyK.done (by kernel_rfl) ?_ _
  have HFW := Lib.hid (Fr.trans ((Fr.refl (Two p s) w).drew) HF1.out)
  go_wp2_with fail
  go_ret2
  exact ⟨rfl, Blk.fr HO.out HFW.out (fun h => h.elim h1 h2), HM1.out, HFW.out.mono (fun _ h => .inr h)⟩
set_option maxHeartbeats 4000000 in
theorem race_no (w : World) (o p s : Nat) (v : OpV) (ws : List (Bool × Int)) (b : Nat) (hO : OpAt w o v) (hM : MI w p s ws b) (hb : b < 900000) (base : Nat) (hbase : v.base = base) (hbl : base ≤ 65536) (m : Int) (hi : ws[base + 1]? = some (true, m)) (n : Int) (hmt : ¬ m = v.t) :
    Calls Try.prog 82 #[.pointer (some ⟨o, 0, none⟩), .pointer (some ⟨p, 0, none⟩), .int .i64 n] w fun e w' => e = .returned (.tuple #[.nilFunc, .int .i64 10]) ∧ OpAt w' o v ∧ MI w' p s ws (b + 1) ∧ Fr (Thr o p s) w w' := by
  have c1 : w.cell? ⟨o, 1, none⟩ = some (.int .i64 base) := by rw [← hbase]; rw [Blk.cell hO]; rfl
  have c10 : w.cell? ⟨o, 10, none⟩ = some (.int .i64 v.t) := by rw [Blk.cell hO]; rfl
  obtain ⟨h1, h2⟩ := hO.ne hM
  have hsw := swap_mi hM.drew hb (base + 1) m v.t n hi
  unfold swapW at hsw
  rw [decide_eq_false hmt, if_neg hmt] at hsw
  have HSW := Lib.hid hsw
  have HO := Lib.hid hO
  clear hO hM hsw hmt
  go_enter Try.func82, Try.ntmps82
  go_wp2_with fail
  refine region_K 14 (fun w' : World => w'.cell? ⟨o, 1, none⟩ = some (.int .i64 base) ∧ w'.cell? ⟨o, 10, none⟩ = some (.int .i64 v.t)) (by kernel_rfl) ?_
  have HS : (fun w' : World => w'.cell? ⟨o, 1, none⟩ = some (.int .i64 base) ∧ w'.cell? ⟨o, 10, none⟩ = some (.int .i64 v.t)) (_ : World).drew := ⟨c1, c10⟩
  refine AnyK.take (i := 0) rfl (by decide) (by kernel_rfl) (by kernel_rfl) (by kernel_rfl) (fun _ _ _ _ h => h) HS (fun K hK => ?_)
  go_simp
  refine hK.out _ ⟨_, by rfl, Or.inl ⟨by rfl, by intro w hSw; (try dsimp only at hSw); go_simp⟩, ?_⟩
  clear hK K
  refine AnyK.take (i := 1) rfl (by decide) (by kernel_rfl) (by kernel_rfl) (by kernel_rfl) (fun _ _ _ _ h => h) HS (fun K hK => ?_)
  go_simp
  refine hK.out _ ⟨_, by rfl, Or.inl ⟨by rfl, by intro w hSw; (try dsimp only at hSw); go_simp⟩, ?_⟩
  clear hK K
  refine AnyK.take (i := 3) rfl (by decide) (by kernel_rfl) (by kernel_rfl) (by kernel_rfl) (fun _ _ _ _ h => h) HS (fun K hK => ?_)
  go_simp
  refine hK.out _ ⟨_, by rfl, Or.inl ⟨by rfl, by intro w hSw; (try dsimp only at hSw); go_simp⟩, ?_⟩
  clear hK K
  refine AnyK.take (i := 4) rfl (by decide) (by kernel_rfl) (by kernel_rfl) (by kernel_rfl) (fun _ _ _ _ h => h) HS (fun K hK => ?_)
  go_simp
  refine hK.out _ ⟨_, by rfl, Or.inl ⟨by rfl, by intro w hSw; (try dsimp only at hSw); go_simp⟩, ?_⟩
  clear hK K
  refine AnyK.take (i := 5) rfl (by decide) (by kernel_rfl) (by kernel_rfl) (by kernel_rfl) (fun _ _ _ _ h => h) HS (fun K hK => ?_)
  go_simp
  refine hK.out _ ⟨_, by rfl, Or.inl ⟨by rfl, by intro w hSw; (try dsimp only at hSw); go_simp⟩, ?_⟩
  clear hK K
  refine AnyK.take (i := 6) rfl (by decide) (by kernel_rfl) (by kernel_rfl) (by kernel_rfl) (fun _ _ _ _ h => h) HS (fun K hK => ?_)
  go_simp
  refine hK.out _ ⟨_, by rfl, Or.inl ⟨by rfl, by intro w hSw; (try dsimp only at hSw); go_simp⟩, ?_⟩
  clear hK K
  refine AnyK.take (i := 7) rfl (by decide) (by kernel_rfl) (by kernel_rfl) (by kernel_rfl) (fun _ _ _ _ h => h) HS (fun K hK => ?_)
  go_simp
  refine hK.out _ ⟨_, by rfl, Or.inl ⟨by rfl, by intro w hSw; (try dsimp only at hSw); go_simp⟩, ?_⟩
  clear hK K
  refine AnyK.one (i := 2) rfl (by kernel_rfl) (fun K hK => ?_)
  go_simp
  refine (wordT_any _ o base hbl HS.1).mono ?_
  rintro e w1 ⟨rfl, rfl⟩
  refine hK.out _ _ (fun _ => HS) ?_
  clear hK K
  refine AnyK.one (i := 8) rfl (by kernel_rfl) (fun K hK => ?_)
  go_simp
  refine HSW.out.mono ?_
  rintro e w1 ⟨rfl, hM1, hF1⟩
  have HS : (fun w' : World => w'.cell? ⟨o, 1, none⟩ = some (.int .i64 base) ∧ w'.cell? ⟨o, 10, none⟩ = some (.int .i64 v.t)) w1 := ⟨hF1.held HS.1 (fun h => h.elim h1 h2), hF1.held HS.2 (fun h => h.elim h1 h2)⟩
  refine hK.out _ _ (fun _ => HS) ?_
  clear hK K
  have HM1 := Lib.hid hM1
  have HF1 := Lib.hid hF1
  clear hM1 hF1
  refine AnyK.take (i := 9) rfl (by decide) (by kernel_rfl) (by kernel_rfl) (by kernel_rfl) (fun _ _ _ _ h => h) HS (fun K hK => ?_)
  go_simp
  refine hK.out _ ⟨_, by rfl, Or.inl ⟨by rfl, by intro w hSw; (try dsimp only at hSw); go_simp⟩, ?_⟩
  clear hK K
  refine AnyK.take (i := 10) rfl (by decide) (by kernel_rfl) (by kernel_rfl) (by kernel_rfl) (fun _ _ _ _ h => h) HS (fun K hK => ?_)
  go_simp
  refine hK.out _ ⟨_, by rfl, Or.inl ⟨by rfl, by intro w hSw; (try dsimp only at hSw); go_simp⟩, ?_⟩
  clear hK K
  refine AnyK.take (i := 11) rfl (by decide) (by kernel_rfl) (by kernel_rfl) (by kernel_rfl) (fun _ _ _ _ h => h) HS (fun K hK => ?_)
  go_simp
  refine hK.out _ ⟨_, by rfl, Or.inl ⟨by rfl, by intro w hSw; (try dsimp only at hSw); go_simp⟩, ?_⟩
  clear hK K
  refine AnyK.take (i := 12) rfl (by decide) (by kernel_rfl) (by kernel_rfl) (by kernel_rfl) (fun _ _ _ _ h => h) HS (fun K hK => ?_)
  go_simp
  refine hK.out _ ⟨_, by rfl, Or.inl ⟨by rfl, by intro w hSw; (try dsimp only at hSw); go_simp⟩, ?_⟩
  clear hK K
  refine AnyK.take (i := 13) rfl (by decide) (by kernel_rfl) (by kernel_rfl) (by kernel_rfl) (fun _ _ _ _ h => h) HS (fun K hK => ?_)
  go_simp
  refine hK.out _ ⟨_, by rfl, Or.inl ⟨by rfl, by intro w hSw; (try dsimp only at hSw); go_simp⟩, ?_⟩
  clear hK K
  refine AnyK.done (by kernel_rfl) ?_ _
  have HFW := Lib.hid (Fr.trans ((Fr.refl (Two p s) w).drew) HF1.out)
  go_wp2_with fail
  go_ret2
  exact ⟨rfl, Blk.fr HO.out HFW.out (fun h => h.elim h1 h2), HM1.out, HFW.out.mono (fun _ h => .inr h)⟩
end Go.Proofs.Ytfcboacmailfiaa
