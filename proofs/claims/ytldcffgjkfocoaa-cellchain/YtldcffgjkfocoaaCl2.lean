/-
  Package cell: what each move's function does.
-/
import Derived.Test.YtldcffgjkfocoaaCl1
import Derived.Test.YtldcffgjkfocoaaPureC
namespace Go.Proofs.Ytldcffgjkfocoaa
open Go.RowKit
/-- The next move, as a value. -/
abbrev mv (f : FuncId) (a : Nat) : Value := .func (.func f) #[.pointer (some ⟨a, 0, none⟩)] #[]
abbrev wc (base : Nat) (x : Int) (lk : Nat) (h val : Int) : Array Value := #[.int .i64 base, .int .i64 x, .int .i64 lk, .int .i64 h, .int .i64 val]
abbrev fc (base : Nat) (val why h : Int) : Array Value := #[.int .i64 base, .int .i64 val, .int .i64 why, .int .i64 h]
abbrev Thr (a p s : Nat) : Nat → Prop := fun k => k = a ∨ k = p ∨ k = s
/-- What a move comes to. -/
def MvP (w : World) (a p s : Nat) (t : TypeId) (cs : Array Value) (m : List Int) (b : Nat) (nx en : Value) (e : Ending) (w' : World) : Prop :=
  e = .returned (.tuple #[nx, en, .int .i64 0]) ∧ Blk w' a t cs ∧ MI w' p s m (b + 1) ∧ Fr (Thr a p s) w w'
theorem mf_any : ∀ (fn : Fn) (first cap : Array Value) (w : World), (Instr.makeFunc fn first cap).run Try.prog w = .ok (.func fn first cap) w := fun _ _ _ _ => rfl
abbrev e0 : Array Value := #[.bool false, .int .i64 0, .int .i64 0, .int .i64 0]
/-- The end's variable is set. -/
theorem fin {w w3 : World} {E a p s b : Nat} {t : TypeId} {cs : Array Value} {m : List Int} (hE : Blk w3 E 45 e0) (hge : w.heap.size ≤ E) (hA : Blk w3 a t cs) (hM : MI w3 p s m b) (hF : Fr (Thr a p s) w w3) (ht : 45 ≠ t) (q : Bool) (x y z : Int) :
    Blk ((((w3.setCell ⟨E, 0, none⟩ (.bool q)).setCell ⟨E, 1, none⟩ (.int .i64 x)).setCell ⟨E, 2, none⟩ (.int .i64 y)).setCell ⟨E, 3, none⟩ (.int .i64 z)) E 45 #[.bool q, .int .i64 x, .int .i64 y, .int .i64 z] ∧
    Blk ((((w3.setCell ⟨E, 0, none⟩ (.bool q)).setCell ⟨E, 1, none⟩ (.int .i64 x)).setCell ⟨E, 2, none⟩ (.int .i64 y)).setCell ⟨E, 3, none⟩ (.int .i64 z)) a t cs ∧
    MI ((((w3.setCell ⟨E, 0, none⟩ (.bool q)).setCell ⟨E, 1, none⟩ (.int .i64 x)).setCell ⟨E, 2, none⟩ (.int .i64 y)).setCell ⟨E, 3, none⟩ (.int .i64 z)) p s m b ∧
    Fr (Thr a p s) w ((((w3.setCell ⟨E, 0, none⟩ (.bool q)).setCell ⟨E, 1, none⟩ (.int .i64 x)).setCell ⟨E, 2, none⟩ (.int .i64 y)).setCell ⟨E, 3, none⟩ (.int .i64 z)) := by
  have hea : E ≠ a := Blk.ne_ hE hA ht
  obtain ⟨hep, hes⟩ := MI.ne hE hM (by decide) (by decide)
  have hf : Fr (fun k => k = E) w3 ((((w3.setCell ⟨E, 0, none⟩ (.bool q)).setCell ⟨E, 1, none⟩ (.int .i64 x)).setCell ⟨E, 2, none⟩ (.int .i64 y)).setCell ⟨E, 3, none⟩ (.int .i64 z)) :=
    ((((Fr.refl (fun k => k = E) w3).setCell (p := ⟨E, 0, none⟩) (.inl rfl) _).setCell (p := ⟨E, 1, none⟩) (.inl rfl) _).setCell (p := ⟨E, 2, none⟩) (.inl rfl) _).setCell (p := ⟨E, 3, none⟩) (.inl rfl) _
  exact ⟨by have := (((hE.set_ 0 (.bool q)).set_ 1 (.int .i64 x)).set_ 2 (.int .i64 y)).set_ 3 (.int .i64 z); simpa using this, hA.fr hf (fun h => hea h.symm), hM.fr hf (fun h => hep h.symm) (fun h => hes h.symm), hF.then hf (fun i hi => .inr (by rw [hi]; exact hge))⟩

set_option maxHeartbeats 4000000 in
theorem w_looks_filled (w : World) (a p s : Nat) (base : Nat) (x : Int) (lk : Nat) (h val : Int) (m : List Int) (b : Nat) (hA : Blk w a 75 (wc base x lk h val)) (hM : MI w p s m b) (hb : b < 900000) (_hbl : base ≤ 60000) (hi : base + 2 < m.length) (hn : m.getD base 0 = -1) :
    Calls Try.prog 22 #[.pointer (some ⟨a, 0, none⟩), .pointer (some ⟨p, 0, none⟩)] w (MvP w a p s 75 (wc base x lk (-1) val) (m) b (mv 27 a) (end0)) := by
  have hEb : Blk (w.alloc (.cells #[.bool false, .int .i64 0, .int .i64 0, .int .i64 0] 45)) w.heap.size 45 e0 := Blk.new _ _ _
  have hA0 : Blk (w.alloc (.cells #[.bool false, .int .i64 0, .int .i64 0, .int .i64 0] 45)) a 75 (wc base x lk h val) := hA.alloc _
  have hM0 : MI (w.alloc (.cells #[.bool false, .int .i64 0, .int .i64 0, .int .i64 0] 45)) p s m b := hM.fr (B := fun _ => False) ((Fr.refl _ _).alloc _) (fun h => h) (fun h => h)
  have hF0 : Fr (Thr a p s) w (w.alloc (.cells #[.bool false, .int .i64 0, .int .i64 0, .int .i64 0] 45)) := (Fr.refl _ _).alloc _
  obtain ⟨hap, has⟩ := MI.ne hA0 hM0 (by decide) (by decide)
  obtain ⟨hep, hes⟩ := MI.ne hEb hM0 (by decide) (by decide)
  have hea : w.heap.size ≠ a := Blk.ne_ hEb hA0 (by decide)
  have c0 : (w.alloc (.cells #[.bool false, .int .i64 0, .int .i64 0, .int .i64 0] 45)).cell? ⟨a, 0, none⟩ = some (.int .i64 base) := by rw [hA0.cell]; rfl
  have hmf := mf_any
  have HA := Lib.hid hA0
  have HE := Lib.hid hEb
  have HM := Lib.hid hM0
  have HF := Lib.hid hF0
  clear hA hM hA0 hEb hM0 hF0
  go_enter Try.func22, Try.ntmps22
  go_wp2_with fail
  refine (head_any _ base).mono ?_
  rintro e w1 ⟨rfl, hf1⟩
  have hE1 := HE.out.fr hf1 (fun h => h)
  have hA1 := HA.out.fr hf1 (fun h => h)
  have hM1 := HM.out.fr hf1 (fun h => h) (fun h => h)
  have hF1 := HF.out.trans (hf1.mono (fun _ h => h.elim))
  have HE1 := Lib.hid hE1
  have HA1 := Lib.hid hA1
  have HM1 := Lib.hid hM1
  have HF1 := Lib.hid hF1
  clear hE1 hA1 hM1 hF1 hf1
  go_wp2_with fail
  refine (load_mi HM1.out hb base (by omega) (-1) hn).mono ?_
  rintro e w2 ⟨rfl, hM2, hf2⟩
  have hE2 := HE1.out.fr hf2 (fun h => h.elim hep hes)
  have hA2 := HA1.out.fr hf2 (fun h => h.elim hap has)
  have hF2 := HF1.out.trans (hf2.mono (fun _ h => .inr h))
  have a3 : w2.cell? ⟨a, 3, none⟩ = some (.int .i64 h) := by rw [hA2.cell]; rfl
  have f3 := hA2.frozen 3
  have hFs : Fr (fun k => k = a) w2 (w2.setCell ⟨a, 3, none⟩ (.int .i64 (-1))) := (Fr.refl (fun k => k = a) w2).setCell (p := ⟨a, 3, none⟩) (.inl rfl) _
  have HE2 := Lib.hid (hE2.fr hFs hea)
  have HA2 := Lib.hid (hA2.set_ 3 (.int .i64 (-1)))
  have HM2 := Lib.hid (hM2.fr hFs (fun h => hap h.symm) (fun h => has h.symm))
  have HF2 := Lib.hid (hF2.trans (hFs.mono (fun _ h => .inl h)))
  clear hE2 hA2 hM2 hF2 hf2 hFs
  go_wp2_with fail
  refine (behind_ok _ _).mono ?_
  rintro e w3 ⟨rfl, hf3⟩
  have hE3 := HE2.out.fr hf3 (fun h => h)
  have hA3 := HA2.out.fr hf3 (fun h => h)
  have hM3 := HM2.out.fr hf3 (fun h => h) (fun h => h)
  have hF3 := HF2.out.trans (hf3.mono (fun _ h => h.elim))
  have q0 : w3.cell? ⟨w.heap.size, 0, none⟩ = some (.bool false) := by rw [hE3.cell]; rfl
  have q1 : w3.cell? ⟨w.heap.size, 1, none⟩ = some (.int .i64 0) := by rw [hE3.cell]; rfl
  have q2 : w3.cell? ⟨w.heap.size, 2, none⟩ = some (.int .i64 0) := by rw [hE3.cell]; rfl
  have q3 : w3.cell? ⟨w.heap.size, 3, none⟩ = some (.int .i64 0) := by rw [hE3.cell]; rfl
  have g0 := hE3.frozen 0
  have g1 := hE3.frozen 1
  have g2 := hE3.frozen 2
  have g3 := hE3.frozen 3
  have HE3 := Lib.hid hE3
  have HA3 := Lib.hid hA3
  have HM3 := Lib.hid hM3
  have HF3 := Lib.hid hF3
  clear hE3 hA3 hM3 hF3 hf3
  go_wp2_with fail
  obtain ⟨k1, k2, k3, k4⟩ := fin HE3.out (Nat.le_refl _) HA3.out HM3.out HF3.out (by decide) false 0 0 0
  (try simp only [Exit.inBlock, Exit.then])
  refine bodyPost_ret (results_tct rfl _ _ rfl (load_end k1)) rfl ?_
  exact ⟨rfl, k2, k3, k4⟩

set_option maxHeartbeats 4000000 in
theorem w_looks_go (w : World) (a p s : Nat) (base : Nat) (x : Int) (lk : Nat) (h val : Int) (m : List Int) (b : Nat) (hA : Blk w a 75 (wc base x lk h val)) (hM : MI w p s m b) (hb : b < 900000) (_hbl : base ≤ 60000) (hi : base + 2 < m.length) (n : Int) (hn : m.getD base 0 = n) (hne : n ≠ -1) :
    Calls Try.prog 22 #[.pointer (some ⟨a, 0, none⟩), .pointer (some ⟨p, 0, none⟩)] w (MvP w a p s 75 (wc base x lk n val) (m) b (mv 28 a) (end0)) := by
  have hEb : Blk (w.alloc (.cells #[.bool false, .int .i64 0, .int .i64 0, .int .i64 0] 45)) w.heap.size 45 e0 := Blk.new _ _ _
  have hA0 : Blk (w.alloc (.cells #[.bool false, .int .i64 0, .int .i64 0, .int .i64 0] 45)) a 75 (wc base x lk h val) := hA.alloc _
  have hM0 : MI (w.alloc (.cells #[.bool false, .int .i64 0, .int .i64 0, .int .i64 0] 45)) p s m b := hM.fr (B := fun _ => False) ((Fr.refl _ _).alloc _) (fun h => h) (fun h => h)
  have hF0 : Fr (Thr a p s) w (w.alloc (.cells #[.bool false, .int .i64 0, .int .i64 0, .int .i64 0] 45)) := (Fr.refl _ _).alloc _
  obtain ⟨hap, has⟩ := MI.ne hA0 hM0 (by decide) (by decide)
  obtain ⟨hep, hes⟩ := MI.ne hEb hM0 (by decide) (by decide)
  have hea : w.heap.size ≠ a := Blk.ne_ hEb hA0 (by decide)
  have c0 : (w.alloc (.cells #[.bool false, .int .i64 0, .int .i64 0, .int .i64 0] 45)).cell? ⟨a, 0, none⟩ = some (.int .i64 base) := by rw [hA0.cell]; rfl
  have hmf := mf_any
  have HA := Lib.hid hA0
  have HE := Lib.hid hEb
  have HM := Lib.hid hM0
  have HF := Lib.hid hF0
  clear hA hM hA0 hEb hM0 hF0
  go_enter Try.func22, Try.ntmps22
  go_wp2_with fail
  refine (head_any _ base).mono ?_
  rintro e w1 ⟨rfl, hf1⟩
  have hE1 := HE.out.fr hf1 (fun h => h)
  have hA1 := HA.out.fr hf1 (fun h => h)
  have hM1 := HM.out.fr hf1 (fun h => h) (fun h => h)
  have hF1 := HF.out.trans (hf1.mono (fun _ h => h.elim))
  have HE1 := Lib.hid hE1
  have HA1 := Lib.hid hA1
  have HM1 := Lib.hid hM1
  have HF1 := Lib.hid hF1
  clear hE1 hA1 hM1 hF1 hf1
  go_wp2_with fail
  refine (load_mi HM1.out hb base (by omega) n hn).mono ?_
  rintro e w2 ⟨rfl, hM2, hf2⟩
  have hE2 := HE1.out.fr hf2 (fun h => h.elim hep hes)
  have hA2 := HA1.out.fr hf2 (fun h => h.elim hap has)
  have hF2 := HF1.out.trans (hf2.mono (fun _ h => .inr h))
  have a3 : w2.cell? ⟨a, 3, none⟩ = some (.int .i64 h) := by rw [hA2.cell]; rfl
  have f3 := hA2.frozen 3
  have hFs : Fr (fun k => k = a) w2 (w2.setCell ⟨a, 3, none⟩ (.int .i64 n)) := (Fr.refl (fun k => k = a) w2).setCell (p := ⟨a, 3, none⟩) (.inl rfl) _
  have HE2 := Lib.hid (hE2.fr hFs hea)
  have HA2 := Lib.hid (hA2.set_ 3 (.int .i64 n))
  have HM2 := Lib.hid (hM2.fr hFs (fun h => hap h.symm) (fun h => has h.symm))
  have HF2 := Lib.hid (hF2.trans (hFs.mono (fun _ h => .inl h)))
  clear hE2 hA2 hM2 hF2 hf2 hFs
  have hq : (n == -1) = false := by simpa using hne
  go_wp2_with fail
  refine (behind_ok _ _).mono ?_
  rintro e w3 ⟨rfl, hf3⟩
  have hE3 := HE2.out.fr hf3 (fun h => h)
  have hA3 := HA2.out.fr hf3 (fun h => h)
  have hM3 := HM2.out.fr hf3 (fun h => h) (fun h => h)
  have hF3 := HF2.out.trans (hf3.mono (fun _ h => h.elim))
  have q0 : w3.cell? ⟨w.heap.size, 0, none⟩ = some (.bool false) := by rw [hE3.cell]; rfl
  have q1 : w3.cell? ⟨w.heap.size, 1, none⟩ = some (.int .i64 0) := by rw [hE3.cell]; rfl
  have q2 : w3.cell? ⟨w.heap.size, 2, none⟩ = some (.int .i64 0) := by rw [hE3.cell]; rfl
  have q3 : w3.cell? ⟨w.heap.size, 3, none⟩ = some (.int .i64 0) := by rw [hE3.cell]; rfl
  have g0 := hE3.frozen 0
  have g1 := hE3.frozen 1
  have g2 := hE3.frozen 2
  have g3 := hE3.frozen 3
  have HE3 := Lib.hid hE3
  have HA3 := Lib.hid hA3
  have HM3 := Lib.hid hM3
  have HF3 := Lib.hid hF3
  clear hE3 hA3 hM3 hF3 hf3
  go_wp2_with fail
  obtain ⟨k1, k2, k3, k4⟩ := fin HE3.out (Nat.le_refl _) HA3.out HM3.out HF3.out (by decide) false 0 0 0
  (try simp only [Exit.inBlock, Exit.then])
  refine bodyPost_ret (results_tct rfl _ _ rfl (load_end k1)) rfl ?_
  exact ⟨rfl, k2, k3, k4⟩

set_option maxHeartbeats 4000000 in
theorem w_takesValue (w : World) (a p s : Nat) (base : Nat) (x : Int) (lk : Nat) (h val : Int) (m : List Int) (b : Nat) (hA : Blk w a 75 (wc base x lk h val)) (hM : MI w p s m b) (hb : b < 900000) (_hbl : base ≤ 60000) (hi : base + 2 < m.length) (n : Int) (hn : m.getD (base + 1) 0 = n) :
    Calls Try.prog 27 #[.pointer (some ⟨a, 0, none⟩), .pointer (some ⟨p, 0, none⟩)] w (MvP w a p s 75 (wc base x lk h n) (m) b (mv 33 a) (end0)) := by
  have hEb : Blk (w.alloc (.cells #[.bool false, .int .i64 0, .int .i64 0, .int .i64 0] 45)) w.heap.size 45 e0 := Blk.new _ _ _
  have hA0 : Blk (w.alloc (.cells #[.bool false, .int .i64 0, .int .i64 0, .int .i64 0] 45)) a 75 (wc base x lk h val) := hA.alloc _
  have hM0 : MI (w.alloc (.cells #[.bool false, .int .i64 0, .int .i64 0, .int .i64 0] 45)) p s m b := hM.fr (B := fun _ => False) ((Fr.refl _ _).alloc _) (fun h => h) (fun h => h)
  have hF0 : Fr (Thr a p s) w (w.alloc (.cells #[.bool false, .int .i64 0, .int .i64 0, .int .i64 0] 45)) := (Fr.refl _ _).alloc _
  obtain ⟨hap, has⟩ := MI.ne hA0 hM0 (by decide) (by decide)
  obtain ⟨hep, hes⟩ := MI.ne hEb hM0 (by decide) (by decide)
  have hea : w.heap.size ≠ a := Blk.ne_ hEb hA0 (by decide)
  have c0 : (w.alloc (.cells #[.bool false, .int .i64 0, .int .i64 0, .int .i64 0] 45)).cell? ⟨a, 0, none⟩ = some (.int .i64 base) := by rw [hA0.cell]; rfl
  have hmf := mf_any
  have HA := Lib.hid hA0
  have HE := Lib.hid hEb
  have HM := Lib.hid hM0
  have HF := Lib.hid hF0
  clear hA hM hA0 hEb hM0 hF0
  go_enter Try.func27, Try.ntmps27
  go_wp2_with fail
  refine (value_any _ base _hbl).mono ?_
  rintro e w1 ⟨rfl, hf1⟩
  have hE1 := HE.out.fr hf1 (fun h => h)
  have hA1 := HA.out.fr hf1 (fun h => h)
  have hM1 := HM.out.fr hf1 (fun h => h) (fun h => h)
  have hF1 := HF.out.trans (hf1.mono (fun _ h => h.elim))
  have HE1 := Lib.hid hE1
  have HA1 := Lib.hid hA1
  have HM1 := Lib.hid hM1
  have HF1 := Lib.hid hF1
  clear hE1 hA1 hM1 hF1 hf1
  go_wp2_with fail
  refine (load_mi HM1.out hb (base + 1) (by omega) n hn).mono ?_
  rintro e w2 ⟨rfl, hM2, hf2⟩
  have hE2 := HE1.out.fr hf2 (fun h => h.elim hep hes)
  have hA2 := HA1.out.fr hf2 (fun h => h.elim hap has)
  have hF2 := HF1.out.trans (hf2.mono (fun _ h => .inr h))
  have a3 : w2.cell? ⟨a, 4, none⟩ = some (.int .i64 val) := by rw [hA2.cell]; rfl
  have f3 := hA2.frozen 4
  have hFs : Fr (fun k => k = a) w2 (w2.setCell ⟨a, 4, none⟩ (.int .i64 n)) := (Fr.refl (fun k => k = a) w2).setCell (p := ⟨a, 4, none⟩) (.inl rfl) _
  have HE2 := Lib.hid (hE2.fr hFs hea)
  have HA2 := Lib.hid (hA2.set_ 4 (.int .i64 n))
  have HM2 := Lib.hid (hM2.fr hFs (fun h => hap h.symm) (fun h => has h.symm))
  have HF2 := Lib.hid (hF2.trans (hFs.mono (fun _ h => .inl h)))
  clear hE2 hA2 hM2 hF2 hf2 hFs
  go_wp2_with fail
  refine (behind_ok _ _).mono ?_
  rintro e w3 ⟨rfl, hf3⟩
  have hE3 := HE2.out.fr hf3 (fun h => h)
  have hA3 := HA2.out.fr hf3 (fun h => h)
  have hM3 := HM2.out.fr hf3 (fun h => h) (fun h => h)
  have hF3 := HF2.out.trans (hf3.mono (fun _ h => h.elim))
  have q0 : w3.cell? ⟨w.heap.size, 0, none⟩ = some (.bool false) := by rw [hE3.cell]; rfl
  have q1 : w3.cell? ⟨w.heap.size, 1, none⟩ = some (.int .i64 0) := by rw [hE3.cell]; rfl
  have q2 : w3.cell? ⟨w.heap.size, 2, none⟩ = some (.int .i64 0) := by rw [hE3.cell]; rfl
  have q3 : w3.cell? ⟨w.heap.size, 3, none⟩ = some (.int .i64 0) := by rw [hE3.cell]; rfl
  have g0 := hE3.frozen 0
  have g1 := hE3.frozen 1
  have g2 := hE3.frozen 2
  have g3 := hE3.frozen 3
  have HE3 := Lib.hid hE3
  have HA3 := Lib.hid hA3
  have HM3 := Lib.hid hM3
  have HF3 := Lib.hid hF3
  clear hE3 hA3 hM3 hF3 hf3
  go_wp2_with fail
  obtain ⟨k1, k2, k3, k4⟩ := fin HE3.out (Nat.le_refl _) HA3.out HM3.out HF3.out (by decide) false 0 0 0
  (try simp only [Exit.inBlock, Exit.then])
  refine bodyPost_ret (results_tct rfl _ _ rfl (load_end k1)) rfl ?_
  exact ⟨rfl, k2, k3, k4⟩

set_option maxHeartbeats 4000000 in
theorem f_looks (w : World) (a p s : Nat) (base : Nat) (val why h : Int) (m : List Int) (b : Nat) (hA : Blk w a 78 (fc base val why h)) (hM : MI w p s m b) (hb : b < 900000) (_hbl : base ≤ 60000) (hi : base + 2 < m.length) (n : Int) (hn : m.getD base 0 = n) :
    Calls Try.prog 37 #[.pointer (some ⟨a, 0, none⟩), .pointer (some ⟨p, 0, none⟩)] w (MvP w a p s 78 (fc base val why n) (m) b (mv 40 a) (end0)) := by
  have hEb : Blk (w.alloc (.cells #[.bool false, .int .i64 0, .int .i64 0, .int .i64 0] 45)) w.heap.size 45 e0 := Blk.new _ _ _
  have hA0 : Blk (w.alloc (.cells #[.bool false, .int .i64 0, .int .i64 0, .int .i64 0] 45)) a 78 (fc base val why h) := hA.alloc _
  have hM0 : MI (w.alloc (.cells #[.bool false, .int .i64 0, .int .i64 0, .int .i64 0] 45)) p s m b := hM.fr (B := fun _ => False) ((Fr.refl _ _).alloc _) (fun h => h) (fun h => h)
  have hF0 : Fr (Thr a p s) w (w.alloc (.cells #[.bool false, .int .i64 0, .int .i64 0, .int .i64 0] 45)) := (Fr.refl _ _).alloc _
  obtain ⟨hap, has⟩ := MI.ne hA0 hM0 (by decide) (by decide)
  obtain ⟨hep, hes⟩ := MI.ne hEb hM0 (by decide) (by decide)
  have hea : w.heap.size ≠ a := Blk.ne_ hEb hA0 (by decide)
  have c0 : (w.alloc (.cells #[.bool false, .int .i64 0, .int .i64 0, .int .i64 0] 45)).cell? ⟨a, 0, none⟩ = some (.int .i64 base) := by rw [hA0.cell]; rfl
  have hmf := mf_any
  have HA := Lib.hid hA0
  have HE := Lib.hid hEb
  have HM := Lib.hid hM0
  have HF := Lib.hid hF0
  clear hA hM hA0 hEb hM0 hF0
  go_enter Try.func37, Try.ntmps37
  go_wp2_with fail
  refine (head_any _ base).mono ?_
  rintro e w1 ⟨rfl, hf1⟩
  have hE1 := HE.out.fr hf1 (fun h => h)
  have hA1 := HA.out.fr hf1 (fun h => h)
  have hM1 := HM.out.fr hf1 (fun h => h) (fun h => h)
  have hF1 := HF.out.trans (hf1.mono (fun _ h => h.elim))
  have HE1 := Lib.hid hE1
  have HA1 := Lib.hid hA1
  have HM1 := Lib.hid hM1
  have HF1 := Lib.hid hF1
  clear hE1 hA1 hM1 hF1 hf1
  go_wp2_with fail
  refine (load_mi HM1.out hb base (by omega) n hn).mono ?_
  rintro e w2 ⟨rfl, hM2, hf2⟩
  have hE2 := HE1.out.fr hf2 (fun h => h.elim hep hes)
  have hA2 := HA1.out.fr hf2 (fun h => h.elim hap has)
  have hF2 := HF1.out.trans (hf2.mono (fun _ h => .inr h))
  have a3 : w2.cell? ⟨a, 3, none⟩ = some (.int .i64 h) := by rw [hA2.cell]; rfl
  have f3 := hA2.frozen 3
  have hFs : Fr (fun k => k = a) w2 (w2.setCell ⟨a, 3, none⟩ (.int .i64 n)) := (Fr.refl (fun k => k = a) w2).setCell (p := ⟨a, 3, none⟩) (.inl rfl) _
  have HE2 := Lib.hid (hE2.fr hFs hea)
  have HA2 := Lib.hid (hA2.set_ 3 (.int .i64 n))
  have HM2 := Lib.hid (hM2.fr hFs (fun h => hap h.symm) (fun h => has h.symm))
  have HF2 := Lib.hid (hF2.trans (hFs.mono (fun _ h => .inl h)))
  clear hE2 hA2 hM2 hF2 hf2 hFs
  go_wp2_with fail
  refine (behind_ok _ _).mono ?_
  rintro e w3 ⟨rfl, hf3⟩
  have hE3 := HE2.out.fr hf3 (fun h => h)
  have hA3 := HA2.out.fr hf3 (fun h => h)
  have hM3 := HM2.out.fr hf3 (fun h => h) (fun h => h)
  have hF3 := HF2.out.trans (hf3.mono (fun _ h => h.elim))
  have q0 : w3.cell? ⟨w.heap.size, 0, none⟩ = some (.bool false) := by rw [hE3.cell]; rfl
  have q1 : w3.cell? ⟨w.heap.size, 1, none⟩ = some (.int .i64 0) := by rw [hE3.cell]; rfl
  have q2 : w3.cell? ⟨w.heap.size, 2, none⟩ = some (.int .i64 0) := by rw [hE3.cell]; rfl
  have q3 : w3.cell? ⟨w.heap.size, 3, none⟩ = some (.int .i64 0) := by rw [hE3.cell]; rfl
  have g0 := hE3.frozen 0
  have g1 := hE3.frozen 1
  have g2 := hE3.frozen 2
  have g3 := hE3.frozen 3
  have HE3 := Lib.hid hE3
  have HA3 := Lib.hid hA3
  have HM3 := Lib.hid hM3
  have HF3 := Lib.hid hF3
  clear hE3 hA3 hM3 hF3 hf3
  go_wp2_with fail
  obtain ⟨k1, k2, k3, k4⟩ := fin HE3.out (Nat.le_refl _) HA3.out HM3.out HF3.out (by decide) false 0 0 0
  (try simp only [Exit.inBlock, Exit.then])
  refine bodyPost_ret (results_tct rfl _ _ rfl (load_end k1)) rfl ?_
  exact ⟨rfl, k2, k3, k4⟩

set_option maxHeartbeats 4000000 in
theorem w_takesWhy (w : World) (a p s : Nat) (base : Nat) (x : Int) (lk : Nat) (h val : Int) (m : List Int) (b : Nat) (hA : Blk w a 75 (wc base x lk h val)) (hM : MI w p s m b) (hb : b < 900000) (_hbl : base ≤ 60000) (hi : base + 2 < m.length) (n : Int) (hn : m.getD (base + 2) 0 = n) :
    Calls Try.prog 33 #[.pointer (some ⟨a, 0, none⟩), .pointer (some ⟨p, 0, none⟩)] w (MvP w a p s 75 (wc base x lk h val) (m) b (.nilFunc) (.agg #[.bool false, .int .i64 val, .int .i64 n, .int .i64 0])) := by
  have hEb : Blk (w.alloc (.cells #[.bool false, .int .i64 0, .int .i64 0, .int .i64 0] 45)) w.heap.size 45 e0 := Blk.new _ _ _
  have hA0 : Blk (w.alloc (.cells #[.bool false, .int .i64 0, .int .i64 0, .int .i64 0] 45)) a 75 (wc base x lk h val) := hA.alloc _
  have hM0 : MI (w.alloc (.cells #[.bool false, .int .i64 0, .int .i64 0, .int .i64 0] 45)) p s m b := hM.fr (B := fun _ => False) ((Fr.refl _ _).alloc _) (fun h => h) (fun h => h)
  have hF0 : Fr (Thr a p s) w (w.alloc (.cells #[.bool false, .int .i64 0, .int .i64 0, .int .i64 0] 45)) := (Fr.refl _ _).alloc _
  obtain ⟨hap, has⟩ := MI.ne hA0 hM0 (by decide) (by decide)
  obtain ⟨hep, hes⟩ := MI.ne hEb hM0 (by decide) (by decide)
  have hea : w.heap.size ≠ a := Blk.ne_ hEb hA0 (by decide)
  have c0 : (w.alloc (.cells #[.bool false, .int .i64 0, .int .i64 0, .int .i64 0] 45)).cell? ⟨a, 0, none⟩ = some (.int .i64 base) := by rw [hA0.cell]; rfl
  have hmf := mf_any
  have HA := Lib.hid hA0
  have HE := Lib.hid hEb
  have HM := Lib.hid hM0
  have HF := Lib.hid hF0
  clear hA hM hA0 hEb hM0 hF0
  go_enter Try.func33, Try.ntmps33
  go_wp2_with fail
  refine (why_any _ base _hbl).mono ?_
  rintro e w1 ⟨rfl, hf1⟩
  have hE1 := HE.out.fr hf1 (fun h => h)
  have hA1 := HA.out.fr hf1 (fun h => h)
  have hM1 := HM.out.fr hf1 (fun h => h) (fun h => h)
  have hF1 := HF.out.trans (hf1.mono (fun _ h => h.elim))
  have HE1 := Lib.hid hE1
  have HA1 := Lib.hid hA1
  have HM1 := Lib.hid hM1
  have HF1 := Lib.hid hF1
  clear hE1 hA1 hM1 hF1 hf1
  go_wp2_with fail
  refine (load_mi HM1.out hb (base + 2) (by omega) n hn).mono ?_
  rintro e w2 ⟨rfl, hM2, hf2⟩
  have hE2 := HE1.out.fr hf2 (fun h => h.elim hep hes)
  have hA2 := HA1.out.fr hf2 (fun h => h.elim hap has)
  have hF2 := HF1.out.trans (hf2.mono (fun _ h => .inr h))
  have a4 : w2.cell? ⟨a, 4, none⟩ = some (.int .i64 val) := by rw [hA2.cell]; rfl
  have HE2 := Lib.hid hE2
  have HA2 := Lib.hid hA2
  have HM2 := Lib.hid hM2
  have HF2 := Lib.hid hF2
  clear hE2 hA2 hM2 hF2 hf2
  go_wp2_with fail
  refine (ends_ok _ false val n 0).mono ?_
  rintro e w3 ⟨rfl, hf3⟩
  have hE3 := HE2.out.fr hf3 (fun h => h)
  have hA3 := HA2.out.fr hf3 (fun h => h)
  have hM3 := HM2.out.fr hf3 (fun h => h) (fun h => h)
  have hF3 := HF2.out.trans (hf3.mono (fun _ h => h.elim))
  have q0 : w3.cell? ⟨w.heap.size, 0, none⟩ = some (.bool false) := by rw [hE3.cell]; rfl
  have q1 : w3.cell? ⟨w.heap.size, 1, none⟩ = some (.int .i64 0) := by rw [hE3.cell]; rfl
  have q2 : w3.cell? ⟨w.heap.size, 2, none⟩ = some (.int .i64 0) := by rw [hE3.cell]; rfl
  have q3 : w3.cell? ⟨w.heap.size, 3, none⟩ = some (.int .i64 0) := by rw [hE3.cell]; rfl
  have g0 := hE3.frozen 0
  have g1 := hE3.frozen 1
  have g2 := hE3.frozen 2
  have g3 := hE3.frozen 3
  have HE3 := Lib.hid hE3
  have HA3 := Lib.hid hA3
  have HM3 := Lib.hid hM3
  have HF3 := Lib.hid hF3
  clear hE3 hA3 hM3 hF3 hf3
  go_wp2_with fail
  obtain ⟨k1, k2, k3, k4⟩ := fin HE3.out (Nat.le_refl _) HA3.out HM3.out HF3.out (by decide) false val n 0
  (try simp only [Exit.inBlock, Exit.then])
  refine bodyPost_ret (results_tct rfl _ _ rfl (load_end k1)) rfl ?_
  exact ⟨rfl, k2, k3, k4⟩

set_option maxHeartbeats 4000000 in
theorem w_links (w : World) (a p s : Nat) (base : Nat) (x : Int) (lk : Nat) (h val : Int) (m : List Int) (b : Nat) (hA : Blk w a 75 (wc base x lk h val)) (hM : MI w p s m b) (hb : b < 900000) (_hbl : base ≤ 60000) (hi : lk < m.length) :
    Calls Try.prog 28 #[.pointer (some ⟨a, 0, none⟩), .pointer (some ⟨p, 0, none⟩)] w (MvP w a p s 75 (wc base x lk h val) (m.set lk h) b (mv 34 a) (end0)) := by
  have hEb : Blk (w.alloc (.cells #[.bool false, .int .i64 0, .int .i64 0, .int .i64 0] 45)) w.heap.size 45 e0 := Blk.new _ _ _
  have hA0 : Blk (w.alloc (.cells #[.bool false, .int .i64 0, .int .i64 0, .int .i64 0] 45)) a 75 (wc base x lk h val) := hA.alloc _
  have hM0 : MI (w.alloc (.cells #[.bool false, .int .i64 0, .int .i64 0, .int .i64 0] 45)) p s m b := hM.fr (B := fun _ => False) ((Fr.refl _ _).alloc _) (fun h => h) (fun h => h)
  have hF0 : Fr (Thr a p s) w (w.alloc (.cells #[.bool false, .int .i64 0, .int .i64 0, .int .i64 0] 45)) := (Fr.refl _ _).alloc _
  obtain ⟨hap, has⟩ := MI.ne hA0 hM0 (by decide) (by decide)
  obtain ⟨hep, hes⟩ := MI.ne hEb hM0 (by decide) (by decide)
  have hea : w.heap.size ≠ a := Blk.ne_ hEb hA0 (by decide)
  have c2 : (w.alloc (.cells #[.bool false, .int .i64 0, .int .i64 0, .int .i64 0] 45)).cell? ⟨a, 2, none⟩ = some (.int .i64 lk) := by rw [hA0.cell]; rfl
  have c3 : (w.alloc (.cells #[.bool false, .int .i64 0, .int .i64 0, .int .i64 0] 45)).cell? ⟨a, 3, none⟩ = some (.int .i64 h) := by rw [hA0.cell]; rfl
  have hmf := mf_any
  have HA := Lib.hid hA0
  have HE := Lib.hid hEb
  have HM := Lib.hid hM0
  have HF := Lib.hid hF0
  clear hA hM hA0 hEb hM0 hF0
  go_enter Try.func28, Try.ntmps28
  go_wp2_with fail
  generalize hW0 : (w.alloc (.cells #[.bool false, .int .i64 0, .int .i64 0, .int .i64 0] 45)) = W0 at *
  clear hW0
  refine region_K 19 (fun w' : World => w'.cell? ⟨a, 2, none⟩ = some (.int .i64 lk) ∧ w'.cell? ⟨a, 3, none⟩ = some (.int .i64 h)) (by kernel_rfl) ?_
  have HS : (fun w' : World => w'.cell? ⟨a, 2, none⟩ = some (.int .i64 lk) ∧ w'.cell? ⟨a, 3, none⟩ = some (.int .i64 h)) (W0).drew := ⟨c2, c3⟩
  refine AnyK.take (i := 0) rfl (by decide) (by kernel_rfl) (by kernel_rfl) (by kernel_rfl) (fun _ _ _ _ h => h) HS (fun K hK => ?_)
  go_simp
  refine hK.out _ ⟨_, by rfl, Or.inl ⟨by rfl, by intro w hSw; (try dsimp only at hSw); go_simp⟩, ?_⟩
  clear hK K
  refine AnyK.take (i := 1) rfl (by decide) (by kernel_rfl) (by kernel_rfl) (by kernel_rfl) (fun _ _ _ _ h => h) HS (fun K hK => ?_)
  go_simp
  refine hK.out _ ⟨_, by rfl, Or.inl ⟨by rfl, by intro w hSw; (try dsimp only at hSw); go_simp⟩, ?_⟩
  clear hK K
  refine AnyK.take (i := 2) rfl (by decide) (by kernel_rfl) (by kernel_rfl) (by kernel_rfl) (fun _ _ _ _ h => h) HS (fun K hK => ?_)
  go_simp
  refine hK.out _ ⟨_, by rfl, Or.inl ⟨by rfl, by intro w hSw; (try dsimp only at hSw); go_simp⟩, ?_⟩
  clear hK K
  refine AnyK.take (i := 3) rfl (by decide) (by kernel_rfl) (by kernel_rfl) (by kernel_rfl) (fun _ _ _ _ h => h) HS (fun K hK => ?_)
  go_simp
  refine hK.out _ ⟨_, by rfl, Or.inl ⟨by rfl, by intro w hSw; (try dsimp only at hSw); go_simp⟩, ?_⟩
  clear hK K
  refine AnyK.take (i := 4) rfl (by decide) (by kernel_rfl) (by kernel_rfl) (by kernel_rfl) (fun _ _ _ _ h => h) HS (fun K hK => ?_)
  go_simp
  refine hK.out _ ⟨_, by rfl, Or.inl ⟨by rfl, by intro w hSw; (try dsimp only at hSw); go_simp⟩, ?_⟩
  clear hK K
  refine AnyK.take (i := 5) rfl (by decide) (by kernel_rfl) (by kernel_rfl) (by kernel_rfl) (fun _ _ _ _ h => h) HS (fun K hK => ?_)
  go_simp
  refine hK.out _ ⟨_, by rfl, Or.inl ⟨by rfl, by intro w hSw; (try dsimp only at hSw); go_simp⟩, ?_⟩
  clear hK K
  refine AnyK.take (i := 6) rfl (by decide) (by kernel_rfl) (by kernel_rfl) (by kernel_rfl) (fun _ _ _ _ h => h) HS (fun K hK => ?_)
  go_simp
  refine hK.out _ ⟨_, by rfl, Or.inl ⟨by rfl, by intro w hSw; (try dsimp only at hSw); go_simp⟩, ?_⟩
  clear hK K
  refine AnyK.take (i := 7) rfl (by decide) (by kernel_rfl) (by kernel_rfl) (by kernel_rfl) (fun _ _ _ _ h => h) HS (fun K hK => ?_)
  go_simp
  refine hK.out _ ⟨_, by rfl, Or.inl ⟨by rfl, by intro w hSw; (try dsimp only at hSw); go_simp⟩, ?_⟩
  clear hK K
  refine AnyK.take (i := 8) rfl (by decide) (by kernel_rfl) (by kernel_rfl) (by kernel_rfl) (fun _ _ _ _ h => h) HS (fun K hK => ?_)
  go_simp
  refine hK.out _ ⟨_, by rfl, Or.inl ⟨by rfl, by intro w hSw; (try dsimp only at hSw); go_simp⟩, ?_⟩
  clear hK K
  refine AnyK.take (i := 10) rfl (by decide) (by kernel_rfl) (by kernel_rfl) (by kernel_rfl) (fun _ _ _ _ h => h) HS (fun K hK => ?_)
  go_simp
  refine hK.out _ ⟨_, by rfl, Or.inl ⟨by rfl, by intro w hSw; (try dsimp only at hSw); go_simp⟩, ?_⟩
  clear hK K
  refine AnyK.take (i := 11) rfl (by decide) (by kernel_rfl) (by kernel_rfl) (by kernel_rfl) (fun _ _ _ _ h => h) HS (fun K hK => ?_)
  go_simp
  refine hK.out _ ⟨_, by rfl, Or.inl ⟨by rfl, by intro w hSw; (try dsimp only at hSw); go_simp⟩, ?_⟩
  clear hK K
  refine AnyK.one (i := 9) rfl (by kernel_rfl) (fun K hK => ?_)
  go_simp
  refine (store_mi HM.out.drew hb lk h hi).mono ?_
  rintro e w1 ⟨rfl, hM1, hf1⟩
  have hE1 := HE.out.drew.fr hf1 (fun h => h.elim hep hes)
  have hA1 := HA.out.drew.fr hf1 (fun h => h.elim hap has)
  have hF1 := HF.out.drew.trans (hf1.mono (fun _ h => .inr h))
  have HS : (fun w' : World => w'.cell? ⟨a, 2, none⟩ = some (.int .i64 lk) ∧ w'.cell? ⟨a, 3, none⟩ = some (.int .i64 h)) w1 := ⟨(by rw [hA1.cell]; rfl), (by rw [hA1.cell]; rfl)⟩
  refine hK.out _ _ (fun _ => HS) ?_
  clear hK K
  have HE1 := Lib.hid hE1
  have HA1 := Lib.hid hA1
  have HM1 := Lib.hid hM1
  have HF1 := Lib.hid hF1
  clear hE1 hA1 hM1 hF1 hf1
  refine AnyK.one (i := 12) rfl (by kernel_rfl) (fun K hK => ?_)
  go_simp
  refine (behind_ok _ _).mono ?_
  rintro e w2 ⟨rfl, hf2⟩
  have hE2 := HE1.out.fr hf2 (fun h => h)
  have hA2 := HA1.out.fr hf2 (fun h => h)
  have hM2 := HM1.out.fr hf2 (fun h => h) (fun h => h)
  have hF2 := HF1.out.trans (hf2.mono (fun _ h => h.elim))
  have q0 : w2.cell? ⟨w.heap.size, 0, none⟩ = some (.bool false) := by rw [hE2.cell]; rfl
  have q1 : w2.cell? ⟨w.heap.size, 1, none⟩ = some (.int .i64 0) := by rw [hE2.cell]; rfl
  have q2 : w2.cell? ⟨w.heap.size, 2, none⟩ = some (.int .i64 0) := by rw [hE2.cell]; rfl
  have q3 : w2.cell? ⟨w.heap.size, 3, none⟩ = some (.int .i64 0) := by rw [hE2.cell]; rfl
  have g0 := hE2.frozen 0
  have g1 := hE2.frozen 1
  have g2 := hE2.frozen 2
  have g3 := hE2.frozen 3
  have HS : (fun w' : World => w'.cell? ⟨a, 2, none⟩ = some (.int .i64 lk) ∧ w'.cell? ⟨a, 3, none⟩ = some (.int .i64 h)) w2 := ⟨(by rw [hA2.cell]; rfl), (by rw [hA2.cell]; rfl)⟩
  refine hK.out _ _ (fun _ => HS) ?_
  clear hK K
  have HE2 := Lib.hid hE2
  have HA2 := Lib.hid hA2
  have HM2 := Lib.hid hM2
  have HF2 := Lib.hid hF2
  clear hE2 hA2 hM2 hF2 hf2
  refine AnyK.take (i := 13) rfl (by decide) (by kernel_rfl) (by kernel_rfl) (by kernel_rfl) (fun _ _ _ _ h => h) HS (fun K hK => ?_)
  go_simp
  refine hK.out _ ⟨_, by rfl, Or.inl ⟨by rfl, by intro w hSw; (try dsimp only at hSw); go_simp⟩, ?_⟩
  clear hK K
  refine AnyK.take (i := 14) rfl (by decide) (by kernel_rfl) (by kernel_rfl) (by kernel_rfl) (fun _ _ _ _ h => h) HS (fun K hK => ?_)
  go_simp
  refine hK.out _ ⟨_, by rfl, Or.inl ⟨by rfl, by intro w hSw; (try dsimp only at hSw); go_simp⟩, ?_⟩
  clear hK K
  refine AnyK.take (i := 15) rfl (by decide) (by kernel_rfl) (by kernel_rfl) (by kernel_rfl) (fun _ _ _ _ h => h) HS (fun K hK => ?_)
  go_simp
  refine hK.out _ ⟨_, by rfl, Or.inl ⟨by rfl, by intro w hSw; (try dsimp only at hSw); go_simp⟩, ?_⟩
  clear hK K
  refine AnyK.take (i := 16) rfl (by decide) (by kernel_rfl) (by kernel_rfl) (by kernel_rfl) (fun _ _ _ _ h => h) HS (fun K hK => ?_)
  go_simp
  refine hK.out _ ⟨_, by rfl, Or.inl ⟨by rfl, by intro w hSw; (try dsimp only at hSw); go_simp⟩, ?_⟩
  clear hK K
  refine AnyK.one (i := 17) rfl (by kernel_rfl) (fun K hK => ?_)
  go_simp
  obtain ⟨k1, k2, k3, k4⟩ := fin HE2.out (Nat.le_refl _) HA2.out HM2.out HF2.out (by decide) false 0 0 0
  have HS : (fun w' : World => w'.cell? ⟨a, 2, none⟩ = some (.int .i64 lk) ∧ w'.cell? ⟨a, 3, none⟩ = some (.int .i64 h)) ((((w2.setCell ⟨w.heap.size, 0, none⟩ (.bool false)).setCell ⟨w.heap.size, 1, none⟩ (.int .i64 0)).setCell ⟨w.heap.size, 2, none⟩ (.int .i64 0)).setCell ⟨w.heap.size, 3, none⟩ (.int .i64 0)) := ⟨(by rw [k2.cell]; rfl), (by rw [k2.cell]; rfl)⟩
  have K1 := Lib.hid k1
  have K2 := Lib.hid k2
  have K3 := Lib.hid k3
  have K4 := Lib.hid k4
  clear k1 k2 k3 k4
  refine hK.out _ _ (fun _ => HS) ?_
  clear hK K
  refine AnyK.take (i := 18) rfl (by decide) (by kernel_rfl) (by kernel_rfl) (by kernel_rfl) (fun _ _ _ _ h => h) HS (fun K hK => ?_)
  go_simp
  refine hK.out _ ⟨_, by rfl, Or.inl ⟨by rfl, by intro w hSw; (try dsimp only at hSw); go_simp⟩, ?_⟩
  clear hK K
  refine AnyK.done (by kernel_rfl) ?_ _
  go_wp2_with fail
  (try simp only [Exit.inBlock, Exit.then])
  refine bodyPost_ret (results_tct rfl _ _ rfl (load_end K1.out)) rfl ?_
  exact ⟨rfl, K2.out, K3.out, K4.out⟩

set_option maxHeartbeats 4000000 in
theorem f_storesValue (w : World) (a p s : Nat) (base : Nat) (val why h : Int) (m : List Int) (b : Nat) (hA : Blk w a 78 (fc base val why h)) (hM : MI w p s m b) (hb : b < 900000) (_hbl : base ≤ 60000) (hi : base + 2 < m.length) :
    Calls Try.prog 23 #[.pointer (some ⟨a, 0, none⟩), .pointer (some ⟨p, 0, none⟩)] w (MvP w a p s 78 (fc base val why h) (m.set (base + 1) val) b (mv 31 a) (end0)) := by
  have hEb : Blk (w.alloc (.cells #[.bool false, .int .i64 0, .int .i64 0, .int .i64 0] 45)) w.heap.size 45 e0 := Blk.new _ _ _
  have hA0 : Blk (w.alloc (.cells #[.bool false, .int .i64 0, .int .i64 0, .int .i64 0] 45)) a 78 (fc base val why h) := hA.alloc _
  have hM0 : MI (w.alloc (.cells #[.bool false, .int .i64 0, .int .i64 0, .int .i64 0] 45)) p s m b := hM.fr (B := fun _ => False) ((Fr.refl _ _).alloc _) (fun h => h) (fun h => h)
  have hF0 : Fr (Thr a p s) w (w.alloc (.cells #[.bool false, .int .i64 0, .int .i64 0, .int .i64 0] 45)) := (Fr.refl _ _).alloc _
  obtain ⟨hap, has⟩ := MI.ne hA0 hM0 (by decide) (by decide)
  obtain ⟨hep, hes⟩ := MI.ne hEb hM0 (by decide) (by decide)
  have hea : w.heap.size ≠ a := Blk.ne_ hEb hA0 (by decide)
  have c0 : (w.alloc (.cells #[.bool false, .int .i64 0, .int .i64 0, .int .i64 0] 45)).cell? ⟨a, 0, none⟩ = some (.int .i64 base) := by rw [hA0.cell]; rfl
  have c1 : (w.alloc (.cells #[.bool false, .int .i64 0, .int .i64 0, .int .i64 0] 45)).cell? ⟨a, 1, none⟩ = some (.int .i64 val) := by rw [hA0.cell]; rfl
  have hmf := mf_any
  have HA := Lib.hid hA0
  have HE := Lib.hid hEb
  have HM := Lib.hid hM0
  have HF := Lib.hid hF0
  clear hA hM hA0 hEb hM0 hF0
  go_enter Try.func23, Try.ntmps23
  go_wp2_with fail
  generalize hW0 : (w.alloc (.cells #[.bool false, .int .i64 0, .int .i64 0, .int .i64 0] 45)) = W0 at *
  clear hW0
  refine region_K 20 (fun w' : World => w'.cell? ⟨a, 0, none⟩ = some (.int .i64 base) ∧ w'.cell? ⟨a, 1, none⟩ = some (.int .i64 val)) (by kernel_rfl) ?_
  have HS : (fun w' : World => w'.cell? ⟨a, 0, none⟩ = some (.int .i64 base) ∧ w'.cell? ⟨a, 1, none⟩ = some (.int .i64 val)) (W0).drew := ⟨c0, c1⟩
  refine AnyK.take (i := 0) rfl (by decide) (by kernel_rfl) (by kernel_rfl) (by kernel_rfl) (fun _ _ _ _ h => h) HS (fun K hK => ?_)
  go_simp
  refine hK.out _ ⟨_, by rfl, Or.inl ⟨by rfl, by intro w hSw; (try dsimp only at hSw); go_simp⟩, ?_⟩
  clear hK K
  refine AnyK.take (i := 1) rfl (by decide) (by kernel_rfl) (by kernel_rfl) (by kernel_rfl) (fun _ _ _ _ h => h) HS (fun K hK => ?_)
  go_simp
  refine hK.out _ ⟨_, by rfl, Or.inl ⟨by rfl, by intro w hSw; (try dsimp only at hSw); go_simp⟩, ?_⟩
  clear hK K
  refine AnyK.take (i := 2) rfl (by decide) (by kernel_rfl) (by kernel_rfl) (by kernel_rfl) (fun _ _ _ _ h => h) HS (fun K hK => ?_)
  go_simp
  refine hK.out _ ⟨_, by rfl, Or.inl ⟨by rfl, by intro w hSw; (try dsimp only at hSw); go_simp⟩, ?_⟩
  clear hK K
  refine AnyK.take (i := 3) rfl (by decide) (by kernel_rfl) (by kernel_rfl) (by kernel_rfl) (fun _ _ _ _ h => h) HS (fun K hK => ?_)
  go_simp
  refine hK.out _ ⟨_, by rfl, Or.inl ⟨by rfl, by intro w hSw; (try dsimp only at hSw); go_simp⟩, ?_⟩
  clear hK K
  refine AnyK.take (i := 4) rfl (by decide) (by kernel_rfl) (by kernel_rfl) (by kernel_rfl) (fun _ _ _ _ h => h) HS (fun K hK => ?_)
  go_simp
  refine hK.out _ ⟨_, by rfl, Or.inl ⟨by rfl, by intro w hSw; (try dsimp only at hSw); go_simp⟩, ?_⟩
  clear hK K
  refine AnyK.take (i := 6) rfl (by decide) (by kernel_rfl) (by kernel_rfl) (by kernel_rfl) (fun _ _ _ _ h => h) HS (fun K hK => ?_)
  go_simp
  refine hK.out _ ⟨_, by rfl, Or.inl ⟨by rfl, by intro w hSw; (try dsimp only at hSw); go_simp⟩, ?_⟩
  clear hK K
  refine AnyK.take (i := 7) rfl (by decide) (by kernel_rfl) (by kernel_rfl) (by kernel_rfl) (fun _ _ _ _ h => h) HS (fun K hK => ?_)
  go_simp
  refine hK.out _ ⟨_, by rfl, Or.inl ⟨by rfl, by intro w hSw; (try dsimp only at hSw); go_simp⟩, ?_⟩
  clear hK K
  refine AnyK.take (i := 8) rfl (by decide) (by kernel_rfl) (by kernel_rfl) (by kernel_rfl) (fun _ _ _ _ h => h) HS (fun K hK => ?_)
  go_simp
  refine hK.out _ ⟨_, by rfl, Or.inl ⟨by rfl, by intro w hSw; (try dsimp only at hSw); go_simp⟩, ?_⟩
  clear hK K
  refine AnyK.take (i := 9) rfl (by decide) (by kernel_rfl) (by kernel_rfl) (by kernel_rfl) (fun _ _ _ _ h => h) HS (fun K hK => ?_)
  go_simp
  refine hK.out _ ⟨_, by rfl, Or.inl ⟨by rfl, by intro w hSw; (try dsimp only at hSw); go_simp⟩, ?_⟩
  clear hK K
  refine AnyK.take (i := 11) rfl (by decide) (by kernel_rfl) (by kernel_rfl) (by kernel_rfl) (fun _ _ _ _ h => h) HS (fun K hK => ?_)
  go_simp
  refine hK.out _ ⟨_, by rfl, Or.inl ⟨by rfl, by intro w hSw; (try dsimp only at hSw); go_simp⟩, ?_⟩
  clear hK K
  refine AnyK.take (i := 12) rfl (by decide) (by kernel_rfl) (by kernel_rfl) (by kernel_rfl) (fun _ _ _ _ h => h) HS (fun K hK => ?_)
  go_simp
  refine hK.out _ ⟨_, by rfl, Or.inl ⟨by rfl, by intro w hSw; (try dsimp only at hSw); go_simp⟩, ?_⟩
  clear hK K
  refine AnyK.one (i := 5) rfl (by kernel_rfl) (fun K hK => ?_)
  go_simp
  refine (value_any _ base _hbl).mono ?_
  rintro e w1 ⟨rfl, hf1⟩
  have hE1 := HE.out.drew.fr hf1 (fun h => h)
  have hA1 := HA.out.drew.fr hf1 (fun h => h)
  have hM1 := HM.out.drew.fr hf1 (fun h => h) (fun h => h)
  have hF1 := HF.out.drew.trans (hf1.mono (fun _ h => h.elim))
  have HS : (fun w' : World => w'.cell? ⟨a, 0, none⟩ = some (.int .i64 base) ∧ w'.cell? ⟨a, 1, none⟩ = some (.int .i64 val)) w1 := ⟨(by rw [hA1.cell]; rfl), (by rw [hA1.cell]; rfl)⟩
  refine hK.out _ _ (fun _ => HS) ?_
  clear hK K
  have HE1 := Lib.hid hE1
  have HA1 := Lib.hid hA1
  have HM1 := Lib.hid hM1
  have HF1 := Lib.hid hF1
  clear hE1 hA1 hM1 hF1 hf1
  refine AnyK.one (i := 10) rfl (by kernel_rfl) (fun K hK => ?_)
  go_simp
  refine (store_mi HM1.out hb (base + 1) val (by omega)).mono ?_
  rintro e w2 ⟨rfl, hM2, hf2⟩
  have hE2 := HE1.out.fr hf2 (fun h => h.elim hep hes)
  have hA2 := HA1.out.fr hf2 (fun h => h.elim hap has)
  have hF2 := HF1.out.trans (hf2.mono (fun _ h => .inr h))
  have HS : (fun w' : World => w'.cell? ⟨a, 0, none⟩ = some (.int .i64 base) ∧ w'.cell? ⟨a, 1, none⟩ = some (.int .i64 val)) w2 := ⟨(by rw [hA2.cell]; rfl), (by rw [hA2.cell]; rfl)⟩
  refine hK.out _ _ (fun _ => HS) ?_
  clear hK K
  have HE2 := Lib.hid hE2
  have HA2 := Lib.hid hA2
  have HM2 := Lib.hid hM2
  have HF2 := Lib.hid hF2
  clear hE2 hA2 hM2 hF2 hf2
  refine AnyK.one (i := 13) rfl (by kernel_rfl) (fun K hK => ?_)
  go_simp
  refine (behind_ok _ _).mono ?_
  rintro e w3 ⟨rfl, hf3⟩
  have hE3 := HE2.out.fr hf3 (fun h => h)
  have hA3 := HA2.out.fr hf3 (fun h => h)
  have hM3 := HM2.out.fr hf3 (fun h => h) (fun h => h)
  have hF3 := HF2.out.trans (hf3.mono (fun _ h => h.elim))
  have q0 : w3.cell? ⟨w.heap.size, 0, none⟩ = some (.bool false) := by rw [hE3.cell]; rfl
  have q1 : w3.cell? ⟨w.heap.size, 1, none⟩ = some (.int .i64 0) := by rw [hE3.cell]; rfl
  have q2 : w3.cell? ⟨w.heap.size, 2, none⟩ = some (.int .i64 0) := by rw [hE3.cell]; rfl
  have q3 : w3.cell? ⟨w.heap.size, 3, none⟩ = some (.int .i64 0) := by rw [hE3.cell]; rfl
  have g0 := hE3.frozen 0
  have g1 := hE3.frozen 1
  have g2 := hE3.frozen 2
  have g3 := hE3.frozen 3
  have HS : (fun w' : World => w'.cell? ⟨a, 0, none⟩ = some (.int .i64 base) ∧ w'.cell? ⟨a, 1, none⟩ = some (.int .i64 val)) w3 := ⟨(by rw [hA3.cell]; rfl), (by rw [hA3.cell]; rfl)⟩
  refine hK.out _ _ (fun _ => HS) ?_
  clear hK K
  have HE3 := Lib.hid hE3
  have HA3 := Lib.hid hA3
  have HM3 := Lib.hid hM3
  have HF3 := Lib.hid hF3
  clear hE3 hA3 hM3 hF3 hf3
  refine AnyK.take (i := 14) rfl (by decide) (by kernel_rfl) (by kernel_rfl) (by kernel_rfl) (fun _ _ _ _ h => h) HS (fun K hK => ?_)
  go_simp
  refine hK.out _ ⟨_, by rfl, Or.inl ⟨by rfl, by intro w hSw; (try dsimp only at hSw); go_simp⟩, ?_⟩
  clear hK K
  refine AnyK.take (i := 15) rfl (by decide) (by kernel_rfl) (by kernel_rfl) (by kernel_rfl) (fun _ _ _ _ h => h) HS (fun K hK => ?_)
  go_simp
  refine hK.out _ ⟨_, by rfl, Or.inl ⟨by rfl, by intro w hSw; (try dsimp only at hSw); go_simp⟩, ?_⟩
  clear hK K
  refine AnyK.take (i := 16) rfl (by decide) (by kernel_rfl) (by kernel_rfl) (by kernel_rfl) (fun _ _ _ _ h => h) HS (fun K hK => ?_)
  go_simp
  refine hK.out _ ⟨_, by rfl, Or.inl ⟨by rfl, by intro w hSw; (try dsimp only at hSw); go_simp⟩, ?_⟩
  clear hK K
  refine AnyK.take (i := 17) rfl (by decide) (by kernel_rfl) (by kernel_rfl) (by kernel_rfl) (fun _ _ _ _ h => h) HS (fun K hK => ?_)
  go_simp
  refine hK.out _ ⟨_, by rfl, Or.inl ⟨by rfl, by intro w hSw; (try dsimp only at hSw); go_simp⟩, ?_⟩
  clear hK K
  refine AnyK.one (i := 18) rfl (by kernel_rfl) (fun K hK => ?_)
  go_simp
  obtain ⟨k1, k2, k3, k4⟩ := fin HE3.out (Nat.le_refl _) HA3.out HM3.out HF3.out (by decide) false 0 0 0
  have HS : (fun w' : World => w'.cell? ⟨a, 0, none⟩ = some (.int .i64 base) ∧ w'.cell? ⟨a, 1, none⟩ = some (.int .i64 val)) ((((w3.setCell ⟨w.heap.size, 0, none⟩ (.bool false)).setCell ⟨w.heap.size, 1, none⟩ (.int .i64 0)).setCell ⟨w.heap.size, 2, none⟩ (.int .i64 0)).setCell ⟨w.heap.size, 3, none⟩ (.int .i64 0)) := ⟨(by rw [k2.cell]; rfl), (by rw [k2.cell]; rfl)⟩
  have K1 := Lib.hid k1
  have K2 := Lib.hid k2
  have K3 := Lib.hid k3
  have K4 := Lib.hid k4
  clear k1 k2 k3 k4
  refine hK.out _ _ (fun _ => HS) ?_
  clear hK K
  refine AnyK.take (i := 19) rfl (by decide) (by kernel_rfl) (by kernel_rfl) (by kernel_rfl) (fun _ _ _ _ h => h) HS (fun K hK => ?_)
  go_simp
  refine hK.out _ ⟨_, by rfl, Or.inl ⟨by rfl, by intro w hSw; (try dsimp only at hSw); go_simp⟩, ?_⟩
  clear hK K
  refine AnyK.done (by kernel_rfl) ?_ _
  go_wp2_with fail
  (try simp only [Exit.inBlock, Exit.then])
  refine bodyPost_ret (results_tct rfl _ _ rfl (load_end K1.out)) rfl ?_
  exact ⟨rfl, K2.out, K3.out, K4.out⟩

set_option maxHeartbeats 4000000 in
theorem f_storesWhy (w : World) (a p s : Nat) (base : Nat) (val why h : Int) (m : List Int) (b : Nat) (hA : Blk w a 78 (fc base val why h)) (hM : MI w p s m b) (hb : b < 900000) (_hbl : base ≤ 60000) (hi : base + 2 < m.length) :
    Calls Try.prog 31 #[.pointer (some ⟨a, 0, none⟩), .pointer (some ⟨p, 0, none⟩)] w (MvP w a p s 78 (fc base val why h) (m.set (base + 2) why) b (mv 37 a) (end0)) := by
  have hEb : Blk (w.alloc (.cells #[.bool false, .int .i64 0, .int .i64 0, .int .i64 0] 45)) w.heap.size 45 e0 := Blk.new _ _ _
  have hA0 : Blk (w.alloc (.cells #[.bool false, .int .i64 0, .int .i64 0, .int .i64 0] 45)) a 78 (fc base val why h) := hA.alloc _
  have hM0 : MI (w.alloc (.cells #[.bool false, .int .i64 0, .int .i64 0, .int .i64 0] 45)) p s m b := hM.fr (B := fun _ => False) ((Fr.refl _ _).alloc _) (fun h => h) (fun h => h)
  have hF0 : Fr (Thr a p s) w (w.alloc (.cells #[.bool false, .int .i64 0, .int .i64 0, .int .i64 0] 45)) := (Fr.refl _ _).alloc _
  obtain ⟨hap, has⟩ := MI.ne hA0 hM0 (by decide) (by decide)
  obtain ⟨hep, hes⟩ := MI.ne hEb hM0 (by decide) (by decide)
  have hea : w.heap.size ≠ a := Blk.ne_ hEb hA0 (by decide)
  have c0 : (w.alloc (.cells #[.bool false, .int .i64 0, .int .i64 0, .int .i64 0] 45)).cell? ⟨a, 0, none⟩ = some (.int .i64 base) := by rw [hA0.cell]; rfl
  have c2 : (w.alloc (.cells #[.bool false, .int .i64 0, .int .i64 0, .int .i64 0] 45)).cell? ⟨a, 2, none⟩ = some (.int .i64 why) := by rw [hA0.cell]; rfl
  have hmf := mf_any
  have HA := Lib.hid hA0
  have HE := Lib.hid hEb
  have HM := Lib.hid hM0
  have HF := Lib.hid hF0
  clear hA hM hA0 hEb hM0 hF0
  go_enter Try.func31, Try.ntmps31
  go_wp2_with fail
  generalize hW0 : (w.alloc (.cells #[.bool false, .int .i64 0, .int .i64 0, .int .i64 0] 45)) = W0 at *
  clear hW0
  refine region_K 20 (fun w' : World => w'.cell? ⟨a, 0, none⟩ = some (.int .i64 base) ∧ w'.cell? ⟨a, 2, none⟩ = some (.int .i64 why)) (by kernel_rfl) ?_
  have HS : (fun w' : World => w'.cell? ⟨a, 0, none⟩ = some (.int .i64 base) ∧ w'.cell? ⟨a, 2, none⟩ = some (.int .i64 why)) (W0).drew := ⟨c0, c2⟩
  refine AnyK.take (i := 0) rfl (by decide) (by kernel_rfl) (by kernel_rfl) (by kernel_rfl) (fun _ _ _ _ h => h) HS (fun K hK => ?_)
  go_simp
  refine hK.out _ ⟨_, by rfl, Or.inl ⟨by rfl, by intro w hSw; (try dsimp only at hSw); go_simp⟩, ?_⟩
  clear hK K
  refine AnyK.take (i := 1) rfl (by decide) (by kernel_rfl) (by kernel_rfl) (by kernel_rfl) (fun _ _ _ _ h => h) HS (fun K hK => ?_)
  go_simp
  refine hK.out _ ⟨_, by rfl, Or.inl ⟨by rfl, by intro w hSw; (try dsimp only at hSw); go_simp⟩, ?_⟩
  clear hK K
  refine AnyK.take (i := 2) rfl (by decide) (by kernel_rfl) (by kernel_rfl) (by kernel_rfl) (fun _ _ _ _ h => h) HS (fun K hK => ?_)
  go_simp
  refine hK.out _ ⟨_, by rfl, Or.inl ⟨by rfl, by intro w hSw; (try dsimp only at hSw); go_simp⟩, ?_⟩
  clear hK K
  refine AnyK.take (i := 3) rfl (by decide) (by kernel_rfl) (by kernel_rfl) (by kernel_rfl) (fun _ _ _ _ h => h) HS (fun K hK => ?_)
  go_simp
  refine hK.out _ ⟨_, by rfl, Or.inl ⟨by rfl, by intro w hSw; (try dsimp only at hSw); go_simp⟩, ?_⟩
  clear hK K
  refine AnyK.take (i := 4) rfl (by decide) (by kernel_rfl) (by kernel_rfl) (by kernel_rfl) (fun _ _ _ _ h => h) HS (fun K hK => ?_)
  go_simp
  refine hK.out _ ⟨_, by rfl, Or.inl ⟨by rfl, by intro w hSw; (try dsimp only at hSw); go_simp⟩, ?_⟩
  clear hK K
  refine AnyK.take (i := 6) rfl (by decide) (by kernel_rfl) (by kernel_rfl) (by kernel_rfl) (fun _ _ _ _ h => h) HS (fun K hK => ?_)
  go_simp
  refine hK.out _ ⟨_, by rfl, Or.inl ⟨by rfl, by intro w hSw; (try dsimp only at hSw); go_simp⟩, ?_⟩
  clear hK K
  refine AnyK.take (i := 7) rfl (by decide) (by kernel_rfl) (by kernel_rfl) (by kernel_rfl) (fun _ _ _ _ h => h) HS (fun K hK => ?_)
  go_simp
  refine hK.out _ ⟨_, by rfl, Or.inl ⟨by rfl, by intro w hSw; (try dsimp only at hSw); go_simp⟩, ?_⟩
  clear hK K
  refine AnyK.take (i := 8) rfl (by decide) (by kernel_rfl) (by kernel_rfl) (by kernel_rfl) (fun _ _ _ _ h => h) HS (fun K hK => ?_)
  go_simp
  refine hK.out _ ⟨_, by rfl, Or.inl ⟨by rfl, by intro w hSw; (try dsimp only at hSw); go_simp⟩, ?_⟩
  clear hK K
  refine AnyK.take (i := 9) rfl (by decide) (by kernel_rfl) (by kernel_rfl) (by kernel_rfl) (fun _ _ _ _ h => h) HS (fun K hK => ?_)
  go_simp
  refine hK.out _ ⟨_, by rfl, Or.inl ⟨by rfl, by intro w hSw; (try dsimp only at hSw); go_simp⟩, ?_⟩
  clear hK K
  refine AnyK.take (i := 11) rfl (by decide) (by kernel_rfl) (by kernel_rfl) (by kernel_rfl) (fun _ _ _ _ h => h) HS (fun K hK => ?_)
  go_simp
  refine hK.out _ ⟨_, by rfl, Or.inl ⟨by rfl, by intro w hSw; (try dsimp only at hSw); go_simp⟩, ?_⟩
  clear hK K
  refine AnyK.take (i := 12) rfl (by decide) (by kernel_rfl) (by kernel_rfl) (by kernel_rfl) (fun _ _ _ _ h => h) HS (fun K hK => ?_)
  go_simp
  refine hK.out _ ⟨_, by rfl, Or.inl ⟨by rfl, by intro w hSw; (try dsimp only at hSw); go_simp⟩, ?_⟩
  clear hK K
  refine AnyK.one (i := 5) rfl (by kernel_rfl) (fun K hK => ?_)
  go_simp
  refine (why_any _ base _hbl).mono ?_
  rintro e w1 ⟨rfl, hf1⟩
  have hE1 := HE.out.drew.fr hf1 (fun h => h)
  have hA1 := HA.out.drew.fr hf1 (fun h => h)
  have hM1 := HM.out.drew.fr hf1 (fun h => h) (fun h => h)
  have hF1 := HF.out.drew.trans (hf1.mono (fun _ h => h.elim))
  have HS : (fun w' : World => w'.cell? ⟨a, 0, none⟩ = some (.int .i64 base) ∧ w'.cell? ⟨a, 2, none⟩ = some (.int .i64 why)) w1 := ⟨(by rw [hA1.cell]; rfl), (by rw [hA1.cell]; rfl)⟩
  refine hK.out _ _ (fun _ => HS) ?_
  clear hK K
  have HE1 := Lib.hid hE1
  have HA1 := Lib.hid hA1
  have HM1 := Lib.hid hM1
  have HF1 := Lib.hid hF1
  clear hE1 hA1 hM1 hF1 hf1
  refine AnyK.one (i := 10) rfl (by kernel_rfl) (fun K hK => ?_)
  go_simp
  refine (store_mi HM1.out hb (base + 2) why (by omega)).mono ?_
  rintro e w2 ⟨rfl, hM2, hf2⟩
  have hE2 := HE1.out.fr hf2 (fun h => h.elim hep hes)
  have hA2 := HA1.out.fr hf2 (fun h => h.elim hap has)
  have hF2 := HF1.out.trans (hf2.mono (fun _ h => .inr h))
  have HS : (fun w' : World => w'.cell? ⟨a, 0, none⟩ = some (.int .i64 base) ∧ w'.cell? ⟨a, 2, none⟩ = some (.int .i64 why)) w2 := ⟨(by rw [hA2.cell]; rfl), (by rw [hA2.cell]; rfl)⟩
  refine hK.out _ _ (fun _ => HS) ?_
  clear hK K
  have HE2 := Lib.hid hE2
  have HA2 := Lib.hid hA2
  have HM2 := Lib.hid hM2
  have HF2 := Lib.hid hF2
  clear hE2 hA2 hM2 hF2 hf2
  refine AnyK.one (i := 13) rfl (by kernel_rfl) (fun K hK => ?_)
  go_simp
  refine (behind_ok _ _).mono ?_
  rintro e w3 ⟨rfl, hf3⟩
  have hE3 := HE2.out.fr hf3 (fun h => h)
  have hA3 := HA2.out.fr hf3 (fun h => h)
  have hM3 := HM2.out.fr hf3 (fun h => h) (fun h => h)
  have hF3 := HF2.out.trans (hf3.mono (fun _ h => h.elim))
  have q0 : w3.cell? ⟨w.heap.size, 0, none⟩ = some (.bool false) := by rw [hE3.cell]; rfl
  have q1 : w3.cell? ⟨w.heap.size, 1, none⟩ = some (.int .i64 0) := by rw [hE3.cell]; rfl
  have q2 : w3.cell? ⟨w.heap.size, 2, none⟩ = some (.int .i64 0) := by rw [hE3.cell]; rfl
  have q3 : w3.cell? ⟨w.heap.size, 3, none⟩ = some (.int .i64 0) := by rw [hE3.cell]; rfl
  have g0 := hE3.frozen 0
  have g1 := hE3.frozen 1
  have g2 := hE3.frozen 2
  have g3 := hE3.frozen 3
  have HS : (fun w' : World => w'.cell? ⟨a, 0, none⟩ = some (.int .i64 base) ∧ w'.cell? ⟨a, 2, none⟩ = some (.int .i64 why)) w3 := ⟨(by rw [hA3.cell]; rfl), (by rw [hA3.cell]; rfl)⟩
  refine hK.out _ _ (fun _ => HS) ?_
  clear hK K
  have HE3 := Lib.hid hE3
  have HA3 := Lib.hid hA3
  have HM3 := Lib.hid hM3
  have HF3 := Lib.hid hF3
  clear hE3 hA3 hM3 hF3 hf3
  refine AnyK.take (i := 14) rfl (by decide) (by kernel_rfl) (by kernel_rfl) (by kernel_rfl) (fun _ _ _ _ h => h) HS (fun K hK => ?_)
  go_simp
  refine hK.out _ ⟨_, by rfl, Or.inl ⟨by rfl, by intro w hSw; (try dsimp only at hSw); go_simp⟩, ?_⟩
  clear hK K
  refine AnyK.take (i := 15) rfl (by decide) (by kernel_rfl) (by kernel_rfl) (by kernel_rfl) (fun _ _ _ _ h => h) HS (fun K hK => ?_)
  go_simp
  refine hK.out _ ⟨_, by rfl, Or.inl ⟨by rfl, by intro w hSw; (try dsimp only at hSw); go_simp⟩, ?_⟩
  clear hK K
  refine AnyK.take (i := 16) rfl (by decide) (by kernel_rfl) (by kernel_rfl) (by kernel_rfl) (fun _ _ _ _ h => h) HS (fun K hK => ?_)
  go_simp
  refine hK.out _ ⟨_, by rfl, Or.inl ⟨by rfl, by intro w hSw; (try dsimp only at hSw); go_simp⟩, ?_⟩
  clear hK K
  refine AnyK.take (i := 17) rfl (by decide) (by kernel_rfl) (by kernel_rfl) (by kernel_rfl) (fun _ _ _ _ h => h) HS (fun K hK => ?_)
  go_simp
  refine hK.out _ ⟨_, by rfl, Or.inl ⟨by rfl, by intro w hSw; (try dsimp only at hSw); go_simp⟩, ?_⟩
  clear hK K
  refine AnyK.one (i := 18) rfl (by kernel_rfl) (fun K hK => ?_)
  go_simp
  obtain ⟨k1, k2, k3, k4⟩ := fin HE3.out (Nat.le_refl _) HA3.out HM3.out HF3.out (by decide) false 0 0 0
  have HS : (fun w' : World => w'.cell? ⟨a, 0, none⟩ = some (.int .i64 base) ∧ w'.cell? ⟨a, 2, none⟩ = some (.int .i64 why)) ((((w3.setCell ⟨w.heap.size, 0, none⟩ (.bool false)).setCell ⟨w.heap.size, 1, none⟩ (.int .i64 0)).setCell ⟨w.heap.size, 2, none⟩ (.int .i64 0)).setCell ⟨w.heap.size, 3, none⟩ (.int .i64 0)) := ⟨(by rw [k2.cell]; rfl), (by rw [k2.cell]; rfl)⟩
  have K1 := Lib.hid k1
  have K2 := Lib.hid k2
  have K3 := Lib.hid k3
  have K4 := Lib.hid k4
  clear k1 k2 k3 k4
  refine hK.out _ _ (fun _ => HS) ?_
  clear hK K
  refine AnyK.take (i := 19) rfl (by decide) (by kernel_rfl) (by kernel_rfl) (by kernel_rfl) (fun _ _ _ _ h => h) HS (fun K hK => ?_)
  go_simp
  refine hK.out _ ⟨_, by rfl, Or.inl ⟨by rfl, by intro w hSw; (try dsimp only at hSw); go_simp⟩, ?_⟩
  clear hK K
  refine AnyK.done (by kernel_rfl) ?_ _
  go_wp2_with fail
  (try simp only [Exit.inBlock, Exit.then])
  refine bodyPost_ret (results_tct rfl _ _ rfl (load_end K1.out)) rfl ?_
  exact ⟨rfl, K2.out, K3.out, K4.out⟩

set_option maxHeartbeats 4000000 in
theorem w_joins_yes (w : World) (a p s : Nat) (base : Nat) (x : Int) (lk : Nat) (h val : Int) (m : List Int) (b : Nat) (hA : Blk w a 75 (wc base x lk h val)) (hM : MI w p s m b) (hb : b < 900000) (_hbl : base ≤ 60000) (hi : base + 2 < m.length) (hm : m.getD base 0 = h) :
    Calls Try.prog 34 #[.pointer (some ⟨a, 0, none⟩), .pointer (some ⟨p, 0, none⟩)] w (MvP w a p s 75 (wc base x lk h val) (m.set base x) b (.nilFunc) (.agg #[.bool true, .int .i64 0, .int .i64 0, .int .i64 0])) := by
  have hEb : Blk (w.alloc (.cells #[.bool false, .int .i64 0, .int .i64 0, .int .i64 0] 45)) w.heap.size 45 e0 := Blk.new _ _ _
  have hA0 : Blk (w.alloc (.cells #[.bool false, .int .i64 0, .int .i64 0, .int .i64 0] 45)) a 75 (wc base x lk h val) := hA.alloc _
  have hM0 : MI (w.alloc (.cells #[.bool false, .int .i64 0, .int .i64 0, .int .i64 0] 45)) p s m b := hM.fr (B := fun _ => False) ((Fr.refl _ _).alloc _) (fun h => h) (fun h => h)
  have hF0 : Fr (Thr a p s) w (w.alloc (.cells #[.bool false, .int .i64 0, .int .i64 0, .int .i64 0] 45)) := (Fr.refl _ _).alloc _
  obtain ⟨hap, has⟩ := MI.ne hA0 hM0 (by decide) (by decide)
  obtain ⟨hep, hes⟩ := MI.ne hEb hM0 (by decide) (by decide)
  have hea : w.heap.size ≠ a := Blk.ne_ hEb hA0 (by decide)
  have c0 : (w.alloc (.cells #[.bool false, .int .i64 0, .int .i64 0, .int .i64 0] 45)).cell? ⟨a, 0, none⟩ = some (.int .i64 base) := by rw [hA0.cell]; rfl
  have c1 : (w.alloc (.cells #[.bool false, .int .i64 0, .int .i64 0, .int .i64 0] 45)).cell? ⟨a, 1, none⟩ = some (.int .i64 x) := by rw [hA0.cell]; rfl
  have c3 : (w.alloc (.cells #[.bool false, .int .i64 0, .int .i64 0, .int .i64 0] 45)).cell? ⟨a, 3, none⟩ = some (.int .i64 h) := by rw [hA0.cell]; rfl
  have hmf := mf_any
  have HA := Lib.hid hA0
  have HE := Lib.hid hEb
  have HM := Lib.hid hM0
  have HF := Lib.hid hF0
  clear hA hM hA0 hEb hM0 hF0
  go_enter Try.func34, Try.ntmps34
  go_wp2_with fail
  generalize hW0 : (w.alloc (.cells #[.bool false, .int .i64 0, .int .i64 0, .int .i64 0] 45)) = W0 at *
  clear hW0
  refine region_K 20 (fun w' : World => w'.cell? ⟨a, 0, none⟩ = some (.int .i64 base) ∧ w'.cell? ⟨a, 1, none⟩ = some (.int .i64 x) ∧ w'.cell? ⟨a, 3, none⟩ = some (.int .i64 h)) (by kernel_rfl) ?_
  have HS : (fun w' : World => w'.cell? ⟨a, 0, none⟩ = some (.int .i64 base) ∧ w'.cell? ⟨a, 1, none⟩ = some (.int .i64 x) ∧ w'.cell? ⟨a, 3, none⟩ = some (.int .i64 h)) (W0).drew := ⟨c0, c1, c3⟩
  refine AnyK.take (i := 0) rfl (by decide) (by kernel_rfl) (by kernel_rfl) (by kernel_rfl) (fun _ _ _ _ h => h) HS (fun K hK => ?_)
  go_simp
  refine hK.out _ ⟨_, by rfl, Or.inl ⟨by rfl, by intro w hSw; (try dsimp only at hSw); go_simp⟩, ?_⟩
  clear hK K
  refine AnyK.take (i := 1) rfl (by decide) (by kernel_rfl) (by kernel_rfl) (by kernel_rfl) (fun _ _ _ _ h => h) HS (fun K hK => ?_)
  go_simp
  refine hK.out _ ⟨_, by rfl, Or.inl ⟨by rfl, by intro w hSw; (try dsimp only at hSw); go_simp⟩, ?_⟩
  clear hK K
  refine AnyK.take (i := 2) rfl (by decide) (by kernel_rfl) (by kernel_rfl) (by kernel_rfl) (fun _ _ _ _ h => h) HS (fun K hK => ?_)
  go_simp
  refine hK.out _ ⟨_, by rfl, Or.inl ⟨by rfl, by intro w hSw; (try dsimp only at hSw); go_simp⟩, ?_⟩
  clear hK K
  refine AnyK.take (i := 3) rfl (by decide) (by kernel_rfl) (by kernel_rfl) (by kernel_rfl) (fun _ _ _ _ h => h) HS (fun K hK => ?_)
  go_simp
  refine hK.out _ ⟨_, by rfl, Or.inl ⟨by rfl, by intro w hSw; (try dsimp only at hSw); go_simp⟩, ?_⟩
  clear hK K
  refine AnyK.take (i := 4) rfl (by decide) (by kernel_rfl) (by kernel_rfl) (by kernel_rfl) (fun _ _ _ _ h => h) HS (fun K hK => ?_)
  go_simp
  refine hK.out _ ⟨_, by rfl, Or.inl ⟨by rfl, by intro w hSw; (try dsimp only at hSw); go_simp⟩, ?_⟩
  clear hK K
  refine AnyK.take (i := 6) rfl (by decide) (by kernel_rfl) (by kernel_rfl) (by kernel_rfl) (fun _ _ _ _ h => h) HS (fun K hK => ?_)
  go_simp
  refine hK.out _ ⟨_, by rfl, Or.inl ⟨by rfl, by intro w hSw; (try dsimp only at hSw); go_simp⟩, ?_⟩
  clear hK K
  refine AnyK.take (i := 7) rfl (by decide) (by kernel_rfl) (by kernel_rfl) (by kernel_rfl) (fun _ _ _ _ h => h) HS (fun K hK => ?_)
  go_simp
  refine hK.out _ ⟨_, by rfl, Or.inl ⟨by rfl, by intro w hSw; (try dsimp only at hSw); go_simp⟩, ?_⟩
  clear hK K
  refine AnyK.take (i := 8) rfl (by decide) (by kernel_rfl) (by kernel_rfl) (by kernel_rfl) (fun _ _ _ _ h => h) HS (fun K hK => ?_)
  go_simp
  refine hK.out _ ⟨_, by rfl, Or.inl ⟨by rfl, by intro w hSw; (try dsimp only at hSw); go_simp⟩, ?_⟩
  clear hK K
  refine AnyK.take (i := 9) rfl (by decide) (by kernel_rfl) (by kernel_rfl) (by kernel_rfl) (fun _ _ _ _ h => h) HS (fun K hK => ?_)
  go_simp
  refine hK.out _ ⟨_, by rfl, Or.inl ⟨by rfl, by intro w hSw; (try dsimp only at hSw); go_simp⟩, ?_⟩
  clear hK K
  refine AnyK.take (i := 10) rfl (by decide) (by kernel_rfl) (by kernel_rfl) (by kernel_rfl) (fun _ _ _ _ h => h) HS (fun K hK => ?_)
  go_simp
  refine hK.out _ ⟨_, by rfl, Or.inl ⟨by rfl, by intro w hSw; (try dsimp only at hSw); go_simp⟩, ?_⟩
  clear hK K
  refine AnyK.take (i := 11) rfl (by decide) (by kernel_rfl) (by kernel_rfl) (by kernel_rfl) (fun _ _ _ _ h => h) HS (fun K hK => ?_)
  go_simp
  refine hK.out _ ⟨_, by rfl, Or.inl ⟨by rfl, by intro w hSw; (try dsimp only at hSw); go_simp⟩, ?_⟩
  clear hK K
  refine AnyK.take (i := 12) rfl (by decide) (by kernel_rfl) (by kernel_rfl) (by kernel_rfl) (fun _ _ _ _ h => h) HS (fun K hK => ?_)
  go_simp
  refine hK.out _ ⟨_, by rfl, Or.inl ⟨by rfl, by intro w hSw; (try dsimp only at hSw); go_simp⟩, ?_⟩
  clear hK K
  refine AnyK.take (i := 13) rfl (by decide) (by kernel_rfl) (by kernel_rfl) (by kernel_rfl) (fun _ _ _ _ h => h) HS (fun K hK => ?_)
  go_simp
  refine hK.out _ ⟨_, by rfl, Or.inl ⟨by rfl, by intro w hSw; (try dsimp only at hSw); go_simp⟩, ?_⟩
  clear hK K
  refine AnyK.one (i := 5) rfl (by kernel_rfl) (fun K hK => ?_)
  go_simp
  refine (head_any _ base).mono ?_
  rintro e w1 ⟨rfl, hf1⟩
  have hE1 := HE.out.drew.fr hf1 (fun h => h)
  have hA1 := HA.out.drew.fr hf1 (fun h => h)
  have hM1 := HM.out.drew.fr hf1 (fun h => h) (fun h => h)
  have hF1 := HF.out.drew.trans (hf1.mono (fun _ h => h.elim))
  have HS : (fun w' : World => w'.cell? ⟨a, 0, none⟩ = some (.int .i64 base) ∧ w'.cell? ⟨a, 1, none⟩ = some (.int .i64 x) ∧ w'.cell? ⟨a, 3, none⟩ = some (.int .i64 h)) w1 := ⟨(by rw [hA1.cell]; rfl), (by rw [hA1.cell]; rfl), (by rw [hA1.cell]; rfl)⟩
  refine hK.out _ _ (fun _ => HS) ?_
  clear hK K
  have HE1 := Lib.hid hE1
  have HA1 := Lib.hid hA1
  have HM1 := Lib.hid hM1
  have HF1 := Lib.hid hF1
  clear hE1 hA1 hM1 hF1 hf1
  refine AnyK.one (i := 14) rfl (by kernel_rfl) (fun K hK => ?_)
  go_simp
  refine (swap_yes_mi HM1.out hb base h x (by omega) hm).mono ?_
  rintro e w2 ⟨rfl, hM2, hf2⟩
  have hE2 := HE1.out.fr hf2 (fun h => h.elim hep hes)
  have hA2 := HA1.out.fr hf2 (fun h => h.elim hap has)
  have hF2 := HF1.out.trans (hf2.mono (fun _ h => .inr h))
  have HS : (fun w' : World => w'.cell? ⟨a, 0, none⟩ = some (.int .i64 base) ∧ w'.cell? ⟨a, 1, none⟩ = some (.int .i64 x) ∧ w'.cell? ⟨a, 3, none⟩ = some (.int .i64 h)) w2 := ⟨(by rw [hA2.cell]; rfl), (by rw [hA2.cell]; rfl), (by rw [hA2.cell]; rfl)⟩
  refine hK.out _ _ (fun _ => HS) ?_
  clear hK K
  have HE2 := Lib.hid hE2
  have HA2 := Lib.hid hA2
  have HM2 := Lib.hid hM2
  have HF2 := Lib.hid hF2
  clear hE2 hA2 hM2 hF2 hf2
  refine AnyK.take (i := 15) rfl (by decide) (by kernel_rfl) (by kernel_rfl) (by kernel_rfl) (fun _ _ _ _ h => h) HS (fun K hK => ?_)
  go_simp
  refine hK.out _ ⟨_, by rfl, Or.inl ⟨by rfl, by intro w hSw; (try dsimp only at hSw); go_simp⟩, ?_⟩
  clear hK K
  refine AnyK.take (i := 16) rfl (by decide) (by kernel_rfl) (by kernel_rfl) (by kernel_rfl) (fun _ _ _ _ h => h) HS (fun K hK => ?_)
  go_simp
  refine hK.out _ ⟨_, by rfl, Or.inl ⟨by rfl, by intro w hSw; (try dsimp only at hSw); go_simp⟩, ?_⟩
  clear hK K
  refine AnyK.take (i := 17) rfl (by decide) (by kernel_rfl) (by kernel_rfl) (by kernel_rfl) (fun _ _ _ _ h => h) HS (fun K hK => ?_)
  go_simp
  refine hK.out _ ⟨_, by rfl, Or.inl ⟨by rfl, by intro w hSw; (try dsimp only at hSw); go_simp⟩, ?_⟩
  clear hK K
  refine AnyK.take (i := 18) rfl (by decide) (by kernel_rfl) (by kernel_rfl) (by kernel_rfl) (fun _ _ _ _ h => h) HS (fun K hK => ?_)
  go_simp
  refine hK.out _ ⟨_, by rfl, Or.inl ⟨by rfl, by intro w hSw; (try dsimp only at hSw); go_simp⟩, ?_⟩
  clear hK K
  refine AnyK.take (i := 19) rfl (by decide) (by kernel_rfl) (by kernel_rfl) (by kernel_rfl) (fun _ _ _ _ h => h) HS (fun K hK => ?_)
  go_simp
  refine hK.out _ ⟨_, by rfl, Or.inl ⟨by rfl, by intro w hSw; (try dsimp only at hSw); go_simp⟩, ?_⟩
  clear hK K
  refine AnyK.done (by kernel_rfl) ?_ _
  have q0 : w2.cell? ⟨w.heap.size, 0, none⟩ = some (.bool false) := by rw [HE2.out.cell]; rfl
  have q1 : w2.cell? ⟨w.heap.size, 1, none⟩ = some (.int .i64 0) := by rw [HE2.out.cell]; rfl
  have q2 : w2.cell? ⟨w.heap.size, 2, none⟩ = some (.int .i64 0) := by rw [HE2.out.cell]; rfl
  have q3 : w2.cell? ⟨w.heap.size, 3, none⟩ = some (.int .i64 0) := by rw [HE2.out.cell]; rfl
  have g0 := HE2.out.frozen 0
  have g1 := HE2.out.frozen 1
  have g2 := HE2.out.frozen 2
  have g3 := HE2.out.frozen 3
  go_wp2_with fail
  refine (ends_ok _ true 0 0 0).mono ?_
  rintro e w3 ⟨rfl, hf3⟩
  have hE3 := HE2.out.fr hf3 (fun h => h)
  have hA3 := HA2.out.fr hf3 (fun h => h)
  have hM3 := HM2.out.fr hf3 (fun h => h) (fun h => h)
  have hF3 := HF2.out.trans (hf3.mono (fun _ h => h.elim))
  have q0 : w3.cell? ⟨w.heap.size, 0, none⟩ = some (.bool false) := by rw [hE3.cell]; rfl
  have q1 : w3.cell? ⟨w.heap.size, 1, none⟩ = some (.int .i64 0) := by rw [hE3.cell]; rfl
  have q2 : w3.cell? ⟨w.heap.size, 2, none⟩ = some (.int .i64 0) := by rw [hE3.cell]; rfl
  have q3 : w3.cell? ⟨w.heap.size, 3, none⟩ = some (.int .i64 0) := by rw [hE3.cell]; rfl
  have g0 := hE3.frozen 0
  have g1 := hE3.frozen 1
  have g2 := hE3.frozen 2
  have g3 := hE3.frozen 3
  have HE3 := Lib.hid hE3
  have HA3 := Lib.hid hA3
  have HM3 := Lib.hid hM3
  have HF3 := Lib.hid hF3
  clear hE3 hA3 hM3 hF3 hf3
  go_wp2_with fail
  obtain ⟨k1, k2, k3, k4⟩ := fin HE3.out (Nat.le_refl _) HA3.out HM3.out HF3.out (by decide) true 0 0 0
  (try simp only [Exit.inBlock, Exit.then])
  refine bodyPost_ret (results_tct rfl _ _ rfl (load_end k1)) rfl ?_
  exact ⟨rfl, k2, k3, k4⟩

set_option maxHeartbeats 4000000 in
theorem w_joins_no (w : World) (a p s : Nat) (base : Nat) (x : Int) (lk : Nat) (h val : Int) (m : List Int) (b : Nat) (hA : Blk w a 75 (wc base x lk h val)) (hM : MI w p s m b) (hb : b < 900000) (_hbl : base ≤ 60000) (hi : base + 2 < m.length) (hm : m.getD base 0 ≠ h) :
    Calls Try.prog 34 #[.pointer (some ⟨a, 0, none⟩), .pointer (some ⟨p, 0, none⟩)] w (MvP w a p s 75 (wc base x lk h val) (m) b (mv 22 a) (end0)) := by
  have hEb : Blk (w.alloc (.cells #[.bool false, .int .i64 0, .int .i64 0, .int .i64 0] 45)) w.heap.size 45 e0 := Blk.new _ _ _
  have hA0 : Blk (w.alloc (.cells #[.bool false, .int .i64 0, .int .i64 0, .int .i64 0] 45)) a 75 (wc base x lk h val) := hA.alloc _
  have hM0 : MI (w.alloc (.cells #[.bool false, .int .i64 0, .int .i64 0, .int .i64 0] 45)) p s m b := hM.fr (B := fun _ => False) ((Fr.refl _ _).alloc _) (fun h => h) (fun h => h)
  have hF0 : Fr (Thr a p s) w (w.alloc (.cells #[.bool false, .int .i64 0, .int .i64 0, .int .i64 0] 45)) := (Fr.refl _ _).alloc _
  obtain ⟨hap, has⟩ := MI.ne hA0 hM0 (by decide) (by decide)
  obtain ⟨hep, hes⟩ := MI.ne hEb hM0 (by decide) (by decide)
  have hea : w.heap.size ≠ a := Blk.ne_ hEb hA0 (by decide)
  have c0 : (w.alloc (.cells #[.bool false, .int .i64 0, .int .i64 0, .int .i64 0] 45)).cell? ⟨a, 0, none⟩ = some (.int .i64 base) := by rw [hA0.cell]; rfl
  have c1 : (w.alloc (.cells #[.bool false, .int .i64 0, .int .i64 0, .int .i64 0] 45)).cell? ⟨a, 1, none⟩ = some (.int .i64 x) := by rw [hA0.cell]; rfl
  have c3 : (w.alloc (.cells #[.bool false, .int .i64 0, .int .i64 0, .int .i64 0] 45)).cell? ⟨a, 3, none⟩ = some (.int .i64 h) := by rw [hA0.cell]; rfl
  have hmf := mf_any
  have HA := Lib.hid hA0
  have HE := Lib.hid hEb
  have HM := Lib.hid hM0
  have HF := Lib.hid hF0
  clear hA hM hA0 hEb hM0 hF0
  go_enter Try.func34, Try.ntmps34
  go_wp2_with fail
  generalize hW0 : (w.alloc (.cells #[.bool false, .int .i64 0, .int .i64 0, .int .i64 0] 45)) = W0 at *
  clear hW0
  refine region_K 20 (fun w' : World => w'.cell? ⟨a, 0, none⟩ = some (.int .i64 base) ∧ w'.cell? ⟨a, 1, none⟩ = some (.int .i64 x) ∧ w'.cell? ⟨a, 3, none⟩ = some (.int .i64 h)) (by kernel_rfl) ?_
  have HS : (fun w' : World => w'.cell? ⟨a, 0, none⟩ = some (.int .i64 base) ∧ w'.cell? ⟨a, 1, none⟩ = some (.int .i64 x) ∧ w'.cell? ⟨a, 3, none⟩ = some (.int .i64 h)) (W0).drew := ⟨c0, c1, c3⟩
  refine AnyK.take (i := 0) rfl (by decide) (by kernel_rfl) (by kernel_rfl) (by kernel_rfl) (fun _ _ _ _ h => h) HS (fun K hK => ?_)
  go_simp
  refine hK.out _ ⟨_, by rfl, Or.inl ⟨by rfl, by intro w hSw; (try dsimp only at hSw); go_simp⟩, ?_⟩
  clear hK K
  refine AnyK.take (i := 1) rfl (by decide) (by kernel_rfl) (by kernel_rfl) (by kernel_rfl) (fun _ _ _ _ h => h) HS (fun K hK => ?_)
  go_simp
  refine hK.out _ ⟨_, by rfl, Or.inl ⟨by rfl, by intro w hSw; (try dsimp only at hSw); go_simp⟩, ?_⟩
  clear hK K
  refine AnyK.take (i := 2) rfl (by decide) (by kernel_rfl) (by kernel_rfl) (by kernel_rfl) (fun _ _ _ _ h => h) HS (fun K hK => ?_)
  go_simp
  refine hK.out _ ⟨_, by rfl, Or.inl ⟨by rfl, by intro w hSw; (try dsimp only at hSw); go_simp⟩, ?_⟩
  clear hK K
  refine AnyK.take (i := 3) rfl (by decide) (by kernel_rfl) (by kernel_rfl) (by kernel_rfl) (fun _ _ _ _ h => h) HS (fun K hK => ?_)
  go_simp
  refine hK.out _ ⟨_, by rfl, Or.inl ⟨by rfl, by intro w hSw; (try dsimp only at hSw); go_simp⟩, ?_⟩
  clear hK K
  refine AnyK.take (i := 4) rfl (by decide) (by kernel_rfl) (by kernel_rfl) (by kernel_rfl) (fun _ _ _ _ h => h) HS (fun K hK => ?_)
  go_simp
  refine hK.out _ ⟨_, by rfl, Or.inl ⟨by rfl, by intro w hSw; (try dsimp only at hSw); go_simp⟩, ?_⟩
  clear hK K
  refine AnyK.take (i := 6) rfl (by decide) (by kernel_rfl) (by kernel_rfl) (by kernel_rfl) (fun _ _ _ _ h => h) HS (fun K hK => ?_)
  go_simp
  refine hK.out _ ⟨_, by rfl, Or.inl ⟨by rfl, by intro w hSw; (try dsimp only at hSw); go_simp⟩, ?_⟩
  clear hK K
  refine AnyK.take (i := 7) rfl (by decide) (by kernel_rfl) (by kernel_rfl) (by kernel_rfl) (fun _ _ _ _ h => h) HS (fun K hK => ?_)
  go_simp
  refine hK.out _ ⟨_, by rfl, Or.inl ⟨by rfl, by intro w hSw; (try dsimp only at hSw); go_simp⟩, ?_⟩
  clear hK K
  refine AnyK.take (i := 8) rfl (by decide) (by kernel_rfl) (by kernel_rfl) (by kernel_rfl) (fun _ _ _ _ h => h) HS (fun K hK => ?_)
  go_simp
  refine hK.out _ ⟨_, by rfl, Or.inl ⟨by rfl, by intro w hSw; (try dsimp only at hSw); go_simp⟩, ?_⟩
  clear hK K
  refine AnyK.take (i := 9) rfl (by decide) (by kernel_rfl) (by kernel_rfl) (by kernel_rfl) (fun _ _ _ _ h => h) HS (fun K hK => ?_)
  go_simp
  refine hK.out _ ⟨_, by rfl, Or.inl ⟨by rfl, by intro w hSw; (try dsimp only at hSw); go_simp⟩, ?_⟩
  clear hK K
  refine AnyK.take (i := 10) rfl (by decide) (by kernel_rfl) (by kernel_rfl) (by kernel_rfl) (fun _ _ _ _ h => h) HS (fun K hK => ?_)
  go_simp
  refine hK.out _ ⟨_, by rfl, Or.inl ⟨by rfl, by intro w hSw; (try dsimp only at hSw); go_simp⟩, ?_⟩
  clear hK K
  refine AnyK.take (i := 11) rfl (by decide) (by kernel_rfl) (by kernel_rfl) (by kernel_rfl) (fun _ _ _ _ h => h) HS (fun K hK => ?_)
  go_simp
  refine hK.out _ ⟨_, by rfl, Or.inl ⟨by rfl, by intro w hSw; (try dsimp only at hSw); go_simp⟩, ?_⟩
  clear hK K
  refine AnyK.take (i := 12) rfl (by decide) (by kernel_rfl) (by kernel_rfl) (by kernel_rfl) (fun _ _ _ _ h => h) HS (fun K hK => ?_)
  go_simp
  refine hK.out _ ⟨_, by rfl, Or.inl ⟨by rfl, by intro w hSw; (try dsimp only at hSw); go_simp⟩, ?_⟩
  clear hK K
  refine AnyK.take (i := 13) rfl (by decide) (by kernel_rfl) (by kernel_rfl) (by kernel_rfl) (fun _ _ _ _ h => h) HS (fun K hK => ?_)
  go_simp
  refine hK.out _ ⟨_, by rfl, Or.inl ⟨by rfl, by intro w hSw; (try dsimp only at hSw); go_simp⟩, ?_⟩
  clear hK K
  refine AnyK.one (i := 5) rfl (by kernel_rfl) (fun K hK => ?_)
  go_simp
  refine (head_any _ base).mono ?_
  rintro e w1 ⟨rfl, hf1⟩
  have hE1 := HE.out.drew.fr hf1 (fun h => h)
  have hA1 := HA.out.drew.fr hf1 (fun h => h)
  have hM1 := HM.out.drew.fr hf1 (fun h => h) (fun h => h)
  have hF1 := HF.out.drew.trans (hf1.mono (fun _ h => h.elim))
  have HS : (fun w' : World => w'.cell? ⟨a, 0, none⟩ = some (.int .i64 base) ∧ w'.cell? ⟨a, 1, none⟩ = some (.int .i64 x) ∧ w'.cell? ⟨a, 3, none⟩ = some (.int .i64 h)) w1 := ⟨(by rw [hA1.cell]; rfl), (by rw [hA1.cell]; rfl), (by rw [hA1.cell]; rfl)⟩
  refine hK.out _ _ (fun _ => HS) ?_
  clear hK K
  have HE1 := Lib.hid hE1
  have HA1 := Lib.hid hA1
  have HM1 := Lib.hid hM1
  have HF1 := Lib.hid hF1
  clear hE1 hA1 hM1 hF1 hf1
  refine AnyK.one (i := 14) rfl (by kernel_rfl) (fun K hK => ?_)
  go_simp
  refine (swap_no_mi HM1.out hb base h x (by omega) hm).mono ?_
  rintro e w2 ⟨rfl, hM2, hf2⟩
  have hE2 := HE1.out.fr hf2 (fun h => h.elim hep hes)
  have hA2 := HA1.out.fr hf2 (fun h => h.elim hap has)
  have hF2 := HF1.out.trans (hf2.mono (fun _ h => .inr h))
  have HS : (fun w' : World => w'.cell? ⟨a, 0, none⟩ = some (.int .i64 base) ∧ w'.cell? ⟨a, 1, none⟩ = some (.int .i64 x) ∧ w'.cell? ⟨a, 3, none⟩ = some (.int .i64 h)) w2 := ⟨(by rw [hA2.cell]; rfl), (by rw [hA2.cell]; rfl), (by rw [hA2.cell]; rfl)⟩
  refine hK.out _ _ (fun _ => HS) ?_
  clear hK K
  have HE2 := Lib.hid hE2
  have HA2 := Lib.hid hA2
  have HM2 := Lib.hid hM2
  have HF2 := Lib.hid hF2
  clear hE2 hA2 hM2 hF2 hf2
  refine AnyK.take (i := 15) rfl (by decide) (by kernel_rfl) (by kernel_rfl) (by kernel_rfl) (fun _ _ _ _ h => h) HS (fun K hK => ?_)
  go_simp
  refine hK.out _ ⟨_, by rfl, Or.inl ⟨by rfl, by intro w hSw; (try dsimp only at hSw); go_simp⟩, ?_⟩
  clear hK K
  refine AnyK.take (i := 16) rfl (by decide) (by kernel_rfl) (by kernel_rfl) (by kernel_rfl) (fun _ _ _ _ h => h) HS (fun K hK => ?_)
  go_simp
  refine hK.out _ ⟨_, by rfl, Or.inl ⟨by rfl, by intro w hSw; (try dsimp only at hSw); go_simp⟩, ?_⟩
  clear hK K
  refine AnyK.take (i := 17) rfl (by decide) (by kernel_rfl) (by kernel_rfl) (by kernel_rfl) (fun _ _ _ _ h => h) HS (fun K hK => ?_)
  go_simp
  refine hK.out _ ⟨_, by rfl, Or.inl ⟨by rfl, by intro w hSw; (try dsimp only at hSw); go_simp⟩, ?_⟩
  clear hK K
  refine AnyK.take (i := 18) rfl (by decide) (by kernel_rfl) (by kernel_rfl) (by kernel_rfl) (fun _ _ _ _ h => h) HS (fun K hK => ?_)
  go_simp
  refine hK.out _ ⟨_, by rfl, Or.inl ⟨by rfl, by intro w hSw; (try dsimp only at hSw); go_simp⟩, ?_⟩
  clear hK K
  refine AnyK.take (i := 19) rfl (by decide) (by kernel_rfl) (by kernel_rfl) (by kernel_rfl) (fun _ _ _ _ h => h) HS (fun K hK => ?_)
  go_simp
  refine hK.out _ ⟨_, by rfl, Or.inl ⟨by rfl, by intro w hSw; (try dsimp only at hSw); go_simp⟩, ?_⟩
  clear hK K
  refine AnyK.done (by kernel_rfl) ?_ _
  have q0 : w2.cell? ⟨w.heap.size, 0, none⟩ = some (.bool false) := by rw [HE2.out.cell]; rfl
  have q1 : w2.cell? ⟨w.heap.size, 1, none⟩ = some (.int .i64 0) := by rw [HE2.out.cell]; rfl
  have q2 : w2.cell? ⟨w.heap.size, 2, none⟩ = some (.int .i64 0) := by rw [HE2.out.cell]; rfl
  have q3 : w2.cell? ⟨w.heap.size, 3, none⟩ = some (.int .i64 0) := by rw [HE2.out.cell]; rfl
  have g0 := HE2.out.frozen 0
  have g1 := HE2.out.frozen 1
  have g2 := HE2.out.frozen 2
  have g3 := HE2.out.frozen 3
  go_wp2_with fail
  obtain ⟨k1, k2, k3, k4⟩ := fin HE2.out (Nat.le_refl _) HA2.out HM2.out HF2.out (by decide) false 0 0 0
  (try simp only [Exit.inBlock, Exit.then])
  refine bodyPost_ret (results_tct rfl _ _ rfl (load_end k1)) rfl ?_
  exact ⟨rfl, k2, k3, k4⟩

set_option maxHeartbeats 4000000 in
theorem f_closes_yes (w : World) (a p s : Nat) (base : Nat) (val why h : Int) (m : List Int) (b : Nat) (hA : Blk w a 78 (fc base val why h)) (hM : MI w p s m b) (hb : b < 900000) (_hbl : base ≤ 60000) (hi : base + 2 < m.length) (hm : m.getD base 0 = h) :
    Calls Try.prog 40 #[.pointer (some ⟨a, 0, none⟩), .pointer (some ⟨p, 0, none⟩)] w (MvP w a p s 78 (fc base val why h) (m.set base (-1)) b (.nilFunc) (.agg #[.bool false, .int .i64 0, .int .i64 0, .int .i64 h])) := by
  have hEb : Blk (w.alloc (.cells #[.bool false, .int .i64 0, .int .i64 0, .int .i64 0] 45)) w.heap.size 45 e0 := Blk.new _ _ _
  have hA0 : Blk (w.alloc (.cells #[.bool false, .int .i64 0, .int .i64 0, .int .i64 0] 45)) a 78 (fc base val why h) := hA.alloc _
  have hM0 : MI (w.alloc (.cells #[.bool false, .int .i64 0, .int .i64 0, .int .i64 0] 45)) p s m b := hM.fr (B := fun _ => False) ((Fr.refl _ _).alloc _) (fun h => h) (fun h => h)
  have hF0 : Fr (Thr a p s) w (w.alloc (.cells #[.bool false, .int .i64 0, .int .i64 0, .int .i64 0] 45)) := (Fr.refl _ _).alloc _
  obtain ⟨hap, has⟩ := MI.ne hA0 hM0 (by decide) (by decide)
  obtain ⟨hep, hes⟩ := MI.ne hEb hM0 (by decide) (by decide)
  have hea : w.heap.size ≠ a := Blk.ne_ hEb hA0 (by decide)
  have c0 : (w.alloc (.cells #[.bool false, .int .i64 0, .int .i64 0, .int .i64 0] 45)).cell? ⟨a, 0, none⟩ = some (.int .i64 base) := by rw [hA0.cell]; rfl
  have c3 : (w.alloc (.cells #[.bool false, .int .i64 0, .int .i64 0, .int .i64 0] 45)).cell? ⟨a, 3, none⟩ = some (.int .i64 h) := by rw [hA0.cell]; rfl
  have hmf := mf_any
  have HA := Lib.hid hA0
  have HE := Lib.hid hEb
  have HM := Lib.hid hM0
  have HF := Lib.hid hF0
  clear hA hM hA0 hEb hM0 hF0
  go_enter Try.func40, Try.ntmps40
  go_wp2_with fail
  generalize hW0 : (w.alloc (.cells #[.bool false, .int .i64 0, .int .i64 0, .int .i64 0] 45)) = W0 at *
  clear hW0
  refine region_K 16 (fun w' : World => w'.cell? ⟨a, 0, none⟩ = some (.int .i64 base) ∧ w'.cell? ⟨a, 3, none⟩ = some (.int .i64 h)) (by kernel_rfl) ?_
  have HS : (fun w' : World => w'.cell? ⟨a, 0, none⟩ = some (.int .i64 base) ∧ w'.cell? ⟨a, 3, none⟩ = some (.int .i64 h)) (W0).drew := ⟨c0, c3⟩
  refine AnyK.take (i := 0) rfl (by decide) (by kernel_rfl) (by kernel_rfl) (by kernel_rfl) (fun _ _ _ _ h => h) HS (fun K hK => ?_)
  go_simp
  refine hK.out _ ⟨_, by rfl, Or.inl ⟨by rfl, by intro w hSw; (try dsimp only at hSw); go_simp⟩, ?_⟩
  clear hK K
  refine AnyK.take (i := 1) rfl (by decide) (by kernel_rfl) (by kernel_rfl) (by kernel_rfl) (fun _ _ _ _ h => h) HS (fun K hK => ?_)
  go_simp
  refine hK.out _ ⟨_, by rfl, Or.inl ⟨by rfl, by intro w hSw; (try dsimp only at hSw); go_simp⟩, ?_⟩
  clear hK K
  refine AnyK.take (i := 2) rfl (by decide) (by kernel_rfl) (by kernel_rfl) (by kernel_rfl) (fun _ _ _ _ h => h) HS (fun K hK => ?_)
  go_simp
  refine hK.out _ ⟨_, by rfl, Or.inl ⟨by rfl, by intro w hSw; (try dsimp only at hSw); go_simp⟩, ?_⟩
  clear hK K
  refine AnyK.take (i := 3) rfl (by decide) (by kernel_rfl) (by kernel_rfl) (by kernel_rfl) (fun _ _ _ _ h => h) HS (fun K hK => ?_)
  go_simp
  refine hK.out _ ⟨_, by rfl, Or.inl ⟨by rfl, by intro w hSw; (try dsimp only at hSw); go_simp⟩, ?_⟩
  clear hK K
  refine AnyK.take (i := 4) rfl (by decide) (by kernel_rfl) (by kernel_rfl) (by kernel_rfl) (fun _ _ _ _ h => h) HS (fun K hK => ?_)
  go_simp
  refine hK.out _ ⟨_, by rfl, Or.inl ⟨by rfl, by intro w hSw; (try dsimp only at hSw); go_simp⟩, ?_⟩
  clear hK K
  refine AnyK.take (i := 6) rfl (by decide) (by kernel_rfl) (by kernel_rfl) (by kernel_rfl) (fun _ _ _ _ h => h) HS (fun K hK => ?_)
  go_simp
  refine hK.out _ ⟨_, by rfl, Or.inl ⟨by rfl, by intro w hSw; (try dsimp only at hSw); go_simp⟩, ?_⟩
  clear hK K
  refine AnyK.take (i := 7) rfl (by decide) (by kernel_rfl) (by kernel_rfl) (by kernel_rfl) (fun _ _ _ _ h => h) HS (fun K hK => ?_)
  go_simp
  refine hK.out _ ⟨_, by rfl, Or.inl ⟨by rfl, by intro w hSw; (try dsimp only at hSw); go_simp⟩, ?_⟩
  clear hK K
  refine AnyK.take (i := 8) rfl (by decide) (by kernel_rfl) (by kernel_rfl) (by kernel_rfl) (fun _ _ _ _ h => h) HS (fun K hK => ?_)
  go_simp
  refine hK.out _ ⟨_, by rfl, Or.inl ⟨by rfl, by intro w hSw; (try dsimp only at hSw); go_simp⟩, ?_⟩
  clear hK K
  refine AnyK.take (i := 9) rfl (by decide) (by kernel_rfl) (by kernel_rfl) (by kernel_rfl) (fun _ _ _ _ h => h) HS (fun K hK => ?_)
  go_simp
  refine hK.out _ ⟨_, by rfl, Or.inl ⟨by rfl, by intro w hSw; (try dsimp only at hSw); go_simp⟩, ?_⟩
  clear hK K
  refine AnyK.one (i := 5) rfl (by kernel_rfl) (fun K hK => ?_)
  go_simp
  refine (head_any _ base).mono ?_
  rintro e w1 ⟨rfl, hf1⟩
  have hE1 := HE.out.drew.fr hf1 (fun h => h)
  have hA1 := HA.out.drew.fr hf1 (fun h => h)
  have hM1 := HM.out.drew.fr hf1 (fun h => h) (fun h => h)
  have hF1 := HF.out.drew.trans (hf1.mono (fun _ h => h.elim))
  have HS : (fun w' : World => w'.cell? ⟨a, 0, none⟩ = some (.int .i64 base) ∧ w'.cell? ⟨a, 3, none⟩ = some (.int .i64 h)) w1 := ⟨(by rw [hA1.cell]; rfl), (by rw [hA1.cell]; rfl)⟩
  refine hK.out _ _ (fun _ => HS) ?_
  clear hK K
  have HE1 := Lib.hid hE1
  have HA1 := Lib.hid hA1
  have HM1 := Lib.hid hM1
  have HF1 := Lib.hid hF1
  clear hE1 hA1 hM1 hF1 hf1
  refine AnyK.one (i := 10) rfl (by kernel_rfl) (fun K hK => ?_)
  go_simp
  refine (swap_yes_mi HM1.out hb base h (-1) (by omega) hm).mono ?_
  rintro e w2 ⟨rfl, hM2, hf2⟩
  have hE2 := HE1.out.fr hf2 (fun h => h.elim hep hes)
  have hA2 := HA1.out.fr hf2 (fun h => h.elim hap has)
  have hF2 := HF1.out.trans (hf2.mono (fun _ h => .inr h))
  have HS : (fun w' : World => w'.cell? ⟨a, 0, none⟩ = some (.int .i64 base) ∧ w'.cell? ⟨a, 3, none⟩ = some (.int .i64 h)) w2 := ⟨(by rw [hA2.cell]; rfl), (by rw [hA2.cell]; rfl)⟩
  refine hK.out _ _ (fun _ => HS) ?_
  clear hK K
  have HE2 := Lib.hid hE2
  have HA2 := Lib.hid hA2
  have HM2 := Lib.hid hM2
  have HF2 := Lib.hid hF2
  clear hE2 hA2 hM2 hF2 hf2
  refine AnyK.take (i := 11) rfl (by decide) (by kernel_rfl) (by kernel_rfl) (by kernel_rfl) (fun _ _ _ _ h => h) HS (fun K hK => ?_)
  go_simp
  refine hK.out _ ⟨_, by rfl, Or.inl ⟨by rfl, by intro w hSw; (try dsimp only at hSw); go_simp⟩, ?_⟩
  clear hK K
  refine AnyK.take (i := 12) rfl (by decide) (by kernel_rfl) (by kernel_rfl) (by kernel_rfl) (fun _ _ _ _ h => h) HS (fun K hK => ?_)
  go_simp
  refine hK.out _ ⟨_, by rfl, Or.inl ⟨by rfl, by intro w hSw; (try dsimp only at hSw); go_simp⟩, ?_⟩
  clear hK K
  refine AnyK.take (i := 13) rfl (by decide) (by kernel_rfl) (by kernel_rfl) (by kernel_rfl) (fun _ _ _ _ h => h) HS (fun K hK => ?_)
  go_simp
  refine hK.out _ ⟨_, by rfl, Or.inl ⟨by rfl, by intro w hSw; (try dsimp only at hSw); go_simp⟩, ?_⟩
  clear hK K
  refine AnyK.take (i := 14) rfl (by decide) (by kernel_rfl) (by kernel_rfl) (by kernel_rfl) (fun _ _ _ _ h => h) HS (fun K hK => ?_)
  go_simp
  refine hK.out _ ⟨_, by rfl, Or.inl ⟨by rfl, by intro w hSw; (try dsimp only at hSw); go_simp⟩, ?_⟩
  clear hK K
  refine AnyK.take (i := 15) rfl (by decide) (by kernel_rfl) (by kernel_rfl) (by kernel_rfl) (fun _ _ _ _ h => h) HS (fun K hK => ?_)
  go_simp
  refine hK.out _ ⟨_, by rfl, Or.inl ⟨by rfl, by intro w hSw; (try dsimp only at hSw); go_simp⟩, ?_⟩
  clear hK K
  refine AnyK.done (by kernel_rfl) ?_ _
  have q0 : w2.cell? ⟨w.heap.size, 0, none⟩ = some (.bool false) := by rw [HE2.out.cell]; rfl
  have q1 : w2.cell? ⟨w.heap.size, 1, none⟩ = some (.int .i64 0) := by rw [HE2.out.cell]; rfl
  have q2 : w2.cell? ⟨w.heap.size, 2, none⟩ = some (.int .i64 0) := by rw [HE2.out.cell]; rfl
  have q3 : w2.cell? ⟨w.heap.size, 3, none⟩ = some (.int .i64 0) := by rw [HE2.out.cell]; rfl
  have g0 := HE2.out.frozen 0
  have g1 := HE2.out.frozen 1
  have g2 := HE2.out.frozen 2
  have g3 := HE2.out.frozen 3
  have a3 : w2.cell? ⟨a, 3, none⟩ = some (.int .i64 h) := by rw [HA2.out.cell]; rfl
  go_wp2_with fail
  refine (ends_ok _ false 0 0 h).mono ?_
  rintro e w3 ⟨rfl, hf3⟩
  have hE3 := HE2.out.fr hf3 (fun h => h)
  have hA3 := HA2.out.fr hf3 (fun h => h)
  have hM3 := HM2.out.fr hf3 (fun h => h) (fun h => h)
  have hF3 := HF2.out.trans (hf3.mono (fun _ h => h.elim))
  have q0 : w3.cell? ⟨w.heap.size, 0, none⟩ = some (.bool false) := by rw [hE3.cell]; rfl
  have q1 : w3.cell? ⟨w.heap.size, 1, none⟩ = some (.int .i64 0) := by rw [hE3.cell]; rfl
  have q2 : w3.cell? ⟨w.heap.size, 2, none⟩ = some (.int .i64 0) := by rw [hE3.cell]; rfl
  have q3 : w3.cell? ⟨w.heap.size, 3, none⟩ = some (.int .i64 0) := by rw [hE3.cell]; rfl
  have g0 := hE3.frozen 0
  have g1 := hE3.frozen 1
  have g2 := hE3.frozen 2
  have g3 := hE3.frozen 3
  have HE3 := Lib.hid hE3
  have HA3 := Lib.hid hA3
  have HM3 := Lib.hid hM3
  have HF3 := Lib.hid hF3
  clear hE3 hA3 hM3 hF3 hf3
  go_wp2_with fail
  obtain ⟨k1, k2, k3, k4⟩ := fin HE3.out (Nat.le_refl _) HA3.out HM3.out HF3.out (by decide) false 0 0 h
  (try simp only [Exit.inBlock, Exit.then])
  refine bodyPost_ret (results_tct rfl _ _ rfl (load_end k1)) rfl ?_
  exact ⟨rfl, k2, k3, k4⟩

set_option maxHeartbeats 4000000 in
theorem f_closes_no (w : World) (a p s : Nat) (base : Nat) (val why h : Int) (m : List Int) (b : Nat) (hA : Blk w a 78 (fc base val why h)) (hM : MI w p s m b) (hb : b < 900000) (_hbl : base ≤ 60000) (hi : base + 2 < m.length) (hm : m.getD base 0 ≠ h) :
    Calls Try.prog 40 #[.pointer (some ⟨a, 0, none⟩), .pointer (some ⟨p, 0, none⟩)] w (MvP w a p s 78 (fc base val why h) (m) b (mv 37 a) (end0)) := by
  have hEb : Blk (w.alloc (.cells #[.bool false, .int .i64 0, .int .i64 0, .int .i64 0] 45)) w.heap.size 45 e0 := Blk.new _ _ _
  have hA0 : Blk (w.alloc (.cells #[.bool false, .int .i64 0, .int .i64 0, .int .i64 0] 45)) a 78 (fc base val why h) := hA.alloc _
  have hM0 : MI (w.alloc (.cells #[.bool false, .int .i64 0, .int .i64 0, .int .i64 0] 45)) p s m b := hM.fr (B := fun _ => False) ((Fr.refl _ _).alloc _) (fun h => h) (fun h => h)
  have hF0 : Fr (Thr a p s) w (w.alloc (.cells #[.bool false, .int .i64 0, .int .i64 0, .int .i64 0] 45)) := (Fr.refl _ _).alloc _
  obtain ⟨hap, has⟩ := MI.ne hA0 hM0 (by decide) (by decide)
  obtain ⟨hep, hes⟩ := MI.ne hEb hM0 (by decide) (by decide)
  have hea : w.heap.size ≠ a := Blk.ne_ hEb hA0 (by decide)
  have c0 : (w.alloc (.cells #[.bool false, .int .i64 0, .int .i64 0, .int .i64 0] 45)).cell? ⟨a, 0, none⟩ = some (.int .i64 base) := by rw [hA0.cell]; rfl
  have c3 : (w.alloc (.cells #[.bool false, .int .i64 0, .int .i64 0, .int .i64 0] 45)).cell? ⟨a, 3, none⟩ = some (.int .i64 h) := by rw [hA0.cell]; rfl
  have hmf := mf_any
  have HA := Lib.hid hA0
  have HE := Lib.hid hEb
  have HM := Lib.hid hM0
  have HF := Lib.hid hF0
  clear hA hM hA0 hEb hM0 hF0
  go_enter Try.func40, Try.ntmps40
  go_wp2_with fail
  generalize hW0 : (w.alloc (.cells #[.bool false, .int .i64 0, .int .i64 0, .int .i64 0] 45)) = W0 at *
  clear hW0
  refine region_K 16 (fun w' : World => w'.cell? ⟨a, 0, none⟩ = some (.int .i64 base) ∧ w'.cell? ⟨a, 3, none⟩ = some (.int .i64 h)) (by kernel_rfl) ?_
  have HS : (fun w' : World => w'.cell? ⟨a, 0, none⟩ = some (.int .i64 base) ∧ w'.cell? ⟨a, 3, none⟩ = some (.int .i64 h)) (W0).drew := ⟨c0, c3⟩
  refine AnyK.take (i := 0) rfl (by decide) (by kernel_rfl) (by kernel_rfl) (by kernel_rfl) (fun _ _ _ _ h => h) HS (fun K hK => ?_)
  go_simp
  refine hK.out _ ⟨_, by rfl, Or.inl ⟨by rfl, by intro w hSw; (try dsimp only at hSw); go_simp⟩, ?_⟩
  clear hK K
  refine AnyK.take (i := 1) rfl (by decide) (by kernel_rfl) (by kernel_rfl) (by kernel_rfl) (fun _ _ _ _ h => h) HS (fun K hK => ?_)
  go_simp
  refine hK.out _ ⟨_, by rfl, Or.inl ⟨by rfl, by intro w hSw; (try dsimp only at hSw); go_simp⟩, ?_⟩
  clear hK K
  refine AnyK.take (i := 2) rfl (by decide) (by kernel_rfl) (by kernel_rfl) (by kernel_rfl) (fun _ _ _ _ h => h) HS (fun K hK => ?_)
  go_simp
  refine hK.out _ ⟨_, by rfl, Or.inl ⟨by rfl, by intro w hSw; (try dsimp only at hSw); go_simp⟩, ?_⟩
  clear hK K
  refine AnyK.take (i := 3) rfl (by decide) (by kernel_rfl) (by kernel_rfl) (by kernel_rfl) (fun _ _ _ _ h => h) HS (fun K hK => ?_)
  go_simp
  refine hK.out _ ⟨_, by rfl, Or.inl ⟨by rfl, by intro w hSw; (try dsimp only at hSw); go_simp⟩, ?_⟩
  clear hK K
  refine AnyK.take (i := 4) rfl (by decide) (by kernel_rfl) (by kernel_rfl) (by kernel_rfl) (fun _ _ _ _ h => h) HS (fun K hK => ?_)
  go_simp
  refine hK.out _ ⟨_, by rfl, Or.inl ⟨by rfl, by intro w hSw; (try dsimp only at hSw); go_simp⟩, ?_⟩
  clear hK K
  refine AnyK.take (i := 6) rfl (by decide) (by kernel_rfl) (by kernel_rfl) (by kernel_rfl) (fun _ _ _ _ h => h) HS (fun K hK => ?_)
  go_simp
  refine hK.out _ ⟨_, by rfl, Or.inl ⟨by rfl, by intro w hSw; (try dsimp only at hSw); go_simp⟩, ?_⟩
  clear hK K
  refine AnyK.take (i := 7) rfl (by decide) (by kernel_rfl) (by kernel_rfl) (by kernel_rfl) (fun _ _ _ _ h => h) HS (fun K hK => ?_)
  go_simp
  refine hK.out _ ⟨_, by rfl, Or.inl ⟨by rfl, by intro w hSw; (try dsimp only at hSw); go_simp⟩, ?_⟩
  clear hK K
  refine AnyK.take (i := 8) rfl (by decide) (by kernel_rfl) (by kernel_rfl) (by kernel_rfl) (fun _ _ _ _ h => h) HS (fun K hK => ?_)
  go_simp
  refine hK.out _ ⟨_, by rfl, Or.inl ⟨by rfl, by intro w hSw; (try dsimp only at hSw); go_simp⟩, ?_⟩
  clear hK K
  refine AnyK.take (i := 9) rfl (by decide) (by kernel_rfl) (by kernel_rfl) (by kernel_rfl) (fun _ _ _ _ h => h) HS (fun K hK => ?_)
  go_simp
  refine hK.out _ ⟨_, by rfl, Or.inl ⟨by rfl, by intro w hSw; (try dsimp only at hSw); go_simp⟩, ?_⟩
  clear hK K
  refine AnyK.one (i := 5) rfl (by kernel_rfl) (fun K hK => ?_)
  go_simp
  refine (head_any _ base).mono ?_
  rintro e w1 ⟨rfl, hf1⟩
  have hE1 := HE.out.drew.fr hf1 (fun h => h)
  have hA1 := HA.out.drew.fr hf1 (fun h => h)
  have hM1 := HM.out.drew.fr hf1 (fun h => h) (fun h => h)
  have hF1 := HF.out.drew.trans (hf1.mono (fun _ h => h.elim))
  have HS : (fun w' : World => w'.cell? ⟨a, 0, none⟩ = some (.int .i64 base) ∧ w'.cell? ⟨a, 3, none⟩ = some (.int .i64 h)) w1 := ⟨(by rw [hA1.cell]; rfl), (by rw [hA1.cell]; rfl)⟩
  refine hK.out _ _ (fun _ => HS) ?_
  clear hK K
  have HE1 := Lib.hid hE1
  have HA1 := Lib.hid hA1
  have HM1 := Lib.hid hM1
  have HF1 := Lib.hid hF1
  clear hE1 hA1 hM1 hF1 hf1
  refine AnyK.one (i := 10) rfl (by kernel_rfl) (fun K hK => ?_)
  go_simp
  refine (swap_no_mi HM1.out hb base h (-1) (by omega) hm).mono ?_
  rintro e w2 ⟨rfl, hM2, hf2⟩
  have hE2 := HE1.out.fr hf2 (fun h => h.elim hep hes)
  have hA2 := HA1.out.fr hf2 (fun h => h.elim hap has)
  have hF2 := HF1.out.trans (hf2.mono (fun _ h => .inr h))
  have HS : (fun w' : World => w'.cell? ⟨a, 0, none⟩ = some (.int .i64 base) ∧ w'.cell? ⟨a, 3, none⟩ = some (.int .i64 h)) w2 := ⟨(by rw [hA2.cell]; rfl), (by rw [hA2.cell]; rfl)⟩
  refine hK.out _ _ (fun _ => HS) ?_
  clear hK K
  have HE2 := Lib.hid hE2
  have HA2 := Lib.hid hA2
  have HM2 := Lib.hid hM2
  have HF2 := Lib.hid hF2
  clear hE2 hA2 hM2 hF2 hf2
  refine AnyK.take (i := 11) rfl (by decide) (by kernel_rfl) (by kernel_rfl) (by kernel_rfl) (fun _ _ _ _ h => h) HS (fun K hK => ?_)
  go_simp
  refine hK.out _ ⟨_, by rfl, Or.inl ⟨by rfl, by intro w hSw; (try dsimp only at hSw); go_simp⟩, ?_⟩
  clear hK K
  refine AnyK.take (i := 12) rfl (by decide) (by kernel_rfl) (by kernel_rfl) (by kernel_rfl) (fun _ _ _ _ h => h) HS (fun K hK => ?_)
  go_simp
  refine hK.out _ ⟨_, by rfl, Or.inl ⟨by rfl, by intro w hSw; (try dsimp only at hSw); go_simp⟩, ?_⟩
  clear hK K
  refine AnyK.take (i := 13) rfl (by decide) (by kernel_rfl) (by kernel_rfl) (by kernel_rfl) (fun _ _ _ _ h => h) HS (fun K hK => ?_)
  go_simp
  refine hK.out _ ⟨_, by rfl, Or.inl ⟨by rfl, by intro w hSw; (try dsimp only at hSw); go_simp⟩, ?_⟩
  clear hK K
  refine AnyK.take (i := 14) rfl (by decide) (by kernel_rfl) (by kernel_rfl) (by kernel_rfl) (fun _ _ _ _ h => h) HS (fun K hK => ?_)
  go_simp
  refine hK.out _ ⟨_, by rfl, Or.inl ⟨by rfl, by intro w hSw; (try dsimp only at hSw); go_simp⟩, ?_⟩
  clear hK K
  refine AnyK.take (i := 15) rfl (by decide) (by kernel_rfl) (by kernel_rfl) (by kernel_rfl) (fun _ _ _ _ h => h) HS (fun K hK => ?_)
  go_simp
  refine hK.out _ ⟨_, by rfl, Or.inl ⟨by rfl, by intro w hSw; (try dsimp only at hSw); go_simp⟩, ?_⟩
  clear hK K
  refine AnyK.done (by kernel_rfl) ?_ _
  have q0 : w2.cell? ⟨w.heap.size, 0, none⟩ = some (.bool false) := by rw [HE2.out.cell]; rfl
  have q1 : w2.cell? ⟨w.heap.size, 1, none⟩ = some (.int .i64 0) := by rw [HE2.out.cell]; rfl
  have q2 : w2.cell? ⟨w.heap.size, 2, none⟩ = some (.int .i64 0) := by rw [HE2.out.cell]; rfl
  have q3 : w2.cell? ⟨w.heap.size, 3, none⟩ = some (.int .i64 0) := by rw [HE2.out.cell]; rfl
  have g0 := HE2.out.frozen 0
  have g1 := HE2.out.frozen 1
  have g2 := HE2.out.frozen 2
  have g3 := HE2.out.frozen 3
  have a3 : w2.cell? ⟨a, 3, none⟩ = some (.int .i64 h) := by rw [HA2.out.cell]; rfl
  go_wp2_with fail
  obtain ⟨k1, k2, k3, k4⟩ := fin HE2.out (Nat.le_refl _) HA2.out HM2.out HF2.out (by decide) false 0 0 0
  (try simp only [Exit.inBlock, Exit.then])
  refine bodyPost_ret (results_tct rfl _ _ rfl (load_end k1)) rfl ?_
  exact ⟨rfl, k2, k3, k4⟩
end Go.Proofs.Ytldcffgjkfocoaa
