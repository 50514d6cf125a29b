/-
  Package cell: a fault of the memory ends an operation.
-/
import Derived.Test.YtldcffgjkfocoaaCl4
namespace Go.Proofs.Ytldcffgjkfocoaa
open Go.RowKit

/-- Nine words, none of them live. -/
def MF (w : World) (p s : Nat) : Prop := MemIs w p s (List.replicate 9 (false, 0)) 0
theorem MF.fr {w w' : World} {p s : Nat} {B : Nat → Prop} (h : MF w p s) (hf : Fr B w w') (h1 : ¬ B p) (h2 : ¬ B s) : MF w' p s := MemIs.fr h hf h1 h2
theorem MF.drew {w : World} {p s : Nat} (h : MF w p s) : MF w.drew p s := MemIs.drew h
theorem MF.ne {w : World} {o p s : Nat} {t : TypeId} {cs : Array Value} (hO : Blk w o t cs) (hM : MF w p s) (h1 : t ≠ 72) (h2 : t ≠ 84) : o ≠ p ∧ o ≠ s := ⟨Blk.ne_ hO hM.hp h1, Blk.ne_ hO hM.hs h2⟩
def MvE (w : World) (a p s : Nat) (t : TypeId) (cs : Array Value) (er : Int) (e : Ending) (w' : World) : Prop :=
  e = .returned (.tuple #[.nilFunc, end0, .int .i64 er]) ∧ Blk w' a t cs ∧ MF w' p s ∧ Fr (Thr a p s) w w'
theorem store_f (w : World) (p s : Nat) (h : MF w p s) (i : Nat) (hi : i < 9) (n : Int) : Calls Try.prog 29 #[.pointer (some ⟨p, 0, none⟩), .int .i64 (i : Int), .int .i64 n] w fun e w' => e = .returned (.int .i64 7) ∧ MF w' p s ∧ Fr (Two p s) w w' :=
  store_free w p s _ 0 h i 0 n (by rw [List.getElem?_replicate, if_pos hi])
theorem load_f (w : World) (p s : Nat) (h : MF w p s) (i : Nat) (hi : i < 9) : Calls Try.prog 12 #[.pointer (some ⟨p, 0, none⟩), .int .i64 (i : Int)] w fun e w' => e = .returned (.tuple #[.int .i64 0, .int .i64 7]) ∧ MF w' p s ∧ Fr (Two p s) w w' :=
  load_free w p s _ 0 h i 0 (by rw [List.getElem?_replicate, if_pos hi])
theorem load_h (w : World) (p s : Nat) (h : MF w p s) (i : Nat) (hi : 9 ≤ i) : Calls Try.prog 12 #[.pointer (some ⟨p, 0, none⟩), .int .i64 (i : Int)] w fun e w' => e = .returned (.tuple #[.int .i64 0, .int .i64 6]) ∧ MF w' p s ∧ Fr (Two p s) w w' :=
  load_high w p s _ 0 h (i : Int) (by omega) (by rw [List.length_replicate]; omega)
theorem finF {w w3 : World} {E a p s : Nat} {t : TypeId} {cs : Array Value}  (hE : Blk w3 E 45 e0) (hge : w.heap.size ≤ E) (hA : Blk w3 a t cs) (hM : MF w3 p s) (hF : Fr (Thr a p s) w w3) (ht : 45 ≠ t) (q : Bool) (x y z : Int) :
    Blk ((((w3.setCell ⟨E, 0, none⟩ (.bool q)).setCell ⟨E, 1, none⟩ (.int .i64 x)).setCell ⟨E, 2, none⟩ (.int .i64 y)).setCell ⟨E, 3, none⟩ (.int .i64 z)) E 45 #[.bool q, .int .i64 x, .int .i64 y, .int .i64 z] ∧
    Blk ((((w3.setCell ⟨E, 0, none⟩ (.bool q)).setCell ⟨E, 1, none⟩ (.int .i64 x)).setCell ⟨E, 2, none⟩ (.int .i64 y)).setCell ⟨E, 3, none⟩ (.int .i64 z)) a t cs ∧
    MF ((((w3.setCell ⟨E, 0, none⟩ (.bool q)).setCell ⟨E, 1, none⟩ (.int .i64 x)).setCell ⟨E, 2, none⟩ (.int .i64 y)).setCell ⟨E, 3, none⟩ (.int .i64 z)) p s ∧
    Fr (Thr a p s) w ((((w3.setCell ⟨E, 0, none⟩ (.bool q)).setCell ⟨E, 1, none⟩ (.int .i64 x)).setCell ⟨E, 2, none⟩ (.int .i64 y)).setCell ⟨E, 3, none⟩ (.int .i64 z)) := by
  have hea : E ≠ a := Blk.ne_ hE hA ht
  obtain ⟨hep, hes⟩ := MF.ne hE hM (by decide) (by decide)
  have hf : Fr (fun k => k = E) w3 ((((w3.setCell ⟨E, 0, none⟩ (.bool q)).setCell ⟨E, 1, none⟩ (.int .i64 x)).setCell ⟨E, 2, none⟩ (.int .i64 y)).setCell ⟨E, 3, none⟩ (.int .i64 z)) :=
    ((((Fr.refl (fun k => k = E) w3).setCell (p := ⟨E, 0, none⟩) (.inl rfl) _).setCell (p := ⟨E, 1, none⟩) (.inl rfl) _).setCell (p := ⟨E, 2, none⟩) (.inl rfl) _).setCell (p := ⟨E, 3, none⟩) (.inl rfl) _
  exact ⟨by have := (((hE.set_ 0 (.bool q)).set_ 1 (.int .i64 x)).set_ 2 (.int .i64 y)).set_ 3 (.int .i64 z); simpa using this, hA.fr hf (fun h => hea h.symm), hM.fr hf (fun h => hep h.symm) (fun h => hes h.symm), hF.then hf (fun i hi => .inr (by rw [hi]; exact hge))⟩

set_option maxHeartbeats 4000000 in
theorem w_looks_er (w : World) (a p s : Nat) (base : Nat) (x : Int) (lk : Nat) (h val : Int) (hA : Blk w a 75 (wc base x lk h val)) (hM : MF w p s) (er : Int) (he : er ≠ 0) (hld : ∀ W : World, MF W p s → Calls Try.prog 12 #[.pointer (some ⟨p, 0, none⟩), .int .i64 (base : Int)] W fun e w' => e = .returned (.tuple #[.int .i64 0, .int .i64 er]) ∧ MF w' p s ∧ Fr (Two p s) W w') :
    Calls Try.prog 22 #[.pointer (some ⟨a, 0, none⟩), .pointer (some ⟨p, 0, none⟩)] w (MvE w a p s 75 (wc base x lk 0 val) er) := by
  have hEb : Blk (w.alloc (.cells #[.bool false, .int .i64 0, .int .i64 0, .int .i64 0] 45)) w.heap.size 45 e0 := Blk.new _ _ _
  have hA0 : Blk (w.alloc (.cells #[.bool false, .int .i64 0, .int .i64 0, .int .i64 0] 45)) a 75 (wc base x lk h val) := hA.alloc _
  have hM0 : MF (w.alloc (.cells #[.bool false, .int .i64 0, .int .i64 0, .int .i64 0] 45)) p s := hM.fr (B := fun _ => False) ((Fr.refl _ _).alloc _) (fun h => h) (fun h => h)
  have hF0 : Fr (Thr a p s) w (w.alloc (.cells #[.bool false, .int .i64 0, .int .i64 0, .int .i64 0] 45)) := (Fr.refl _ _).alloc _
  obtain ⟨hap, has⟩ := MF.ne hA0 hM0 (by decide) (by decide)
  obtain ⟨hep, hes⟩ := MF.ne hEb hM0 (by decide) (by decide)
  have hea : w.heap.size ≠ a := Blk.ne_ hEb hA0 (by decide)
  have c0 : (w.alloc (.cells #[.bool false, .int .i64 0, .int .i64 0, .int .i64 0] 45)).cell? ⟨a, 0, none⟩ = some (.int .i64 base) := by rw [hA0.cell]; rfl
  have hmf := mf_any
  have HLD := Lib.hid hld
  clear hld
  have HA := Lib.hid hA0
  have HE := Lib.hid hEb
  have HM := Lib.hid hM0
  have HF := Lib.hid hF0
  clear hA hM hA0 hEb hM0 hF0
  go_enter Try.func22, Try.ntmps22
  go_wp2_with fail
  refine (head_any _ base).mono ?_
  rintro e w1 ⟨rfl, hf1⟩
  have hE1 := HE.out.fr hf1 (fun h => h)
  have hA1 := HA.out.fr hf1 (fun h => h)
  have hM1 := HM.out.fr hf1 (fun h => h) (fun h => h)
  have hF1 := HF.out.trans (hf1.mono (fun _ h => h.elim))
  have HE1 := Lib.hid hE1
  have HA1 := Lib.hid hA1
  have HM1 := Lib.hid hM1
  have HF1 := Lib.hid hF1
  clear hE1 hA1 hM1 hF1 hf1
  go_wp2_with fail
  refine (HLD.out _ HM1.out).mono ?_
  rintro e w2 ⟨rfl, hM2, hf2⟩
  have hE2 := HE1.out.fr hf2 (fun h => h.elim hep hes)
  have hA2 := HA1.out.fr hf2 (fun h => h.elim hap has)
  have hF2 := HF1.out.trans (hf2.mono (fun _ h => .inr h))
  have a3 : w2.cell? ⟨a, 3, none⟩ = some (.int .i64 h) := by rw [hA2.cell]; rfl
  have f3 := hA2.frozen 3
  have hFs : Fr (fun k => k = a) w2 (w2.setCell ⟨a, 3, none⟩ (.int .i64 0)) := (Fr.refl (fun k => k = a) w2).setCell (p := ⟨a, 3, none⟩) (.inl rfl) _
  have HE2 := Lib.hid (hE2.fr hFs hea)
  have HA2 := Lib.hid (hA2.set_ 3 (.int .i64 0))
  have HM2 := Lib.hid (hM2.fr hFs (fun h => hap h.symm) (fun h => has h.symm))
  have HF2 := Lib.hid (hF2.trans (hFs.mono (fun _ h => .inl h)))
  clear hE2 hA2 hM2 hF2 hf2 hFs
  go_wp2_with fail
  refine (behind_er _ er he _).mono ?_
  rintro e w3 ⟨rfl, hf3⟩
  have hE3 := HE2.out.fr hf3 (fun h => h)
  have hA3 := HA2.out.fr hf3 (fun h => h)
  have hM3 := HM2.out.fr hf3 (fun h => h) (fun h => h)
  have hF3 := HF2.out.trans (hf3.mono (fun _ h => h.elim))
  have q0 : w3.cell? ⟨w.heap.size, 0, none⟩ = some (.bool false) := by rw [hE3.cell]; rfl
  have q1 : w3.cell? ⟨w.heap.size, 1, none⟩ = some (.int .i64 0) := by rw [hE3.cell]; rfl
  have q2 : w3.cell? ⟨w.heap.size, 2, none⟩ = some (.int .i64 0) := by rw [hE3.cell]; rfl
  have q3 : w3.cell? ⟨w.heap.size, 3, none⟩ = some (.int .i64 0) := by rw [hE3.cell]; rfl
  have g0 := hE3.frozen 0
  have g1 := hE3.frozen 1
  have g2 := hE3.frozen 2
  have g3 := hE3.frozen 3
  have HE3 := Lib.hid hE3
  have HA3 := Lib.hid hA3
  have HM3 := Lib.hid hM3
  have HF3 := Lib.hid hF3
  clear hE3 hA3 hM3 hF3 hf3
  go_wp2_with fail
  obtain ⟨k1, k2, k3, k4⟩ := finF HE3.out (Nat.le_refl _) HA3.out HM3.out HF3.out (by decide) false 0 0 0
  (try simp only [Exit.inBlock, Exit.then])
  refine bodyPost_ret (results_tct rfl _ _ rfl (load_end k1)) rfl ?_
  exact ⟨rfl, k2, k3, k4⟩

set_option maxHeartbeats 4000000 in
theorem f_stores_er (w : World) (a p s : Nat) (base : Nat) (val why h : Int) (hA : Blk w a 78 (fc base val why h)) (hM : MF w p s) (hbl : base + 1 < 9) :
    Calls Try.prog 23 #[.pointer (some ⟨a, 0, none⟩), .pointer (some ⟨p, 0, none⟩)] w (MvE w a p s 78 (fc base val why h) 7) := by
  have hEb : Blk (w.alloc (.cells #[.bool false, .int .i64 0, .int .i64 0, .int .i64 0] 45)) w.heap.size 45 e0 := Blk.new _ _ _
  have hA0 : Blk (w.alloc (.cells #[.bool false, .int .i64 0, .int .i64 0, .int .i64 0] 45)) a 78 (fc base val why h) := hA.alloc _
  have hM0 : MF (w.alloc (.cells #[.bool false, .int .i64 0, .int .i64 0, .int .i64 0] 45)) p s := hM.fr (B := fun _ => False) ((Fr.refl _ _).alloc _) (fun h => h) (fun h => h)
  have hF0 : Fr (Thr a p s) w (w.alloc (.cells #[.bool false, .int .i64 0, .int .i64 0, .int .i64 0] 45)) := (Fr.refl _ _).alloc _
  obtain ⟨hap, has⟩ := MF.ne hA0 hM0 (by decide) (by decide)
  obtain ⟨hep, hes⟩ := MF.ne hEb hM0 (by decide) (by decide)
  have hea : w.heap.size ≠ a := Blk.ne_ hEb hA0 (by decide)
  have c0 : (w.alloc (.cells #[.bool false, .int .i64 0, .int .i64 0, .int .i64 0] 45)).cell? ⟨a, 0, none⟩ = some (.int .i64 base) := by rw [hA0.cell]; rfl
  have c1 : (w.alloc (.cells #[.bool false, .int .i64 0, .int .i64 0, .int .i64 0] 45)).cell? ⟨a, 1, none⟩ = some (.int .i64 val) := by rw [hA0.cell]; rfl
  have hmf := mf_any
  have HA := Lib.hid hA0
  have HE := Lib.hid hEb
  have HM := Lib.hid hM0
  have HF := Lib.hid hF0
  clear hA hM hA0 hEb hM0 hF0
  go_enter Try.func23, Try.ntmps23
  go_wp2_with fail
  generalize hW0 : (w.alloc (.cells #[.bool false, .int .i64 0, .int .i64 0, .int .i64 0] 45)) = W0 at *
  clear hW0
  refine region_K 20 (fun w' : World => w'.cell? ⟨a, 0, none⟩ = some (.int .i64 base) ∧ w'.cell? ⟨a, 1, none⟩ = some (.int .i64 val)) (by kernel_rfl) ?_
  have HS : (fun w' : World => w'.cell? ⟨a, 0, none⟩ = some (.int .i64 base) ∧ w'.cell? ⟨a, 1, none⟩ = some (.int .i64 val)) (W0).drew := ⟨c0, c1⟩
  refine AnyK.take (i := 0) rfl (by decide) (by kernel_rfl) (by kernel_rfl) (by kernel_rfl) (fun _ _ _ _ h => h) HS (fun K hK => ?_)
  go_simp
  refine hK.out _ ⟨_, by rfl, Or.inl ⟨by rfl, by intro w hSw; (try dsimp only at hSw); go_simp⟩, ?_⟩
  clear hK K
  refine AnyK.take (i := 1) rfl (by decide) (by kernel_rfl) (by kernel_rfl) (by kernel_rfl) (fun _ _ _ _ h => h) HS (fun K hK => ?_)
  go_simp
  refine hK.out _ ⟨_, by rfl, Or.inl ⟨by rfl, by intro w hSw; (try dsimp only at hSw); go_simp⟩, ?_⟩
  clear hK K
  refine AnyK.take (i := 2) rfl (by decide) (by kernel_rfl) (by kernel_rfl) (by kernel_rfl) (fun _ _ _ _ h => h) HS (fun K hK => ?_)
  go_simp
  refine hK.out _ ⟨_, by rfl, Or.inl ⟨by rfl, by intro w hSw; (try dsimp only at hSw); go_simp⟩, ?_⟩
  clear hK K
  refine AnyK.take (i := 3) rfl (by decide) (by kernel_rfl) (by kernel_rfl) (by kernel_rfl) (fun _ _ _ _ h => h) HS (fun K hK => ?_)
  go_simp
  refine hK.out _ ⟨_, by rfl, Or.inl ⟨by rfl, by intro w hSw; (try dsimp only at hSw); go_simp⟩, ?_⟩
  clear hK K
  refine AnyK.take (i := 4) rfl (by decide) (by kernel_rfl) (by kernel_rfl) (by kernel_rfl) (fun _ _ _ _ h => h) HS (fun K hK => ?_)
  go_simp
  refine hK.out _ ⟨_, by rfl, Or.inl ⟨by rfl, by intro w hSw; (try dsimp only at hSw); go_simp⟩, ?_⟩
  clear hK K
  refine AnyK.take (i := 6) rfl (by decide) (by kernel_rfl) (by kernel_rfl) (by kernel_rfl) (fun _ _ _ _ h => h) HS (fun K hK => ?_)
  go_simp
  refine hK.out _ ⟨_, by rfl, Or.inl ⟨by rfl, by intro w hSw; (try dsimp only at hSw); go_simp⟩, ?_⟩
  clear hK K
  refine AnyK.take (i := 7) rfl (by decide) (by kernel_rfl) (by kernel_rfl) (by kernel_rfl) (fun _ _ _ _ h => h) HS (fun K hK => ?_)
  go_simp
  refine hK.out _ ⟨_, by rfl, Or.inl ⟨by rfl, by intro w hSw; (try dsimp only at hSw); go_simp⟩, ?_⟩
  clear hK K
  refine AnyK.take (i := 8) rfl (by decide) (by kernel_rfl) (by kernel_rfl) (by kernel_rfl) (fun _ _ _ _ h => h) HS (fun K hK => ?_)
  go_simp
  refine hK.out _ ⟨_, by rfl, Or.inl ⟨by rfl, by intro w hSw; (try dsimp only at hSw); go_simp⟩, ?_⟩
  clear hK K
  refine AnyK.take (i := 9) rfl (by decide) (by kernel_rfl) (by kernel_rfl) (by kernel_rfl) (fun _ _ _ _ h => h) HS (fun K hK => ?_)
  go_simp
  refine hK.out _ ⟨_, by rfl, Or.inl ⟨by rfl, by intro w hSw; (try dsimp only at hSw); go_simp⟩, ?_⟩
  clear hK K
  refine AnyK.take (i := 11) rfl (by decide) (by kernel_rfl) (by kernel_rfl) (by kernel_rfl) (fun _ _ _ _ h => h) HS (fun K hK => ?_)
  go_simp
  refine hK.out _ ⟨_, by rfl, Or.inl ⟨by rfl, by intro w hSw; (try dsimp only at hSw); go_simp⟩, ?_⟩
  clear hK K
  refine AnyK.take (i := 12) rfl (by decide) (by kernel_rfl) (by kernel_rfl) (by kernel_rfl) (fun _ _ _ _ h => h) HS (fun K hK => ?_)
  go_simp
  refine hK.out _ ⟨_, by rfl, Or.inl ⟨by rfl, by intro w hSw; (try dsimp only at hSw); go_simp⟩, ?_⟩
  clear hK K
  refine AnyK.one (i := 5) rfl (by kernel_rfl) (fun K hK => ?_)
  go_simp
  refine (value_any _ base (by omega)).mono ?_
  rintro e w1 ⟨rfl, hf1⟩
  have hE1 := HE.out.drew.fr hf1 (fun h => h)
  have hA1 := HA.out.drew.fr hf1 (fun h => h)
  have hM1 := HM.out.drew.fr hf1 (fun h => h) (fun h => h)
  have hF1 := HF.out.drew.trans (hf1.mono (fun _ h => h.elim))
  have HS : (fun w' : World => w'.cell? ⟨a, 0, none⟩ = some (.int .i64 base) ∧ w'.cell? ⟨a, 1, none⟩ = some (.int .i64 val)) w1 := ⟨(by rw [hA1.cell]; rfl), (by rw [hA1.cell]; rfl)⟩
  refine hK.out _ _ (fun _ => HS) ?_
  clear hK K
  have HE1 := Lib.hid hE1
  have HA1 := Lib.hid hA1
  have HM1 := Lib.hid hM1
  have HF1 := Lib.hid hF1
  clear hE1 hA1 hM1 hF1 hf1
  refine AnyK.one (i := 10) rfl (by kernel_rfl) (fun K hK => ?_)
  go_simp
  refine (store_f _ _ _ HM1.out (base + 1) hbl val).mono ?_
  rintro e w2 ⟨rfl, hM2, hf2⟩
  have hE2 := HE1.out.fr hf2 (fun h => h.elim hep hes)
  have hA2 := HA1.out.fr hf2 (fun h => h.elim hap has)
  have hF2 := HF1.out.trans (hf2.mono (fun _ h => .inr h))
  have HS : (fun w' : World => w'.cell? ⟨a, 0, none⟩ = some (.int .i64 base) ∧ w'.cell? ⟨a, 1, none⟩ = some (.int .i64 val)) w2 := ⟨(by rw [hA2.cell]; rfl), (by rw [hA2.cell]; rfl)⟩
  refine hK.out _ _ (fun _ => HS) ?_
  clear hK K
  have HE2 := Lib.hid hE2
  have HA2 := Lib.hid hA2
  have HM2 := Lib.hid hM2
  have HF2 := Lib.hid hF2
  clear hE2 hA2 hM2 hF2 hf2
  refine AnyK.one (i := 13) rfl (by kernel_rfl) (fun K hK => ?_)
  go_simp
  refine (behind_er _ 7 (by decide) _).mono ?_
  rintro e w3 ⟨rfl, hf3⟩
  have hE3 := HE2.out.fr hf3 (fun h => h)
  have hA3 := HA2.out.fr hf3 (fun h => h)
  have hM3 := HM2.out.fr hf3 (fun h => h) (fun h => h)
  have hF3 := HF2.out.trans (hf3.mono (fun _ h => h.elim))
  have q0 : w3.cell? ⟨w.heap.size, 0, none⟩ = some (.bool false) := by rw [hE3.cell]; rfl
  have q1 : w3.cell? ⟨w.heap.size, 1, none⟩ = some (.int .i64 0) := by rw [hE3.cell]; rfl
  have q2 : w3.cell? ⟨w.heap.size, 2, none⟩ = some (.int .i64 0) := by rw [hE3.cell]; rfl
  have q3 : w3.cell? ⟨w.heap.size, 3, none⟩ = some (.int .i64 0) := by rw [hE3.cell]; rfl
  have g0 := hE3.frozen 0
  have g1 := hE3.frozen 1
  have g2 := hE3.frozen 2
  have g3 := hE3.frozen 3
  have HS : (fun w' : World => w'.cell? ⟨a, 0, none⟩ = some (.int .i64 base) ∧ w'.cell? ⟨a, 1, none⟩ = some (.int .i64 val)) w3 := ⟨(by rw [hA3.cell]; rfl), (by rw [hA3.cell]; rfl)⟩
  refine hK.out _ _ (fun _ => HS) ?_
  clear hK K
  have HE3 := Lib.hid hE3
  have HA3 := Lib.hid hA3
  have HM3 := Lib.hid hM3
  have HF3 := Lib.hid hF3
  clear hE3 hA3 hM3 hF3 hf3
  refine AnyK.take (i := 14) rfl (by decide) (by kernel_rfl) (by kernel_rfl) (by kernel_rfl) (fun _ _ _ _ h => h) HS (fun K hK => ?_)
  go_simp
  refine hK.out _ ⟨_, by rfl, Or.inl ⟨by rfl, by intro w hSw; (try dsimp only at hSw); go_simp⟩, ?_⟩
  clear hK K
  refine AnyK.take (i := 15) rfl (by decide) (by kernel_rfl) (by kernel_rfl) (by kernel_rfl) (fun _ _ _ _ h => h) HS (fun K hK => ?_)
  go_simp
  refine hK.out _ ⟨_, by rfl, Or.inl ⟨by rfl, by intro w hSw; (try dsimp only at hSw); go_simp⟩, ?_⟩
  clear hK K
  refine AnyK.take (i := 16) rfl (by decide) (by kernel_rfl) (by kernel_rfl) (by kernel_rfl) (fun _ _ _ _ h => h) HS (fun K hK => ?_)
  go_simp
  refine hK.out _ ⟨_, by rfl, Or.inl ⟨by rfl, by intro w hSw; (try dsimp only at hSw); go_simp⟩, ?_⟩
  clear hK K
  refine AnyK.take (i := 17) rfl (by decide) (by kernel_rfl) (by kernel_rfl) (by kernel_rfl) (fun _ _ _ _ h => h) HS (fun K hK => ?_)
  go_simp
  refine hK.out _ ⟨_, by rfl, Or.inl ⟨by rfl, by intro w hSw; (try dsimp only at hSw); go_simp⟩, ?_⟩
  clear hK K
  refine AnyK.one (i := 18) rfl (by kernel_rfl) (fun K hK => ?_)
  go_simp
  obtain ⟨k1, k2, k3, k4⟩ := finF HE3.out (Nat.le_refl _) HA3.out HM3.out HF3.out (by decide) false 0 0 0
  have HS : (fun w' : World => w'.cell? ⟨a, 0, none⟩ = some (.int .i64 base) ∧ w'.cell? ⟨a, 1, none⟩ = some (.int .i64 val)) ((((w3.setCell ⟨w.heap.size, 0, none⟩ (.bool false)).setCell ⟨w.heap.size, 1, none⟩ (.int .i64 0)).setCell ⟨w.heap.size, 2, none⟩ (.int .i64 0)).setCell ⟨w.heap.size, 3, none⟩ (.int .i64 0)) := ⟨(by rw [k2.cell]; rfl), (by rw [k2.cell]; rfl)⟩
  have K1 := Lib.hid k1
  have K2 := Lib.hid k2
  have K3 := Lib.hid k3
  have K4 := Lib.hid k4
  clear k1 k2 k3 k4
  refine hK.out _ _ (fun _ => HS) ?_
  clear hK K
  refine AnyK.take (i := 19) rfl (by decide) (by kernel_rfl) (by kernel_rfl) (by kernel_rfl) (fun _ _ _ _ h => h) HS (fun K hK => ?_)
  go_simp
  refine hK.out _ ⟨_, by rfl, Or.inl ⟨by rfl, by intro w hSw; (try dsimp only at hSw); go_simp⟩, ?_⟩
  clear hK K
  refine AnyK.done (by kernel_rfl) ?_ _
  go_wp2_with fail
  (try simp only [Exit.inBlock, Exit.then])
  refine bodyPost_ret (results_tct rfl _ _ rfl (load_end K1.out)) rfl ?_
  exact ⟨rfl, K2.out, K3.out, K4.out⟩

set_option maxHeartbeats 4000000 in
set_option maxRecDepth 100000 in
theorem move_er (w : World) (o a p s : Nat) (t : TypeId) (cs : Array Value) (f : FuncId) (hf : Own f) (q0 : Bool) (x0 y0 z0 : Int) (hO : Blk w o 67 (oc (mv f a) false q0 x0 y0 z0)) (er : Int)
    (hc : Calls Try.prog f #[.pointer (some ⟨a, 0, none⟩), .pointer (some ⟨p, 0, none⟩)] w (MvE w a p s t cs er)) (hoa : o ≠ a) (hop : o ≠ p) (hos : o ≠ s) :
    Calls Try.prog 17 #[.pointer (some ⟨o, 0, none⟩), .pointer (some ⟨p, 0, none⟩)] w fun e w' => e = .returned (.bool true) ∧ Blk w' o 67 #[.nilFunc, .bool true, .bool false, .int .i64 0, .int .i64 0, .int .i64 0, .int .i64 er] ∧ Blk w' a t cs ∧ MF w' p s ∧ Fr (Four o a p s) w w' := by
  have c0 : w.cell? ⟨o, 0, none⟩ = some (mv f a) := by rw [hO.cell]; rfl
  have hb1 : ∀ (g : FuncId) (W : World), (binOp .eql 65 (mv g a) .nilFunc).run Try.prog W = .ok (.bool false) W := fun _ _ => rfl
  have hb2 : ∀ W : World, (binOp .eql 65 .nilFunc .nilFunc).run Try.prog W = .ok (.bool true) W := fun _ => rfl
  have hcf := hf #[.pointer (some ⟨a, 0, none⟩), .pointer (some ⟨p, 0, none⟩)]
  have HC := Lib.hid hc
  have HO := Lib.hid hO
  clear hc hO hf
  go_enter Try.func17, Try.ntmps17
  go_wp2_with fail
  refine HC.out.mono ?_
  rintro e w1 ⟨rfl, hA1, hM1, hF1⟩
  have hO1 : Blk w1 o 67 (oc (mv f a) false q0 x0 y0 z0) := HO.out.fr hF1 (fun h => h.elim hoa (fun h => h.elim hop hos))
  have e0 : w1.cell? ⟨o, 0, none⟩ = some (mv f a) := by rw [hO1.cell]; rfl
  have e1 : w1.cell? ⟨o, 1, none⟩ = some (.bool false) := by rw [hO1.cell]; rfl
  have e2 : w1.cell? ⟨o, 2, none⟩ = some (.bool q0) := by rw [hO1.cell]; rfl
  have e3 : w1.cell? ⟨o, 3, none⟩ = some (.int .i64 x0) := by rw [hO1.cell]; rfl
  have e4 : w1.cell? ⟨o, 4, none⟩ = some (.int .i64 y0) := by rw [hO1.cell]; rfl
  have e5 : w1.cell? ⟨o, 5, none⟩ = some (.int .i64 z0) := by rw [hO1.cell]; rfl
  have e6 : w1.cell? ⟨o, 6, none⟩ = some (.int .i64 0) := by rw [hO1.cell]; rfl
  have f0 := hO1.frozen 0
  have f1 := hO1.frozen 1
  have f2 := hO1.frozen 2
  have f3 := hO1.frozen 3
  have f4 := hO1.frozen 4
  have f5 := hO1.frozen 5
  have f6 := hO1.frozen 6
  have HO1 := Lib.hid hO1
  have HA1 := Lib.hid hA1
  have HM1 := Lib.hid hM1
  have HF1 := Lib.hid hF1
  clear hO1 hA1 hM1 hF1
  go_wp2_with fail
  go_ret
  obtain ⟨w2, hw2⟩ : ∃ w2, w2 = (((((((w1.setCell ⟨o, 0, none⟩ .nilFunc).setCell ⟨o, 2, none⟩ (.bool false)).setCell ⟨o, 3, none⟩ (.int .i64 0)).setCell ⟨o, 4, none⟩ (.int .i64 0)).setCell ⟨o, 5, none⟩ (.int .i64 0)).setCell ⟨o, 6, none⟩ (.int .i64 er)).setCell ⟨o, 1, none⟩ (.bool true)) := ⟨_, rfl⟩
  have hFs : Fr (fun k => k = o) w1 w2 := by
    rw [hw2]
    exact (((((((Fr.refl (fun k => k = o) w1).setCell (p := ⟨o, 0, none⟩) (.inl rfl) _).setCell (p := ⟨o, 2, none⟩) (.inl rfl) _).setCell (p := ⟨o, 3, none⟩) (.inl rfl) _).setCell (p := ⟨o, 4, none⟩) (.inl rfl) _).setCell (p := ⟨o, 5, none⟩) (.inl rfl) _).setCell (p := ⟨o, 6, none⟩) (.inl rfl) _).setCell (p := ⟨o, 1, none⟩) (.inl rfl) _
  have hO2 : Blk w2 o 67 #[.nilFunc, .bool true, .bool false, .int .i64 0, .int .i64 0, .int .i64 0, .int .i64 er] := by
    rw [hw2]
    have := ((((((HO1.out.set_ 0 .nilFunc).set_ 2 (.bool false)).set_ 3 (.int .i64 0)).set_ 4 (.int .i64 0)).set_ 5 (.int .i64 0)).set_ 6 (.int .i64 er)).set_ 1 (.bool true)
    simpa using this
  rw [← hw2]
  exact ⟨rfl, hO2, HA1.out.fr hFs (fun h => hoa h.symm), HM1.out.fr hFs (fun h => hop h.symm) (fun h => hos h.symm), (HF1.out.mono (fun _ h => .inr h)).trans (hFs.mono (fun _ h => .inl h))⟩

set_option maxHeartbeats 1000000 in
theorem end_er (w : World) (o : Nat) (er : Int) (hO : Blk w o 67 #[.nilFunc, .bool true, .bool false, .int .i64 0, .int .i64 0, .int .i64 0, .int .i64 er]) : Calls Try.prog 11 #[.pointer (some ⟨o, 0, none⟩)] w fun e w' => e = .returned (.tuple #[end0, .int .i64 er]) ∧ Fr (fun _ => False) w w' := by
  have hO0 : Blk (w.alloc (.cells #[.bool false, .int .i64 0, .int .i64 0, .int .i64 0] 45)) o 67 #[.nilFunc, .bool true, .bool false, .int .i64 0, .int .i64 0, .int .i64 0, .int .i64 er] := hO.alloc _
  have hol := hO.lt
  have e1 : (w.alloc (.cells #[.bool false, .int .i64 0, .int .i64 0, .int .i64 0] 45)).cell? ⟨o, 1, none⟩ = some (.bool true) := by rw [hO0.cell]; rfl
  have e2 : (w.alloc (.cells #[.bool false, .int .i64 0, .int .i64 0, .int .i64 0] 45)).cell? ⟨o, 2, none⟩ = some (.bool false) := by rw [hO0.cell]; rfl
  have e3 : (w.alloc (.cells #[.bool false, .int .i64 0, .int .i64 0, .int .i64 0] 45)).cell? ⟨o, 3, none⟩ = some (.int .i64 0) := by rw [hO0.cell]; rfl
  have e4 : (w.alloc (.cells #[.bool false, .int .i64 0, .int .i64 0, .int .i64 0] 45)).cell? ⟨o, 4, none⟩ = some (.int .i64 0) := by rw [hO0.cell]; rfl
  have e5 : (w.alloc (.cells #[.bool false, .int .i64 0, .int .i64 0, .int .i64 0] 45)).cell? ⟨o, 5, none⟩ = some (.int .i64 0) := by rw [hO0.cell]; rfl
  have e6 : (w.alloc (.cells #[.bool false, .int .i64 0, .int .i64 0, .int .i64 0] 45)).cell? ⟨o, 6, none⟩ = some (.int .i64 er) := by rw [hO0.cell]; rfl
  have d1 : w.cell? ⟨o, 1, none⟩ = some (.bool true) := by rw [hO.cell]; rfl
  have d2 : w.cell? ⟨o, 2, none⟩ = some (.bool false) := by rw [hO.cell]; rfl
  have d3 : w.cell? ⟨o, 3, none⟩ = some (.int .i64 0) := by rw [hO.cell]; rfl
  have d4 : w.cell? ⟨o, 4, none⟩ = some (.int .i64 0) := by rw [hO.cell]; rfl
  have d5 : w.cell? ⟨o, 5, none⟩ = some (.int .i64 0) := by rw [hO.cell]; rfl
  have d6 : w.cell? ⟨o, 6, none⟩ = some (.int .i64 er) := by rw [hO.cell]; rfl
  clear hO hO0
  go_enter Try.func11, Try.ntmps11
  go_wp2_with fail
  go_region
  go_wp2_with fail
  (try simp only [Exit.inBlock, Exit.then])
  refine bodyPost_ret (results_ct rfl _ _ rfl (load_end (Blk.drew (Blk.new _ _ _)))) rfl ?_
  exact ⟨rfl, ((Fr.refl _ _).alloc _).drew⟩
end Go.Proofs.Ytldcffgjkfocoaa
