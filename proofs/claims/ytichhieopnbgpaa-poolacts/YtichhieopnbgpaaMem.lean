/-
  What each call of package mem does, over a memory that is known whole.
-/
import Derived.Test.YtichhieopnbgpaaW
import Derived.Test.YtichhieopnbgpaaProg
import Derived.Outline
import Derived.KernelRfl
namespace Go.Proofs.Ytichhieopnbgpaa
open Go.RowKit

/-- The memory at block p, its words at block s: the words ws, and st steps. -/
structure MemIs (w : World) (p s : Nat) (ws : List (Bool × Int)) (st : Int) : Prop where
  hp : Blk w p 66 #[.slice (some ⟨s, 0, none⟩) ws.length ws.length, .int .i64 st]
  hs : Blk w s 97 (wcells ws).toArray

set_option maxRecDepth 100000 in
theorem make_any (n : Nat) (hn : n ≤ 65536) (w : World) : (Instr.makeSlice 64 (.int .i64 (n : Int)) (.int .i64 (n : Int))).run Try.prog w = .ok (.slice (some ⟨w.heap.size, 0, none⟩) n n) (w.alloc (.cells (wcells (List.replicate n (false, 0))).toArray 97)) := by
  have hr := run_make (P := Try.prog) w 64 97 _ (.agg #[.bool false, .int .i64 0]) Try.underlying64 rfl rfl .i64 .i64 (n : Int) (n : Int) (by omega) (by omega) (by show (16 : Int) * _ ≤ _; omega) (by omega)
  rw [hr]
  simp only [Int.toNat_natCast]
  rw [← made_words]
  rfl

set_option maxHeartbeats 400000 in
theorem new_any (n : Nat) (hn : n ≤ 65536) (w : World) :
    Calls Try.prog 10 #[.int .i64 (n : Int)] w fun e w' => e = .returned (.tuple #[.pointer (some ⟨w.heap.size + 1, 0, none⟩), .int .i64 0]) ∧ w' = (w.alloc (.cells (wcells (List.replicate n (false, 0))).toArray 97)).alloc (.cells #[.slice (some ⟨w.heap.size, 0, none⟩) n n, .int .i64 0] 66) := by
  have hmk := make_any n hn
  have h0 : ¬ (n : Int) < 0 := by omega
  have h1 : ¬ (65536 : Int) < (n : Int) := by omega
  go_enter Try.func10, Try.ntmps10
  go_wp2
  go_ret2
  exact ⟨rfl, rfl⟩


theorem set_same {α : Type} (l : List α) (i : Nat) (x : α) (h : l[i]? = some x) : l.set i x = l := by
  apply List.ext_getElem?
  intro j
  rw [List.getElem?_set]
  by_cases e : i = j
  · subst e
    have := (List.getElem?_eq_some_iff.1 h).1
    rw [h]; simp [this]
  · simp [e]

section
variable {w w' : World} {p s : Nat} {ws : List (Bool × Int)} {st : Int}
theorem MemIs.ne (h : MemIs w p s ws st) : p ≠ s := h.hp.ne_ h.hs (by decide)
theorem MemIs.alloc (h : MemIs w p s ws st) (o : Obj) : MemIs (w.alloc o) p s ws st := ⟨h.hp.alloc o, h.hs.alloc o⟩
theorem MemIs.drew (h : MemIs w p s ws st) : MemIs w.drew p s ws st := ⟨h.hp, h.hs⟩
theorem MemIs.far (h : MemIs w p s ws st) {a : Addr} (h1 : p ≠ a.block) (h2 : s ≠ a.block) (u : Value) : MemIs (w.setCell a u) p s ws st := ⟨h.hp.far h1 u, h.hs.far h2 u⟩
theorem MemIs.fr {B : Nat → Prop} (h : MemIs w p s ws st) (hf : Fr B w w') (h1 : ¬ B p) (h2 : ¬ B s) : MemIs w' p s ws st := ⟨h.hp.fr hf h1, h.hs.fr hf h2⟩
theorem MemIs.count (h : MemIs w p s ws st) (n : Int) : MemIs (w.setCell ⟨p, 1, none⟩ (.int .i64 n)) p s ws n :=
  ⟨by have := h.hp.set_ 1 (.int .i64 n); simpa using this, h.hs.far h.ne.symm _⟩
theorem MemIs.put (h : MemIs w p s ws st) {i : Nat} {b : Bool} {m : Int} (hi : ws[i]? = some (b, m)) (n : Int) : MemIs (w.setCell ⟨s, i * 2 + 1, none⟩ (.int .i64 n)) p s (ws.set i (b, n)) st :=
  ⟨by have := h.hp.far (p := ⟨s, i * 2 + 1, none⟩) h.ne (.int .i64 n); simpa using this, by
    have := h.hs.set_ (i * 2 + 1) (.int .i64 n)
    rw [List.setIfInBounds_toArray, Nat.mul_comm, wcells_set_odd ws i b m n hi] at this
    rw [Nat.mul_comm]; exact this⟩
theorem MemIs.put_same (h : MemIs w p s ws st) {i : Nat} {b : Bool} {m : Int} (hi : ws[i]? = some (b, m)) : MemIs (w.setCell ⟨s, i * 2 + 1, none⟩ (.int .i64 m)) p s ws st := by
  have := h.put hi m
  rwa [set_same ws i _ hi] at this
end

/-- The words of a memory, and who may turn. -/
abbrev Two (p s : Nat) : Nat → Prop := fun k => k = p ∨ k = s

set_option maxHeartbeats 400000 in
theorem load_ok (w : World) (p s : Nat) (ws : List (Bool × Int)) (st : Int) (hM : MemIs w p s ws st) (i : Nat) (n : Int) (hi : ws[i]? = some (true, n)) (hst : 0 ≤ st) (hst2 : st < 1000000) :
    Calls Try.prog 28 #[.pointer (some ⟨p, 0, none⟩), .int .i64 (i : Int)] w fun e w' => e = .returned (.tuple #[.int .i64 n, .int .i64 0]) ∧ MemIs w' p s ws (st + 1) ∧ Fr (Two p s) w w' := by
  have hlt : i < ws.length := (List.getElem?_eq_some_iff.1 hi).1
  have c0 : w.cell? ⟨p, 0, none⟩ = some (.slice (some ⟨s, 0, none⟩) ws.length ws.length) := by rw [hM.hp.cell]; rfl
  have c1 : w.cell? ⟨p, 1, none⟩ = some (.int .i64 st) := by rw [hM.hp.cell]; rfl
  have d0 : w.cell? ⟨s, i * 2, none⟩ = some (.bool true) := by rw [hM.hs.cell, List.getElem?_toArray, Nat.mul_comm, wcells_even, hi]; rfl
  have d1 : w.cell? ⟨s, i * 2 + 1, none⟩ = some (.int .i64 n) := by rw [hM.hs.cell, List.getElem?_toArray, Nat.mul_comm, wcells_odd, hi]; rfl
  have f1 := hM.hp.frozen 1
  have g1 := hM.hs.frozen (i * 2 + 1)
  have hpl := hM.hp.lt
  have hsl := hM.hs.lt
  have hne : p ≠ s := hM.ne
  go_enter Try.func28, Try.ntmps28
  go_wp2
  go_ret2
  exact ⟨rfl, ((hM.put_same hi).count _).alloc _, (((Fr.refl _ _).setCell (.inl (.inr rfl)) _).setCell (.inl (.inl rfl)) _).alloc _⟩

set_option maxHeartbeats 400000 in
theorem store_ok (w : World) (p s : Nat) (ws : List (Bool × Int)) (st : Int) (hM : MemIs w p s ws st) (i : Nat) (m n : Int) (hi : ws[i]? = some (true, m)) (hst : 0 ≤ st) (hst2 : st < 1000000) :
    Calls Try.prog 27 #[.pointer (some ⟨p, 0, none⟩), .int .i64 (i : Int), .int .i64 n] w fun e w' => e = .returned (.int .i64 0) ∧ MemIs w' p s (ws.set i (true, n)) (st + 1) ∧ Fr (Two p s) w w' := by
  have hlt : i < ws.length := (List.getElem?_eq_some_iff.1 hi).1
  have c0 : w.cell? ⟨p, 0, none⟩ = some (.slice (some ⟨s, 0, none⟩) ws.length ws.length) := by rw [hM.hp.cell]; rfl
  have c1 : w.cell? ⟨p, 1, none⟩ = some (.int .i64 st) := by rw [hM.hp.cell]; rfl
  have d0 : w.cell? ⟨s, i * 2, none⟩ = some (.bool true) := by rw [hM.hs.cell, List.getElem?_toArray, Nat.mul_comm, wcells_even, hi]; rfl
  have d1 : w.cell? ⟨s, i * 2 + 1, none⟩ = some (.int .i64 m) := by rw [hM.hs.cell, List.getElem?_toArray, Nat.mul_comm, wcells_odd, hi]; rfl
  have f1 := hM.hp.frozen 1
  have g1 := hM.hs.frozen (i * 2 + 1)
  have hpl := hM.hp.lt
  have hsl := hM.hs.lt
  have hne : p ≠ s := hM.ne
  go_enter Try.func27, Try.ntmps27
  go_wp2
  go_ret
  exact ⟨rfl, ((hM.put hi n).count _).alloc _, (((Fr.refl _ _).setCell (.inl (.inr rfl)) _).setCell (.inl (.inl rfl)) _).alloc _⟩

set_option maxHeartbeats 400000 in
theorem load_free (w : World) (p s : Nat) (ws : List (Bool × Int)) (st : Int) (hM : MemIs w p s ws st) (i : Nat) (m : Int) (hi : ws[i]? = some (false, m)) :
    Calls Try.prog 28 #[.pointer (some ⟨p, 0, none⟩), .int .i64 (i : Int)] w fun e w' => e = .returned (.tuple #[.int .i64 0, .int .i64 7]) ∧ MemIs w' p s ws st ∧ Fr (Two p s) w w' := by
  have hlt : i < ws.length := (List.getElem?_eq_some_iff.1 hi).1
  have c0 : w.cell? ⟨p, 0, none⟩ = some (.slice (some ⟨s, 0, none⟩) ws.length ws.length) := by rw [hM.hp.cell]; rfl
  have d0 : w.cell? ⟨s, i * 2, none⟩ = some (.bool false) := by rw [hM.hs.cell, List.getElem?_toArray, Nat.mul_comm, wcells_even, hi]; rfl
  have hpl := hM.hp.lt
  have hsl := hM.hs.lt
  go_enter Try.func28, Try.ntmps28
  go_wp2
  go_ret2
  exact ⟨rfl, (hM.alloc _), ((Fr.refl _ _).alloc _)⟩

set_option maxHeartbeats 400000 in
theorem load_low (w : World) (p s : Nat) (ws : List (Bool × Int)) (st : Int) (hM : MemIs w p s ws st) (i : Int) (hi : i < 0) :
    Calls Try.prog 28 #[.pointer (some ⟨p, 0, none⟩), .int .i64 i] w fun e w' => e = .returned (.tuple #[.int .i64 0, .int .i64 6]) ∧ MemIs w' p s ws st ∧ Fr (Two p s) w w' := by
  go_enter Try.func28, Try.ntmps28
  go_wp2
  go_ret2
  exact ⟨rfl, (hM.alloc _), ((Fr.refl _ _).alloc _)⟩

set_option maxHeartbeats 400000 in
theorem load_high (w : World) (p s : Nat) (ws : List (Bool × Int)) (st : Int) (hM : MemIs w p s ws st) (i : Int) (h0 : ¬ i < 0) (hi : (ws.length : Int) ≤ i) :
    Calls Try.prog 28 #[.pointer (some ⟨p, 0, none⟩), .int .i64 i] w fun e w' => e = .returned (.tuple #[.int .i64 0, .int .i64 6]) ∧ MemIs w' p s ws st ∧ Fr (Two p s) w w' := by
  have c0 : w.cell? ⟨p, 0, none⟩ = some (.slice (some ⟨s, 0, none⟩) ws.length ws.length) := by rw [hM.hp.cell]; rfl
  have hpl := hM.hp.lt
  go_enter Try.func28, Try.ntmps28
  go_wp2
  go_ret2
  exact ⟨rfl, (hM.alloc _), ((Fr.refl _ _).alloc _)⟩

set_option maxHeartbeats 400000 in
theorem load_nil (w : World) (i : Int) :
    Calls Try.prog 28 #[.pointer none, .int .i64 i] w fun e w' => e = .returned (.tuple #[.int .i64 0, .int .i64 11]) ∧ Fr (fun _ => False) w w' := by
  go_enter Try.func28, Try.ntmps28
  go_wp2
  go_ret2
  exact ⟨rfl, ((Fr.refl _ _).alloc _)⟩

set_option maxHeartbeats 400000 in
theorem store_free (w : World) (p s : Nat) (ws : List (Bool × Int)) (st : Int) (hM : MemIs w p s ws st) (i : Nat) (m : Int) (n : Int) (hi : ws[i]? = some (false, m)) :
    Calls Try.prog 27 #[.pointer (some ⟨p, 0, none⟩), .int .i64 (i : Int), .int .i64 n] w fun e w' => e = .returned (.int .i64 7) ∧ MemIs w' p s ws st ∧ Fr (Two p s) w w' := by
  have hlt : i < ws.length := (List.getElem?_eq_some_iff.1 hi).1
  have c0 : w.cell? ⟨p, 0, none⟩ = some (.slice (some ⟨s, 0, none⟩) ws.length ws.length) := by rw [hM.hp.cell]; rfl
  have d0 : w.cell? ⟨s, i * 2, none⟩ = some (.bool false) := by rw [hM.hs.cell, List.getElem?_toArray, Nat.mul_comm, wcells_even, hi]; rfl
  have hpl := hM.hp.lt
  have hsl := hM.hs.lt
  go_enter Try.func27, Try.ntmps27
  go_wp2
  go_ret
  exact ⟨rfl, (hM.alloc _), ((Fr.refl _ _).alloc _)⟩

set_option maxHeartbeats 400000 in
theorem store_low (w : World) (p s : Nat) (ws : List (Bool × Int)) (st : Int) (hM : MemIs w p s ws st) (i : Int) (n : Int) (hi : i < 0) :
    Calls Try.prog 27 #[.pointer (some ⟨p, 0, none⟩), .int .i64 i, .int .i64 n] w fun e w' => e = .returned (.int .i64 6) ∧ MemIs w' p s ws st ∧ Fr (Two p s) w w' := by
  go_enter Try.func27, Try.ntmps27
  go_wp2
  go_ret
  exact ⟨rfl, (hM.alloc _), ((Fr.refl _ _).alloc _)⟩

set_option maxHeartbeats 400000 in
theorem store_high (w : World) (p s : Nat) (ws : List (Bool × Int)) (st : Int) (hM : MemIs w p s ws st) (i : Int) (n : Int) (h0 : ¬ i < 0) (hi : (ws.length : Int) ≤ i) :
    Calls Try.prog 27 #[.pointer (some ⟨p, 0, none⟩), .int .i64 i, .int .i64 n] w fun e w' => e = .returned (.int .i64 6) ∧ MemIs w' p s ws st ∧ Fr (Two p s) w w' := by
  have c0 : w.cell? ⟨p, 0, none⟩ = some (.slice (some ⟨s, 0, none⟩) ws.length ws.length) := by rw [hM.hp.cell]; rfl
  have hpl := hM.hp.lt
  go_enter Try.func27, Try.ntmps27
  go_wp2
  go_ret
  exact ⟨rfl, (hM.alloc _), ((Fr.refl _ _).alloc _)⟩

set_option maxHeartbeats 400000 in
theorem store_nil (w : World) (i : Int) (n : Int) :
    Calls Try.prog 27 #[.pointer none, .int .i64 i, .int .i64 n] w fun e w' => e = .returned (.int .i64 11) ∧ Fr (fun _ => False) w w' := by
  go_enter Try.func27, Try.ntmps27
  go_wp2
  go_ret
  exact ⟨rfl, ((Fr.refl _ _).alloc _)⟩

end Go.Proofs.Ytichhieopnbgpaa
