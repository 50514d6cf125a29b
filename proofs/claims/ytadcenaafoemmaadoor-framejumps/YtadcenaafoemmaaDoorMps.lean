/-
  The maps of what the operations do: as they are made, and what is found in them.
-/
import Derived.Test.YtadcenaafoemmaaDoorStt
import Derived.Maps.OwnOps
import Derived.MapKept
namespace Go.Proofs.YtadcenaafoemmaaDoor
open Go.RowKit

theorem push_set {α : Type} (a : Array α) (x y : α) : (a.push x).setIfInBounds a.size y = a.push y := by
  apply Array.ext_getElem?
  intro i
  rw [Array.getElem?_setIfInBounds, Array.getElem?_push, Array.getElem?_push]
  by_cases h : a.size = i
  · subst h; simp
  · simp [h, Ne.symm h]

theorem upd_pl (w : World) (es : Array MapEntry) (c : Nat) (k : Int) (v : Value) (hf : Instr.findNow (.int .i64) (.int .i64 k) es.toList 0 = some none) :
    (Instr.mapUpdate 128 (.map (some w.heap.size)) (.int .i64 k) v).run Tryd.prog (w.alloc (.map es c)) = .ok () (w.alloc (.map (es.push ⟨.int .i64 k, v, c⟩) (c + 1))) := by
  have h : (w.alloc (.map es c)).heap[w.heap.size]? = some (.map es c) := heap_alloc_new _ _
  have h1 := MapKept.run_getObj_map (P := Tryd.prog) h
  have h2 := MapKept.run_checkKey (P := Tryd.prog) (w := w.alloc (.map es c)) Tryd.underlying3 (k := .int .i64 k) (by trivial) false 9999
  have h3 := MapKept.run_findKey (P := Tryd.prog) (w := w.alloc (.map es c)) Tryd.underlying3 hf
  have h4 := MapKept.run_setObj_map (P := Tryd.prog) (.map (es.push ⟨.int .i64 k, v, c⟩) (c + 1)) h
  simp only [Instr.mapUpdate]
  simp [h1, h2, h3, h4, Result.andThen]
  show World.mk ((w.heap.push (.map es c)).setIfInBounds w.heap.size _) _ _ _ _ = _
  rw [push_set]
  rfl

def plE : Array MapEntry := #[⟨.int .i64 1, .func (.func 44) #[] #[], 0⟩, ⟨.int .i64 2, .func (.func 45) #[] #[], 1⟩, ⟨.int .i64 3, .func (.func 46) #[] #[], 2⟩, ⟨.int .i64 4, .func (.func 47) #[] #[], 3⟩, ⟨.int .i64 5, .func (.func 48) #[] #[], 4⟩, ⟨.int .i64 7, .func (.func 49) #[] #[], 5⟩, ⟨.int .i64 8, .func (.func 50) #[] #[], 6⟩, ⟨.int .i64 9, .func (.func 51) #[] #[], 7⟩, ⟨.int .i64 10, .func (.func 52) #[] #[], 8⟩]

set_option maxHeartbeats 4000000 in
set_option maxRecDepth 100000 in
theorem pl_any (w : World) : Calls Tryd.prog 35 #[] w fun e w' => e = .returned (.map (some w.heap.size)) ∧ w' = w.alloc (.map plE 9) := by
  have hmm : (Instr.makeMap 128 none).run Tryd.prog w = .ok (.map (some w.heap.size)) (w.alloc (.map #[] 0)) := rfl
  have u0 := upd_pl w #[] 0 1 (.func (.func 44) #[] #[]) rfl
  have u1 := upd_pl w #[⟨.int .i64 1, .func (.func 44) #[] #[], 0⟩] 1 2 (.func (.func 45) #[] #[]) rfl
  have u2 := upd_pl w #[⟨.int .i64 1, .func (.func 44) #[] #[], 0⟩, ⟨.int .i64 2, .func (.func 45) #[] #[], 1⟩] 2 3 (.func (.func 46) #[] #[]) rfl
  have u3 := upd_pl w #[⟨.int .i64 1, .func (.func 44) #[] #[], 0⟩, ⟨.int .i64 2, .func (.func 45) #[] #[], 1⟩, ⟨.int .i64 3, .func (.func 46) #[] #[], 2⟩] 3 4 (.func (.func 47) #[] #[]) rfl
  have u4 := upd_pl w #[⟨.int .i64 1, .func (.func 44) #[] #[], 0⟩, ⟨.int .i64 2, .func (.func 45) #[] #[], 1⟩, ⟨.int .i64 3, .func (.func 46) #[] #[], 2⟩, ⟨.int .i64 4, .func (.func 47) #[] #[], 3⟩] 4 5 (.func (.func 48) #[] #[]) rfl
  have u5 := upd_pl w #[⟨.int .i64 1, .func (.func 44) #[] #[], 0⟩, ⟨.int .i64 2, .func (.func 45) #[] #[], 1⟩, ⟨.int .i64 3, .func (.func 46) #[] #[], 2⟩, ⟨.int .i64 4, .func (.func 47) #[] #[], 3⟩, ⟨.int .i64 5, .func (.func 48) #[] #[], 4⟩] 5 7 (.func (.func 49) #[] #[]) rfl
  have u6 := upd_pl w #[⟨.int .i64 1, .func (.func 44) #[] #[], 0⟩, ⟨.int .i64 2, .func (.func 45) #[] #[], 1⟩, ⟨.int .i64 3, .func (.func 46) #[] #[], 2⟩, ⟨.int .i64 4, .func (.func 47) #[] #[], 3⟩, ⟨.int .i64 5, .func (.func 48) #[] #[], 4⟩, ⟨.int .i64 7, .func (.func 49) #[] #[], 5⟩] 6 8 (.func (.func 50) #[] #[]) rfl
  have u7 := upd_pl w #[⟨.int .i64 1, .func (.func 44) #[] #[], 0⟩, ⟨.int .i64 2, .func (.func 45) #[] #[], 1⟩, ⟨.int .i64 3, .func (.func 46) #[] #[], 2⟩, ⟨.int .i64 4, .func (.func 47) #[] #[], 3⟩, ⟨.int .i64 5, .func (.func 48) #[] #[], 4⟩, ⟨.int .i64 7, .func (.func 49) #[] #[], 5⟩, ⟨.int .i64 8, .func (.func 50) #[] #[], 6⟩] 7 9 (.func (.func 51) #[] #[]) rfl
  have u8 := upd_pl w #[⟨.int .i64 1, .func (.func 44) #[] #[], 0⟩, ⟨.int .i64 2, .func (.func 45) #[] #[], 1⟩, ⟨.int .i64 3, .func (.func 46) #[] #[], 2⟩, ⟨.int .i64 4, .func (.func 47) #[] #[], 3⟩, ⟨.int .i64 5, .func (.func 48) #[] #[], 4⟩, ⟨.int .i64 7, .func (.func 49) #[] #[], 5⟩, ⟨.int .i64 8, .func (.func 50) #[] #[], 6⟩, ⟨.int .i64 9, .func (.func 51) #[] #[], 7⟩] 8 10 (.func (.func 52) #[] #[]) rfl
  simp only [List.push_toArray, List.nil_append, List.cons_append] at u0 u1 u2 u3 u4 u5 u6 u7 u8
  go_enter Tryd.func35, Tryd.ntmps35
  go_wp2_with fail
  go_ret
  exact ⟨rfl, rfl⟩

/-- What is found under an operation's number. -/
def plV : Nat → Value
  | 1 => .func (.func 44) #[] #[]
  | 2 => .func (.func 45) #[] #[]
  | 3 => .func (.func 46) #[] #[]
  | 4 => .func (.func 47) #[] #[]
  | 5 => .func (.func 48) #[] #[]
  | 7 => .func (.func 49) #[] #[]
  | 8 => .func (.func 50) #[] #[]
  | 9 => .func (.func 51) #[] #[]
  | 10 => .func (.func 52) #[] #[]
  | _ => .nilFunc
def plH : Nat → Bool
  | 1 => true
  | 2 => true
  | 3 => true
  | 4 => true
  | 5 => true
  | 7 => true
  | 8 => true
  | 9 => true
  | 10 => true
  | _ => false
def plI : Nat → Nat
  | 1 => 0
  | 2 => 1
  | 3 => 2
  | 4 => 3
  | 5 => 4
  | 7 => 5
  | 8 => 6
  | 9 => 7
  | 10 => 8
  | _ => 0

theorem look_pl (w : World) (b : Nat) (h : w.heap[b]? = some (.map plE 9)) (k : Nat) (hk : k ≤ 17) :
    (Instr.lookup 128 (.map (some b)) (.int .i64 k) true).run Tryd.prog w = .ok (.tuple #[plV k, .bool (plH k)]) w := by
  have h1 := MapKept.run_getObj_map (P := Tryd.prog) h
  have h2 := MapKept.run_checkKey (P := Tryd.prog) (w := w) Tryd.underlying3 (k := .int .i64 k) (by trivial) plE.isEmpty 9999
  have key : ∀ (i : Nat), i ≤ 17 → Instr.findNow (.int .i64) (.int .i64 i) plE.toList 0 = some (if plH i then some (plI i, plV i) else none) := by
    intro i hi
    have : i = 0 ∨ i = 1 ∨ i = 2 ∨ i = 3 ∨ i = 4 ∨ i = 5 ∨ i = 6 ∨ i = 7 ∨ i = 8 ∨ i = 9 ∨ i = 10 ∨ i = 11 ∨ i = 12 ∨ i = 13 ∨ i = 14 ∨ i = 15 ∨ i = 16 ∨ i = 17 := by omega
    rcases this with rfl | rfl | rfl | rfl | rfl | rfl | rfl | rfl | rfl | rfl | rfl | rfl | rfl | rfl | rfl | rfl | rfl | rfl
    all_goals rfl
  have h3 := MapKept.run_findKey (P := Tryd.prog) (w := w) Tryd.underlying3 (key k hk)
  have hz : (zeroValue 136).run Tryd.prog w = .ok .nilFunc w := by kernel_rfl
  simp only [Instr.lookup]
  by_cases hh : plH k = true
  · rw [if_pos hh] at h3
    simp [h1, h2, h3, hh, Result.andThen]
  · rw [if_neg hh] at h3
    have hv : plV k = .nilFunc := by
      have : k = 0 ∨ k = 1 ∨ k = 2 ∨ k = 3 ∨ k = 4 ∨ k = 5 ∨ k = 6 ∨ k = 7 ∨ k = 8 ∨ k = 9 ∨ k = 10 ∨ k = 11 ∨ k = 12 ∨ k = 13 ∨ k = 14 ∨ k = 15 ∨ k = 16 ∨ k = 17 := by omega
      rcases this with rfl | rfl | rfl | rfl | rfl | rfl | rfl | rfl | rfl | rfl | rfl | rfl | rfl | rfl | rfl | rfl | rfl | rfl
      all_goals first | rfl | exact absurd rfl hh
    simp [h1, h2, h3, hz, hh, hv, Result.andThen]

theorem upd_fx (w : World) (es : Array MapEntry) (c : Nat) (k : Int) (v : Value) (hf : Instr.findNow (.int .i64) (.int .i64 k) es.toList 0 = some none) :
    (Instr.mapUpdate 140 (.map (some w.heap.size)) (.int .i64 k) v).run Tryd.prog (w.alloc (.map es c)) = .ok () (w.alloc (.map (es.push ⟨.int .i64 k, v, c⟩) (c + 1))) := by
  have h : (w.alloc (.map es c)).heap[w.heap.size]? = some (.map es c) := heap_alloc_new _ _
  have h1 := MapKept.run_getObj_map (P := Tryd.prog) h
  have h2 := MapKept.run_checkKey (P := Tryd.prog) (w := w.alloc (.map es c)) Tryd.underlying3 (k := .int .i64 k) (by trivial) false 9999
  have h3 := MapKept.run_findKey (P := Tryd.prog) (w := w.alloc (.map es c)) Tryd.underlying3 hf
  have h4 := MapKept.run_setObj_map (P := Tryd.prog) (.map (es.push ⟨.int .i64 k, v, c⟩) (c + 1)) h
  simp only [Instr.mapUpdate]
  simp [h1, h2, h3, h4, Result.andThen]
  show World.mk ((w.heap.push (.map es c)).setIfInBounds w.heap.size _) _ _ _ _ = _
  rw [push_set]
  rfl

def fxE : Array MapEntry := #[⟨.int .i64 6, .func (.func 62) #[] #[], 0⟩, ⟨.int .i64 11, .func (.func 63) #[] #[], 1⟩, ⟨.int .i64 12, .func (.func 64) #[] #[], 2⟩, ⟨.int .i64 13, .func (.func 65) #[] #[], 3⟩, ⟨.int .i64 14, .func (.func 66) #[] #[], 4⟩, ⟨.int .i64 15, .func (.func 67) #[] #[], 5⟩, ⟨.int .i64 16, .func (.func 68) #[] #[], 6⟩, ⟨.int .i64 17, .func (.func 69) #[] #[], 7⟩]

set_option maxHeartbeats 4000000 in
set_option maxRecDepth 100000 in
theorem fx_any (w : World) : Calls Tryd.prog 38 #[] w fun e w' => e = .returned (.map (some w.heap.size)) ∧ w' = w.alloc (.map fxE 8) := by
  have hmm : (Instr.makeMap 140 none).run Tryd.prog w = .ok (.map (some w.heap.size)) (w.alloc (.map #[] 0)) := rfl
  have u0 := upd_fx w #[] 0 6 (.func (.func 62) #[] #[]) rfl
  have u1 := upd_fx w #[⟨.int .i64 6, .func (.func 62) #[] #[], 0⟩] 1 11 (.func (.func 63) #[] #[]) rfl
  have u2 := upd_fx w #[⟨.int .i64 6, .func (.func 62) #[] #[], 0⟩, ⟨.int .i64 11, .func (.func 63) #[] #[], 1⟩] 2 12 (.func (.func 64) #[] #[]) rfl
  have u3 := upd_fx w #[⟨.int .i64 6, .func (.func 62) #[] #[], 0⟩, ⟨.int .i64 11, .func (.func 63) #[] #[], 1⟩, ⟨.int .i64 12, .func (.func 64) #[] #[], 2⟩] 3 13 (.func (.func 65) #[] #[]) rfl
  have u4 := upd_fx w #[⟨.int .i64 6, .func (.func 62) #[] #[], 0⟩, ⟨.int .i64 11, .func (.func 63) #[] #[], 1⟩, ⟨.int .i64 12, .func (.func 64) #[] #[], 2⟩, ⟨.int .i64 13, .func (.func 65) #[] #[], 3⟩] 4 14 (.func (.func 66) #[] #[]) rfl
  have u5 := upd_fx w #[⟨.int .i64 6, .func (.func 62) #[] #[], 0⟩, ⟨.int .i64 11, .func (.func 63) #[] #[], 1⟩, ⟨.int .i64 12, .func (.func 64) #[] #[], 2⟩, ⟨.int .i64 13, .func (.func 65) #[] #[], 3⟩, ⟨.int .i64 14, .func (.func 66) #[] #[], 4⟩] 5 15 (.func (.func 67) #[] #[]) rfl
  have u6 := upd_fx w #[⟨.int .i64 6, .func (.func 62) #[] #[], 0⟩, ⟨.int .i64 11, .func (.func 63) #[] #[], 1⟩, ⟨.int .i64 12, .func (.func 64) #[] #[], 2⟩, ⟨.int .i64 13, .func (.func 65) #[] #[], 3⟩, ⟨.int .i64 14, .func (.func 66) #[] #[], 4⟩, ⟨.int .i64 15, .func (.func 67) #[] #[], 5⟩] 6 16 (.func (.func 68) #[] #[]) rfl
  have u7 := upd_fx w #[⟨.int .i64 6, .func (.func 62) #[] #[], 0⟩, ⟨.int .i64 11, .func (.func 63) #[] #[], 1⟩, ⟨.int .i64 12, .func (.func 64) #[] #[], 2⟩, ⟨.int .i64 13, .func (.func 65) #[] #[], 3⟩, ⟨.int .i64 14, .func (.func 66) #[] #[], 4⟩, ⟨.int .i64 15, .func (.func 67) #[] #[], 5⟩, ⟨.int .i64 16, .func (.func 68) #[] #[], 6⟩] 7 17 (.func (.func 69) #[] #[]) rfl
  simp only [List.push_toArray, List.nil_append, List.cons_append] at u0 u1 u2 u3 u4 u5 u6 u7
  go_enter Tryd.func38, Tryd.ntmps38
  go_wp2_with fail
  go_ret
  exact ⟨rfl, rfl⟩

/-- What is found under an operation's number. -/
def fxV : Nat → Value
  | 6 => .func (.func 62) #[] #[]
  | 11 => .func (.func 63) #[] #[]
  | 12 => .func (.func 64) #[] #[]
  | 13 => .func (.func 65) #[] #[]
  | 14 => .func (.func 66) #[] #[]
  | 15 => .func (.func 67) #[] #[]
  | 16 => .func (.func 68) #[] #[]
  | 17 => .func (.func 69) #[] #[]
  | _ => .nilFunc
def fxH : Nat → Bool
  | 6 => true
  | 11 => true
  | 12 => true
  | 13 => true
  | 14 => true
  | 15 => true
  | 16 => true
  | 17 => true
  | _ => false
def fxI : Nat → Nat
  | 6 => 0
  | 11 => 1
  | 12 => 2
  | 13 => 3
  | 14 => 4
  | 15 => 5
  | 16 => 6
  | 17 => 7
  | _ => 0

theorem look_fx (w : World) (b : Nat) (h : w.heap[b]? = some (.map fxE 8)) (k : Nat) (hk : k ≤ 17) :
    (Instr.lookup 140 (.map (some b)) (.int .i64 k) false).run Tryd.prog w = .ok (fxV k) w := by
  have h1 := MapKept.run_getObj_map (P := Tryd.prog) h
  have h2 := MapKept.run_checkKey (P := Tryd.prog) (w := w) Tryd.underlying3 (k := .int .i64 k) (by trivial) fxE.isEmpty 9999
  have key : ∀ (i : Nat), i ≤ 17 → Instr.findNow (.int .i64) (.int .i64 i) fxE.toList 0 = some (if fxH i then some (fxI i, fxV i) else none) := by
    intro i hi
    have : i = 0 ∨ i = 1 ∨ i = 2 ∨ i = 3 ∨ i = 4 ∨ i = 5 ∨ i = 6 ∨ i = 7 ∨ i = 8 ∨ i = 9 ∨ i = 10 ∨ i = 11 ∨ i = 12 ∨ i = 13 ∨ i = 14 ∨ i = 15 ∨ i = 16 ∨ i = 17 := by omega
    rcases this with rfl | rfl | rfl | rfl | rfl | rfl | rfl | rfl | rfl | rfl | rfl | rfl | rfl | rfl | rfl | rfl | rfl | rfl
    all_goals rfl
  have h3 := MapKept.run_findKey (P := Tryd.prog) (w := w) Tryd.underlying3 (key k hk)
  have hz : (zeroValue 139).run Tryd.prog w = .ok .nilFunc w := by kernel_rfl
  simp only [Instr.lookup]
  by_cases hh : fxH k = true
  · rw [if_pos hh] at h3
    simp [h1, h2, h3, Result.andThen]
  · rw [if_neg hh] at h3
    have hv : fxV k = .nilFunc := by
      have : k = 0 ∨ k = 1 ∨ k = 2 ∨ k = 3 ∨ k = 4 ∨ k = 5 ∨ k = 6 ∨ k = 7 ∨ k = 8 ∨ k = 9 ∨ k = 10 ∨ k = 11 ∨ k = 12 ∨ k = 13 ∨ k = 14 ∨ k = 15 ∨ k = 16 ∨ k = 17 := by omega
      rcases this with rfl | rfl | rfl | rfl | rfl | rfl | rfl | rfl | rfl | rfl | rfl | rfl | rfl | rfl | rfl | rfl | rfl | rfl
      all_goals first | rfl | exact absurd rfl hh
    simp [h1, h2, h3, hz, hv, Result.andThen]
end Go.Proofs.YtadcenaafoemmaaDoor
