/-
  One act done on both memories: the answers agree, and so do the words then.
-/
import Derived.Test.YtlhhnpbpmjbbaaaRef
import Derived.Deep.RegionHeld3
namespace Go.Proofs.Ytlhhnpbpmjbbaaa
open Go.RowKit

/-- Both memories have the words ws, and st steps. -/
structure Both (w : World) (p s r a b : Nat) (ws : List (Bool × Int)) (st : Int) : Prop where
  m : MemIs w p s ws st
  r : RefIs w r a b ws st

abbrev Five (p s r a b : Nat) : Nat → Prop := fun k => Two p s k ∨ Three r a b k

section
variable {w w' : World} {p s r a b : Nat} {ws ws' : List (Bool × Int)} {st st' : Int}
theorem noTwo (hM : MemIs w p s ws st) (hR : RefIs w r a b ws' st') : ¬ Two p s r ∧ ¬ Two p s a ∧ ¬ Two p s b := by
  have h1 : r ≠ p := hR.hr.ne_ hM.hp (by decide)
  have h2 : r ≠ s := hR.hr.ne_ hM.hs (by decide)
  have h3 : a ≠ p := hR.ha.ne_ hM.hp (by decide)
  have h4 : a ≠ s := hR.ha.ne_ hM.hs (by decide)
  have h5 : b ≠ p := hR.hb.ne_ hM.hp (by decide)
  have h6 : b ≠ s := hR.hb.ne_ hM.hs (by decide)
  exact ⟨fun h => h.elim h1 h2, fun h => h.elim h3 h4, fun h => h.elim h5 h6⟩
theorem noThree (hM : MemIs w p s ws st) (hR : RefIs w r a b ws' st') : ¬ Three r a b p ∧ ¬ Three r a b s := by
  have h1 : p ≠ r := hM.hp.ne_ hR.hr (by decide)
  have h2 : s ≠ r := hM.hs.ne_ hR.hr (by decide)
  have h3 : p ≠ a := hM.hp.ne_ hR.ha (by decide)
  have h4 : s ≠ a := hM.hs.ne_ hR.ha (by decide)
  have h5 : p ≠ b := hM.hp.ne_ hR.hb (by decide)
  have h6 : s ≠ b := hM.hs.ne_ hR.hb (by decide)
  exact ⟨fun h => h.elim h1 fun h => h.elim h3 h5, fun h => h.elim h2 fun h => h.elim h4 h6⟩
theorem RefIs.two (hR : RefIs w r a b ws' st') (hM : MemIs w p s ws st) (hF : Fr (Two p s) w w') : RefIs w' r a b ws' st' := by
  obtain ⟨h1, h2, h3⟩ := noTwo hM hR
  exact hR.fr hF h1 h2 h3
theorem MemIs.three (hM : MemIs w p s ws st) (hR : RefIs w r a b ws' st') (hF : Fr (Three r a b) w w') : MemIs w' p s ws st := by
  obtain ⟨h1, h2⟩ := noThree hM hR
  exact hM.fr hF h1 h2
end

theorem MemIs.drewN {w : World} {p s : Nat} {ws : List (Bool × Int)} {st : Int} (h : MemIs w p s ws st) (n : Nat) : MemIs (w.drewN n) p s ws st := ⟨h.hp, h.hs⟩

/-- What an act leaves. -/
def Done (w : World) (p s r a b : Nat) (ws : List (Bool × Int)) (st : Int) (e : Ending) (w' : World) : Prop :=
  e = .returned (.bool true) ∧ (∃ ws' st', ws'.length = ws.length ∧ st ≤ st' ∧ st' ≤ st + 1 ∧ MemIs w' p s ws' st' ∧ RefIs w' r a b ws' st') ∧ Fr (Five p s r a b) w w'

theorem turnR_length (ws : List (Bool × Int)) (a n : Int) (live : Bool) : (turnR ws a n live).2.length = ws.length := by
  unfold turnR
  split
  · split
    · rfl
    · exact setR_length _ _ _ _
  · rfl

theorem mod_pos (x : Int) (n : Int) (hn : 0 < n) (hn2 : n ≤ 1000) : ∃ t : Nat, (wrap64 (x.tmod n + n)).tmod n = t ∧ (t : Int) < n := by
  have h1 := Int.tmod_lt_of_pos x hn
  have h2 := Int.lt_tmod_of_pos x hn
  have hw : wrap64 (x.tmod n + n) = x.tmod n + n := by unfold wrap64; omega
  rw [hw, Int.tmod_eq_emod_of_nonneg (by omega)]
  have h3 := Int.emod_nonneg (x.tmod n + n) (b := n) (by omega)
  have h4 := Int.emod_lt_of_pos (x.tmod n + n) hn
  exact ⟨((x.tmod n + n) % n).toNat, by omega, by omega⟩

set_option maxRecDepth 100000 in
set_option maxHeartbeats 4000000 in
theorem do_live (w : World) (p s r a b : Nat) (ws : List (Bool × Int)) (st : Int) (hM : MemIs w p s ws st) (hR : RefIs w r a b ws st) (hl : ws.length ≤ 65536) (x0 x1 x2 x3 x4 : Int) (hx1 : -9223372036854775808 ≤ x1 ∧ x1 ≤ 9223372036854775807) (ht : (wrap64 (x0.tmod 6 + 6)).tmod 6 = 0) :
    Calls Try.prog 13 #[.pointer (some ⟨p, 0, none⟩), .pointer (some ⟨r, 0, none⟩), .agg #[.int .i64 x0, .int .i64 x1, .int .i64 x2, .int .i64 x3, .int .i64 x4]] w (Done w p s r a b ws st) := by
  have hM0 := (hM.alloc (.cells #[.int .i64 x0, .int .i64 x1, .int .i64 x2, .int .i64 x3, .int .i64 x4] 33)).drew
  have hR0 := (hR.alloc (.cells #[.int .i64 x0, .int .i64 x1, .int .i64 x2, .int .i64 x3, .int .i64 x4] 33)).drew
  have hX0 := (Blk.new w 33 #[.int .i64 x0, .int .i64 x1, .int .i64 x2, .int .i64 x3, .int .i64 x4]).drew
  have hX1 : ¬ Two p s w.heap.size := fun h => by have h1 := hM.hp.lt; have h2 := hM.hs.lt; rcases h with h | h <;> omega
  have hX2 : ¬ Three r a b w.heap.size := fun h => by have h1 := hR.hr.lt; have h2 := hR.ha.lt; have h3 := hR.hb.lt; rcases h with h | h | h <;> omega
  have hT := turnR_length ws x1 x2 true
  have HT := Lib.hid hT
  clear hT
  go_enter Try.func13, Try.ntmps13
  go_wp2
  clear ht
  go_region_held3 (fun w' => w'.cell? ⟨w.heap.size, 1, none⟩ = some (.int .i64 x1) ∧ w'.cell? ⟨w.heap.size, 2, none⟩ = some (.int .i64 x2))
    (first | exact ⟨by rw [hX0.cell]; rfl, by rw [hX0.cell]; rfl⟩ | exact ⟨by rw [(hX0.fr hF1 hX1).cell]; rfl, by rw [(hX0.fr hF1 hX1).cell]; rfl⟩ | exact ⟨by rw [((hX0.fr hF1 hX1).fr hF2 hX2).cell]; rfl, by rw [((hX0.fr hF1 hX1).fr hF2 hX2).cell]; rfl⟩ | go_keep)
    (first
      | (go_at_call 20; refine (live_any _ _ _ _ _ hM0 _ _ hl hx1).mono ?_; rintro e w1 ⟨rfl, hM1, hF1⟩)
      | (go_at_call 22; refine (ref_turn_any _ _ _ _ _ _ (hR0.two hM0 hF1) _ _ true hl hx1).mono ?_; rintro e w2 ⟨rfl, hR2, hF2⟩))
  go_wp2
  go_ret
  exact ⟨rfl, ⟨_, _, HT.out, Int.le_refl _, by omega, hM1.three (hR0.two hM0 hF1) hF2, hR2⟩, ((((Fr.refl _ _).alloc _).drew).then hF1 (fun i h => .inl (.inl h))).then hF2 (fun i h => .inl (.inr h))⟩

set_option maxRecDepth 100000 in
set_option maxHeartbeats 4000000 in
theorem do_free (w : World) (p s r a b : Nat) (ws : List (Bool × Int)) (st : Int) (hM : MemIs w p s ws st) (hR : RefIs w r a b ws st) (hl : ws.length ≤ 65536) (x0 x1 x2 x3 x4 : Int) (hx1 : -9223372036854775808 ≤ x1 ∧ x1 ≤ 9223372036854775807) (ht : (wrap64 (x0.tmod 6 + 6)).tmod 6 = 1) :
    Calls Try.prog 13 #[.pointer (some ⟨p, 0, none⟩), .pointer (some ⟨r, 0, none⟩), .agg #[.int .i64 x0, .int .i64 x1, .int .i64 x2, .int .i64 x3, .int .i64 x4]] w (Done w p s r a b ws st) := by
  have hM0 := (hM.alloc (.cells #[.int .i64 x0, .int .i64 x1, .int .i64 x2, .int .i64 x3, .int .i64 x4] 33)).drew
  have hR0 := (hR.alloc (.cells #[.int .i64 x0, .int .i64 x1, .int .i64 x2, .int .i64 x3, .int .i64 x4] 33)).drew
  have hX0 := (Blk.new w 33 #[.int .i64 x0, .int .i64 x1, .int .i64 x2, .int .i64 x3, .int .i64 x4]).drew
  have hX1 : ¬ Two p s w.heap.size := fun h => by have h1 := hM.hp.lt; have h2 := hM.hs.lt; rcases h with h | h <;> omega
  have hX2 : ¬ Three r a b w.heap.size := fun h => by have h1 := hR.hr.lt; have h2 := hR.ha.lt; have h3 := hR.hb.lt; rcases h with h | h | h <;> omega
  have hT := turnR_length ws x1 x2 false
  have HT := Lib.hid hT
  clear hT
  go_enter Try.func13, Try.ntmps13
  go_wp2
  clear ht
  go_region_held3 (fun w' => w'.cell? ⟨w.heap.size, 1, none⟩ = some (.int .i64 x1) ∧ w'.cell? ⟨w.heap.size, 2, none⟩ = some (.int .i64 x2))
    (first | exact ⟨by rw [hX0.cell]; rfl, by rw [hX0.cell]; rfl⟩ | exact ⟨by rw [(hX0.fr hF1 hX1).cell]; rfl, by rw [(hX0.fr hF1 hX1).cell]; rfl⟩ | exact ⟨by rw [((hX0.fr hF1 hX1).fr hF2 hX2).cell]; rfl, by rw [((hX0.fr hF1 hX1).fr hF2 hX2).cell]; rfl⟩ | go_keep)
    (first
      | (go_at_call 21; refine (free_any _ _ _ _ _ hM0 _ _ hl hx1).mono ?_; rintro e w1 ⟨rfl, hM1, hF1⟩)
      | (go_at_call 22; refine (ref_turn_any _ _ _ _ _ _ (hR0.two hM0 hF1) _ _ false hl hx1).mono ?_; rintro e w2 ⟨rfl, hR2, hF2⟩))
  go_wp2
  go_ret
  exact ⟨rfl, ⟨_, _, HT.out, Int.le_refl _, by omega, hM1.three (hR0.two hM0 hF1) hF2, hR2⟩, ((((Fr.refl _ _).alloc _).drew).then hF1 (fun i h => .inl (.inl h))).then hF2 (fun i h => .inl (.inr h))⟩

set_option maxRecDepth 100000 in
set_option maxHeartbeats 4000000 in
theorem do2_low (w : World) (p s r a b : Nat) (ws : List (Bool × Int)) (st : Int) (hM : MemIs w p s ws st) (hR : RefIs w r a b ws st) (x0 x1 x2 x3 x4 : Int) (hx : x1 < 0) (ht : (wrap64 (x0.tmod 6 + 6)).tmod 6 = 2) :
    Calls Try.prog 13 #[.pointer (some ⟨p, 0, none⟩), .pointer (some ⟨r, 0, none⟩), .agg #[.int .i64 x0, .int .i64 x1, .int .i64 x2, .int .i64 x3, .int .i64 x4]] w (Done w p s r a b ws st) := by
  have hM0 := hM.alloc (.cells #[.int .i64 x0, .int .i64 x1, .int .i64 x2, .int .i64 x3, .int .i64 x4] 33)
  have hR0 := hR.alloc (.cells #[.int .i64 x0, .int .i64 x1, .int .i64 x2, .int .i64 x3, .int .i64 x4] 33)
  go_enter Try.func13, Try.ntmps13
  go_wp2_with (go_at_call 23; refine (ref_wrong_low _ _ _ hx).mono ?_; rintro e w1 ⟨rfl, rfl⟩)
  go_wp2_with (go_at_call 16; refine (load_low _ _ _ _ _ hM0 _ hx).mono ?_; rintro e w2 ⟨rfl, hM2, hF2⟩)
  go_ret
  exact ⟨rfl, ⟨_, _, rfl, Int.le_refl _, by omega, hM2, hR0.two hM0 hF2⟩, ((Fr.refl _ _).alloc _).then hF2 (fun i h => .inl (.inl h))⟩

set_option maxRecDepth 100000 in
set_option maxHeartbeats 4000000 in
theorem do2_high (w : World) (p s r a b : Nat) (ws : List (Bool × Int)) (st : Int) (hM : MemIs w p s ws st) (hR : RefIs w r a b ws st) (x0 x1 x2 x3 x4 : Int) (hx0 : 0 ≤ x1) (hx : (ws.length : Int) ≤ x1) (ht : (wrap64 (x0.tmod 6 + 6)).tmod 6 = 2) :
    Calls Try.prog 13 #[.pointer (some ⟨p, 0, none⟩), .pointer (some ⟨r, 0, none⟩), .agg #[.int .i64 x0, .int .i64 x1, .int .i64 x2, .int .i64 x3, .int .i64 x4]] w (Done w p s r a b ws st) := by
  have hM0 := hM.alloc (.cells #[.int .i64 x0, .int .i64 x1, .int .i64 x2, .int .i64 x3, .int .i64 x4] 33)
  have hR0 := hR.alloc (.cells #[.int .i64 x0, .int .i64 x1, .int .i64 x2, .int .i64 x3, .int .i64 x4] 33)
  go_enter Try.func13, Try.ntmps13
  go_wp2_with (go_at_call 23; refine (ref_wrong_high _ _ _ _ _ _ hR0 _ (by omega) (by omega)).mono ?_; rintro e w1 ⟨rfl, rfl⟩)
  go_wp2_with (go_at_call 16; refine (load_high _ _ _ _ _ hM0 _ (by omega) (by omega)).mono ?_; rintro e w2 ⟨rfl, hM2, hF2⟩)
  go_ret
  exact ⟨rfl, ⟨_, _, rfl, Int.le_refl _, by omega, hM2, hR0.two hM0 hF2⟩, ((Fr.refl _ _).alloc _).then hF2 (fun i h => .inl (.inl h))⟩

set_option maxRecDepth 100000 in
set_option maxHeartbeats 4000000 in
theorem do2_free (w : World) (p s r a b : Nat) (ws : List (Bool × Int)) (st : Int) (hM : MemIs w p s ws st) (hR : RefIs w r a b ws st) (x0 x2 x3 x4 : Int) (i : Nat) (m : Int) (hi : ws[i]? = some (false, m)) (ht : (wrap64 (x0.tmod 6 + 6)).tmod 6 = 2) :
    Calls Try.prog 13 #[.pointer (some ⟨p, 0, none⟩), .pointer (some ⟨r, 0, none⟩), .agg #[.int .i64 x0, .int .i64 (i : Int), .int .i64 x2, .int .i64 x3, .int .i64 x4]] w (Done w p s r a b ws st) := by
  have hM0 := hM.alloc (.cells #[.int .i64 x0, .int .i64 (i : Int), .int .i64 x2, .int .i64 x3, .int .i64 x4] 33)
  have hR0 := hR.alloc (.cells #[.int .i64 x0, .int .i64 (i : Int), .int .i64 x2, .int .i64 x3, .int .i64 x4] 33)
  have HI := Lib.hid hi
  clear hi
  go_enter Try.func13, Try.ntmps13
  go_wp2_with (go_at_call 23; refine (ref_wrong_free _ _ _ _ _ _ hR0 i m HI.out).mono ?_; rintro e w1 ⟨rfl, rfl⟩)
  go_wp2_with (go_at_call 16; refine (load_free _ _ _ _ _ hM0 i m HI.out).mono ?_; rintro e w2 ⟨rfl, hM2, hF2⟩)
  go_ret
  exact ⟨rfl, ⟨_, _, rfl, Int.le_refl _, by omega, hM2, hR0.two hM0 hF2⟩, ((Fr.refl _ _).alloc _).then hF2 (fun i h => .inl (.inl h))⟩

set_option maxRecDepth 100000 in
set_option maxHeartbeats 4000000 in
theorem do3_low (w : World) (p s r a b : Nat) (ws : List (Bool × Int)) (st : Int) (hM : MemIs w p s ws st) (hR : RefIs w r a b ws st) (x0 x1 x2 x3 x4 : Int) (hx : x1 < 0) (ht : (wrap64 (x0.tmod 6 + 6)).tmod 6 = 3) :
    Calls Try.prog 13 #[.pointer (some ⟨p, 0, none⟩), .pointer (some ⟨r, 0, none⟩), .agg #[.int .i64 x0, .int .i64 x1, .int .i64 x2, .int .i64 x3, .int .i64 x4]] w (Done w p s r a b ws st) := by
  have hM0 := hM.alloc (.cells #[.int .i64 x0, .int .i64 x1, .int .i64 x2, .int .i64 x3, .int .i64 x4] 33)
  have hR0 := hR.alloc (.cells #[.int .i64 x0, .int .i64 x1, .int .i64 x2, .int .i64 x3, .int .i64 x4] 33)
  go_enter Try.func13, Try.ntmps13
  go_wp2_with (go_at_call 23; refine (ref_wrong_low _ _ _ hx).mono ?_; rintro e w1 ⟨rfl, rfl⟩)
  go_wp2_with (go_at_call 19; refine (store_low _ _ _ _ _ hM0 _ x4 hx).mono ?_; rintro e w2 ⟨rfl, hM2, hF2⟩)
  go_ret
  exact ⟨rfl, ⟨_, _, rfl, Int.le_refl _, by omega, hM2, hR0.two hM0 hF2⟩, ((Fr.refl _ _).alloc _).then hF2 (fun i h => .inl (.inl h))⟩

set_option maxRecDepth 100000 in
set_option maxHeartbeats 4000000 in
theorem do3_high (w : World) (p s r a b : Nat) (ws : List (Bool × Int)) (st : Int) (hM : MemIs w p s ws st) (hR : RefIs w r a b ws st) (x0 x1 x2 x3 x4 : Int) (hx0 : 0 ≤ x1) (hx : (ws.length : Int) ≤ x1) (ht : (wrap64 (x0.tmod 6 + 6)).tmod 6 = 3) :
    Calls Try.prog 13 #[.pointer (some ⟨p, 0, none⟩), .pointer (some ⟨r, 0, none⟩), .agg #[.int .i64 x0, .int .i64 x1, .int .i64 x2, .int .i64 x3, .int .i64 x4]] w (Done w p s r a b ws st) := by
  have hM0 := hM.alloc (.cells #[.int .i64 x0, .int .i64 x1, .int .i64 x2, .int .i64 x3, .int .i64 x4] 33)
  have hR0 := hR.alloc (.cells #[.int .i64 x0, .int .i64 x1, .int .i64 x2, .int .i64 x3, .int .i64 x4] 33)
  go_enter Try.func13, Try.ntmps13
  go_wp2_with (go_at_call 23; refine (ref_wrong_high _ _ _ _ _ _ hR0 _ (by omega) (by omega)).mono ?_; rintro e w1 ⟨rfl, rfl⟩)
  go_wp2_with (go_at_call 19; refine (store_high _ _ _ _ _ hM0 _ x4 (by omega) (by omega)).mono ?_; rintro e w2 ⟨rfl, hM2, hF2⟩)
  go_ret
  exact ⟨rfl, ⟨_, _, rfl, Int.le_refl _, by omega, hM2, hR0.two hM0 hF2⟩, ((Fr.refl _ _).alloc _).then hF2 (fun i h => .inl (.inl h))⟩

set_option maxRecDepth 100000 in
set_option maxHeartbeats 4000000 in
theorem do3_free (w : World) (p s r a b : Nat) (ws : List (Bool × Int)) (st : Int) (hM : MemIs w p s ws st) (hR : RefIs w r a b ws st) (x0 x2 x3 x4 : Int) (i : Nat) (m : Int) (hi : ws[i]? = some (false, m)) (ht : (wrap64 (x0.tmod 6 + 6)).tmod 6 = 3) :
    Calls Try.prog 13 #[.pointer (some ⟨p, 0, none⟩), .pointer (some ⟨r, 0, none⟩), .agg #[.int .i64 x0, .int .i64 (i : Int), .int .i64 x2, .int .i64 x3, .int .i64 x4]] w (Done w p s r a b ws st) := by
  have hM0 := hM.alloc (.cells #[.int .i64 x0, .int .i64 (i : Int), .int .i64 x2, .int .i64 x3, .int .i64 x4] 33)
  have hR0 := hR.alloc (.cells #[.int .i64 x0, .int .i64 (i : Int), .int .i64 x2, .int .i64 x3, .int .i64 x4] 33)
  have HI := Lib.hid hi
  clear hi
  go_enter Try.func13, Try.ntmps13
  go_wp2_with (go_at_call 23; refine (ref_wrong_free _ _ _ _ _ _ hR0 i m HI.out).mono ?_; rintro e w1 ⟨rfl, rfl⟩)
  go_wp2_with (go_at_call 19; refine (store_free _ _ _ _ _ hM0 i m x4 HI.out).mono ?_; rintro e w2 ⟨rfl, hM2, hF2⟩)
  go_ret
  exact ⟨rfl, ⟨_, _, rfl, Int.le_refl _, by omega, hM2, hR0.two hM0 hF2⟩, ((Fr.refl _ _).alloc _).then hF2 (fun i h => .inl (.inl h))⟩

set_option maxRecDepth 100000 in
set_option maxHeartbeats 4000000 in
theorem do4_low (w : World) (p s r a b : Nat) (ws : List (Bool × Int)) (st : Int) (hM : MemIs w p s ws st) (hR : RefIs w r a b ws st) (x0 x1 x2 x3 x4 : Int) (hx : x1 < 0) (ht : (wrap64 (x0.tmod 6 + 6)).tmod 6 = 4) :
    Calls Try.prog 13 #[.pointer (some ⟨p, 0, none⟩), .pointer (some ⟨r, 0, none⟩), .agg #[.int .i64 x0, .int .i64 x1, .int .i64 x2, .int .i64 x3, .int .i64 x4]] w (Done w p s r a b ws st) := by
  have hM0 := hM.alloc (.cells #[.int .i64 x0, .int .i64 x1, .int .i64 x2, .int .i64 x3, .int .i64 x4] 33)
  have hR0 := hR.alloc (.cells #[.int .i64 x0, .int .i64 x1, .int .i64 x2, .int .i64 x3, .int .i64 x4] 33)
  go_enter Try.func13, Try.ntmps13
  go_wp2_with (go_at_call 23; refine (ref_wrong_low _ _ _ hx).mono ?_; rintro e w1 ⟨rfl, rfl⟩)
  go_wp2_with (go_at_call 17; refine (swap_low _ _ _ _ _ hM0 _ x3 x4 hx).mono ?_; rintro e w2 ⟨rfl, hM2, hF2⟩)
  go_ret
  exact ⟨rfl, ⟨_, _, rfl, Int.le_refl _, by omega, hM2, hR0.two hM0 hF2⟩, ((Fr.refl _ _).alloc _).then hF2 (fun i h => .inl (.inl h))⟩

set_option maxRecDepth 100000 in
set_option maxHeartbeats 4000000 in
theorem do4_high (w : World) (p s r a b : Nat) (ws : List (Bool × Int)) (st : Int) (hM : MemIs w p s ws st) (hR : RefIs w r a b ws st) (x0 x1 x2 x3 x4 : Int) (hx0 : 0 ≤ x1) (hx : (ws.length : Int) ≤ x1) (ht : (wrap64 (x0.tmod 6 + 6)).tmod 6 = 4) :
    Calls Try.prog 13 #[.pointer (some ⟨p, 0, none⟩), .pointer (some ⟨r, 0, none⟩), .agg #[.int .i64 x0, .int .i64 x1, .int .i64 x2, .int .i64 x3, .int .i64 x4]] w (Done w p s r a b ws st) := by
  have hM0 := hM.alloc (.cells #[.int .i64 x0, .int .i64 x1, .int .i64 x2, .int .i64 x3, .int .i64 x4] 33)
  have hR0 := hR.alloc (.cells #[.int .i64 x0, .int .i64 x1, .int .i64 x2, .int .i64 x3, .int .i64 x4] 33)
  go_enter Try.func13, Try.ntmps13
  go_wp2_with (go_at_call 23; refine (ref_wrong_high _ _ _ _ _ _ hR0 _ (by omega) (by omega)).mono ?_; rintro e w1 ⟨rfl, rfl⟩)
  go_wp2_with (go_at_call 17; refine (swap_high _ _ _ _ _ hM0 _ x3 x4 (by omega) (by omega)).mono ?_; rintro e w2 ⟨rfl, hM2, hF2⟩)
  go_ret
  exact ⟨rfl, ⟨_, _, rfl, Int.le_refl _, by omega, hM2, hR0.two hM0 hF2⟩, ((Fr.refl _ _).alloc _).then hF2 (fun i h => .inl (.inl h))⟩

set_option maxRecDepth 100000 in
set_option maxHeartbeats 4000000 in
theorem do4_free (w : World) (p s r a b : Nat) (ws : List (Bool × Int)) (st : Int) (hM : MemIs w p s ws st) (hR : RefIs w r a b ws st) (x0 x2 x3 x4 : Int) (i : Nat) (m : Int) (hi : ws[i]? = some (false, m)) (ht : (wrap64 (x0.tmod 6 + 6)).tmod 6 = 4) :
    Calls Try.prog 13 #[.pointer (some ⟨p, 0, none⟩), .pointer (some ⟨r, 0, none⟩), .agg #[.int .i64 x0, .int .i64 (i : Int), .int .i64 x2, .int .i64 x3, .int .i64 x4]] w (Done w p s r a b ws st) := by
  have hM0 := hM.alloc (.cells #[.int .i64 x0, .int .i64 (i : Int), .int .i64 x2, .int .i64 x3, .int .i64 x4] 33)
  have hR0 := hR.alloc (.cells #[.int .i64 x0, .int .i64 (i : Int), .int .i64 x2, .int .i64 x3, .int .i64 x4] 33)
  have HI := Lib.hid hi
  clear hi
  go_enter Try.func13, Try.ntmps13
  go_wp2_with (go_at_call 23; refine (ref_wrong_free _ _ _ _ _ _ hR0 i m HI.out).mono ?_; rintro e w1 ⟨rfl, rfl⟩)
  go_wp2_with (go_at_call 17; refine (swap_free _ _ _ _ _ hM0 i m x3 x4 HI.out).mono ?_; rintro e w2 ⟨rfl, hM2, hF2⟩)
  go_ret
  exact ⟨rfl, ⟨_, _, rfl, Int.le_refl _, by omega, hM2, hR0.two hM0 hF2⟩, ((Fr.refl _ _).alloc _).then hF2 (fun i h => .inl (.inl h))⟩

set_option maxRecDepth 100000 in
set_option maxHeartbeats 4000000 in
theorem do5_low (w : World) (p s r a b : Nat) (ws : List (Bool × Int)) (st : Int) (hM : MemIs w p s ws st) (hR : RefIs w r a b ws st) (x0 x1 x2 x3 x4 : Int) (hx : x1 < 0) (ht : (wrap64 (x0.tmod 6 + 6)).tmod 6 = 5) :
    Calls Try.prog 13 #[.pointer (some ⟨p, 0, none⟩), .pointer (some ⟨r, 0, none⟩), .agg #[.int .i64 x0, .int .i64 x1, .int .i64 x2, .int .i64 x3, .int .i64 x4]] w (Done w p s r a b ws st) := by
  have hM0 := hM.alloc (.cells #[.int .i64 x0, .int .i64 x1, .int .i64 x2, .int .i64 x3, .int .i64 x4] 33)
  have hR0 := hR.alloc (.cells #[.int .i64 x0, .int .i64 x1, .int .i64 x2, .int .i64 x3, .int .i64 x4] 33)
  go_enter Try.func13, Try.ntmps13
  go_wp2_with (go_at_call 23; refine (ref_wrong_low _ _ _ hx).mono ?_; rintro e w1 ⟨rfl, rfl⟩)
  go_wp2_with (go_at_call 18; refine (add_low _ _ _ _ _ hM0 _ x4 hx).mono ?_; rintro e w2 ⟨rfl, hM2, hF2⟩)
  go_ret
  exact ⟨rfl, ⟨_, _, rfl, Int.le_refl _, by omega, hM2, hR0.two hM0 hF2⟩, ((Fr.refl _ _).alloc _).then hF2 (fun i h => .inl (.inl h))⟩

set_option maxRecDepth 100000 in
set_option maxHeartbeats 4000000 in
theorem do5_high (w : World) (p s r a b : Nat) (ws : List (Bool × Int)) (st : Int) (hM : MemIs w p s ws st) (hR : RefIs w r a b ws st) (x0 x1 x2 x3 x4 : Int) (hx0 : 0 ≤ x1) (hx : (ws.length : Int) ≤ x1) (ht : (wrap64 (x0.tmod 6 + 6)).tmod 6 = 5) :
    Calls Try.prog 13 #[.pointer (some ⟨p, 0, none⟩), .pointer (some ⟨r, 0, none⟩), .agg #[.int .i64 x0, .int .i64 x1, .int .i64 x2, .int .i64 x3, .int .i64 x4]] w (Done w p s r a b ws st) := by
  have hM0 := hM.alloc (.cells #[.int .i64 x0, .int .i64 x1, .int .i64 x2, .int .i64 x3, .int .i64 x4] 33)
  have hR0 := hR.alloc (.cells #[.int .i64 x0, .int .i64 x1, .int .i64 x2, .int .i64 x3, .int .i64 x4] 33)
  go_enter Try.func13, Try.ntmps13
  go_wp2_with (go_at_call 23; refine (ref_wrong_high _ _ _ _ _ _ hR0 _ (by omega) (by omega)).mono ?_; rintro e w1 ⟨rfl, rfl⟩)
  go_wp2_with (go_at_call 18; refine (add_high _ _ _ _ _ hM0 _ x4 (by omega) (by omega)).mono ?_; rintro e w2 ⟨rfl, hM2, hF2⟩)
  go_ret
  exact ⟨rfl, ⟨_, _, rfl, Int.le_refl _, by omega, hM2, hR0.two hM0 hF2⟩, ((Fr.refl _ _).alloc _).then hF2 (fun i h => .inl (.inl h))⟩

set_option maxRecDepth 100000 in
set_option maxHeartbeats 4000000 in
theorem do5_free (w : World) (p s r a b : Nat) (ws : List (Bool × Int)) (st : Int) (hM : MemIs w p s ws st) (hR : RefIs w r a b ws st) (x0 x2 x3 x4 : Int) (i : Nat) (m : Int) (hi : ws[i]? = some (false, m)) (ht : (wrap64 (x0.tmod 6 + 6)).tmod 6 = 5) :
    Calls Try.prog 13 #[.pointer (some ⟨p, 0, none⟩), .pointer (some ⟨r, 0, none⟩), .agg #[.int .i64 x0, .int .i64 (i : Int), .int .i64 x2, .int .i64 x3, .int .i64 x4]] w (Done w p s r a b ws st) := by
  have hM0 := hM.alloc (.cells #[.int .i64 x0, .int .i64 (i : Int), .int .i64 x2, .int .i64 x3, .int .i64 x4] 33)
  have hR0 := hR.alloc (.cells #[.int .i64 x0, .int .i64 (i : Int), .int .i64 x2, .int .i64 x3, .int .i64 x4] 33)
  have HI := Lib.hid hi
  clear hi
  go_enter Try.func13, Try.ntmps13
  go_wp2_with (go_at_call 23; refine (ref_wrong_free _ _ _ _ _ _ hR0 i m HI.out).mono ?_; rintro e w1 ⟨rfl, rfl⟩)
  go_wp2_with (go_at_call 18; refine (add_free _ _ _ _ _ hM0 i m x4 HI.out).mono ?_; rintro e w2 ⟨rfl, hM2, hF2⟩)
  go_ret
  exact ⟨rfl, ⟨_, _, rfl, Int.le_refl _, by omega, hM2, hR0.two hM0 hF2⟩, ((Fr.refl _ _).alloc _).then hF2 (fun i h => .inl (.inl h))⟩


set_option maxRecDepth 100000 in
set_option maxHeartbeats 4000000 in
theorem do2_live (w : World) (p s r a b : Nat) (ws : List (Bool × Int)) (st : Int) (hM : MemIs w p s ws st) (hR : RefIs w r a b ws st) (hst : 0 ≤ st) (hst2 : st < 1000000) (x0 x2 x3 x4 : Int) (i : Nat) (m : Int) (hi : ws[i]? = some (true, m)) (ht : (wrap64 (x0.tmod 6 + 6)).tmod 6 = 2) :
    Calls Try.prog 13 #[.pointer (some ⟨p, 0, none⟩), .pointer (some ⟨r, 0, none⟩), .agg #[.int .i64 x0, .int .i64 (i : Int), .int .i64 x2, .int .i64 x3, .int .i64 x4]] w (Done w p s r a b ws st) := by
  have hlt : i < ws.length := (List.getElem?_eq_some_iff.1 hi).1
  have hi1 : (i : Int) < (ws.length : Int) := by omega
  have hR0 := hR.alloc (.cells #[.int .i64 x0, .int .i64 (i : Int), .int .i64 x2, .int .i64 x3, .int .i64 x4] 33)
  have c0 : w.cell? ⟨r, 0, none⟩ = some (.slice (some ⟨a, 0, none⟩) ws.length ws.length) := by rw [hR.hr.cell]; rfl
  have c2 : w.cell? ⟨r, 2, none⟩ = some (.int .i64 st) := by rw [hR.hr.cell]; rfl
  have d : w.cell? ⟨a, i, none⟩ = some (.int .i64 m) := by rw [hR.ha.cell, List.getElem?_toArray, nums_get, hi]; rfl
  have g2 := hR.hr.frozen 2
  have g := hR.ha.frozen i
  have n1 := hR.ra
  have l1 := hR.hr.lt
  have l2 := hR.ha.lt
  have n3 : p ≠ r := hM.hp.ne_ hR.hr (by decide)
  have n4 : s ≠ r := hM.hs.ne_ hR.hr (by decide)
  have n5 : p ≠ a := hM.hp.ne_ hR.ha (by decide)
  have n6 : s ≠ a := hM.hs.ne_ hR.ha (by decide)
  have HM1 := Lib.hid fun n => (((hM.far (a := ⟨r, 2, none⟩) n3 n4 (.int .i64 (st + 1))).alloc (.cells #[.int .i64 x0, .int .i64 (i : Int), .int .i64 x2, .int .i64 x3, .int .i64 x4] 33)).drewN n)
  have HR1 := Lib.hid fun n => (((hR.count (st + 1)).alloc (.cells #[.int .i64 x0, .int .i64 (i : Int), .int .i64 x2, .int .i64 x3, .int .i64 x4] 33)).drewN n)
  have HI := Lib.hid hi
  clear hi
  go_enter Try.func13, Try.ntmps13
  go_wp2_with (go_at_call 23; refine (ref_wrong_live _ _ _ _ _ _ hR0 i m HI.out).mono ?_; rintro e w1 ⟨rfl, rfl⟩)
  go_quiet (fail)
  go_wp2_with fail
  go_quiet (fail)
  go_wp2_with fail
  refine (load_ok _ _ _ _ _ (HM1.out _) i m HI.out hst hst2).mono ?_
  rintro e w2 ⟨rfl, hM2, hF2⟩
  go_wp2_with fail
  go_ret
  exact ⟨rfl, ⟨_, _, rfl, by omega, Int.le_refl _, hM2, (HR1.out _).two (HM1.out _) hF2⟩, ((((Fr.refl _ _).setCell (.inl (.inr (.inl rfl))) _).alloc _).drewN _).then hF2 (fun i h => .inl (.inl h))⟩

set_option maxRecDepth 100000 in
set_option maxHeartbeats 4000000 in
theorem do4_no (w : World) (p s r a b : Nat) (ws : List (Bool × Int)) (st : Int) (hM : MemIs w p s ws st) (hR : RefIs w r a b ws st) (hst : 0 ≤ st) (hst2 : st < 1000000) (x0 x2 x3 x4 : Int) (i : Nat) (m : Int) (hi : ws[i]? = some (true, m)) (hx : (m == x3) = false) (hx2 : (m != x3) = true) (ht : (wrap64 (x0.tmod 6 + 6)).tmod 6 = 4) :
    Calls Try.prog 13 #[.pointer (some ⟨p, 0, none⟩), .pointer (some ⟨r, 0, none⟩), .agg #[.int .i64 x0, .int .i64 (i : Int), .int .i64 x2, .int .i64 x3, .int .i64 x4]] w (Done w p s r a b ws st) := by
  have hlt : i < ws.length := (List.getElem?_eq_some_iff.1 hi).1
  have hi1 : (i : Int) < (ws.length : Int) := by omega
  have hR0 := hR.alloc (.cells #[.int .i64 x0, .int .i64 (i : Int), .int .i64 x2, .int .i64 x3, .int .i64 x4] 33)
  have c0 : w.cell? ⟨r, 0, none⟩ = some (.slice (some ⟨a, 0, none⟩) ws.length ws.length) := by rw [hR.hr.cell]; rfl
  have c2 : w.cell? ⟨r, 2, none⟩ = some (.int .i64 st) := by rw [hR.hr.cell]; rfl
  have d : w.cell? ⟨a, i, none⟩ = some (.int .i64 m) := by rw [hR.ha.cell, List.getElem?_toArray, nums_get, hi]; rfl
  have g2 := hR.hr.frozen 2
  have g := hR.ha.frozen i
  have n1 := hR.ra
  have l1 := hR.hr.lt
  have l2 := hR.ha.lt
  have n3 : p ≠ r := hM.hp.ne_ hR.hr (by decide)
  have n4 : s ≠ r := hM.hs.ne_ hR.hr (by decide)
  have n5 : p ≠ a := hM.hp.ne_ hR.ha (by decide)
  have n6 : s ≠ a := hM.hs.ne_ hR.ha (by decide)
  have HM1 := Lib.hid fun n => (((hM.far (a := ⟨r, 2, none⟩) n3 n4 (.int .i64 (st + 1))).alloc (.cells #[.int .i64 x0, .int .i64 (i : Int), .int .i64 x2, .int .i64 x3, .int .i64 x4] 33)).drewN n)
  have HR1 := Lib.hid fun n => (((hR.count (st + 1)).alloc (.cells #[.int .i64 x0, .int .i64 (i : Int), .int .i64 x2, .int .i64 x3, .int .i64 x4] 33)).drewN n)
  have HI := Lib.hid hi
  clear hi
  go_enter Try.func13, Try.ntmps13
  go_wp2_with (go_at_call 23; refine (ref_wrong_live _ _ _ _ _ _ hR0 i m HI.out).mono ?_; rintro e w1 ⟨rfl, rfl⟩)
  go_quiet (fail)
  go_wp2_with fail
  go_quiet (fail)
  go_wp2_with fail
  refine (swap_no _ _ _ _ _ (HM1.out _) i m x3 x4 HI.out hx2 hst hst2).mono ?_
  rintro e w2 ⟨rfl, hM2, hF2⟩
  go_wp2_with fail
  go_ret
  exact ⟨rfl, ⟨_, _, rfl, by omega, Int.le_refl _, hM2, (HR1.out _).two (HM1.out _) hF2⟩, ((((Fr.refl _ _).setCell (.inl (.inr (.inl rfl))) _).alloc _).drewN _).then hF2 (fun i h => .inl (.inl h))⟩

set_option maxRecDepth 100000 in
set_option maxHeartbeats 4000000 in
theorem do3_live (w : World) (p s r a b : Nat) (ws : List (Bool × Int)) (st : Int) (hM : MemIs w p s ws st) (hR : RefIs w r a b ws st) (hst : 0 ≤ st) (hst2 : st < 1000000) (x0 x2 x3 x4 : Int) (i : Nat) (m : Int) (hi : ws[i]? = some (true, m)) (ht : (wrap64 (x0.tmod 6 + 6)).tmod 6 = 3) :
    Calls Try.prog 13 #[.pointer (some ⟨p, 0, none⟩), .pointer (some ⟨r, 0, none⟩), .agg #[.int .i64 x0, .int .i64 (i : Int), .int .i64 x2, .int .i64 x3, .int .i64 x4]] w (Done w p s r a b ws st) := by
  have hlt : i < ws.length := (List.getElem?_eq_some_iff.1 hi).1
  have hi1 : (i : Int) < (ws.length : Int) := by omega
  have hR0 := hR.alloc (.cells #[.int .i64 x0, .int .i64 (i : Int), .int .i64 x2, .int .i64 x3, .int .i64 x4] 33)
  have c0 : w.cell? ⟨r, 0, none⟩ = some (.slice (some ⟨a, 0, none⟩) ws.length ws.length) := by rw [hR.hr.cell]; rfl
  have c2 : w.cell? ⟨r, 2, none⟩ = some (.int .i64 st) := by rw [hR.hr.cell]; rfl
  have d : w.cell? ⟨a, i, none⟩ = some (.int .i64 m) := by rw [hR.ha.cell, List.getElem?_toArray, nums_get, hi]; rfl
  have g2 := hR.hr.frozen 2
  have g := hR.ha.frozen i
  have n1 := hR.ra
  have l1 := hR.hr.lt
  have l2 := hR.ha.lt
  have n3 : p ≠ r := hM.hp.ne_ hR.hr (by decide)
  have n4 : s ≠ r := hM.hs.ne_ hR.hr (by decide)
  have n5 : p ≠ a := hM.hp.ne_ hR.ha (by decide)
  have n6 : s ≠ a := hM.hs.ne_ hR.ha (by decide)
  have HM1 := Lib.hid fun n => (((hM.far (a := ⟨r, 2, none⟩) n3 n4 (.int .i64 (st + 1))).alloc (.cells #[.int .i64 x0, .int .i64 (i : Int), .int .i64 x2, .int .i64 x3, .int .i64 x4] 33)).drewN n)
  have HR1 := Lib.hid fun n => (((hR.count (st + 1)).alloc (.cells #[.int .i64 x0, .int .i64 (i : Int), .int .i64 x2, .int .i64 x3, .int .i64 x4] 33)).drewN n)
  have HI := Lib.hid hi
  clear hi
  go_enter Try.func13, Try.ntmps13
  go_wp2_with (go_at_call 23; refine (ref_wrong_live _ _ _ _ _ _ hR0 i m HI.out).mono ?_; rintro e w1 ⟨rfl, rfl⟩)
  go_quiet (fail)
  go_wp2_with fail
  go_region
  go_wp2_with fail
  have HM2 := Lib.hid fun k n => ((((HM1.out k).far (a := ⟨a, i, none⟩) n5 n6 (.int .i64 x4)).drewN n))
  have HR2 := Lib.hid fun k n => ((((HR1.out k).put HI.out x4).drewN n))
  go_quiet (fail)
  go_wp2_with fail
  refine (store_ok _ _ _ _ _ (HM2.out _ _) i m x4 HI.out hst hst2).mono ?_
  rintro e w2 ⟨rfl, hM2, hF2⟩
  go_wp2_with fail
  go_ret
  exact ⟨rfl, ⟨_, _, List.length_set, by omega, Int.le_refl _, hM2, (HR2.out _ _).two (HM2.out _ _) hF2⟩, (((((((Fr.refl _ _).setCell (.inl (.inr (.inl rfl))) _).alloc _).drewN _).setCell (.inl (.inr (.inr (.inl rfl)))) _).drewN _)).then hF2 (fun i h => .inl (.inl h))⟩

set_option maxRecDepth 100000 in
set_option maxHeartbeats 4000000 in
theorem do4_yes (w : World) (p s r a b : Nat) (ws : List (Bool × Int)) (st : Int) (hM : MemIs w p s ws st) (hR : RefIs w r a b ws st) (hst : 0 ≤ st) (hst2 : st < 1000000) (x0 x2 x3 x4 : Int) (i : Nat) (hi : ws[i]? = some (true, x3)) (ht : (wrap64 (x0.tmod 6 + 6)).tmod 6 = 4) :
    Calls Try.prog 13 #[.pointer (some ⟨p, 0, none⟩), .pointer (some ⟨r, 0, none⟩), .agg #[.int .i64 x0, .int .i64 (i : Int), .int .i64 x2, .int .i64 x3, .int .i64 x4]] w (Done w p s r a b ws st) := by
  have hlt : i < ws.length := (List.getElem?_eq_some_iff.1 hi).1
  have hi1 : (i : Int) < (ws.length : Int) := by omega
  have hR0 := hR.alloc (.cells #[.int .i64 x0, .int .i64 (i : Int), .int .i64 x2, .int .i64 x3, .int .i64 x4] 33)
  have c0 : w.cell? ⟨r, 0, none⟩ = some (.slice (some ⟨a, 0, none⟩) ws.length ws.length) := by rw [hR.hr.cell]; rfl
  have c2 : w.cell? ⟨r, 2, none⟩ = some (.int .i64 st) := by rw [hR.hr.cell]; rfl
  have d : w.cell? ⟨a, i, none⟩ = some (.int .i64 x3) := by rw [hR.ha.cell, List.getElem?_toArray, nums_get, hi]; rfl
  have g2 := hR.hr.frozen 2
  have g := hR.ha.frozen i
  have n1 := hR.ra
  have l1 := hR.hr.lt
  have l2 := hR.ha.lt
  have n3 : p ≠ r := hM.hp.ne_ hR.hr (by decide)
  have n4 : s ≠ r := hM.hs.ne_ hR.hr (by decide)
  have n5 : p ≠ a := hM.hp.ne_ hR.ha (by decide)
  have n6 : s ≠ a := hM.hs.ne_ hR.ha (by decide)
  have HM1 := Lib.hid fun n => (((hM.far (a := ⟨r, 2, none⟩) n3 n4 (.int .i64 (st + 1))).alloc (.cells #[.int .i64 x0, .int .i64 (i : Int), .int .i64 x2, .int .i64 x3, .int .i64 x4] 33)).drewN n)
  have HR1 := Lib.hid fun n => (((hR.count (st + 1)).alloc (.cells #[.int .i64 x0, .int .i64 (i : Int), .int .i64 x2, .int .i64 x3, .int .i64 x4] 33)).drewN n)
  have HI := Lib.hid hi
  clear hi
  go_enter Try.func13, Try.ntmps13
  go_wp2_with (go_at_call 23; refine (ref_wrong_live _ _ _ _ _ _ hR0 i x3 HI.out).mono ?_; rintro e w1 ⟨rfl, rfl⟩)
  go_quiet (fail)
  go_wp2_with fail
  go_region
  go_wp2_with fail
  have HM2 := Lib.hid fun k n => ((((HM1.out k).far (a := ⟨a, i, none⟩) n5 n6 (.int .i64 x4)).drewN n))
  have HR2 := Lib.hid fun k n => ((((HR1.out k).put HI.out x4).drewN n))
  go_quiet (fail)
  go_wp2_with fail
  refine (swap_yes _ _ _ _ _ (HM2.out _ _) i x3 x4 HI.out hst hst2).mono ?_
  rintro e w2 ⟨rfl, hM2, hF2⟩
  go_wp2_with fail
  go_ret
  exact ⟨rfl, ⟨_, _, List.length_set, by omega, Int.le_refl _, hM2, (HR2.out _ _).two (HM2.out _ _) hF2⟩, (((((((Fr.refl _ _).setCell (.inl (.inr (.inl rfl))) _).alloc _).drewN _).setCell (.inl (.inr (.inr (.inl rfl)))) _).drewN _)).then hF2 (fun i h => .inl (.inl h))⟩

set_option maxRecDepth 100000 in
set_option maxHeartbeats 4000000 in
theorem do5_live (w : World) (p s r a b : Nat) (ws : List (Bool × Int)) (st : Int) (hM : MemIs w p s ws st) (hR : RefIs w r a b ws st) (hst : 0 ≤ st) (hst2 : st < 1000000) (x0 x2 x3 x4 : Int) (i : Nat) (m : Int) (hi : ws[i]? = some (true, m)) (ht : (wrap64 (x0.tmod 6 + 6)).tmod 6 = 5) :
    Calls Try.prog 13 #[.pointer (some ⟨p, 0, none⟩), .pointer (some ⟨r, 0, none⟩), .agg #[.int .i64 x0, .int .i64 (i : Int), .int .i64 x2, .int .i64 x3, .int .i64 x4]] w (Done w p s r a b ws st) := by
  have hlt : i < ws.length := (List.getElem?_eq_some_iff.1 hi).1
  have hi1 : (i : Int) < (ws.length : Int) := by omega
  have hR0 := hR.alloc (.cells #[.int .i64 x0, .int .i64 (i : Int), .int .i64 x2, .int .i64 x3, .int .i64 x4] 33)
  have c0 : w.cell? ⟨r, 0, none⟩ = some (.slice (some ⟨a, 0, none⟩) ws.length ws.length) := by rw [hR.hr.cell]; rfl
  have c2 : w.cell? ⟨r, 2, none⟩ = some (.int .i64 st) := by rw [hR.hr.cell]; rfl
  have d : w.cell? ⟨a, i, none⟩ = some (.int .i64 m) := by rw [hR.ha.cell, List.getElem?_toArray, nums_get, hi]; rfl
  have g2 := hR.hr.frozen 2
  have g := hR.ha.frozen i
  have n1 := hR.ra
  have l1 := hR.hr.lt
  have l2 := hR.ha.lt
  have n3 : p ≠ r := hM.hp.ne_ hR.hr (by decide)
  have n4 : s ≠ r := hM.hs.ne_ hR.hr (by decide)
  have n5 : p ≠ a := hM.hp.ne_ hR.ha (by decide)
  have n6 : s ≠ a := hM.hs.ne_ hR.ha (by decide)
  have HM1 := Lib.hid fun n => (((hM.far (a := ⟨r, 2, none⟩) n3 n4 (.int .i64 (st + 1))).alloc (.cells #[.int .i64 x0, .int .i64 (i : Int), .int .i64 x2, .int .i64 x3, .int .i64 x4] 33)).drewN n)
  have HR1 := Lib.hid fun n => (((hR.count (st + 1)).alloc (.cells #[.int .i64 x0, .int .i64 (i : Int), .int .i64 x2, .int .i64 x3, .int .i64 x4] 33)).drewN n)
  have HI := Lib.hid hi
  clear hi
  go_enter Try.func13, Try.ntmps13
  go_wp2_with (go_at_call 23; refine (ref_wrong_live _ _ _ _ _ _ hR0 i m HI.out).mono ?_; rintro e w1 ⟨rfl, rfl⟩)
  go_quiet (fail)
  go_wp2_with fail
  go_region
  go_wp2_with fail
  have HM2 := Lib.hid fun k n => ((((HM1.out k).far (a := ⟨a, i, none⟩) n5 n6 (.int .i64 (wrap64 (m + x4)))).drewN n))
  have HR2 := Lib.hid fun k n => ((((HR1.out k).put HI.out (wrap64 (m + x4))).drewN n))
  go_quiet (fail)
  go_wp2_with fail
  refine (add_ok _ _ _ _ _ (HM2.out _ _) i m x4 HI.out hst hst2).mono ?_
  rintro e w2 ⟨rfl, hM2, hF2⟩
  go_wp2_with fail
  go_ret
  exact ⟨rfl, ⟨_, _, List.length_set, by omega, Int.le_refl _, hM2, (HR2.out _ _).two (HM2.out _ _) hF2⟩, (((((((Fr.refl _ _).setCell (.inl (.inr (.inl rfl))) _).alloc _).drewN _).setCell (.inl (.inr (.inr (.inl rfl)))) _).drewN _)).then hF2 (fun i h => .inl (.inl h))⟩
end Go.Proofs.Ytlhhnpbpmjbbaaa
