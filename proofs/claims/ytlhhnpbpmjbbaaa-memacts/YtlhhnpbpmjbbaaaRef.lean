/-
  What the document's memory (haymowref01) does, over one that is known whole: the same words as a memory's.
-/
import Derived.Test.YtlhhnpbpmjbbaaaEasy
import Derived.Test.YtlhhnpbpmjbbaaaArgs
import Derived.RegionTactic
import Derived.BigRegion
import Derived.Deep.QuietTactic
import Derived.BigQuiet
namespace Go.Proofs.Ytlhhnpbpmjbbaaa
open Go.RowKit

def nums (ws : List (Bool × Int)) : List Value := ws.map fun x => .int .i64 x.2
def tags (ws : List (Bool × Int)) : List Value := ws.map fun x => .bool x.1

/-- The document's memory at block r, its numbers at block a, its tags at block b. -/
structure RefIs (w : World) (r a b : Nat) (ws : List (Bool × Int)) (st : Int) : Prop where
  hr : Blk w r 37 #[.slice (some ⟨a, 0, none⟩) ws.length ws.length, .slice (some ⟨b, 0, none⟩) ws.length ws.length, .int .i64 st]
  ha : Blk w a 2 (nums ws).toArray
  hb : Blk w b 4 (tags ws).toArray

abbrev Three (r a b : Nat) : Nat → Prop := fun k => k = r ∨ k = a ∨ k = b

section
variable {w w' : World} {r a b : Nat} {ws : List (Bool × Int)} {st : Int}
theorem RefIs.ra (h : RefIs w r a b ws st) : r ≠ a := h.hr.ne_ h.ha (by decide)
theorem RefIs.rb (h : RefIs w r a b ws st) : r ≠ b := h.hr.ne_ h.hb (by decide)
theorem RefIs.ab (h : RefIs w r a b ws st) : a ≠ b := h.ha.ne_ h.hb (by decide)
theorem RefIs.alloc (h : RefIs w r a b ws st) (o : Obj) : RefIs (w.alloc o) r a b ws st := ⟨h.hr.alloc o, h.ha.alloc o, h.hb.alloc o⟩
theorem RefIs.drew (h : RefIs w r a b ws st) : RefIs w.drew r a b ws st := ⟨h.hr, h.ha, h.hb⟩
theorem RefIs.drewN (h : RefIs w r a b ws st) (n : Nat) : RefIs (w.drewN n) r a b ws st := ⟨h.hr, h.ha, h.hb⟩
theorem RefIs.fr {B : Nat → Prop} (h : RefIs w r a b ws st) (hf : Fr B w w') (h1 : ¬ B r) (h2 : ¬ B a) (h3 : ¬ B b) : RefIs w' r a b ws st := ⟨h.hr.fr hf h1, h.ha.fr hf h2, h.hb.fr hf h3⟩
theorem RefIs.count (h : RefIs w r a b ws st) (n : Int) : RefIs (w.setCell ⟨r, 2, none⟩ (.int .i64 n)) r a b ws n :=
  ⟨by have := h.hr.set_ 2 (.int .i64 n); simpa using this, h.ha.far h.ra.symm _, h.hb.far h.rb.symm _⟩
theorem nums_get (ws : List (Bool × Int)) (i : Nat) : (nums ws)[i]? = ws[i]?.map fun x => .int .i64 x.2 := by simp [nums]
theorem tags_get (ws : List (Bool × Int)) (i : Nat) : (tags ws)[i]? = ws[i]?.map fun x => .bool x.1 := by simp [tags]
theorem nums_set (ws : List (Bool × Int)) (i : Nat) (x : Bool × Int) : (nums ws).set i (.int .i64 x.2) = nums (ws.set i x) := by simp [nums, List.map_set]
theorem tags_set (ws : List (Bool × Int)) (i : Nat) (x : Bool × Int) : (tags ws).set i (.bool x.1) = tags (ws.set i x) := by simp [tags, List.map_set]
theorem tags_same (ws : List (Bool × Int)) (i : Nat) (t : Bool) (m n : Int) (h : ws[i]? = some (t, m)) : tags (ws.set i (t, n)) = tags ws := by
  rw [← tags_set]
  exact set_same _ _ _ (by rw [tags_get, h]; rfl)
/-- A number is stored. -/
theorem RefIs.put (h : RefIs w r a b ws st) {i : Nat} {t : Bool} {m : Int} (hi : ws[i]? = some (t, m)) (n : Int) : RefIs (w.setCell ⟨a, i, none⟩ (.int .i64 n)) r a b (ws.set i (t, n)) st :=
  ⟨by have := h.hr.far (p := ⟨a, i, none⟩) h.ra (.int .i64 n); simpa using this, by
    have := h.ha.set_ i (.int .i64 n)
    rwa [List.setIfInBounds_toArray, nums_set ws i (t, n)] at this, by
    have := h.hb.far (p := ⟨a, i, none⟩) h.ab.symm (.int .i64 n)
    rwa [← tags_same ws i t m n hi] at this⟩
/-- A tag and a number are stored. -/
theorem RefIs.put2 (h : RefIs w r a b ws st) (i : Nat) (t : Bool) (n : Int) : RefIs ((w.setCell ⟨b, i, none⟩ (.bool t)).setCell ⟨a, i, none⟩ (.int .i64 n)) r a b (ws.set i (t, n)) st :=
  ⟨by have := (h.hr.far (p := ⟨b, i, none⟩) h.rb (.bool t)).far (p := ⟨a, i, none⟩) h.ra (.int .i64 n); simpa using this, by
    have := (h.ha.far (p := ⟨b, i, none⟩) h.ab (.bool t)).set_ i (.int .i64 n)
    rwa [List.setIfInBounds_toArray, nums_set ws i (t, n)] at this, by
    have := (h.hb.set_ i (.bool t)).far (p := ⟨a, i, none⟩) h.ab.symm (.int .i64 n)
    rwa [List.setIfInBounds_toArray, tags_set ws i (t, n)] at this⟩
end

theorem make_nums (n : Nat) (hn : n ≤ 65536) (w : World) : (Instr.makeSlice 34 (.int .i64 (n : Int)) (.int .i64 (n : Int))).run Try.prog w = .ok (.slice (some ⟨w.heap.size, 0, none⟩) n n) (w.alloc (.cells (nums (List.replicate n (false, 0))).toArray 2)) := by
  have hr := run_make (P := Try.prog) w 34 2 _ (.int .i64 0) Try.underlying34 rfl rfl .i64 .i64 (n : Int) (n : Int) (by omega) (by omega) (by show (8 : Int) * _ ≤ _; omega) (by omega)
  rw [hr]
  simp only [Int.toNat_natCast]
  have e : (madeCells (Value.int .i64 0).cells (n * 1)) = (nums (List.replicate n (false, 0))).toArray := by
    apply Array.ext'
    show (madeCells #[Value.int .i64 0] (n * 1)).toList = _
    rw [toList_madeCells_one]
    simp [nums]
  rw [← e]
  rfl
theorem make_tags (n : Nat) (hn : n ≤ 65536) (w : World) : (Instr.makeSlice 35 (.int .i64 (n : Int)) (.int .i64 (n : Int))).run Try.prog w = .ok (.slice (some ⟨w.heap.size, 0, none⟩) n n) (w.alloc (.cells (tags (List.replicate n (false, 0))).toArray 4)) := by
  have hr := run_make (P := Try.prog) w 35 4 _ (.bool false) Try.underlying35 rfl rfl .i64 .i64 (n : Int) (n : Int) (by omega) (by omega) (by show (1 : Int) * _ ≤ _; omega) (by omega)
  rw [hr]
  simp only [Int.toNat_natCast]
  have e : (madeCells (Value.bool false).cells (n * 1)) = (tags (List.replicate n (false, 0))).toArray := by
    apply Array.ext'
    show (madeCells #[Value.bool false] (n * 1)).toList = _
    rw [toList_madeCells_one]
    simp [tags]
  rw [← e]
  rfl

set_option maxHeartbeats 1000000 in
theorem ref_new (n : Nat) (hn : n ≤ 65536) (w : World) :
    Calls Try.prog 11 #[.int .i64 (n : Int)] w fun e w' => ∃ r a b, e = .returned (.pointer (some ⟨r, 0, none⟩)) ∧ RefIs w' r a b (List.replicate n (false, 0)) 0 ∧ Fr (fun _ => False) w w' ∧ w.heap.size ≤ r ∧ w.heap.size ≤ a ∧ w.heap.size ≤ b := by
  have hm1 := make_nums n hn
  have hm2 := make_tags n hn
  go_enter Try.func11, Try.ntmps11
  go_wp2
  go_region
  · go_wp2
    go_ret
    refine ⟨_, _, w.heap.size + 1, rfl, ⟨?_, (((Blk.new w _ _).alloc _).alloc _).drew, ?_⟩, ((((Fr.refl _ _).alloc _).alloc _).alloc _).drew, by omega, Nat.le_refl _, by omega⟩
    · refine Blk.drew ?_
      have := Blk.new ((w.alloc (.cells (nums (List.replicate n (false, 0))).toArray 2)).alloc (.cells (tags (List.replicate n (false, 0))).toArray 4)) 37 #[.slice (some ⟨w.heap.size, 0, none⟩) n n, .slice (some ⟨w.heap.size + 1, 0, none⟩) n n, .int .i64 0]
      simpa using this
    · refine (Blk.alloc ?_ _).drew
      have := Blk.new (w.alloc (.cells (nums (List.replicate n (false, 0))).toArray 2)) 4 (tags (List.replicate n (false, 0))).toArray
      simpa using this
  · go_wp2
    go_ret
    refine ⟨_, w.heap.size + 1, _, rfl, ⟨?_, ?_, (((Blk.new w _ _).alloc _).alloc _).drew⟩, ((((Fr.refl _ _).alloc _).alloc _).alloc _).drew, by omega, by omega, Nat.le_refl _⟩
    · refine Blk.drew ?_
      have := Blk.new ((w.alloc (.cells (tags (List.replicate n (false, 0))).toArray 4)).alloc (.cells (nums (List.replicate n (false, 0))).toArray 2)) 37 #[.slice (some ⟨w.heap.size + 1, 0, none⟩) n n, .slice (some ⟨w.heap.size, 0, none⟩) n n, .int .i64 0]
      simpa using this
    · refine (Blk.alloc ?_ _).drew
      have := Blk.new (w.alloc (.cells (tags (List.replicate n (false, 0))).toArray 4)) 2 (nums (List.replicate n (false, 0))).toArray
      simpa using this

theorem ref_wrong_low (w : World) (r : Nat) (i : Int) (hi : i < 0) :
    Calls Try.prog 23 #[.pointer (some ⟨r, 0, none⟩), .int .i64 i] w fun e w' => e = .returned (.int .i64 6) ∧ w = w' := by
  go_enter Try.func23, Try.ntmps23
  go_wp2
  go_ret
  exact ⟨rfl, rfl⟩
theorem ref_wrong_high (w : World) (r a b : Nat) (ws : List (Bool × Int)) (st : Int) (hR : RefIs w r a b ws st) (i : Int) (h0 : ¬ i < 0) (hi : (ws.length : Int) ≤ i) :
    Calls Try.prog 23 #[.pointer (some ⟨r, 0, none⟩), .int .i64 i] w fun e w' => e = .returned (.int .i64 6) ∧ w = w' := by
  have c0 : w.cell? ⟨r, 0, none⟩ = some (.slice (some ⟨a, 0, none⟩) ws.length ws.length) := by rw [hR.hr.cell]; rfl
  go_enter Try.func23, Try.ntmps23
  go_wp2
  go_ret
  exact ⟨rfl, rfl⟩
theorem ref_wrong_at (w : World) (r a b : Nat) (ws : List (Bool × Int)) (st : Int) (hR : RefIs w r a b ws st) (i : Nat) (t : Bool) (m : Int) (hi : ws[i]? = some (t, m)) :
    Calls Try.prog 23 #[.pointer (some ⟨r, 0, none⟩), .int .i64 (i : Int)] w fun e w' => e = .returned (.int .i64 (if t then 0 else 7)) ∧ w = w' := by
  have hlt : i < ws.length := (List.getElem?_eq_some_iff.1 hi).1
  have c0 : w.cell? ⟨r, 0, none⟩ = some (.slice (some ⟨a, 0, none⟩) ws.length ws.length) := by rw [hR.hr.cell]; rfl
  have c1 : w.cell? ⟨r, 1, none⟩ = some (.slice (some ⟨b, 0, none⟩) ws.length ws.length) := by rw [hR.hr.cell]; rfl
  have d : w.cell? ⟨b, i, none⟩ = some (.bool t) := by rw [hR.hb.cell, List.getElem?_toArray, tags_get, hi]; rfl
  cases t
  · go_enter Try.func23, Try.ntmps23
    go_wp2
    go_ret
    exact ⟨rfl, rfl⟩
  · go_enter Try.func23, Try.ntmps23
    go_wp2
    go_ret
    exact ⟨rfl, rfl⟩

set_option maxHeartbeats 1000000 in
theorem ref_turn_ok (w : World) (r a b : Nat) (ws : List (Bool × Int)) (st : Int) (hR : RefIs w r a b ws st) (i n : Nat) (live : Bool) (hr : i + n ≤ ws.length) (hl : ws.length ≤ 65536) (hall : ∀ k, k < n → ∃ m, ws[i + k]? = some (!live, m)) :
    Calls Try.prog 22 #[.pointer (some ⟨r, 0, none⟩), .int .i64 (i : Int), .int .i64 (n : Int), .bool live] w fun e w' => e = .returned (.int .i64 0) ∧ RefIs w' r a b (setR ws i n (live, 0)) st ∧ Fr (Three r a b) w w' := by
  have c0 : w.cell? ⟨r, 0, none⟩ = some (.slice (some ⟨a, 0, none⟩) ws.length ws.length) := by rw [hR.hr.cell]; rfl
  have c1 : w.cell? ⟨r, 1, none⟩ = some (.slice (some ⟨b, 0, none⟩) ws.length ws.length) := by rw [hR.hr.cell]; rfl
  have HALL := Lib.hid hall
  clear hall
  have f1 : decide ((n : Int) < 0) = false := by simp
  have f2 : decide ((i : Int) < 0) = false := by simp
  have f3 : ¬ (ws.length : Int) < (i : Int) := by omega
  have f4 : ¬ ((ws.length : Int) - (i : Int) < (n : Int)) := by omega
  go_enter Try.func22, Try.ntmps22
  go_wp2
  go_loop [9] (fun x => ∃ k : Nat, k ≤ n ∧ x = .int .i64 k) (fun x => n - (intOf x).toNat)
  case atStart => exact ⟨0, Nat.zero_le _, rfl⟩
  case round =>
    obtain ⟨k, hk, rfl⟩ := hrel
    by_cases hlt : k < n
    · obtain ⟨m, hm⟩ := HALL.out k hlt
      have d : w.cell? ⟨b, i + k, none⟩ = some (.bool (!live)) := by rw [hR.hb.cell, List.getElem?_toArray, tags_get, hm]; rfl
      have hb : ((!live) == live) = false := by cases live <;> rfl
      have q1 : (i : Int) + (k : Int) < (ws.length : Int) := by omega
      have e1 : ((i : Int) + (k : Int)).toNat = i + k := by omega
      clear hm
      go_wp2
      go_round
      case rel => exact ⟨k + 1, by omega, by go_num⟩
      case measure => simp [intOf]; omega
    · go_wp2
      go_loopw [10] (fun x wr => ∃ k : Nat, k ≤ n ∧ x = .int .i64 k ∧ RefIs wr r a b (setR ws i k (live, 0)) st ∧ Fr (Three r a b) w wr) (fun x _ => n - (intOf x).toNat)
      case atStart => exact ⟨0, Nat.zero_le _, rfl, hR, Fr.refl _ _⟩
      case round =>
        obtain ⟨j, hj, rfl, hRx, hFx⟩ := hrel
        have hjl : (setR ws i j (live, 0)).length = ws.length := setR_length _ _ _ _
        by_cases hjt : j < n
        · obtain ⟨⟨t0, m0⟩, hm⟩ : ∃ x, (setR ws i j (live, 0))[i + j]? = some x := ⟨_, List.getElem?_eq_getElem (by omega)⟩
          have x0 : wr.cell? ⟨r, 0, none⟩ = some (.slice (some ⟨a, 0, none⟩) ws.length ws.length) := by rw [hRx.hr.cell, hjl]; rfl
          have x1 : wr.cell? ⟨r, 1, none⟩ = some (.slice (some ⟨b, 0, none⟩) ws.length ws.length) := by rw [hRx.hr.cell, hjl]; rfl
          have d0 : wr.cell? ⟨b, i + j, none⟩ = some (.bool t0) := by rw [hRx.hb.cell, List.getElem?_toArray, tags_get, hm]; rfl
          have d1 : wr.cell? ⟨a, i + j, none⟩ = some (.int .i64 m0) := by rw [hRx.ha.cell, List.getElem?_toArray, nums_get, hm]; rfl
          have g0 := hRx.hb.frozen (i + j)
          have g1 := hRx.ha.frozen (i + j)
          have n1 := hRx.ra
          have n2 := hRx.rb
          have n3 := hRx.ab
          have q0 : (0 : Int) ≤ (i : Int) + (j : Int) := by omega
          have q1 : (i : Int) + (j : Int) < (ws.length : Int) := by omega
          have e1 : ((i : Int) + (j : Int)).toNat = i + j := by omega
          clear hm hjl
          go_wp2
          go_region
          go_wp2
          exact ⟨⟨j + 1, by omega, by go_num, (hRx.put2 (i + j) live 0).drew, (((hFx.setCell (.inl (.inr (.inr rfl))) _).setCell (.inl (.inr (.inl rfl))) _).drew)⟩, by simp [intOf]; omega⟩
        · go_wp2
          go_ret
          obtain rfl : j = n := by omega
          exact ⟨rfl, hRx, hFx⟩

set_option maxHeartbeats 1000000 in
theorem ref_turn_hit (w : World) (r a b : Nat) (ws : List (Bool × Int)) (st : Int) (hR : RefIs w r a b ws st) (i n : Nat) (live : Bool) (hr : i + n ≤ ws.length) (hl : ws.length ≤ 65536) (k0 : Nat) (hk0 : k0 < n) (hfirst : ∀ k, k < k0 → ∃ m, ws[i + k]? = some (!live, m)) (hhit : ∃ m, ws[i + k0]? = some (live, m)) :
    Calls Try.prog 22 #[.pointer (some ⟨r, 0, none⟩), .int .i64 (i : Int), .int .i64 (n : Int), .bool live] w fun e w' => e = .returned (.int .i64 11) ∧ RefIs w' r a b ws st ∧ Fr (Three r a b) w w' := by
  have c0 : w.cell? ⟨r, 0, none⟩ = some (.slice (some ⟨a, 0, none⟩) ws.length ws.length) := by rw [hR.hr.cell]; rfl
  have c1 : w.cell? ⟨r, 1, none⟩ = some (.slice (some ⟨b, 0, none⟩) ws.length ws.length) := by rw [hR.hr.cell]; rfl
  have HF := Lib.hid hfirst
  clear hfirst
  obtain ⟨mh, hmh⟩ := hhit
  have HH := Lib.hid hmh
  clear hmh
  have f1 : decide ((n : Int) < 0) = false := by simp
  have f2 : decide ((i : Int) < 0) = false := by simp
  have f3 : ¬ (ws.length : Int) < (i : Int) := by omega
  have f4 : ¬ ((ws.length : Int) - (i : Int) < (n : Int)) := by omega
  go_enter Try.func22, Try.ntmps22
  go_wp2
  go_loop [9] (fun x => ∃ k : Nat, k ≤ k0 ∧ x = .int .i64 k) (fun x => n - (intOf x).toNat)
  case atStart => exact ⟨0, Nat.zero_le _, rfl⟩
  case round =>
    obtain ⟨k, hk, rfl⟩ := hrel
    have hkn : k < n := by omega
    have q1 : (i : Int) + (k : Int) < (ws.length : Int) := by omega
    have e1 : ((i : Int) + (k : Int)).toNat = i + k := by omega
    by_cases hlt : k < k0
    · obtain ⟨m, hm⟩ := HF.out k hlt
      have d : w.cell? ⟨b, i + k, none⟩ = some (.bool (!live)) := by rw [hR.hb.cell, List.getElem?_toArray, tags_get, hm]; rfl
      have hb : ((!live) == live) = false := by cases live <;> rfl
      clear hm
      go_wp2
      go_round
      case rel => exact ⟨k + 1, by omega, by go_num⟩
      case measure => simp [intOf]; omega
    · obtain rfl : k = k0 := by omega
      have d : w.cell? ⟨b, i + k, none⟩ = some (.bool live) := by rw [hR.hb.cell, List.getElem?_toArray, tags_get, HH.out]; rfl
      have hb : (live == live) = true := by cases live <;> rfl
      go_wp2
      go_ret
      exact ⟨rfl, hR, Fr.refl _ _⟩

set_option maxHeartbeats 1000000 in
theorem ref_turn_range (w : World) (r a b : Nat) (ws : List (Bool × Int)) (st : Int) (hR : RefIs w r a b ws st) (i n : Int) (live : Bool) (hr : ¬ (0 ≤ n ∧ 0 ≤ i ∧ n ≤ (ws.length : Int) - i)) (hl : ws.length ≤ 65536) (hi : -9223372036854775808 ≤ i ∧ i ≤ 9223372036854775807) :
    Calls Try.prog 22 #[.pointer (some ⟨r, 0, none⟩), .int .i64 i, .int .i64 n, .bool live] w fun e w' => e = .returned (.int .i64 6) ∧ RefIs w' r a b ws st ∧ Fr (Three r a b) w w' := by
  have c0 : w.cell? ⟨r, 0, none⟩ = some (.slice (some ⟨a, 0, none⟩) ws.length ws.length) := by rw [hR.hr.cell]; rfl
  by_cases h1 : n < 0
  · clear hr
    go_enter Try.func22, Try.ntmps22
    go_wp2
    go_ret
    exact ⟨rfl, hR, Fr.refl _ _⟩
  · have f1 : decide (n < 0) = false := by simp; omega
    by_cases h2 : i < 0
    · clear hr
      go_enter Try.func22, Try.ntmps22
      go_wp2
      go_ret
      exact ⟨rfl, hR, Fr.refl _ _⟩
    · have f2 : decide (i < 0) = false := by simp; omega
      by_cases h3 : (ws.length : Int) < i
      · clear hr
        go_enter Try.func22, Try.ntmps22
        go_wp2
        go_ret
        exact ⟨rfl, hR, Fr.refl _ _⟩
      · have f3 : decide ((ws.length : Int) < i) = false := by simp; omega
        have h4 : (ws.length : Int) - i < n := by omega
        clear hr
        go_enter Try.func22, Try.ntmps22
        go_wp2
        go_ret
        exact ⟨rfl, hR, Fr.refl _ _⟩

theorem ref_turn_any (w : World) (r a b : Nat) (ws : List (Bool × Int)) (st : Int) (hR : RefIs w r a b ws st) (i n : Int) (live : Bool) (hl : ws.length ≤ 65536) (hi : -9223372036854775808 ≤ i ∧ i ≤ 9223372036854775807) :
    Calls Try.prog 22 #[.pointer (some ⟨r, 0, none⟩), .int .i64 i, .int .i64 n, .bool live] w fun e w' => e = .returned (.int .i64 (turnR ws i n live).1) ∧ RefIs w' r a b (turnR ws i n live).2 st ∧ Fr (Three r a b) w w' := by
  unfold turnR
  by_cases h : 0 ≤ n ∧ 0 ≤ i ∧ n ≤ (ws.length : Int) - i
  · rw [if_pos h]
    obtain ⟨h1, h2, h3⟩ := h
    obtain ⟨i, rfl⟩ := Int.eq_ofNat_of_zero_le h2
    obtain ⟨n, rfl⟩ := Int.eq_ofNat_of_zero_le h1
    simp only [Int.toNat_natCast]
    have hr : i + n ≤ ws.length := by omega
    by_cases hany : anyLive ws i n live = true
    · rw [if_pos hany]
      have hex : ∃ k, k < n ∧ (ws.getD (i + k) (false, 0)).1 = live := by
        simp only [anyLive, List.any_eq_true, List.mem_range, beq_iff_eq] at hany
        exact hany
      obtain ⟨k, hk, hq, hf⟩ := first_of _ n hex
      refine ref_turn_hit w r a b ws st hR i n live hr hl k hk (fun j hj => ?_) ?_
      · have := hf j hj
        have hlt : i + j < ws.length := by omega
        refine ⟨(ws[i + j]).2, ?_⟩
        rw [List.getElem?_eq_getElem hlt]
        simp only [List.getD_eq_getElem?_getD, List.getElem?_eq_getElem hlt, Option.getD_some] at this
        congr 1
        refine Prod.ext ?_ rfl
        cases live <;> simp_all
      · have hlt : i + k < ws.length := by omega
        refine ⟨(ws[i + k]).2, ?_⟩
        rw [List.getElem?_eq_getElem hlt]
        simp only [List.getD_eq_getElem?_getD, List.getElem?_eq_getElem hlt, Option.getD_some] at hq
        congr 1
        exact Prod.ext hq rfl
    · rw [if_neg hany]
      refine ref_turn_ok w r a b ws st hR i n live hr hl (fun k hk => ?_)
      have hlt : i + k < ws.length := by omega
      have hn : ¬ (ws.getD (i + k) (false, 0)).1 = live := by
        intro he
        apply hany
        simp only [anyLive, List.any_eq_true, List.mem_range, beq_iff_eq]
        exact ⟨k, hk, he⟩
      refine ⟨(ws[i + k]).2, ?_⟩
      rw [List.getElem?_eq_getElem hlt]
      simp only [List.getD_eq_getElem?_getD, List.getElem?_eq_getElem hlt, Option.getD_some] at hn
      congr 1
      refine Prod.ext ?_ rfl
      cases live <;> simp_all
  · rw [if_neg h]
    exact ref_turn_range w r a b ws st hR i n live h hl hi

theorem ref_wrong_free (w : World) (r a b : Nat) (ws : List (Bool × Int)) (st : Int) (hR : RefIs w r a b ws st) (i : Nat) (m : Int) (hi : ws[i]? = some (false, m)) :
    Calls Try.prog 23 #[.pointer (some ⟨r, 0, none⟩), .int .i64 (i : Int)] w fun e w' => e = .returned (.int .i64 7) ∧ w = w' := ref_wrong_at w r a b ws st hR i false m hi
theorem ref_wrong_live (w : World) (r a b : Nat) (ws : List (Bool × Int)) (st : Int) (hR : RefIs w r a b ws st) (i : Nat) (m : Int) (hi : ws[i]? = some (true, m)) :
    Calls Try.prog 23 #[.pointer (some ⟨r, 0, none⟩), .int .i64 (i : Int)] w fun e w' => e = .returned (.int .i64 0) ∧ w = w' := ref_wrong_at w r a b ws st hR i true m hi
end Go.Proofs.Ytlhhnpbpmjbbaaa
