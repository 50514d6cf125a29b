/-
  What Live and Free do, over a memory that is known whole.
-/
import Derived.Test.YtichhieopnbgpaaMem
namespace Go.Proofs.Ytichhieopnbgpaa
open Go.RowKit

/-- The n words from a on are x. -/
def setR (ws : List (Bool × Int)) (a : Nat) : Nat → Bool × Int → List (Bool × Int)
  | 0, _ => ws
  | n + 1, x => (setR ws a n x).set (a + n) x

theorem setR_length (ws : List (Bool × Int)) (a n : Nat) (x : Bool × Int) : (setR ws a n x).length = ws.length := by
  induction n with
  | zero => rfl
  | succ n ih => simp [setR, ih]
theorem setR_get (ws : List (Bool × Int)) (a n : Nat) (x : Bool × Int) (j : Nat) (h : a + n ≤ ws.length) : (setR ws a n x)[j]? = if a ≤ j ∧ j < a + n then some x else ws[j]? := by
  induction n with
  | zero => rw [if_neg (by omega)]; rfl
  | succ n ih =>
    simp only [setR]
    rw [List.getElem?_set]
    by_cases e : a + n = j
    · subst e
      rw [if_pos rfl, if_pos (by rw [setR_length]; omega), if_pos (by omega)]
    · rw [if_neg e, ih (by omega)]
      by_cases h2 : a ≤ j ∧ j < a + n
      · rw [if_pos h2, if_pos (by omega)]
      · rw [if_neg h2, if_neg (by omega)]

set_option maxRecDepth 100000 in
theorem cut_any (s a n len : Nat) (h : a + n ≤ len) : ∃ A : Addr, (∀ W, (Instr.slice 64 (.slice (some ⟨s, 0, none⟩) len len) (some (.int .i64 (a : Int))) (some (.int .i64 ((a : Int) + (n : Int)))) none).run Try.prog W = .ok (.slice (some A) n (len - a)) W) ∧ (0 < n → A = ⟨s, a * 2, none⟩) := by
  refine ⟨if len = a then ⟨s, 0, none⟩ else ⟨s, a * 2, none⟩, fun W => ?_, fun hn => by rw [if_neg (by omega)]⟩
  have hrun := @run_slice_lh Try.prog W 64 (some ⟨s, 0, none⟩) len len (by rfl) .i64 .i64 (a : Int) ((a : Int) + (n : Int)) (by omega) (by omega) (by omega)
  rw [hrun]
  have hs : (sizeOf (Try.prog.elem 64)).run Try.prog W = .ok 2 W := rfl
  rw [hs]
  have e1 : ((a : Int) + (n : Int)).toNat = a + n := by omega
  simp only [Result.andThen_ok, sliced, Int.toNat_natCast, e1]
  by_cases e : len = a
  · subst e
    have : n = 0 := by omega
    subst this
    simp
  · simp [e, Addr.add]
    omega

theorem MemIs.put2 {w : World} {p s : Nat} {ws : List (Bool × Int)} {st : Int} (h : MemIs w p s ws st) {i : Nat} (hi : i < ws.length) (b : Bool) (n : Int) : MemIs ((w.setCell ⟨s, i * 2, none⟩ (.bool b)).setCell ⟨s, i * 2 + 1, none⟩ (.int .i64 n)) p s (ws.set i (b, n)) st :=
  ⟨by have := (h.hp.far (p := ⟨s, i * 2, none⟩) h.ne (.bool b)).far (p := ⟨s, i * 2 + 1, none⟩) h.ne (.int .i64 n); simpa using this, by
    have := (h.hs.set_ (i * 2) (.bool b)).set_ (i * 2 + 1) (.int .i64 n)
    rw [List.setIfInBounds_toArray, List.setIfInBounds_toArray, Nat.mul_comm, wcells_set_two ws i b n hi] at this
    rw [Nat.mul_comm]; exact this⟩

theorem has_yes (w : World) (p s len : Nat) (c0 : w.cell? ⟨p, 0, none⟩ = some (.slice (some ⟨s, 0, none⟩) len len)) (a n : Nat) (hr : a + n ≤ len) (hl : len ≤ 65536) :
    Calls Try.prog 52 #[.pointer (some ⟨p, 0, none⟩), .int .i64 (a : Int), .int .i64 (n : Int)] w fun e w' => e = .returned (.bool true) ∧ w = w' := by
  have b1 : ((n : Int) ≤ (len : Int) - (a : Int)) := by omega
  go_enter Try.func52, Try.ntmps52
  go_wp2
  go_ret
  exact ⟨rfl, rfl⟩

theorem has_no (w : World) (p s len : Nat) (c0 : w.cell? ⟨p, 0, none⟩ = some (.slice (some ⟨s, 0, none⟩) len len)) (a n : Int) (hr : ¬ (0 ≤ n ∧ 0 ≤ a ∧ n ≤ (len : Int) - a)) (hl : len ≤ 65536) (ha : -9223372036854775808 ≤ a ∧ a ≤ 9223372036854775807) :
    Calls Try.prog 52 #[.pointer (some ⟨p, 0, none⟩), .int .i64 a, .int .i64 n] w fun e w' => e = .returned (.bool false) ∧ w = w' := by
  by_cases h1 : 0 ≤ n
  · by_cases h2 : 0 ≤ a
    · have h3 : ¬ (n ≤ (len : Int) - a) := fun h => hr ⟨h1, h2, h⟩
      clear hr
      go_enter Try.func52, Try.ntmps52
      go_wp2
      go_ret
      exact ⟨rfl, rfl⟩
    · clear hr
      go_enter Try.func52, Try.ntmps52
      go_wp2
      go_ret
      exact ⟨rfl, rfl⟩
  · clear hr
    go_enter Try.func52, Try.ntmps52
    go_wp2
    go_ret
    exact ⟨rfl, rfl⟩

set_option maxHeartbeats 1000000 in
theorem turn_ok (w : World) (p s : Nat) (ws : List (Bool × Int)) (st : Int) (hM : MemIs w p s ws st) (a n : Nat) (live : Bool) (hr : a + n ≤ ws.length) (hl : ws.length ≤ 65536) (hall : ∀ k, k < n → ∃ m, ws[a + k]? = some (!live, m)) :
    Calls Try.prog 45 #[.pointer (some ⟨p, 0, none⟩), .int .i64 (a : Int), .int .i64 (n : Int), .bool live] w fun e w' => e = .returned (.int .i64 0) ∧ MemIs w' p s (setR ws a n (live, 0)) st ∧ Fr (Two p s) w w' := by
  have c0 : w.cell? ⟨p, 0, none⟩ = some (.slice (some ⟨s, 0, none⟩) ws.length ws.length) := by rw [hM.hp.cell]; rfl
  obtain ⟨A, hcut, hA⟩ := cut_any s a n ws.length hr
  have HA := Lib.hid hA
  clear hA
  have HALL := Lib.hid hall
  clear hall
  have b1 : ((n : Int) ≤ (ws.length : Int) - (a : Int)) := by omega
  go_enter Try.func45, Try.ntmps45
  go_wp2_with (go_at_call 52; refine (has_yes w p s ws.length c0 a n hr hl).mono ?_; rintro e w' ⟨rfl, rfl⟩)
  go_loopw [31] (fun i wr => ∃ k : Nat, k ≤ n ∧ i = .int .i64 k ∧ MemIs wr p s ws st ∧ Fr (Two p s) w wr) (fun i _ => n - (intOf i).toNat)
  case atStart => exact ⟨0, Nat.zero_le _, rfl, hM, Fr.refl _ _⟩
  case round =>
    obtain ⟨k, hk, rfl, hMr, hF⟩ := hrel
    by_cases hlt : k < n
    · obtain ⟨m, hm⟩ := HALL.out k hlt
      obtain rfl := HA.out (by omega)
      have Hm := Lib.hid hm
      clear hm hcut
      have d0 : wr.cell? ⟨s, a * 2 + k * 2, none⟩ = some (.bool (!live)) := by rw [hMr.hs.cell, List.getElem?_toArray, ← Nat.add_mul, Nat.mul_comm, wcells_even, Hm.out]; rfl
      have d1 : wr.cell? ⟨s, a * 2 + k * 2 + 1, none⟩ = some (.int .i64 m) := by rw [hMr.hs.cell, List.getElem?_toArray, ← Nat.add_mul, Nat.mul_comm, wcells_odd, Hm.out]; rfl
      have hb : ((!live) == live) = false := by cases live <;> rfl
      go_wp2
      exact ⟨⟨k + 1, by omega, by go_num, hMr.alloc _, hF.alloc _⟩, by simp [intOf]; omega⟩
    · go_wp2
      go_loopw [42] (fun i wx => ∃ k : Nat, k ≤ n ∧ i = .int .i64 k ∧ MemIs wx p s (setR ws a k (live, 0)) st ∧ Fr (Two p s) w wx) (fun i _ => n - (intOf i).toNat)
      case atStart => exact ⟨0, Nat.zero_le _, rfl, hMr, hF⟩
      case round =>
        obtain ⟨j, hj, rfl, hMx, hFx⟩ := hrel
        have hjl : (setR ws a j (live, 0)).length = ws.length := setR_length _ _ _ _
        by_cases hjt : j < n
        · obtain rfl := HA.out (by omega)
          have hm0 : (setR ws a j (live, 0))[a + j]? = some ((setR ws a j (live, 0))[a + j]'(by omega)) := List.getElem?_eq_getElem (by omega)
          obtain ⟨⟨b0, m0⟩, hm⟩ : ∃ x, (setR ws a j (live, 0))[a + j]? = some x := ⟨_, hm0⟩
          clear hm0 hcut
          have d0 : wr.cell? ⟨s, a * 2 + j * 2, none⟩ = some (.bool b0) := by rw [hMx.hs.cell, List.getElem?_toArray, ← Nat.add_mul, Nat.mul_comm, wcells_even, hm]; rfl
          have d1 : wr.cell? ⟨s, a * 2 + j * 2 + 1, none⟩ = some (.int .i64 m0) := by rw [hMx.hs.cell, List.getElem?_toArray, ← Nat.add_mul, Nat.mul_comm, wcells_odd, hm]; rfl
          have g0 := hMx.hs.frozen (a * 2 + j * 2)
          have g1 := hMx.hs.frozen (a * 2 + j * 2 + 1)
          have HJ := Lib.hid hjl
          have HM := Lib.hid hm
          clear hjl hm
          go_wp2
          have hput := hMx.put2 (i := a + j) (by rw [HJ.out]; omega) live 0
          rw [Nat.add_mul] at hput
          exact ⟨⟨j + 1, by omega, by go_num, hput, (hFx.setCell (.inl (.inr rfl)) _).setCell (.inl (.inr rfl)) _⟩, by simp [intOf]; omega⟩
        · go_wp2
          go_ret
          obtain rfl : j = n := by omega
          exact ⟨rfl, hMx, hFx⟩

set_option maxHeartbeats 1000000 in
theorem turn_hit (w : World) (p s : Nat) (ws : List (Bool × Int)) (st : Int) (hM : MemIs w p s ws st) (a n : Nat) (live : Bool) (hr : a + n ≤ ws.length) (hl : ws.length ≤ 65536) (k0 : Nat) (hk0 : k0 < n) (hfirst : ∀ k, k < k0 → ∃ m, ws[a + k]? = some (!live, m)) (hhit : ∃ m, ws[a + k0]? = some (live, m)) :
    Calls Try.prog 45 #[.pointer (some ⟨p, 0, none⟩), .int .i64 (a : Int), .int .i64 (n : Int), .bool live] w fun e w' => e = .returned (.int .i64 11) ∧ MemIs w' p s ws st ∧ Fr (Two p s) w w' := by
  have c0 : w.cell? ⟨p, 0, none⟩ = some (.slice (some ⟨s, 0, none⟩) ws.length ws.length) := by rw [hM.hp.cell]; rfl
  obtain ⟨A, hcut, hA⟩ := cut_any s a n ws.length hr
  obtain rfl := hA (by omega)
  clear hA
  have HF := Lib.hid hfirst
  clear hfirst
  obtain ⟨mh, hmh⟩ := hhit
  have HH := Lib.hid hmh
  clear hmh
  have b1 : ((n : Int) ≤ (ws.length : Int) - (a : Int)) := by omega
  go_enter Try.func45, Try.ntmps45
  go_wp2_with (go_at_call 52; refine (has_yes w p s ws.length c0 a n hr hl).mono ?_; rintro e w' ⟨rfl, rfl⟩)
  go_loopw [31] (fun i wr => ∃ k : Nat, k ≤ k0 ∧ i = .int .i64 k ∧ MemIs wr p s ws st ∧ Fr (Two p s) w wr) (fun i _ => n - (intOf i).toNat)
  case atStart => exact ⟨0, Nat.zero_le _, rfl, hM, Fr.refl _ _⟩
  case round =>
    obtain ⟨k, hk, rfl, hMr, hF⟩ := hrel
    clear hcut
    by_cases hlt : k < k0
    · obtain ⟨m, hm⟩ := HF.out k hlt
      have Hm := Lib.hid hm
      clear hm
      have hkn : k < n := by omega
      have d0 : wr.cell? ⟨s, a * 2 + k * 2, none⟩ = some (.bool (!live)) := by rw [hMr.hs.cell, List.getElem?_toArray, ← Nat.add_mul, Nat.mul_comm, wcells_even, Hm.out]; rfl
      have d1 : wr.cell? ⟨s, a * 2 + k * 2 + 1, none⟩ = some (.int .i64 m) := by rw [hMr.hs.cell, List.getElem?_toArray, ← Nat.add_mul, Nat.mul_comm, wcells_odd, Hm.out]; rfl
      have hb : ((!live) == live) = false := by cases live <;> rfl
      go_wp2
      exact ⟨⟨k + 1, by omega, by go_num, hMr.alloc _, hF.alloc _⟩, by simp [intOf]; omega⟩
    · obtain rfl : k = k0 := by omega
      have d0 : wr.cell? ⟨s, a * 2 + k * 2, none⟩ = some (.bool live) := by rw [hMr.hs.cell, List.getElem?_toArray, ← Nat.add_mul, Nat.mul_comm, wcells_even, HH.out]; rfl
      have d1 : wr.cell? ⟨s, a * 2 + k * 2 + 1, none⟩ = some (.int .i64 mh) := by rw [hMr.hs.cell, List.getElem?_toArray, ← Nat.add_mul, Nat.mul_comm, wcells_odd, HH.out]; rfl
      have hb : (live == live) = true := by cases live <;> rfl
      go_wp2
      go_ret
      exact ⟨rfl, hMr.alloc _, hF.alloc _⟩

set_option maxHeartbeats 400000 in
theorem turn_range (w : World) (p s : Nat) (ws : List (Bool × Int)) (st : Int) (hM : MemIs w p s ws st) (a n : Int) (live : Bool) (hr : ¬ (0 ≤ n ∧ 0 ≤ a ∧ n ≤ (ws.length : Int) - a)) (hl : ws.length ≤ 65536) (ha : -9223372036854775808 ≤ a ∧ a ≤ 9223372036854775807) :
    Calls Try.prog 45 #[.pointer (some ⟨p, 0, none⟩), .int .i64 a, .int .i64 n, .bool live] w fun e w' => e = .returned (.int .i64 6) ∧ MemIs w' p s ws st ∧ Fr (Two p s) w w' := by
  have c0 : w.cell? ⟨p, 0, none⟩ = some (.slice (some ⟨s, 0, none⟩) ws.length ws.length) := by rw [hM.hp.cell]; rfl
  have HR := Lib.hid hr
  clear hr
  go_enter Try.func45, Try.ntmps45
  go_wp2_with (go_at_call 52; refine (has_no w p s ws.length c0 a n HR.out hl ha).mono ?_; rintro e w' ⟨rfl, rfl⟩)
  go_ret
  exact ⟨rfl, hM, Fr.refl _ _⟩

theorem turn_nil (w : World) (a n : Int) (live : Bool) :
    Calls Try.prog 45 #[.pointer none, .int .i64 a, .int .i64 n, .bool live] w fun e w' => e = .returned (.int .i64 11) ∧ w = w' := by
  go_enter Try.func45, Try.ntmps45
  go_wp2
  go_ret
  exact ⟨rfl, rfl⟩

/-- Is one of the n words from a on as told? -/
def anyLive (ws : List (Bool × Int)) (a n : Nat) (live : Bool) : Bool := (List.range n).any fun k => (ws.getD (a + k) (false, 0)).1 == live

/-- What Live and Free answer, and the words then. -/
def turnR (ws : List (Bool × Int)) (a n : Int) (live : Bool) : Int × List (Bool × Int) :=
  if 0 ≤ n ∧ 0 ≤ a ∧ n ≤ (ws.length : Int) - a then
    if anyLive ws a.toNat n.toNat live then (11, ws) else (0, setR ws a.toNat n.toNat (live, 0))
  else (6, ws)

theorem first_of (q : Nat → Prop) [DecidablePred q] (n : Nat) (h : ∃ k, k < n ∧ q k) : ∃ k, k < n ∧ q k ∧ ∀ j, j < k → ¬ q j := by
  induction n with
  | zero => obtain ⟨k, hk, _⟩ := h; omega
  | succ n ih =>
    by_cases h' : ∃ k, k < n ∧ q k
    · obtain ⟨k, hk, r⟩ := ih h'
      exact ⟨k, by omega, r⟩
    · obtain ⟨k, hk, hq⟩ := h
      have : k = n := by
        rcases Nat.lt_or_ge k n with h1 | h1
        · exact absurd ⟨k, h1, hq⟩ h'
        · omega
      subst this
      exact ⟨k, hk, hq, fun j hj hqj => h' ⟨j, hj, hqj⟩⟩

theorem turn_any (w : World) (p s : Nat) (ws : List (Bool × Int)) (st : Int) (hM : MemIs w p s ws st) (a n : Int) (live : Bool) (hl : ws.length ≤ 65536) (ha : -9223372036854775808 ≤ a ∧ a ≤ 9223372036854775807) :
    Calls Try.prog 45 #[.pointer (some ⟨p, 0, none⟩), .int .i64 a, .int .i64 n, .bool live] w fun e w' => e = .returned (.int .i64 (turnR ws a n live).1) ∧ MemIs w' p s (turnR ws a n live).2 st ∧ Fr (Two p s) w w' := by
  unfold turnR
  by_cases h : 0 ≤ n ∧ 0 ≤ a ∧ n ≤ (ws.length : Int) - a
  · rw [if_pos h]
    obtain ⟨h1, h2, h3⟩ := h
    obtain ⟨a, rfl⟩ := Int.eq_ofNat_of_zero_le h2
    obtain ⟨n, rfl⟩ := Int.eq_ofNat_of_zero_le h1
    simp only [Int.toNat_natCast]
    have hr : a + n ≤ ws.length := by omega
    by_cases hany : anyLive ws a n live = true
    · rw [if_pos hany]
      have hex : ∃ k, k < n ∧ (ws.getD (a + k) (false, 0)).1 = live := by
        simp only [anyLive, List.any_eq_true, List.mem_range, beq_iff_eq] at hany
        exact hany
      obtain ⟨k, hk, hq, hf⟩ := first_of _ n hex
      refine turn_hit w p s ws st hM a n live hr hl k hk (fun j hj => ?_) ?_
      · have := hf j hj
        have hlt : a + j < ws.length := by omega
        refine ⟨(ws[a + j]).2, ?_⟩
        rw [List.getElem?_eq_getElem hlt]
        simp only [List.getD_eq_getElem?_getD, List.getElem?_eq_getElem hlt, Option.getD_some] at this
        congr 1
        refine Prod.ext ?_ rfl
        cases live <;> simp_all
      · have hlt : a + k < ws.length := by omega
        refine ⟨(ws[a + k]).2, ?_⟩
        rw [List.getElem?_eq_getElem hlt]
        simp only [List.getD_eq_getElem?_getD, List.getElem?_eq_getElem hlt, Option.getD_some] at hq
        congr 1
        exact Prod.ext hq rfl
    · rw [if_neg hany]
      refine turn_ok w p s ws st hM a n live hr hl (fun k hk => ?_)
      have hlt : a + k < ws.length := by omega
      have hn : ¬ (ws.getD (a + k) (false, 0)).1 = live := by
        intro he
        apply hany
        simp only [anyLive, List.any_eq_true, List.mem_range, beq_iff_eq]
        exact ⟨k, hk, he⟩
      refine ⟨(ws[a + k]).2, ?_⟩
      rw [List.getElem?_eq_getElem hlt]
      simp only [List.getD_eq_getElem?_getD, List.getElem?_eq_getElem hlt, Option.getD_some] at hn
      congr 1
      refine Prod.ext ?_ rfl
      cases live <;> simp_all
  · rw [if_neg h]
    exact turn_range w p s ws st hM a n live h hl ha

theorem live_any (w : World) (p s : Nat) (ws : List (Bool × Int)) (st : Int) (hM : MemIs w p s ws st) (a n : Int) (hl : ws.length ≤ 65536) (ha : -9223372036854775808 ≤ a ∧ a ≤ 9223372036854775807) :
    Calls Try.prog 26 #[.pointer (some ⟨p, 0, none⟩), .int .i64 a, .int .i64 n] w fun e w' => e = .returned (.int .i64 (turnR ws a n true).1) ∧ MemIs w' p s (turnR ws a n true).2 st ∧ Fr (Two p s) w w' := by
  go_enter Try.func26, Try.ntmps26
  go_wp2_with (go_at_call 45; refine (turn_any w p s ws st hM a n true hl ha).mono ?_; rintro e w' ⟨rfl, h1, h2⟩)
  go_ret
  exact ⟨rfl, h1, h2⟩

theorem live_nil (w : World) (a n : Int) : Calls Try.prog 26 #[.pointer none, .int .i64 a, .int .i64 n] w fun e w' => e = .returned (.int .i64 11) ∧ w = w' := by
  go_enter Try.func26, Try.ntmps26
  go_wp2_with (go_at_call 45; refine (turn_nil w a n true).mono ?_; rintro e w' ⟨rfl, rfl⟩)
  go_ret
  exact ⟨rfl, rfl⟩

theorem new_no (n : Int) (h : n < 0 ∨ 65536 < n) (w : World) : Calls Try.prog 10 #[.int .i64 n] w fun e w' => e = .returned (.tuple #[.pointer none, .int .i64 1]) ∧ w = w' := by
  rcases h with h | h
  · go_enter Try.func10, Try.ntmps10
    go_wp2
    go_ret2
    exact ⟨rfl, rfl⟩
  · have h0 : ¬ n < 0 := by omega
    go_enter Try.func10, Try.ntmps10
    go_wp2
    go_ret2
    exact ⟨rfl, rfl⟩

/-- A new memory, as a caller takes it. -/
theorem new_yes (n : Nat) (hn : n ≤ 65536) (w : World) :
    Calls Try.prog 10 #[.int .i64 (n : Int)] w fun e w' => e = .returned (.tuple #[.pointer (some ⟨w.heap.size + 1, 0, none⟩), .int .i64 0]) ∧ MemIs w' (w.heap.size + 1) w.heap.size (List.replicate n (false, 0)) 0 ∧ Fr (fun _ => False) w w' := by
  refine (new_any n hn w).mono ?_
  rintro e w' ⟨rfl, rfl⟩
  refine ⟨rfl, ⟨?_, (Blk.new w _ _).alloc _⟩, ((Fr.refl _ _).alloc _).alloc _⟩
  have := Blk.new (w.alloc (.cells (wcells (List.replicate n (false, 0))).toArray 97)) 66 #[.slice (some ⟨w.heap.size, 0, none⟩) n n, .int .i64 0]
  simpa using this
end Go.Proofs.Ytichhieopnbgpaa
