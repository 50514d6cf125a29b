/-
  The document's Compare (cmpL), path.Under and the document's Under (underL), same.
-/
import Derived.Test.YtafchncdolagdaaDoorCmp
namespace Go.Proofs.YtafchncdolagdaaDoor
open Go.RowKit

set_option maxHeartbeats 4000000 in
theorem rcmp_any (w : World) (A : Option Addr) (c : Nat) (xs : List Int) (n : Nat) (hx : Ints w A n xs) (B : Option Addr) (d : Nat) (ys : List Int) (m : Nat) (hy : Ints w B m ys)
    (hn : n ≤ 1000) (hm : m ≤ 1000) :
    Calls Tryd.prog 10 #[.slice A n c, .slice B m d] w fun e w' => e = .returned (.int .i64 (cmpL xs ys)) ∧ ∃ q, w' = w.drewN q := by
  have HX := Lib.hid hx
  have HY := Lib.hid hy
  have hxl := hx.1
  have hyl := hy.1
  clear hx hy
  go_enter Tryd.func10, Tryd.ntmps10
  go_wp2_with fail
  go_loopw [5] (fun i wx => ∃ k : Nat, k ≤ n ∧ k ≤ m ∧ i = .int .i64 k ∧ Hid (cmpL xs ys = cmpL (xs.drop k) (ys.drop k)) ∧ ∃ q, wx = w.drewN q) (fun i _ => n - (intOf i).toNat)
  case atStart => exact ⟨0, by omega, by omega, rfl, Lib.hid rfl, 0, rfl⟩
  case round =>
    obtain ⟨k, hk, hkm0, rfl, HC, q, rfl⟩ := hrel
    by_cases hkl : k < n
    · by_cases hkm : k < m
      · obtain ⟨x, hx⟩ : ∃ x, xs[k]? = some x := ⟨_, List.getElem?_eq_getElem (by omega)⟩
        obtain ⟨b, off, rfl, hc⟩ := HX.out.at_ hx
        obtain ⟨y, hy⟩ : ∃ y, ys[k]? = some y := ⟨_, List.getElem?_eq_getElem (by omega)⟩
        obtain ⟨b', off', rfl, hc'⟩ := HY.out.at_ hy
        have HS := Lib.hid (cmpL_step xs ys k x y hx hy HC.out)
        clear hx hy
        by_cases h1 : x < y
        · rw [if_pos h1] at HS
          go_wp2_with fail
          go_quiet (fail)
          go_wp2_with fail
          go_ret
          exact ⟨by rw [HS.out]; rfl, by first | exact ⟨_, rfl⟩ | (simp only [World.drewN_drewN]; exact ⟨_, rfl⟩)⟩
        · rw [if_neg h1] at HS
          by_cases h2 : y < x
          · rw [if_pos h2] at HS
            go_wp2_with fail
            go_quiet (fail)
            go_wp2_with fail
            go_quiet (fail)
            go_wp2_with fail
            go_ret
            exact ⟨by rw [HS.out]; rfl, by first | exact ⟨_, rfl⟩ | (simp only [World.drewN_drewN]; exact ⟨_, rfl⟩)⟩
          · rw [if_neg h2] at HS
            go_wp2_with fail
            go_quiet (fail)
            go_wp2_with fail
            go_quiet (fail)
            go_wp2_with fail
            exact ⟨⟨k + 1, by omega, by omega, by go_num, HS, by first | exact ⟨_, rfl⟩ | (simp only [World.drewN_drewN]; exact ⟨_, rfl⟩)⟩, by simp [intOf]; omega⟩
      · obtain rfl : k = m := by omega
        have HE := Lib.hid (cmpL_end1 xs ys k HC.out (by omega) (by omega))
        go_wp2_with fail
        go_ret
        exact ⟨by rw [HE.out]; rfl, by first | exact ⟨_, rfl⟩ | (simp only [World.drewN_drewN]; exact ⟨_, rfl⟩)⟩
    · obtain rfl : k = n := by omega
      have HE := Lib.hid (cmpL_end xs ys k HC.out (by omega))
      rw [hyl] at HE
      by_cases hkm : k < m
      · rw [if_pos hkm] at HE
        go_wp2_with fail
        go_ret
        exact ⟨by rw [HE.out]; rfl, by first | exact ⟨_, rfl⟩ | (simp only [World.drewN_drewN]; exact ⟨_, rfl⟩)⟩
      · rw [if_neg hkm] at HE
        go_wp2_with fail
        go_ret
        exact ⟨by rw [HE.out]; rfl, by first | exact ⟨_, rfl⟩ | (simp only [World.drewN_drewN]; exact ⟨_, rfl⟩)⟩

theorem eq_step (a b : List Int) (k : Nat) (x : Int) (ha : a[k]? = some x) (hb : b[k]? = some x) (h : a.take k = b.take k) : a.take (k + 1) = b.take (k + 1) := by
  rw [List.take_add_one, List.take_add_one, ha, hb, h]
theorem ne_step (a b : List Int) (k : Nat) (x y : Int) (ha : a[k]? = some x) (hb : b[k]? = some y) (h : x ≠ y) : a ≠ b := by
  rintro rfl
  rw [ha] at hb
  exact h (Option.some.inj hb)

set_option maxHeartbeats 4000000 in
theorem equal_any (w : World) (A : Option Addr) (c : Nat) (xs : List Int) (n : Nat) (hx : Ints w A n xs) (B : Option Addr) (d : Nat) (ys : List Int) (hy : Ints w B n ys) (hn : n ≤ 1000) :
    Calls Tryd.prog 20 #[.slice A n c, .slice B n d] w fun e w' => e = .returned (.bool (xs == ys)) ∧ ∃ q, w' = w.drewN q := by
  have HX := Lib.hid hx
  have HY := Lib.hid hy
  have hxl := hx.1
  have hyl := hy.1
  clear hx hy
  go_enter Tryd.func20, Tryd.ntmps20
  go_wp2_with fail
  go_loopw [13] (fun i wx => ∃ k : Nat, k ≤ n ∧ i = .int .i64 k ∧ Hid (xs.take k = ys.take k) ∧ ∃ q, wx = w.drewN q) (fun i _ => n - (intOf i).toNat)
  case atStart => exact ⟨0, by omega, rfl, Lib.hid rfl, 0, rfl⟩
  case round =>
    obtain ⟨k, hk, rfl, HC, q, rfl⟩ := hrel
    by_cases hkl : k < n
    · obtain ⟨x, hx⟩ : ∃ x, xs[k]? = some x := ⟨_, List.getElem?_eq_getElem (by omega)⟩
      obtain ⟨b, off, rfl, hc⟩ := HX.out.at_ hx
      obtain ⟨y, hy⟩ : ∃ y, ys[k]? = some y := ⟨_, List.getElem?_eq_getElem (by omega)⟩
      obtain ⟨b', off', rfl, hc'⟩ := HY.out.at_ hy
      by_cases h1 : x = y
      · subst h1
        have HS := Lib.hid (eq_step xs ys k x hx hy HC.out)
        clear hx hy
        go_wp2_with fail
        go_quiet (fail)
        go_wp2_with fail
        exact ⟨⟨k + 1, by omega, by go_num, HS, by first | exact ⟨_, rfl⟩ | (simp only [World.drewN_drewN]; exact ⟨_, rfl⟩)⟩, by simp [intOf]; omega⟩
      · have HS : Hid ((xs == ys) = false) := Lib.hid (by simpa using ne_step xs ys k x y hx hy h1)
        have e1 : (x == y) = false := by simpa using h1
        have e2 : (x != y) = true := by simpa using h1
        clear hx hy
        go_wp2_with fail
        go_quiet (fail)
        go_wp2_with fail
        go_ret
        exact ⟨by rw [HS.out]; rfl, by first | exact ⟨_, rfl⟩ | (simp only [World.drewN_drewN]; exact ⟨_, rfl⟩)⟩
    · obtain rfl : k = n := by omega
      have HS : Hid ((xs == ys) = true) := Lib.hid (by
        have := HC.out
        rw [List.take_of_length_le (by omega), List.take_of_length_le (by omega)] at this
        simpa using this)
      go_wp2_with fail
      go_ret
      exact ⟨by rw [HS.out]; rfl, by first | exact ⟨_, rfl⟩ | (simp only [World.drewN_drewN]; exact ⟨_, rfl⟩)⟩

set_option maxHeartbeats 4000000 in
theorem under_any (w : World) (A : Option Addr) (c : Nat) (xs : List Int) (n : Nat) (hx : Ints w A n xs) (B : Option Addr) (d : Nat) (ys : List Int) (m : Nat) (hy : Ints w B m ys)
    (hn : n ≤ 1000) (hm : m ≤ 1000) (hnc : n ≤ c) :
    Calls Tryd.prog 11 #[.slice A n c, .slice B m d] w fun e w' => e = .returned (.bool (underL xs ys)) ∧ ∃ q, w' = w.drewN q := by
  have HX := Lib.hid hx
  have HY := Lib.hid hy
  have hxl := hx.1
  have hyl := hy.1
  clear hx hy
  by_cases h : m ≤ n
  · have HU : Hid (underL xs ys = (xs.take m == ys)) := Lib.hid (by unfold underL; rw [hxl, hyl, decide_eq_true h, Bool.true_and])
    go_enter Tryd.func11, Tryd.ntmps11
    go_wp2_with fail
    refine (equal_any _ _ _ (xs.take m) m (HX.out.take m h) B d ys HY.out hm).mono ?_
    rintro e w1 ⟨rfl, q, rfl⟩
    go_wp2_with fail
    go_ret
    exact ⟨by rw [HU.out]; rfl, _, rfl⟩
  · have HU : Hid (underL xs ys = false) := Lib.hid (by unfold underL; rw [hxl, hyl]; simp [h])
    go_enter Tryd.func11, Tryd.ntmps11
    go_wp2_with fail
    go_ret
    exact ⟨by rw [HU.out]; rfl, 0, rfl⟩

set_option maxHeartbeats 4000000 in
theorem runder_any (w : World) (A : Option Addr) (c : Nat) (xs : List Int) (n : Nat) (hx : Ints w A n xs) (B : Option Addr) (d : Nat) (ys : List Int) (m : Nat) (hy : Ints w B m ys)
    (hn : n ≤ 1000) (hm : m ≤ 1000) :
    Calls Tryd.prog 12 #[.slice A n c, .slice B m d] w fun e w' => e = .returned (.bool (underL xs ys)) ∧ ∃ q, w' = w.drewN q := by
  have HX := Lib.hid hx
  have HY := Lib.hid hy
  have hxl := hx.1
  have hyl := hy.1
  clear hx hy
  by_cases h : m ≤ n
  · have HU : Hid (underL xs ys = (xs.take m == ys)) := Lib.hid (by unfold underL; rw [hxl, hyl, decide_eq_true h, Bool.true_and])
    go_enter Tryd.func12, Tryd.ntmps12
    go_wp2_with fail
    go_loopw [5] (fun i wx => ∃ k : Nat, k ≤ m ∧ i = .int .i64 k ∧ Hid ((xs.take m).take k = ys.take k) ∧ ∃ q, wx = w.drewN q) (fun i _ => m - (intOf i).toNat)
    case atStart => exact ⟨0, by omega, rfl, Lib.hid rfl, 0, rfl⟩
    case round =>
      obtain ⟨k, hk, rfl, HC, q, rfl⟩ := hrel
      by_cases hkl : k < m
      · obtain ⟨x, hx⟩ : ∃ x, xs[k]? = some x := ⟨_, List.getElem?_eq_getElem (by omega)⟩
        have hx' : (xs.take m)[k]? = some x := by rw [List.getElem?_take, if_pos hkl]; exact hx
        obtain ⟨b, off, rfl, hc⟩ := HX.out.at_ hx
        obtain ⟨y, hy⟩ : ∃ y, ys[k]? = some y := ⟨_, List.getElem?_eq_getElem (by omega)⟩
        obtain ⟨b', off', rfl, hc'⟩ := HY.out.at_ hy
        by_cases h1 : x = y
        · subst h1
          have HS := Lib.hid (eq_step (xs.take m) ys k x hx' hy HC.out)
          clear hx hy hx'
          go_wp2_with fail
          go_quiet (fail)
          go_wp2_with fail
          exact ⟨⟨k + 1, by omega, by go_num, HS, by first | exact ⟨_, rfl⟩ | (simp only [World.drewN_drewN]; exact ⟨_, rfl⟩)⟩, by simp [intOf]; omega⟩
        · have HS : Hid (underL xs ys = false) := Lib.hid (by rw [HU.out]; simpa using ne_step (xs.take m) ys k x y hx' hy h1)
          have e1 : (x == y) = false := by simpa using h1
          have e2 : (x != y) = true := by simpa using h1
          clear hx hy hx'
          go_wp2_with fail
          go_quiet (fail)
          go_wp2_with fail
          go_ret
          exact ⟨by rw [HS.out]; rfl, by first | exact ⟨_, rfl⟩ | (simp only [World.drewN_drewN]; exact ⟨_, rfl⟩)⟩
      · obtain rfl : k = m := by omega
        have HS : Hid (underL xs ys = true) := Lib.hid (by
          have := HC.out
          rw [HU.out]
          rw [List.take_take, Nat.min_self, List.take_of_length_le (l := ys) (by omega)] at this
          simpa using this)
        go_wp2_with fail
        go_ret
        exact ⟨by rw [HS.out]; rfl, by first | exact ⟨_, rfl⟩ | (simp only [World.drewN_drewN]; exact ⟨_, rfl⟩)⟩
  · have HU : Hid (underL xs ys = false) := Lib.hid (by unfold underL; rw [hxl, hyl]; simp [h])
    go_enter Tryd.func12, Tryd.ntmps12
    go_wp2_with fail
    go_ret
    exact ⟨by rw [HU.out]; rfl, 0, rfl⟩

theorem same_any (w : World) (A : Option Addr) (c : Nat) (xs : List Int) (n : Nat) (hx : Ints w A n xs) (B : Option Addr) (d : Nat) (ys : List Int) (m : Nat) (hy : Ints w B m ys)
    (hn : n ≤ 1000) (hm : m ≤ 1000) :
    Calls Tryd.prog 16 #[.slice A n c, .slice B m d] w fun e w' => e = .returned (.bool (cmpL xs ys == 0)) ∧ ∃ q, w' = w.drewN q := by
  have HX := Lib.hid hx
  have HY := Lib.hid hy
  clear hx hy
  go_enter Tryd.func16, Tryd.ntmps16
  go_wp2_with fail
  refine (rcmp_any _ A c xs n HX.out B d ys m HY.out hn hm).mono ?_
  rintro e w1 ⟨rfl, q, rfl⟩
  go_wp2_with fail
  go_ret
  exact ⟨rfl, _, rfl⟩
end Go.Proofs.YtafchncdolagdaaDoor
