/-
  cmp.Compare, slices.Compare and path.Compare of rows of numbers, and the document's Compare: each comes to cmpL.
-/
import Derived.Test.YtafchncdolagdaaDoorBase
import Derived.Test.YtafchncdolagdaaDoorPureP
import Derived.Test.YtafchncdolagdaaDoorProg
import Derived.Outline
import Derived.KernelRfl
import Derived.RegionTactic
import Derived.BigRegion
import Derived.Deep.QuietTactic
import Derived.BigQuiet
import Derived.StillTailTactics
namespace Go.Proofs.YtafchncdolagdaaDoor
open Go.RowKit

/-- The slice value '.slice A n _' holds the numbers xs. -/
def Ints (w : World) (A : Option Addr) (n : Nat) (xs : List Int) : Prop :=
  xs.length = n ∧ (0 < n → ∃ b off, A = some ⟨b, off, none⟩ ∧ ∀ j x, xs[j]? = some x → w.cell? ⟨b, off + j, none⟩ = some (.int .i64 x))

theorem Ints.fr {w w' : World} {A : Option Addr} {n : Nat} {xs : List Int} (h : Ints w A n xs) (hf : Fr (fun _ => False) w w') : Ints w' A n xs :=
  ⟨h.1, fun hn => by
    obtain ⟨b, off, e, hc⟩ := h.2 hn
    exact ⟨b, off, e, fun j x hx => hf.held (hc j x hx) (fun h => h)⟩⟩
theorem Ints.at_ {w : World} {A : Option Addr} {n : Nat} {xs : List Int} (h : Ints w A n xs) {k : Nat} {x : Int} (hx : xs[k]? = some x) :
    ∃ b off, A = some ⟨b, off, none⟩ ∧ w.cell? ⟨b, off + k, none⟩ = some (.int .i64 x) := by
  have hk := (List.getElem?_eq_some_iff.1 hx).1
  have hl := h.1
  obtain ⟨b, off, e, hc⟩ := h.2 (by omega)
  exact ⟨b, off, e, hc k x hx⟩
theorem Ints.take {w : World} {A : Option Addr} {n : Nat} {xs : List Int} (h : Ints w A n xs) (k : Nat) (hk : k ≤ n) : Ints w A k (xs.take k) := by
  have hl := h.1
  refine ⟨by rw [List.length_take]; omega, fun h0 => ?_⟩
  obtain ⟨b, off, e, hc⟩ := h.2 (by omega)
  refine ⟨b, off, e, fun j x hx => hc j x ?_⟩
  rw [List.getElem?_take] at hx
  split at hx
  · exact hx
  · cases hx
theorem Ints.drewN {w : World} {A : Option Addr} {n : Nat} {xs : List Int} (h : Ints w A n xs) (q : Nat) : Ints (w.drewN q) A n xs := h
theorem Ints.nil {w : World} {A : Option Addr} : Ints w A 0 [] := ⟨rfl, fun h => absurd h (by omega)⟩

def cmp1 (x y : Int) : Int := if x < y then -1 else if y < x then 1 else 0

theorem nan_any (w : World) (x : Int) : Calls Tryd.prog 33 #[.int .i64 x] w fun e w' => e = .returned (.bool false) ∧ w' = w := by
  go_enter Tryd.func33, Tryd.ntmps33
  go_wp2_with fail
  go_ret
  exact ⟨rfl, rfl⟩

theorem cmp1_any (w : World) (x y : Int) : Calls Tryd.prog 26 #[.int .i64 x, .int .i64 y] w fun e w' => e = .returned (.int .i64 (cmp1 x y)) ∧ w' = w := by
  go_enter Tryd.func26, Tryd.ntmps26
  go_wp2_with fail
  refine (nan_any _ x).mono ?_
  rintro e w1 ⟨rfl, rfl⟩
  go_wp2_with fail
  refine (nan_any _ y).mono ?_
  rintro e w2 ⟨rfl, rfl⟩
  by_cases h1 : x < y
  · have HC : Hid (cmp1 x y = -1) := Lib.hid (by simp [cmp1, h1])
    go_wp2_with fail
    go_ret
    exact ⟨by rw [HC.out]; rfl, rfl⟩
  · by_cases h2 : y < x
    · have HC : Hid (cmp1 x y = 1) := Lib.hid (by simp [cmp1, h1, h2])
      go_wp2_with fail
      go_ret
      exact ⟨by rw [HC.out]; rfl, rfl⟩
    · have HC : Hid (cmp1 x y = 0) := Lib.hid (by simp [cmp1, h1, h2])
      go_wp2_with fail
      go_ret
      exact ⟨by rw [HC.out]; rfl, rfl⟩

theorem cmp1_zero {x y : Int} (h : cmp1 x y = 0) : y ≤ x ∧ x ≤ y := by
  unfold cmp1 at h
  split at h
  · cases h
  · split at h
    · cases h
    · exact ⟨by omega, by omega⟩
theorem cmp1_other {x y r : Int} (h : cmp1 x y ≠ 0) : (if x < y then -1 else if y < x then 1 else r) = cmp1 x y := by
  unfold cmp1 at h ⊢
  split
  · rfl
  · split
    · rfl
    · simp_all

set_option maxHeartbeats 4000000 in
theorem scmp_any (w : World) (A : Option Addr) (c : Nat) (xs : List Int) (n : Nat) (hx : Ints w A n xs) (B : Option Addr) (d : Nat) (ys : List Int) (m : Nat) (hy : Ints w B m ys)
    (hn : n ≤ 1000) (hm : m ≤ 1000) :
    Calls Tryd.prog 19 #[.slice A n c, .slice B m d] w fun e w' => e = .returned (.int .i64 (cmpL xs ys)) ∧ w' = w := by
  have HX := Lib.hid hx
  have HY := Lib.hid hy
  have hxl := hx.1
  have hyl := hy.1
  clear hx hy
  go_enter Tryd.func19, Tryd.ntmps19
  go_wp2_with fail
  go_loopw [11] (fun i wx => ∃ k : Nat, k ≤ n ∧ i = .int .i64 k ∧ Hid (cmpL xs ys = cmpL (xs.drop k) (ys.drop k)) ∧ wx = w) (fun i _ => n - (intOf i).toNat)
  case atStart => exact ⟨0, by omega, rfl, Lib.hid rfl, rfl⟩
  case round =>
    obtain ⟨k, hk, rfl, HC, rfl⟩ := hrel
    by_cases hkl : k < n
    · obtain ⟨x, hx⟩ : ∃ x, xs[k]? = some x := ⟨_, List.getElem?_eq_getElem (by omega)⟩
      obtain ⟨b, off, rfl, hc⟩ := HX.out.at_ hx
      by_cases hkm : k < m
      · obtain ⟨y, hy⟩ : ∃ y, ys[k]? = some y := ⟨_, List.getElem?_eq_getElem (by omega)⟩
        obtain ⟨b', off', rfl, hc'⟩ := HY.out.at_ hy
        have HS := Lib.hid (cmpL_step xs ys k x y hx hy HC.out)
        clear hx hy
        go_wp2_with fail
        refine (cmp1_any _ x y).mono ?_
        rintro e w1 ⟨rfl, rfl⟩
        by_cases h0 : cmp1 x y = 0
        · have HZ := Lib.hid (cmp1_zero h0)
          rw [h0]
          clear h0
          go_wp2_with fail
          refine ⟨⟨k + 1, by omega, by go_num, Lib.hid ?_, trivial⟩, by simp [intOf]; omega⟩
          rw [HS.out, if_neg (by have := HZ.out.1; omega), if_neg (by have := HZ.out.2; omega)]
        · have HZ := Lib.hid (HS.out.trans (cmp1_other h0))
          have h0' : (cmp1 x y == 0) = false := by simpa using h0
          have h0'' : (cmp1 x y != 0) = true := by simpa using h0
          go_wp2_with fail
          go_ret
          exact ⟨by rw [HZ.out]; rfl, rfl⟩
      · have HE := Lib.hid (cmpL_end1 xs ys k HC.out (by omega) (by omega))
        clear hx
        go_wp2_with fail
        go_ret
        exact ⟨by rw [HE.out]; rfl, rfl⟩
    · obtain rfl : k = n := by omega
      have HE := Lib.hid (cmpL_end xs ys k HC.out (by omega))
      rw [hyl] at HE
      by_cases hkm : k < m
      · rw [if_pos hkm] at HE
        go_wp2_with fail
        go_ret
        exact ⟨by rw [HE.out]; rfl, rfl⟩
      · rw [if_neg hkm] at HE
        go_wp2_with fail
        go_ret
        exact ⟨by rw [HE.out]; rfl, rfl⟩

theorem cmp_any (w : World) (A : Option Addr) (c : Nat) (xs : List Int) (n : Nat) (hx : Ints w A n xs) (B : Option Addr) (d : Nat) (ys : List Int) (m : Nat) (hy : Ints w B m ys)
    (hn : n ≤ 1000) (hm : m ≤ 1000) :
    Calls Tryd.prog 9 #[.slice A n c, .slice B m d] w fun e w' => e = .returned (.int .i64 (cmpL xs ys)) ∧ w' = w := by
  have HX := Lib.hid hx
  have HY := Lib.hid hy
  clear hx hy
  go_enter Tryd.func9, Tryd.ntmps9
  go_wp2_with fail
  refine (scmp_any _ A c xs n HX.out B d ys m HY.out hn hm).mono ?_
  rintro e w1 ⟨rfl, rfl⟩
  go_wp2_with fail
  go_ret
  exact ⟨rfl, rfl⟩
end Go.Proofs.YtafchncdolagdaaDoor
