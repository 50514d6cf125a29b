/-
  The document's Compare of two rows of numbers comes to cmpL; a row that stands ahead in the lists' order stands ahead there.
-/
import Derived.Test.YtadcenaafoemmaaDoorPu
import Derived.Test.YtadcenaafoemmaaDoorF23
import Derived.Test.YtadcenaafoemmaaDoorOfV
import Derived.Test.YtadcenaafoemmaaDoorOpnV
import Derived.Deep.QuietTactic
import Derived.BigQuiet
namespace Go.Proofs.YtadcenaafoemmaaDoor
open Go.RowKit

/-- The slice value '.slice A n _' holds the numbers xs. -/
def Ints (w : World) (A : Option Addr) (n : Nat) (xs : List Int) : Prop :=
  xs.length = n ∧ (0 < n → ∃ b off, A = some ⟨b, off, none⟩ ∧ ∀ j x, xs[j]? = some x → w.cell? ⟨b, off + j, none⟩ = some (.int .i64 x))

theorem Ints.fr {w w' : World} {A : Option Addr} {n : Nat} {xs : List Int} (h : Ints w A n xs) (hf : Fr (fun _ => False) w w') : Ints w' A n xs :=
  ⟨h.1, fun hn => by
    obtain ⟨b, off, e, hc⟩ := h.2 hn
    exact ⟨b, off, e, fun j x hx => hf.held (hc j x hx) (fun h => h)⟩⟩
theorem Ints.at_ {w : World} {A : Option Addr} {n : Nat} {xs : List Int} (h : Ints w A n xs) {k : Nat} {x : Int} (hx : xs[k]? = some x) :
    ∃ b off, A = some ⟨b, off, none⟩ ∧ w.cell? ⟨b, off + k, none⟩ = some (.int .i64 x) := by
  have hk := (List.getElem?_eq_some_iff.1 hx).1
  have hl := h.1
  obtain ⟨b, off, e, hc⟩ := h.2 (by omega)
  exact ⟨b, off, e, hc k x hx⟩
theorem Ints.take {w : World} {A : Option Addr} {n : Nat} {xs : List Int} (h : Ints w A n xs) (k : Nat) (hk : k ≤ n) : Ints w A k (xs.take k) := by
  have hl := h.1
  refine ⟨by rw [List.length_take]; omega, fun h0 => ?_⟩
  obtain ⟨b, off, e, hc⟩ := h.2 (by omega)
  refine ⟨b, off, e, fun j x hx => hc j x ?_⟩
  rw [List.getElem?_take] at hx
  split at hx
  · exact hx
  · cases hx
theorem Ints.drewN {w : World} {A : Option Addr} {n : Nat} {xs : List Int} (h : Ints w A n xs) (q : Nat) : Ints (w.drewN q) A n xs := h
theorem Ints.nil {w : World} {A : Option Addr} : Ints w A 0 [] := ⟨rfl, fun h => absurd h (by omega)⟩

set_option maxHeartbeats 4000000 in
theorem rcmp_any (w : World) (A : Option Addr) (c : Nat) (xs : List Int) (n : Nat) (hx : Ints w A n xs) (B : Option Addr) (d : Nat) (ys : List Int) (m : Nat) (hy : Ints w B m ys)
    (hn : n ≤ 1000) (hm : m ≤ 1000) :
    Calls Tryd.prog 23 #[.slice A n c, .slice B m d] w fun e w' => e = .returned (.int .i64 (cmpL xs ys)) ∧ ∃ q, w' = w.drewN q := by
  have HX := Lib.hid hx
  have HY := Lib.hid hy
  have hxl := hx.1
  have hyl := hy.1
  clear hx hy
  go_enter Tryd.func23, Tryd.ntmps23
  go_wp2_with fail
  go_loopw [5] (fun i wx => ∃ k : Nat, k ≤ n ∧ k ≤ m ∧ i = .int .i64 k ∧ Hid (cmpL xs ys = cmpL (xs.drop k) (ys.drop k)) ∧ ∃ q, wx = w.drewN q) (fun i _ => n - (intOf i).toNat)
  case atStart => exact ⟨0, by omega, by omega, rfl, Lib.hid rfl, 0, rfl⟩
  case round =>
    obtain ⟨k, hk, hkm0, rfl, HC, q, rfl⟩ := hrel
    by_cases hkl : k < n
    · by_cases hkm : k < m
      · obtain ⟨x, hx⟩ : ∃ x, xs[k]? = some x := ⟨_, List.getElem?_eq_getElem (by omega)⟩
        obtain ⟨b, off, rfl, hc⟩ := HX.out.at_ hx
        obtain ⟨y, hy⟩ : ∃ y, ys[k]? = some y := ⟨_, List.getElem?_eq_getElem (by omega)⟩
        obtain ⟨b', off', rfl, hc'⟩ := HY.out.at_ hy
        have HS := Lib.hid (cmpL_step xs ys k x y hx hy HC.out)
        clear hx hy
        by_cases h1 : x < y
        · rw [if_pos h1] at HS
          go_wp2_with fail
          go_quiet (fail)
          go_wp2_with fail
          go_ret
          exact ⟨by rw [HS.out]; rfl, by first | exact ⟨_, rfl⟩ | (simp only [World.drewN_drewN]; exact ⟨_, rfl⟩)⟩
        · rw [if_neg h1] at HS
          by_cases h2 : y < x
          · rw [if_pos h2] at HS
            go_wp2_with fail
            go_quiet (fail)
            go_wp2_with fail
            go_quiet (fail)
            go_wp2_with fail
            go_ret
            exact ⟨by rw [HS.out]; rfl, by first | exact ⟨_, rfl⟩ | (simp only [World.drewN_drewN]; exact ⟨_, rfl⟩)⟩
          · rw [if_neg h2] at HS
            go_wp2_with fail
            go_quiet (fail)
            go_wp2_with fail
            go_quiet (fail)
            go_wp2_with fail
            exact ⟨⟨k + 1, by omega, by omega, by go_num, HS, by first | exact ⟨_, rfl⟩ | (simp only [World.drewN_drewN]; exact ⟨_, rfl⟩)⟩, by simp [intOf]; omega⟩
      · obtain rfl : k = m := by omega
        have HE := Lib.hid (cmpL_end1 xs ys k HC.out (by omega) (by omega))
        go_wp2_with fail
        go_ret
        exact ⟨by rw [HE.out]; rfl, by first | exact ⟨_, rfl⟩ | (simp only [World.drewN_drewN]; exact ⟨_, rfl⟩)⟩
    · obtain rfl : k = n := by omega
      have HE := Lib.hid (cmpL_end xs ys k HC.out (by omega))
      rw [hyl] at HE
      by_cases hkm : k < m
      · rw [if_pos hkm] at HE
        go_wp2_with fail
        go_ret
        exact ⟨by rw [HE.out]; rfl, by first | exact ⟨_, rfl⟩ | (simp only [World.drewN_drewN]; exact ⟨_, rfl⟩)⟩
      · rw [if_neg hkm] at HE
        go_wp2_with fail
        go_ret
        exact ⟨by rw [HE.out]; rfl, by first | exact ⟨_, rfl⟩ | (simp only [World.drewN_drewN]; exact ⟨_, rfl⟩)⟩

theorem cmpL_lt : ∀ {p q : List Int}, p < q → cmpL p q = -1
  | [], [], h => absurd h (by simp)
  | [], _ :: _, _ => rfl
  | _ :: _, [], h => absurd h (by simp)
  | a :: p, b :: q, h => by
    rw [List.cons_lt_cons_iff] at h
    simp only [cmpL]
    rcases h with h | ⟨rfl, h⟩
    · rw [if_pos h]
    · rw [if_neg (by omega), if_neg (by omega)]
      exact cmpL_lt h
theorem PInts.ints {w : World} {A : Option Addr} {xs : List Int} (h : PInts w A xs) : Ints w A xs.length xs := ⟨rfl, fun h0 => by
  obtain ⟨b, cs, e, hb, hc⟩ := h h0
  refine ⟨b, 0, e, fun j x hx => ?_⟩
  rw [Nat.zero_add, hb.cell]
  exact hc j x hx⟩
end Go.Proofs.YtadcenaafoemmaaDoor
