/-
  The laws' numbers tells that two rows of the same numbers are alike; more instructions than a run needs, and one less.
-/
import Derived.Test.YtbhnnnpofindiaaDoorJobs
namespace Go.Proofs.YtbhnnnpofindiaaDoor
open Go.RowKit

set_option maxHeartbeats 4000000 in
theorem numbers_same (w : World) (A B : Option Addr) (c d : Nat) (xs : List Int) (n : Nat) (hn : xs.length = n) (hA : IntsA w A xs) (hB : IntsA w B xs) (hl : n ≤ 9223372036854775807) :
    Calls Tryd.prog 20 #[.slice A n c, .slice B n d] w fun e w' => e = .returned (.bool true) ∧ ∃ q, w' = w.drewN q := by
  have HA := Lib.hid hA
  have HB := Lib.hid hB
  have q0 : ((n : Int) != (n : Int)) = false := by simp
  clear hA hB
  go_enter Tryd.func20, Tryd.ntmps20
  go_wp2_with fail
  go_loopw [5] (fun i wx => ∃ k : Nat, k ≤ n ∧ i = .int .i64 k ∧ ∃ q, wx = w.drewN q) (fun i _ => n - (intOf i).toNat)
  case atStart => exact ⟨0, by omega, rfl, 0, rfl⟩
  case round =>
    obtain ⟨k, hk, rfl, q, rfl⟩ := hrel
    by_cases hkn : k < n
    · obtain ⟨x, hx⟩ : ∃ x, xs[k]? = some x := ⟨_, List.getElem?_eq_getElem (by omega)⟩
      obtain ⟨b, off, rfl, hc⟩ := HA.out (by omega)
      obtain ⟨b', off', rfl, hc'⟩ := HB.out (by omega)
      have c1 := hc k x hx
      have c2 := hc' k x hx
      have hki : (k : Int) < (n : Int) := by omega
      have q1 : (x != x) = false := by simp
      clear hx hc hc' hn
      go_wp2_with fail
      go_quiet (fail)
      go_wp2_with fail
      exact ⟨⟨k + 1, by omega, by go_num, _, by first | exact rfl | rw [World.drewN_drewN]⟩, by simp [intOf]; omega⟩
    · obtain rfl : k = n := by omega
      go_wp2_with fail
      go_ret
      exact ⟨rfl, q, rfl⟩

theorem ResAt.told_ints {w : World} {base : Nat} {A : Option Addr} {n c : Nat} {lv : Value} {told : List Int} {log : List (List Int × Int)} (h : ResAt w base (.slice A n c) lv told log) : IntsA w A told := fun h0 => by
  obtain ⟨g, c', hv, _, hc⟩ := h.told_form h0
  cases hv
  exact ⟨g, 0, rfl, fun j x hx => by rw [Nat.zero_add]; exact hc j x hx⟩
theorem ResAt.told_max {w : World} {base : Nat} {tv lv : Value} {told : List Int} {log : List (List Int × Int)} (h : ResAt w base tv lv told log) : told.length ≤ maxLen := own_max h.1

theorem ints_fr {w w' : World} {A : Option Addr} {xs : List Int} (h : IntsA w A xs) (hF : Fr None' w w') : IntsA w' A xs := fun h0 => by
  obtain ⟨b, off, e, hc⟩ := h h0
  exact ⟨b, off, e, fun j x hx => hF.held (hc j x hx) (fun h => h)⟩
theorem OfOK.on {w W : World} {z : JobV} {fs : List Fn} (h : OfOK w z fs) (hF : Fr None' w W) : OfOK W z fs := fun W' hF' => h W' (hF.trans hF')
theorem EvOf.on {w W : World} {z : JobV} {fs : List Fn} {xs : List Int} (h : EvOf w z fs xs) (hF : Fr None' w W) : EvOf W z fs xs := fun W' A c most hF' => h W' A c most (hF.trans hF')

/-- More instructions than a run needs. -/
theorem evalR_enough {fs : List Fn} {args : List Int} {bud dep most : Int} (hm : 0 ≤ most) (h : (evalR fs args bud dep most).e = 0) (m : Nat) :
    evalR fs args bud dep (sumS (evalR fs args bud dep most).log + m) = evalR fs args bud dep most := by
  obtain ⟨hlim, hr, hl, he, hlog, _⟩ := evalR_ok h
  have hb := evalR_bound hm h
  have h1 := hb.all
  have h2 := hb.nonneg
  have h3 := sumS_nng (runF_nng fs bud dep most (codeAt fs 0) (newTk args futs0))
  change 0 ≤ sumS (runP fs args bud dep most).2.log at h3
  have hen := runF_enough fs bud dep most (codeAt fs 0) (newTk args futs0) (runP fs args bud dep most) rfl hl m hm h2 (by omega)
  rw [hlog, he]
  unfold evalR
  rw [if_pos hr, show sumS (runP fs args bud dep most).2.log + (m : Int) = most - (runP fs args bud dep most).2.left + m by omega]
  unfold runP
  unfold runP at hen
  rw [hen]
  rfl
/-- One instruction less than a run needs. -/
theorem evalR_short {fs : List Fn} {args : List Int} {bud dep most : Int} (hm : 0 < most) (h : (evalR fs args bud dep most).e = 0) :
    evalR fs args bud dep (sumS (evalR fs args bud dep most).log - 1) = ⟨0, 0, [], [], 3⟩ := by
  obtain ⟨hlim, hr, hl, he, hlog, _⟩ := evalR_ok h
  have hb := evalR_bound (by omega) h
  have h1 := hb.all
  have h2 := hb.nonneg
  have h3 := runF_one fs bud dep most (by omega) hm (codeAt fs 0) (newTk args futs0)
  change (runP fs args bud dep most).2.left + 1 ≤ most at h3
  have hsh := runF_short fs bud dep most (codeAt fs 0) (newTk args futs0) (runP fs args bud dep most) rfl hl h2 h3
  rw [hlog]
  unfold evalR
  rw [if_pos hr, show sumS (runP fs args bud dep most).2.log - 1 = most - (runP fs args bud dep most).2.left - 1 by omega]
  unfold resOf
  unfold runP
  unfold runP at hsh
  rw [hsh]
end Go.Proofs.YtbhnnnpofindiaaDoor
