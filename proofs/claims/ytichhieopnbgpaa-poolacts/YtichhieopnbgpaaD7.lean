/-
  The document's Home. No condition.
-/
import Derived.Test.YtichhieopnbgpaaD3
namespace Go.Proofs.Ytichhieopnbgpaa
open Go.RowKit

section
variable {w : World} {Q : Nat → Prop} {x D fb rb : Nat} {S : Shp} {fv : List Value} {fl : List (List Nat)} {rv : List Value} {rl : List (List Nat)} {tv : Value} {tk : List Bool}
/-- Are all at home? -/
def dhm (k : Nat) (rl : List (List Nat)) (tk : List Bool) : Bool := (tk.drop 1).all (fun f => !f) && (List.range k).all (fun i => decide ((rl.getD i []).length = 0))
theorem dhm_iff (k : Nat) (rl : List (List Nat)) (tk : List Bool) : dhm k rl tk = true ↔ (∀ n, 1 ≤ n → n < tk.length → tk[n]? = some false) ∧ (∀ i, i < k → (rl.getD i []).length = 0) := by
  unfold dhm
  rw [Bool.and_eq_true, List.all_eq_true, List.all_eq_true]
  constructor
  · rintro ⟨h1, h2⟩
    refine ⟨fun n h n2 => ?_, fun i hi => by simpa using h2 i (List.mem_range.2 hi)⟩
    obtain ⟨f, hf⟩ := of_lt n2
    have hm : f ∈ tk.drop 1 := List.mem_of_getElem? (i := n - 1) (by rw [List.getElem?_drop, show 1 + (n - 1) = n by omega]; exact hf)
    have := h1 f hm
    rw [hf]; simp at this; rw [this]
  · rintro ⟨h1, h2⟩
    refine ⟨fun f hf => ?_, fun i hi => by simpa using h2 i (List.mem_range.1 hi)⟩
    obtain ⟨j, hj⟩ := List.getElem?_of_mem hf
    rw [List.getElem?_drop] at hj
    have := h1 (1 + j) (by omega) (lt_of hj)
    rw [hj] at this
    cases this; rfl

set_option maxHeartbeats 8000000 in
set_option maxRecDepth 100000 in
theorem dhome_q (h : DR w Q x D fb rb S fv fl rv rl tv tk) (hk4 : S.k ≤ 64) (htl : tk.length ≤ 1000) (hrl : ∀ l ∈ rl, l.length ≤ 1000) :
    Calls Try.prog 44 #[.pointer (some ⟨D, 0, none⟩)] w fun e w' => e = .returned (.bool (dhm S.k rl tk)) ∧ w' = w := by
  obtain ⟨k0, k7, k8, k9⟩ := h.cells
  obtain ⟨tb, tc, rfl, htc⟩ := h.tvform
  have HD := Lib.hid h
  have hlen1 := h.htl
  obtain ⟨T, hT⟩ : ∃ T, T = tk.length := ⟨_, rfl⟩
  have HT := Lib.hid hT
  rw [← hT] at k9 htl
  have hT1 : 1 ≤ T := by omega
  have HRL := Lib.hid hrl
  clear h htc hlen1 hT hrl
  go_enter Try.func44, Try.ntmps44
  go_wp2_with fail
  go_loopw [3] (fun nv wx => ∃ n : Nat, 1 ≤ n ∧ n ≤ T ∧ nv = .int .i64 (n : Int) ∧ Hid (∀ m, 1 ≤ m → m < n → tk[m]? = some false) ∧ wx = w) (fun nv _ => T - (intOf nv).toNat)
  case atStart => exact ⟨1, by omega, by omega, rfl, Lib.hid (fun m h1 h2 => by omega), rfl⟩
  case round =>
    obtain ⟨n, hn1, hn2, rfl, HA, rfl⟩ := hrel
    by_cases hnT : n < T
    · have g1 : (n : Int) < (T : Int) := by omega
      obtain ⟨f, hf⟩ := of_lt (show n < tk.length by rw [← HT.out]; exact hnT)
      have ct : wr.cell? ⟨tb, n, none⟩ = some (.bool f) := by
        rw [World.ownsRow.cellAt HD.out.ht n (by rw [← HT.out]; omega), bc_at hf]
      cases f with
      | true =>
        have HNO : Hid (dhm S.k rl tk = false) := Lib.hid (by
          cases hd : dhm S.k rl tk with
          | false => rfl
          | true =>
            have := ((dhm_iff _ _ _).1 hd).1 n hn1 (lt_of hf)
            rw [hf] at this; cases this)
        clear hf
        go_wp2_with fail
        go_ret
        exact ⟨by rw [HNO.out]; rfl, rfl⟩
      | false =>
        have HA2 : Hid (∀ m, 1 ≤ m → m < n + 1 → tk[m]? = some false) := Lib.hid (fun m h1 h2 => by
          by_cases e : m = n
          · subst e; exact hf
          · exact HA.out m h1 (by omega))
        clear hf
        go_wp2_with fail
        exact ⟨⟨n + 1, by omega, by omega, by go_num, HA2, trivial⟩, by simp [intOf]; omega⟩
    · have g1 : ¬ (n : Int) < (T : Int) := by omega
      have HALL : Hid (∀ m, 1 ≤ m → m < tk.length → tk[m]? = some false) := Lib.hid (fun m h1 h2 => HA.out m h1 (by have := HT.out; omega))
      clear HA
      go_wp2_with fail
      go_loopw [4] (fun iv wx => ∃ i : Nat, i ≤ S.k ∧ iv = .int .i64 (i : Int) ∧ Hid (∀ j, j < i → (rl.getD j []).length = 0) ∧ wx = wr) (fun iv _ => S.k - (intOf iv).toNat)
      case atStart => exact ⟨0, by omega, rfl, Lib.hid (fun j h => by omega), rfl⟩
      case round =>
        obtain ⟨i, hi, rfl, HB, rfl⟩ := hrel
        by_cases hik : i < S.k
        · have g2 : (i : Int) < (S.k : Int) := by omega
          obtain ⟨v, hv⟩ := of_lt (show i < rv.length by have := HD.out.rr.len; have := HD.out.rll; omega)
          obtain ⟨l, hl⟩ := of_lt (show i < rl.length by have := HD.out.rll; omega)
          have hown := HD.out.rr.own i v l hv hl
          obtain ⟨A, cp, rfl⟩ := own_slice hown
          have hlm := HRL.out l (List.mem_of_getElem? hl)
          have cr : wr.cell? ⟨rb, i, none⟩ = some (.slice A l.length cp) := by rw [HD.out.hr.cell, List.getElem?_toArray, hv]
          obtain ⟨L, hL⟩ : ∃ L, L = l.length := ⟨_, rfl⟩
          rw [← hL] at cr hlm
          have hg := getDL hl
          by_cases h0 : 0 < L
          · have g3 : (0 : Int) < (L : Int) := by omega
            have HNO : Hid (dhm S.k rl tk = false) := Lib.hid (by
              cases hd : dhm S.k rl tk with
              | false => rfl
              | true =>
                have := ((dhm_iff _ _ _).1 hd).2 i hik
                rw [hg] at this; omega)
            clear hg hl hv hown hL
            go_wp2_with fail
            go_ret
            exact ⟨by rw [HNO.out]; rfl, rfl⟩
          · have g3 : ¬ (0 : Int) < (L : Int) := by omega
            have HB2 : Hid (∀ j, j < i + 1 → (rl.getD j []).length = 0) := Lib.hid (fun j h => by
              by_cases e : j = i
              · subst e; rw [hg]; omega
              · exact HB.out j (by omega))
            clear hg hl hv hown hL
            go_wp2_with fail
            exact ⟨⟨i + 1, by omega, by go_num, HB2, trivial⟩, by simp [intOf]; omega⟩
        · have g2 : ¬ (i : Int) < (S.k : Int) := by omega
          have HYES : Hid (dhm S.k rl tk = true) := Lib.hid ((dhm_iff _ _ _).2 ⟨HALL.out, fun j hj => HB.out j (by omega)⟩)
          go_wp2_with fail
          go_ret
          exact ⟨by rw [HYES.out]; rfl, rfl⟩
end
end Go.Proofs.Ytichhieopnbgpaa
