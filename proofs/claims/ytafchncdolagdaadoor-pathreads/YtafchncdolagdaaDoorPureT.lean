/-
  What a path's text is read as, as plain data.
-/
import Derived.Test.YtafchncdolagdaaDoorRd5
namespace Go.Proofs.YtafchncdolagdaaDoor
open Go.RowKit

theorem dd_small {u : Nat} (h : u < 10) : Lib.decDigits u = [UInt8.ofNat (48 + u)] := by rw [Lib.decDigits, dif_pos h]
theorem dd_big {u : Nat} (h : ¬ u < 10) : Lib.decDigits u = Lib.decDigits (u / 10) ++ [UInt8.ofNat (48 + u % 10)] := by rw [Lib.decDigits, dif_neg h]
theorem fig_nat (d : Nat) (h : d < 10) : ((UInt8.ofNat (48 + d)).toNat : Int) = 48 + d := by
  rw [UInt8.toNat_ofNat']
  omega

theorem dd_all (u : Nat) : fgs (Lib.decDigits u) ≠ [] ∧ (∀ d ∈ fgs (Lib.decDigits u), isFig d) ∧ figV (fgs (Lib.decDigits u)) = u ∧ (1 ≤ u → (fgs (Lib.decDigits u)).getD 0 0 ≠ 48) ∧ (1 < (fgs (Lib.decDigits u)).length → 1 ≤ u) := by
  induction u using Nat.strongRecOn with
  | ind u ih =>
    by_cases h : u < 10
    · rw [dd_small h]
      have hf := fig_nat u h
      simp only [fgs, List.map_cons, List.map_nil, hf]
      refine ⟨by simp, ?_, ?_, ?_, by simp⟩
      · intro d hd
        rw [List.mem_singleton.1 hd]
        unfold isFig; omega
      · simp [figV]; omega
      · intro h1; simp; omega
    · rw [dd_big h]
      have hf := fig_nat (u % 10) (Nat.mod_lt _ (by decide))
      obtain ⟨h1, h2, h3, h4, _⟩ := ih (u / 10) (by omega)
      have e : fgs (Lib.decDigits (u / 10) ++ [UInt8.ofNat (48 + u % 10)]) = fgs (Lib.decDigits (u / 10)) ++ [(48 : Int) + ((u % 10 : Nat) : Int)] := by
        simp only [fgs, List.map_append, List.map_cons, List.map_nil, hf]
      rw [e]
      refine ⟨by simp, ?_, ?_, ?_, fun _ => by omega⟩
      · intro d hd
        rcases List.mem_append.1 hd with hd | hd
        · exact h2 d hd
        · rw [List.mem_singleton.1 hd]
          unfold isFig; omega
      · rw [figV_snoc, h3]; omega
      · intro _
        have := h4 (by omega)
        rw [List.getD_eq_getElem?_getD] at this ⊢
        rw [List.getElem?_append_left (List.length_pos_iff.2 h1)]
        exact this

theorem dd_len (k u : Nat) (h : u < 10 ^ (k + 1)) : (Lib.decDigits u).length ≤ k + 1 := by
  induction k generalizing u with
  | zero => rw [dd_small (by simpa using h)]; simp
  | succ k ih =>
    by_cases h1 : u < 10
    · rw [dd_small h1]; simp
    · rw [dd_big h1]
      have : u / 10 < 10 ^ (k + 1) := by
        rw [Nat.pow_succ] at h
        omega
      have := ih (u / 10) this
      simp; omega

theorem itoa_nat (u : Nat) : Lib.itoa (u : Int) = Lib.decDigits u := by unfold Lib.itoa; rw [if_neg (by omega)]; rfl

theorem okP_itoa (u : Nat) (h : u < 1000000) : okP (Lib.itoa (u : Int)) ∧ valP (Lib.itoa (u : Int)) = u := by
  rw [itoa_nat]
  obtain ⟨h1, h2, h3, h4, h5⟩ := dd_all u
  refine ⟨⟨h1, ?_, fun hl => h4 (h5 hl), h2⟩, h3⟩
  have := dd_len 5 u (by simpa using h)
  simpa [fgs] using this

theorem noDot_itoa (u : Nat) : (46 : UInt8) ∉ Lib.itoa (u : Int) := by
  rw [itoa_nat]
  intro h
  have := (dd_all u).2.1 46 (by unfold fgs; exact List.mem_map.2 ⟨46, h, rfl⟩)
  unfold isFig at this
  omega

theorem splitD_no (c : UInt8) (x : List UInt8) (h : c ∉ x) : splitD c x = [x] := by
  induction x with
  | nil => rfl
  | cons b x ih =>
    rw [List.mem_cons, not_or] at h
    rw [splitD, if_neg (fun e => h.1 e.symm), ih h.2]
    rfl
theorem splitD_at (c : UInt8) (x r : List UInt8) (h : c ∉ x) : splitD c (x ++ c :: r) = x :: splitD c r := by
  induction x with
  | nil => simp [splitD]
  | cons b x ih =>
    rw [List.mem_cons, not_or] at h
    rw [List.cons_append, splitD, if_neg (fun e => h.1 e.symm), ih h.2]
    rfl

theorem join_cons2 (a b : List UInt8) (r : List (List UInt8)) : Lib.join (a :: b :: r) [46] = a ++ 46 :: Lib.join (b :: r) [46] := by
  simp [Lib.join, List.intercalate, List.intersperse]

theorem splitD_join : ∀ (xs : List (List UInt8)), xs ≠ [] → (∀ x ∈ xs, (46 : UInt8) ∉ x) → splitD 46 (Lib.join xs [46]) = xs
  | [], h, _ => absurd rfl h
  | [a], _, h => by
    rw [show Lib.join [a] [46] = a by simp [Lib.join, List.intercalate], splitD_no 46 a (h a (by simp))]
  | a :: b :: r, _, h => by
    rw [join_cons2, splitD_at 46 a _ (h a (by simp)), splitD_join (b :: r) (by simp) (fun x hx => h x (by simp [hx]))]

theorem join_ne (a : List UInt8) (r : List (List UInt8)) (h : a ≠ []) (hd : (46 : UInt8) ∉ a) : Lib.join (a :: r) [46] ≠ [46] := by
  intro e
  cases a with
  | nil => exact h rfl
  | cons b a =>
    rw [List.mem_cons, not_or] at hd
    have hb : ∃ t, Lib.join ((b :: a) :: r) [46] = b :: t := by
      cases r with
      | nil => exact ⟨a, by simp [Lib.join, List.intercalate]⟩
      | cons c r => rw [join_cons2]; exact ⟨_, rfl⟩
    obtain ⟨t, ht⟩ := hb
    rw [ht] at e
    injection e with e1 _
    exact hd.1 e1.symm

/-- What is told is read as it was. -/
theorem back (q : List Nat) (hl : q.length ≤ 30) (h : ∀ u ∈ q, u < 1000000) : readL (txt (q.map fun u : Nat => (u : Int))) = (q.map fun u : Nat => (u : Int), 0) := by
  cases q with
  | nil => rfl
  | cons u r =>
    have hne : ((u :: r).map fun u : Nat => (u : Int)) ≠ [] := by simp
    have hm : (((u :: r).map fun u : Nat => (u : Int)).map Lib.itoa) = (u :: r).map fun u : Nat => Lib.itoa (u : Int) := by rw [List.map_map]; rfl
    unfold txt
    rw [if_neg hne, hm]
    have hsp : splitD 46 (Lib.join ((u :: r).map fun u : Nat => Lib.itoa (u : Int)) [46]) = (u :: r).map fun u : Nat => Lib.itoa (u : Int) := splitD_join _ (by simp) (fun x hx => by
      obtain ⟨v, _, rfl⟩ := List.mem_map.1 hx
      exact noDot_itoa v)
    have hj : Lib.join ((u :: r).map fun u : Nat => Lib.itoa (u : Int)) [46] ≠ [46] := by
      rw [List.map_cons]
      refine join_ne _ _ (fun e => ?_) (noDot_itoa u)
      have := (dd_all u).1
      rw [itoa_nat] at e
      rw [e] at this
      exact this rfl
    unfold readL
    rw [if_neg hj, hsp, if_pos (fun p hp => by
      obtain ⟨v, hv, rfl⟩ := List.mem_map.1 hp
      exact (okP_itoa v (h v hv)).1), if_neg (by simpa using hl)]
    congr 1
    rw [List.map_map]
    refine List.map_congr_left fun v hv => ?_
    exact (okP_itoa v (h v hv)).2

theorem join_len : ∀ (xs : List (List UInt8)) (k : Nat), (∀ x ∈ xs, x.length ≤ k) → (Lib.join xs [46]).length ≤ xs.length * (k + 1)
  | [], k, _ => by simp [Lib.join, List.intercalate]
  | [a], k, h => by
    have := h a (by simp)
    rw [show Lib.join [a] [46] = a by simp [Lib.join, List.intercalate]]
    simp; omega
  | a :: b :: r, k, h => by
    have h1 := h a (by simp)
    have h2 := join_len (b :: r) k (fun x hx => h x (by simp [hx]))
    rw [join_cons2]
    simp only [List.length_append, List.length_cons] at h2 ⊢
    have : (r.length + 1 + 1) * (k + 1) = (r.length + 1) * (k + 1) + (k + 1) := by rw [Nat.add_mul, Nat.one_mul]
    omega

/-- Decimal digits of 64-bit numbers are at most 20. -/
theorem itoa_len (z : Int) (h0 : 0 ≤ z) (h1 : z < 10000000000000000000) : (Lib.itoa z).length ≤ 20 := by
  obtain ⟨u, rfl⟩ := Int.eq_ofNat_of_zero_le h0
  rw [itoa_nat]
  exact Nat.le_trans (dd_len 18 u (by omega)) (by omega)
theorem txt_len (xs : List Int) (hn : xs.length ≤ 30) (h : ∀ z ∈ xs, 0 ≤ z ∧ z < 10000000000000000000) : (txt xs).length ≤ 630 := by
  unfold txt
  split
  · simp
  · have := join_len (xs.map Lib.itoa) 20 (fun x hx => by
      obtain ⟨z, hz, rfl⟩ := List.mem_map.1 hx
      exact itoa_len z (h z hz).1 (h z hz).2)
    rw [List.length_map] at this
    omega
end Go.Proofs.YtafchncdolagdaaDoor
