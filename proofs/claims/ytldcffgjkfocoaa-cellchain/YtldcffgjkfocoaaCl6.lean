/-
  Layer 13: a world of the laws as plain data; the document's move is the plain machine's.
-/
import Derived.Test.YtldcffgjkfocoaaCl5
namespace Go.Proofs.Ytldcffgjkfocoaa
open Go.RowKit
abbrev F0 : Nat → Prop := fun _ => False

/-- Where all stands. -/
structure Pl where
  V : Nat
  P : Nat
  S : Nat
  L : Nat
  O : Nat → Nat
  A : Nat → Nat
  R : Nat → Nat
def lks (m : List Int) : List Int := [0, m.getD 11 0, m.getD 12 0, m.getD 13 0, m.getD 14 0, m.getD 15 0]
def ptrs (O : Nat → Nat) : List Value := [.pointer (some ⟨O 0, 0, none⟩), .pointer (some ⟨O 1, 0, none⟩), .pointer (some ⟨O 2, 0, none⟩), .pointer (some ⟨O 3, 0, none⟩), .pointer (some ⟨O 4, 0, none⟩), .pointer (some ⟨O 5, 0, none⟩)]
def rco (v : PO) : Array Value := rcl v.x v.nx v.h v.val v.why v.ended v.waits v.first
structure Sta (k : Nat) (v : PO) : Prop where
  base : v.base = 2
  x : v.x = k
  fil : v.fil = (k == 0)
  lk : 1 ≤ k → v.lk = 10 + k
  lk20 : v.lk < 20
theorem Sta.next {k : Nat} {v : PO} (h : Sta k v) (m : List Int) : Sta k (stp v m).1 := by
  have : (stp v m).1.base = v.base ∧ (stp v m).1.x = v.x ∧ (stp v m).1.fil = v.fil ∧ (stp v m).1.lk = v.lk := by
    unfold stp
    (repeat' split) <;> exact ⟨rfl, rfl, rfl, rfl⟩
  obtain ⟨a, b, c, d⟩ := this
  exact ⟨a.trans h.base, b.trans h.x, c.trans h.fil, fun e => d.trans (h.lk e), by rw [d]; exact h.lk20⟩
theorem stp_len (v : PO) (m : List Int) : (stp v m).2.length = m.length := by
  unfold stp
  (repeat' split) <;> simp
/-- The world of the laws. -/
structure WorldIs (w0 w : World) (q : Pl) (ops : Nat → PO) (m : List Int) (b : Nat) : Prop where
  hV : Blk w q.V 42 (vcl q.P (m.getD 2 0) (m.getD 3 0) (m.getD 4 0) q.L (ptrs q.O) (ptrs q.R))
  hM : MI w q.P q.S m b
  hL : Blk w q.L 2 (lcl (lks m))
  hO : ∀ k, k < 6 → OpAt w (q.O k) (q.A k) (ops k)
  hR : ∀ k, k < 6 → Blk w (q.R k) 30 (rco (ops k))
  sep : ∀ i j, i < 6 → j < 6 → i ≠ j → q.O i ≠ q.O j ∧ q.A i ≠ q.A j ∧ q.R i ≠ q.R j
  new : w0.heap.size ≤ q.V ∧ w0.heap.size ≤ q.P ∧ w0.heap.size ≤ q.S ∧ w0.heap.size ≤ q.L
  newo : ∀ k, k < 6 → w0.heap.size ≤ q.O k ∧ w0.heap.size ≤ q.A k ∧ w0.heap.size ≤ q.R k
  fr : Fr F0 w0 w
  len : m.length = 20
  sta : ∀ k, k < 6 → Sta k (ops k)
  wf : ∀ k, k < 6 → WF (ops k)

theorem lks_set {m : List Int} (hl : m.length = 20) (k : Nat) (h1 : 1 ≤ k) (h5 : k ≤ 5) (n : Int) : (lks m).set k n = lks (m.set (10 + k) n) := by
  have : k = 1 ∨ k = 2 ∨ k = 3 ∨ k = 4 ∨ k = 5 := by omega
  unfold lks
  simp only [getD_set m (10 + k) _ n (by omega)]
  rcases this with rfl | rfl | rfl | rfl | rfl <;> rfl
theorem lks_far {m : List Int} (i : Nat) (hi : i < 5) (n : Int) : lks (m.set i n) = lks m := by
  unfold lks
  rw [getD_ne _ _ _ _ (by omega), getD_ne _ _ _ _ (by omega), getD_ne _ _ _ _ (by omega), getD_ne _ _ _ _ (by omega), getD_ne _ _ _ _ (by omega)]

set_option maxHeartbeats 2000000 in
theorem rmove_any (w : World) (V L R p k : Nat) (os rs : List Value) (v : PO) (m : List Int) (hk : k < 6) (hS : Sta k v) (hwf : WF v) (hl : m.length = 20)
    (hV : Blk w V 42 (vcl p (m.getD 2 0) (m.getD 3 0) (m.getD 4 0) L os rs)) (hL : Blk w L 2 (lcl (lks m))) (hR : Blk w R 30 (rco v)) :
    Calls Try.prog 19 #[.pointer (some ⟨V, 2, none⟩), .pointer (some ⟨R, 0, none⟩)] w fun e w' => e = .returned (.tuple #[]) ∧ Blk w' V 42 (vcl p ((stp v m).2.getD 2 0) ((stp v m).2.getD 3 0) ((stp v m).2.getD 4 0) L os rs) ∧ Blk w' L 2 (lcl (lks (stp v m).2)) ∧ Blk w' R 30 (rco (stp v m).1) ∧ Fr (Tri V L R) w w' := by
  obtain ⟨fil, base, x, lk, nx, h, val, why, ended, waits, first, ev, ey⟩ := v
  obtain ⟨rfl, rfl, hfil, hlk, _⟩ := hS
  dsimp only at hfil hlk
  cases ended with
  | true =>
    refine (r_over w V R 2 _ hR rfl).mono ?_
    rintro e w1 ⟨rfl, rfl⟩
    exact ⟨rfl, hV, hL, hR, Fr.refl _ _⟩
  | false =>
    have hle := hwf.le rfl
    obtain ⟨rfl, rfl, rfl, rfl⟩ : waits = false ∧ first = 0 ∧ ev = 0 ∧ ey = 0 := hwf.no rfl
    dsimp only at hle
    unfold rco at hR
    dsimp only at hR
    have gs : ∀ (i j : Nat) (n : Int), i < 20 → (m.set i n).getD j 0 = if i = j then n else m.getD j 0 := fun i j n hi => getD_set m i j n (by omega)
    cases fil with
    | true =>
      obtain rfl : k = 0 := by
        cases k with
        | zero => rfl
        | succ j => simp at hfil
      rw [if_pos rfl] at hle
      have : nx = 0 ∨ nx = 1 ∨ nx = 2 ∨ nx = 3 := by omega
      rcases this with rfl | rfl | rfl | rfl
      · refine (r_f0 w V L R p _ _ _ os rs _ h val why 0 hV hL hR).mono ?_
        rintro e w1 ⟨rfl, a, b, c, d⟩
        have hs : stp ⟨true, 2, ((0 : Nat) : Int), lk, 0, h, val, why, false, false, 0, 0, 0⟩ m = (⟨true, 2, ((0 : Nat) : Int), lk, 1, h, val, why, false, false, 0, 0, 0⟩, m.set 3 val) := by simp [stp]
        rw [hs, gs 3 2 _ (by omega), gs 3 3 _ (by omega), gs 3 4 _ (by omega), lks_far 3 (by omega)]
        exact ⟨rfl, a, b, c, d⟩
      · refine (r_f1 w V L R p _ _ _ os rs _ h val why 0 hV hL hR).mono ?_
        rintro e w1 ⟨rfl, a, b, c, d⟩
        have hs : stp ⟨true, 2, ((0 : Nat) : Int), lk, 1, h, val, why, false, false, 0, 0, 0⟩ m = (⟨true, 2, ((0 : Nat) : Int), lk, 2, h, val, why, false, false, 0, 0, 0⟩, m.set 4 why) := by simp [stp]
        rw [hs, gs 4 2 _ (by omega), gs 4 3 _ (by omega), gs 4 4 _ (by omega), lks_far 4 (by omega)]
        exact ⟨rfl, a, b, c, d⟩
      · refine (r_f2 w V L R p _ _ _ os rs _ h val why 0 hV hL hR).mono ?_
        rintro e w1 ⟨rfl, a, b, c, d⟩
        have hs : stp ⟨true, 2, ((0 : Nat) : Int), lk, 2, h, val, why, false, false, 0, 0, 0⟩ m = (⟨true, 2, ((0 : Nat) : Int), lk, 3, m.getD 2 0, val, why, false, false, 0, 0, 0⟩, m) := by simp [stp]
        rw [hs]
        exact ⟨rfl, a, b, c, d⟩
      · by_cases hm : m.getD 2 0 = h
        · refine (r_f3y w V L R p _ _ _ os rs _ h val why 0 hV hL hR hm).mono ?_
          rintro e w1 ⟨rfl, a, b, c, d⟩
          have hs : stp ⟨true, 2, ((0 : Nat) : Int), lk, 3, h, val, why, false, false, 0, 0, 0⟩ m = (⟨true, 2, ((0 : Nat) : Int), lk, 4, h, val, why, true, false, h, 0, 0⟩, m.set 2 (-1)) := by unfold stp; simp only [hm]; simp
          rw [hs, gs 2 2 _ (by omega), gs 2 3 _ (by omega), gs 2 4 _ (by omega), lks_far 2 (by omega)]
          exact ⟨rfl, a, b, c, d⟩
        · refine (r_f3n w V L R p _ _ _ os rs _ h val why 0 hV hL hR hm).mono ?_
          rintro e w1 ⟨rfl, a, b, c, d⟩
          have hs : stp ⟨true, 2, ((0 : Nat) : Int), lk, 3, h, val, why, false, false, 0, 0, 0⟩ m = (⟨true, 2, ((0 : Nat) : Int), lk, 2, h, val, why, false, false, 0, 0, 0⟩, m) := by unfold stp; simp only [hm]; simp
          rw [hs]
          exact ⟨rfl, a, b, c, d⟩
    | false =>
      have hk1 : 1 ≤ k := by
        cases k with
        | zero => simp at hfil
        | succ j => omega
      obtain rfl := hlk hk1
      have hx : 0 < (k : Int) := by omega
      rw [if_neg (by decide)] at hle
      have : nx = 0 ∨ nx = 1 ∨ nx = 2 ∨ nx = 3 ∨ nx = 4 := by omega
      rcases this with rfl | rfl | rfl | rfl | rfl
      · by_cases hm : m.getD 2 0 = -1
        · refine (r_w0y w V L R p _ _ _ os rs _ _ h val why 0 hV hL hR hx hm).mono ?_
          rintro e w1 ⟨rfl, a, b, c, d⟩
          have hs : stp ⟨false, 2, (k : Int), 10 + k, 0, h, val, why, false, false, 0, 0, 0⟩ m = (⟨false, 2, (k : Int), 10 + k, 3, -1, val, why, false, false, 0, 0, 0⟩, m) := by unfold stp; simp only [hm]; simp
          rw [hs]
          rw [hm] at c a
          exact ⟨rfl, by rw [hm]; exact a, b, c, d⟩
        · refine (r_w0n w V L R p _ _ _ os rs _ _ h val why 0 hV hL hR hx hm).mono ?_
          rintro e w1 ⟨rfl, a, b, c, d⟩
          have hs : stp ⟨false, 2, (k : Int), 10 + k, 0, h, val, why, false, false, 0, 0, 0⟩ m = (⟨false, 2, (k : Int), 10 + k, 1, m.getD 2 0, val, why, false, false, 0, 0, 0⟩, m) := by unfold stp; simp only [hm]; simp
          rw [hs]
          exact ⟨rfl, a, b, c, d⟩
      · have hn : (lks m)[k]? = some ((lks m).getD k 0) := by
          rw [List.getD_eq_getElem?_getD, List.getElem?_eq_getElem (by show k < 6; omega)]; rfl
        refine (r_w1 w V L R p _ _ _ os rs _ k h val why 0 hV hL hR hk1 (by omega) _ hn).mono ?_
        rintro e w1 ⟨rfl, a, b, c, d⟩
        have hs : stp ⟨false, 2, (k : Int), 10 + k, 1, h, val, why, false, false, 0, 0, 0⟩ m = (⟨false, 2, (k : Int), 10 + k, 2, h, val, why, false, false, 0, 0, 0⟩, m.set (10 + k) h) := by simp [stp]
        rw [hs, getD_ne _ _ _ _ (by omega), getD_ne _ _ _ _ (by omega), getD_ne _ _ _ _ (by omega), ← lks_set hl k hk1 (by omega)]
        exact ⟨rfl, a, b, c, d⟩
      · by_cases hm : m.getD 2 0 = h
        · refine (r_w2y w V L R p _ _ _ os rs _ _ h val why 0 hV hL hR hx hm).mono ?_
          rintro e w1 ⟨rfl, a, b, c, d⟩
          have hs : stp ⟨false, 2, (k : Int), 10 + k, 2, h, val, why, false, false, 0, 0, 0⟩ m = (⟨false, 2, (k : Int), 10 + k, 3, h, val, why, true, true, 0, 0, 0⟩, m.set 2 (k : Int)) := by unfold stp; simp only [hm]; simp
          rw [hs, gs 2 2 _ (by omega), gs 2 3 _ (by omega), gs 2 4 _ (by omega), lks_far 2 (by omega)]
          exact ⟨rfl, a, b, c, d⟩
        · refine (r_w2n w V L R p _ _ _ os rs _ _ h val why 0 hV hL hR hx hm).mono ?_
          rintro e w1 ⟨rfl, a, b, c, d⟩
          have hs : stp ⟨false, 2, (k : Int), 10 + k, 2, h, val, why, false, false, 0, 0, 0⟩ m = (⟨false, 2, (k : Int), 10 + k, 0, h, val, why, false, false, 0, 0, 0⟩, m) := by unfold stp; simp only [hm]; simp
          rw [hs]
          exact ⟨rfl, a, b, c, d⟩
      · refine (r_w3 w V L R p _ _ _ os rs _ _ h val why 0 hV hL hR hx).mono ?_
        rintro e w1 ⟨rfl, a, b, c, d⟩
        have hs : stp ⟨false, 2, (k : Int), 10 + k, 3, h, val, why, false, false, 0, 0, 0⟩ m = (⟨false, 2, (k : Int), 10 + k, 4, h, m.getD 3 0, why, false, false, 0, 0, 0⟩, m) := by simp [stp]
        rw [hs]
        exact ⟨rfl, a, b, c, d⟩
      · refine (r_w4 w V L R p _ _ _ os rs _ _ h val why 0 hV hL hR hx).mono ?_
        rintro e w1 ⟨rfl, a, b, c, d⟩
        have hs : stp ⟨false, 2, (k : Int), 10 + k, 4, h, val, why, false, false, 0, 0, 0⟩ m = (⟨false, 2, (k : Int), 10 + k, 5, h, val, m.getD 4 0, true, false, 0, val, m.getD 4 0⟩, m) := by simp [stp]
        rw [hs]
        exact ⟨rfl, a, b, c, d⟩

/-- One that is not touched. -/
theorem four_away {w w' : World} {o a p s : Nat} {g : Nat} {t : TypeId} {cs : Array Value} {v : PO} {m : List Int} {b : Nat} (hB : Blk w g t cs) (hO : OpAt w o a v) (hM : MI w p s m b) (hf : Fr (Four o a p s) w w')
    (h1 : t ≠ 67) (h2 : t ≠ 78) (h3 : t ≠ 75) (h4 : t ≠ 72) (h5 : t ≠ 84) : Blk w' g t cs := by
  obtain ⟨a1, a2⟩ := hO.away hB h1 h2 h3
  obtain ⟨a3, a4⟩ := MI.ne hB hM h4 h5
  exact hB.fr hf (fun h => h.elim a1 (fun h => h.elim a2 (fun h => h.elim a3 a4)))

/-- Behind the code's move. -/
theorem WorldIs.moved {w0 w w' : World} {q : Pl} {ops : Nat → PO} {m : List Int} {b k : Nat} (h : WorldIs w0 w q ops m b) (hk : k < 6) (hf : Fr (Four (q.O k) (q.A k) q.P q.S) w w') :
    Blk w' q.V 42 (vcl q.P (m.getD 2 0) (m.getD 3 0) (m.getD 4 0) q.L (ptrs q.O) (ptrs q.R)) ∧ Blk w' q.L 2 (lcl (lks m)) ∧ (∀ i, i < 6 → Blk w' (q.R i) 30 (rco (ops i))) ∧ (∀ i, i < 6 → i ≠ k → OpAt w' (q.O i) (q.A i) (ops i)) := by
  have hOk := h.hO k hk
  refine ⟨four_away h.hV hOk h.hM hf (by decide) (by decide) (by decide) (by decide) (by decide), four_away h.hL hOk h.hM hf (by decide) (by decide) (by decide) (by decide) (by decide), fun i hi => four_away (h.hR i hi) hOk h.hM hf (by decide) (by decide) (by decide) (by decide) (by decide), fun i hi hik => ?_⟩
  obtain ⟨s1, s2, _⟩ := h.sep i k hi hk hik
  have hOi := h.hO i hi
  obtain ⟨p1, p2⟩ := MI.ne hOi.ho h.hM (by decide) (by decide)
  have n1 : q.O i ≠ q.A k := by
    cases hv : (ops k).fil with
    | true => exact Blk.ne_ hOi.ho (hOk.hf hv) (by decide)
    | false => exact Blk.ne_ hOi.ho (hOk.hw hv) (by decide)
  have n2 : q.A i ≠ q.O k ∧ q.A i ≠ q.P ∧ q.A i ≠ q.S := by
    cases hv : (ops i).fil with
    | true => exact ⟨Blk.ne_ (hOi.hf hv) hOk.ho (by decide), MI.ne (hOi.hf hv) h.hM (by decide) (by decide)⟩
    | false => exact ⟨Blk.ne_ (hOi.hw hv) hOk.ho (by decide), MI.ne (hOi.hw hv) h.hM (by decide) (by decide)⟩
  exact hOi.fr hf (fun h => h.elim s1 (fun h => h.elim n1 (fun h => h.elim p1 p2))) (fun h => h.elim n2.1 (fun h => h.elim s2 (fun h => h.elim n2.2.1 n2.2.2)))

theorem WorldIs.f0 {w0 w w' : World} {q : Pl} {ops : Nat → PO} {m : List Int} {b : Nat} (h : WorldIs w0 w q ops m b) (hf : Fr F0 w w') : WorldIs w0 w' q ops m b :=
  ⟨h.hV.fr hf (fun h => h), h.hM.fr hf (fun h => h) (fun h => h), h.hL.fr hf (fun h => h), fun k hk => (h.hO k hk).fr hf (fun h => h) (fun h => h), fun k hk => (h.hR k hk).fr hf (fun h => h), h.sep, h.new, h.newo, h.fr.trans hf, h.len, h.sta, h.wf⟩
theorem WorldIs.drew {w0 w : World} {q : Pl} {ops : Nat → PO} {m : List Int} {b : Nat} (h : WorldIs w0 w q ops m b) : WorldIs w0 w.drew q ops m b := h.f0 (Fr.refl _ _).drew
theorem WorldIs.mem {w0 w w' : World} {q : Pl} {ops : Nat → PO} {m : List Int} {b c : Nat} (h : WorldIs w0 w q ops m b) (hM : MI w' q.P q.S m c) (hf : Fr (Two q.P q.S) w w') : WorldIs w0 w' q ops m c := by
  have hb : ∀ {g : Nat} {t : TypeId} {cs : Array Value}, Blk w g t cs → t ≠ 72 → t ≠ 84 → Blk w' g t cs := fun hB h1 h2 => by
    obtain ⟨a, c⟩ := MI.ne hB h.hM h1 h2
    exact hB.fr hf (fun h => h.elim a c)
  refine ⟨hb h.hV (by decide) (by decide), hM, hb h.hL (by decide) (by decide), fun k hk => ?_, fun k hk => hb (h.hR k hk) (by decide) (by decide), h.sep, h.new, h.newo, ?_, h.len, h.sta, h.wf⟩
  · have ho := h.hO k hk
    exact ⟨hb ho.ho (by decide) (by decide), fun e => hb (ho.hf e) (by decide) (by decide), fun e => hb (ho.hw e) (by decide) (by decide)⟩
  · exact h.fr.then hf (fun i hi => .inr (by
      rcases hi with rfl | rfl
      · exact h.new.2.1
      · exact h.new.2.2.1))

/-- Behind both moves. -/
theorem WorldIs.next {w0 w w1 w2 : World} {q : Pl} {ops : Nat → PO} {m : List Int} {b k : Nat} (h : WorldIs w0 w q ops m b) (hk : k < 6) {v' : PO} {m' : List Int} (hs : stp (ops k) m = (v', m'))
    (hO1 : OpAt w1 (q.O k) (q.A k) v') (hM1 : MI w1 q.P q.S m' (b + 1)) (hF1 : Fr (Four (q.O k) (q.A k) q.P q.S) w w1)
    (hV2 : Blk w2 q.V 42 (vcl q.P (m'.getD 2 0) (m'.getD 3 0) (m'.getD 4 0) q.L (ptrs q.O) (ptrs q.R))) (hL2 : Blk w2 q.L 2 (lcl (lks m'))) (hR2 : Blk w2 (q.R k) 30 (rco v')) (hF2 : Fr (Tri q.V q.L (q.R k)) w1 w2) :
    WorldIs w0 w2 q (upd ops k v') m' (b + 1) := by
  obtain ⟨hV1, hL1, hR1, hOo⟩ := h.moved hk hF1
  have hv : (stp (ops k) m).1 = v' := by rw [hs]
  have hm : (stp (ops k) m).2 = m' := by rw [hs]
  have away : ∀ {g : Nat} {t : TypeId} {cs : Array Value}, Blk w1 g t cs → t ≠ 42 → t ≠ 2 → t ≠ 30 → Blk w2 g t cs := fun hB h1 h2 h3 =>
    hB.fr hF2 (fun h => h.elim (Blk.ne_ hB hV1 h1) (fun h => h.elim (Blk.ne_ hB hL1 h2) (Blk.ne_ hB (hR1 k hk) h3)))
  have awayo : ∀ {o a : Nat} {v : PO}, OpAt w1 o a v → OpAt w2 o a v := fun ho => ⟨away ho.ho (by decide) (by decide) (by decide), fun e => away (ho.hf e) (by decide) (by decide) (by decide), fun e => away (ho.hw e) (by decide) (by decide) (by decide)⟩
  refine ⟨hV2, ?_, hL2, fun i hi => ?_, fun i hi => ?_, h.sep, h.new, h.newo, ?_, ?_, fun i hi => ?_, fun i hi => ?_⟩
  · obtain ⟨st, hms, a, c⟩ := hM1
    exact ⟨st, ⟨away hms.hp (by decide) (by decide) (by decide), away hms.hs (by decide) (by decide) (by decide)⟩, a, c⟩
  · by_cases hik : i = k
    · subst hik; rw [upd_eq]; exact awayo hO1
    · rw [upd_ne ops v' hik]; exact awayo (hOo i hi hik)
  · by_cases hik : i = k
    · subst hik; rw [upd_eq]; exact hR2
    · rw [upd_ne ops v' hik]
      exact (hR1 i hi).fr hF2 (fun h' => h'.elim (Blk.ne_ (hR1 i hi) hV1 (by decide)) (fun h' => h'.elim (Blk.ne_ (hR1 i hi) hL1 (by decide)) (h.sep i k hi hk hik).2.2))
  · obtain ⟨n1, n2, n3, n4⟩ := h.new
    obtain ⟨n5, n6, n7⟩ := h.newo k hk
    refine (h.fr.then hF1 (fun i hi => .inr ?_)).then hF2 (fun i hi => .inr ?_)
    · rcases hi with rfl | rfl | rfl | rfl <;> assumption
    · rcases hi with rfl | rfl | rfl <;> assumption
  · rw [← hm, stp_len]; exact h.len
  · by_cases hik : i = k
    · subst hik; rw [upd_eq, ← hv]; exact (h.sta i hi).next m
    · rw [upd_ne ops v' hik]; exact h.sta i hi
  · by_cases hik : i = k
    · subst hik; rw [upd_eq, ← hv]; exact (h.wf i hi).stp m
    · rw [upd_ne ops v' hik]; exact h.wf i hi
end Go.Proofs.Ytldcffgjkfocoaa
