/-
  The document's pool in memory; worker. No condition.
-/
import Derived.Test.YtichhieopnbgpaaP25
namespace Go.Proofs.Ytichhieopnbgpaa
open Go.RowKit

def siz (S : Shp) (c : Nat) : Nat := if c = 0 then S.s0 else if c = 1 then S.s1 else S.s2
/-- Where a block stands, class by class. -/
def dW (S : Shp) : Nat → Nat → Nat → Nat → Option (Nat × Nat × Nat × Nat)
  | 0, _, _, _ => none
  | f + 1, c, a, k => if k < S.k * mny S c then some (a + k * siz S c, siz S c, k / mny S c, c) else dW S f (c + 1) (a + S.k * mny S c * siz S c) (k - S.k * mny S c)
theorem whr_dW {S : Shp} {n : Nat} (h : 1 ≤ n) : whr S n = dW S 3 0 0 (n - 1) := by
  unfold whr
  rw [if_neg (by omega)]
  have e1 : ¬ (2 = 0) := by decide
  have e2 : ¬ (2 = 1) := by decide
  have e3 : ¬ (1 = 0) := by decide
  simp only [dW, mny, siz, if_pos, if_neg e1, if_neg e2, if_neg e3, Nat.zero_add]
  rfl
/-- The document's pool's cells. -/
def dpC (S : Shp) (fb rb : Nat) (tv : Value) : Array Value :=
  #[.int .i64 (S.k : Int), .int .i64 (S.s0 : Int), .int .i64 (S.s1 : Int), .int .i64 (S.s2 : Int), .int .i64 (S.m0 : Int), .int .i64 (S.m1 : Int), .int .i64 (S.m2 : Int),
    .slice (some ⟨fb, 0, none⟩) S.k S.k, .slice (some ⟨rb, 0, none⟩) S.k S.k, tv]
/-- Blocks of numbers. -/
def IntB (w : World) (b : Nat) : Prop := ∃ cs fr, w.heap[b]? = some (.cells cs 3 fr)
theorem IntB.ne {w : World} {b g : Nat} {t : TypeId} {cs : Array Value} (h : IntB w b) (hg : Blk w g t cs) (hne : 3 ≠ t) : b ≠ g := by
  rintro rfl
  obtain ⟨c, fr, h⟩ := h
  unfold Blk at hg
  rw [h] at hg
  injection hg with hg
  injection hg with _ ht
  exact hne ht
theorem IntB.lt {w : World} {b : Nat} (h : IntB w b) : b < w.heap.size := by
  obtain ⟨c, fr, h⟩ := h
  rcases Nat.lt_or_ge b w.heap.size with h1 | h1
  · exact h1
  · rw [Array.getElem?_eq_none h1] at h; cases h
theorem IntB.fr {B : Nat → Prop} {w w' : World} {b : Nat} (h : IntB w b) (hf : Fr B w w') (hB : ¬ B b) : IntB w' b := by
  have hl := h.lt
  obtain ⟨c, fr, h⟩ := h
  exact ⟨c, fr, (hf.block b hl hB).trans h⟩
theorem own_int {w : World} {base e n size g : Nat} {v : Value} {xs : List Value} (h : w.ownsRow base e size v n xs) (hg : v.ownBlock = some g) : ∃ cs fr, w.heap[g]? = some (.cells cs e fr) := by
  rcases h.2 with ⟨rfl, _⟩ | ⟨g1, cap, cur, rfl, hb, h1, _⟩
  · cases hg
  · simp only [Value.ownBlock, Option.some.injEq] at hg
    subst hg
    exact ⟨_, _, h1⟩

/-- The document's pool in memory: free rows that are only read, in blocks of Q; rows that others gave back, each with a block of its own; which blocks are taken. -/
structure DR (w : World) (Q : Nat → Prop) (x D fb rb : Nat) (S : Shp) (fv : List Value) (fl : List (List Nat)) (rv : List Value) (rl : List (List Nat)) (tv : Value) (tk : List Bool) : Prop where
  hD : Blk w D 83 (dpC S fb rb tv)
  hf : Blk w fb 77 fv.toArray
  fl3 : fl.length = 3 * S.k
  fvl : fv.length = 3 * S.k
  row : ∀ (i : Nat) (v : Value) (l : List Nat), fv[i]? = some v → fl[i]? = some l → ∃ A c, v = .slice A l.length c ∧ l.length ≤ c ∧ Rd w Q 1 A l.length (nc l)
  qi : ∀ b, Q b → IntB w b
  hr : Blk w rb 75 rv.toArray
  rr : Rws w x rv rl
  rll : rl.length = S.k
  rq : ∀ v ∈ rv, ∀ b, v.ownBlock = some b → ¬ Q b
  ht : w.ownsRow x 4 1 tv tk.length (bc tk)
  htl : tk.length = S.many + 1
  hx : x ≤ w.heap.size
/-- All blocks of the document's pool. -/
def DB (Q : Nat → Prop) (D fb rb : Nat) (rv : List Value) (tv : Value) (k : Nat) : Prop := k = D ∨ k = fb ∨ k = rb ∨ tv.ownBlock = some k ∨ Q k ∨ ∃ v ∈ rv, v.ownBlock = some k
section
variable {w w' : World} {Q : Nat → Prop} {x D fb rb : Nat} {S : Shp} {fv : List Value} {fl : List (List Nat)} {rv : List Value} {rl : List (List Nat)} {tv : Value} {tk : List Bool}
theorem DR.fr {B : Nat → Prop} (h : DR w Q x D fb rb S fv fl rv rl tv tk) (hf : Fr B w w') (hB : ∀ k, DB Q D fb rb rv tv k → ¬ B k) : DR w' Q x D fb rb S fv fl rv rl tv tk :=
  ⟨h.hD.fr hf (hB _ (.inl rfl)), h.hf.fr hf (hB _ (.inr (.inl rfl))), h.fl3, h.fvl, fun i v l h1 h2 => by
    obtain ⟨A, c, e, hc, hR⟩ := h.row i v l h1 h2
    exact ⟨A, c, e, hc, hR.fr hf (fun b hb => hB _ (.inr (.inr (.inr (.inr (.inl hb))))))⟩,
    fun b hb => (h.qi b hb).fr hf (hB _ (.inr (.inr (.inr (.inr (.inl hb)))))), h.hr.fr hf (hB _ (.inr (.inr (.inl rfl)))),
    h.rr.fr hf (fun v hv b hb => hB _ (.inr (.inr (.inr (.inr (.inr ⟨v, hv, hb⟩)))))), h.rll, h.rq,
    own_fr h.ht hf (fun g hg => hB _ (.inr (.inr (.inr (.inl hg))))), h.htl, Nat.le_trans h.hx hf.size⟩
theorem DR.f0 (h : DR w Q x D fb rb S fv fl rv rl tv tk) (hf : Fr F0 w w') : DR w' Q x D fb rb S fv fl rv rl tv tk := h.fr hf (fun _ _ h => h)
theorem DR.lt (h : DR w Q x D fb rb S fv fl rv rl tv tk) {k : Nat} (hk : DB Q D fb rb rv tv k) : k < w.heap.size := by
  rcases hk with rfl | rfl | rfl | hk | hk | ⟨v, hv, hk⟩
  · exact h.hD.lt
  · exact h.hf.lt
  · exact h.hr.lt
  · exact own_lt h.ht _ hk
  · exact (h.qi _ hk).lt
  · exact h.rr.lt hv hk
/-- The cells of D. -/
theorem DR.cells (h : DR w Q x D fb rb S fv fl rv rl tv tk) : w.cell? ⟨D, 0, none⟩ = some (.int .i64 (S.k : Int)) ∧ w.cell? ⟨D, 7, none⟩ = some (.slice (some ⟨fb, 0, none⟩) S.k S.k) ∧ w.cell? ⟨D, 8, none⟩ = some (.slice (some ⟨rb, 0, none⟩) S.k S.k) ∧ w.cell? ⟨D, 9, none⟩ = some tv := by
  refine ⟨?_, ?_, ?_, ?_⟩ <;> (rw [h.hD.cell]; rfl)
end

theorem dworker_yes (w : World) (D : Nat) (k : Nat) (c0 : w.cell? ⟨D, 0, none⟩ = some (.int .i64 (k : Int))) (i : Nat) (hi : i < k) :
    Calls Try.prog 40 #[.pointer (some ⟨D, 0, none⟩), .int .i64 (i : Int)] w fun e w' => e = .returned (.bool true) ∧ w' = w := by
  have g1 : decide ((0 : Int) ≤ (i : Int)) = true := decide_eq_true (by omega)
  have g3 : (i : Int) < (k : Int) := by omega
  go_enter Try.func40, Try.ntmps40
  go_wp2_with fail
  go_ret
  exact ⟨rfl, rfl⟩
theorem dworker_no (w : World) (D : Nat) (k : Nat) (c0 : w.cell? ⟨D, 0, none⟩ = some (.int .i64 (k : Int))) (i : Int) (hi : i < 0 ∨ (k : Int) ≤ i) :
    Calls Try.prog 40 #[.pointer (some ⟨D, 0, none⟩), .int .i64 i] w fun e w' => e = .returned (.bool false) ∧ w' = w := by
  by_cases h0 : i < 0
  · have g1 : decide (0 ≤ i) = false := decide_eq_false (by omega)
    clear hi
    go_enter Try.func40, Try.ntmps40
    go_wp2_with fail
    go_ret
    exact ⟨rfl, rfl⟩
  · have g1 : decide (0 ≤ i) = true := decide_eq_true (by omega)
    have g2 : decide (i < (k : Int)) = false := decide_eq_false (by omega)
    have g3 : ¬ i < (k : Int) := by omega
    clear hi
    go_enter Try.func40, Try.ntmps40
    go_wp2_with fail
    go_ret
    exact ⟨rfl, rfl⟩
end Go.Proofs.Ytichhieopnbgpaa
