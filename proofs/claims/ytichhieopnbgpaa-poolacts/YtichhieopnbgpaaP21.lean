/-
  A pool in memory as a law sees it: its plain data, what always holds of it, and that nothing else turns. No condition.
-/
import Derived.Test.YtichhieopnbgpaaPureR
namespace Go.Proofs.Ytichhieopnbgpaa
open Go.RowKit

/-- What a law's pool may turn: blocks that are newer than the law, but for those that the law guards. -/
abbrev FrG (w0 : World) (G : Nat → Prop) (w w' : World) : Prop := Fr (fun k => w0.heap.size ≤ k ∧ ¬ G k) w w'
structure PlI (w0 : World) (G : Nat → Prop) (w : World) (x P mp ms b t : Nat) (S : Shp) (base : Nat) (st : Int) (vs : List Value) (σ : St) : Prop where
  pr : PR w x P mp ms b t S base st vs σ.ls σ.tk σ.ws
  pb : ∀ k, PB vs b t mp ms k → w0.heap.size ≤ k ∧ ¬ G k
  inv : Inv S base σ
  gl : ∀ g, G g → g < w.heap.size
  gp : ¬ G P
  sz : w0.heap.size ≤ w.heap.size
  sm : S.many ≤ 50000
  bs : base ≤ 100000
def Pl (w0 : World) (G : Nat → Prop) (w : World) (P mp : Nat) (S : Shp) (base : Nat) (st : Int) (σ : St) : Prop :=
  ∃ x ms b t vs, PlI w0 G w x P mp ms b t S base st vs σ

theorem PR.lt {w : World} {x P mp ms b t : Nat} {S : Shp} {base : Nat} {st : Int} {vs : List Value} {ls : List (List Nat)} {tk : List Bool} {ws : List (Bool × Int)} (h : PR w x P mp ms b t S base st vs ls tk ws) {k : Nat} (hk : PB vs b t mp ms k) : k < w.heap.size := by
  rcases hk with rfl | rfl | rfl | rfl | ⟨v, hv, hk⟩
  · exact h.hb.lt
  · exact h.ht.lt
  · exact h.hm.hp.lt
  · exact h.hm.hs.lt
  · exact h.hr.lt hv hk

section
variable {w0 w w' : World} {G : Nat → Prop} {x P mp ms b t : Nat} {S : Shp} {base : Nat} {st : Int} {vs : List Value} {σ : St}
theorem Pl.inv (h : Pl w0 G w P mp S base st σ) : Inv S base σ := by obtain ⟨x, ms, b, t, vs, h⟩ := h; exact h.inv
theorem Pl.sm (h : Pl w0 G w P mp S base st σ) : S.many ≤ 50000 ∧ base ≤ 100000 ∧ S.Ok ∧ σ.ws.length ≤ 65536 := by obtain ⟨x, ms, b, t, vs, h⟩ := h; exact ⟨h.sm, h.bs, h.pr.hS, h.pr.w1⟩
/-- What the law itself turns. -/
theorem Pl.fr {B : Nat → Prop} (h : Pl w0 G w P mp S base st σ) (hf : Fr B w w') (hB : ∀ k, B k → G k) : Pl w0 G w' P mp S base st σ := by
  obtain ⟨x, ms, b, t, vs, h⟩ := h
  exact ⟨x, ms, b, t, vs, h.pr.fr hf (fun k hk e => (h.pb k hk).2 (hB k e)) (fun e => h.gp (hB _ e)), h.pb, h.inv, fun g hg => Nat.lt_of_lt_of_le (h.gl g hg) hf.size, h.gp, Nat.le_trans h.sz hf.size, h.sm, h.bs⟩
theorem Pl.f0 (h : Pl w0 G w P mp S base st σ) (hf : Fr F0 w w') : Pl w0 G w' P mp S base st σ := h.fr hf (fun _ h => h.elim)
/-- One more block of the law's own. -/
theorem Pl.guard (h : Pl w0 G w P mp S base st σ) {g : Nat} (hg : w.heap.size ≤ g) (hf : Fr F0 w w') (hg' : g < w'.heap.size) : Pl w0 (fun k => G k ∨ k = g) w' P mp S base st σ := by
  obtain ⟨x, ms, b, t, vs, h⟩ := h
  refine ⟨x, ms, b, t, vs, h.pr.f0 hf, fun k hk => ⟨(h.pb k hk).1, ?_⟩, h.inv, ?_, ?_, Nat.le_trans h.sz hf.size, h.sm, h.bs⟩
  · rintro (e | rfl)
    · exact (h.pb k hk).2 e
    · have := h.pr.lt hk; omega
  · rintro k (e | rfl)
    · exact Nat.lt_of_lt_of_le (h.gl k e) hf.size
    · exact hg'
  · rintro (e | rfl)
    · exact h.gp e
    · have := h.pr.hP.lt; omega
theorem PlI.step {vs' : List Value} {st' : Int} {σ' : St} (h : PlI w0 G w x P mp ms b t S base st vs σ) (hpr : PR w' x P mp ms b t S base st' vs' σ'.ls σ'.tk σ'.ws) (hf : Fr (PB vs b t mp ms) w w') (hor : ∀ k, PB vs' b t mp ms k → PB vs b t mp ms k ∨ w.heap.size ≤ k) (hi : Inv S base σ') : Pl w0 G w' P mp S base st' σ' ∧ FrG w0 G w w' := by
  refine ⟨⟨x, ms, b, t, vs', hpr, fun k hk => ?_, hi, fun g hg => Nat.lt_of_lt_of_le (h.gl g hg) hf.size, h.gp, Nat.le_trans h.sz hf.size, h.sm, h.bs⟩, hf.mono (fun k hk => h.pb k hk)⟩
  rcases hor k hk with h1 | h1
  · exact h.pb k h1
  · exact ⟨Nat.le_trans h.sz h1, fun e => by have := h.gl k e; omega⟩
theorem FrG.of0 (h : Fr F0 w w') : FrG w0 G w w' := h.f0

/-! ### Take -/
def badRow (S : Shp) (i c : Int) : Prop := (i < 0 ∨ (S.k : Int) ≤ i) ∨ (c < 0 ∨ 3 ≤ c)
instance (S : Shp) (i c : Int) : Decidable (badRow S i c) := by unfold badRow; infer_instance
def takeP (S : Shp) (base : Nat) (σ : St) (i c : Int) : Nat × Nat × St :=
  if badRow S i c then (0, 1, σ) else
    match (σ.ls.getD (i.toNat * 4 + c.toNat) []).getLast? with
    | none => (0, 9, σ)
    | some n => (n, 0, takeSt S base σ (i.toNat * 4 + c.toNat) (σ.ls.getD (i.toNat * 4 + c.toNat) []).dropLast n)
theorem takeP_bad {i c : Int} (h : badRow S i c) : takeP S base σ i c = (0, 1, σ) := by unfold takeP; rw [if_pos h]
theorem takeP_empty {i c : Nat} (hi : i < S.k) (hc : c < 3) (hl : σ.ls[i * 4 + c]? = some []) : takeP S base σ i c = (0, 9, σ) := by
  unfold takeP
  rw [if_neg (by unfold badRow; omega)]
  simp [hl]
theorem takeP_some {i c n : Nat} {l0 : List Nat} (hi : i < S.k) (hc : c < 3) (hl : σ.ls[i * 4 + c]? = some (l0 ++ [n])) : takeP S base σ i c = (n, 0, takeSt S base σ (i * 4 + c) l0 n) := by
  unfold takeP
  rw [if_neg (by unfold badRow; omega)]
  simp [hl]
theorem last_cases (l : List Nat) : l = [] ∨ ∃ l0 n, l = l0 ++ [n] := by
  rcases List.eq_nil_or_concat l with h | ⟨l0, n, h⟩
  · exact .inl h
  · exact .inr ⟨l0, n, by simpa using h⟩
theorem Inv.free (h : Inv S base σ) {n a z o c : Nat} (hw : whr S n = some (a, z, o, c)) (ht : σ.tk[n]? = some false) : ∀ k, k < z → ∃ m, σ.ws[base + a + k]? = some (false, m) := h.wds n a z o c false hw ht
theorem Inv.live (h : Inv S base σ) {n a z o c : Nat} (hw : whr S n = some (a, z, o, c)) (ht : σ.tk[n]? = some true) : ∀ k, k < z → ∃ m, σ.ws[base + a + k]? = some (true, m) := h.wds n a z o c true hw ht

theorem take_pl (h : Pl w0 G w P mp S base st σ) (i c : Int) :
    Calls Try.prog 15 #[.pointer (some ⟨P, 0, none⟩), .int .i64 i, .int .i64 c] w fun e w' => e = .returned (.tuple #[.int .i64 ((takeP S base σ i c).1 : Int), .int .i64 ((takeP S base σ i c).2.1 : Int)]) ∧ Pl w0 G w' P mp S base st (takeP S base σ i c).2.2 ∧ FrG w0 G w w' := by
  have hp := h
  obtain ⟨x, ms, b, t, vs, h⟩ := h
  by_cases hb : badRow S i c
  · rw [takeP_bad hb]
    refine (take_no _ _ _ _ _ _ _ _ _ _ _ _ _ _ h.pr i c hb).mono ?_
    rintro e w1 ⟨rfl, rfl⟩
    exact ⟨rfl, hp, Fr.refl _ _⟩
  · obtain ⟨j, rfl⟩ : ∃ j : Nat, i = j := ⟨i.toNat, by unfold badRow at hb; omega⟩
    obtain ⟨d, rfl⟩ : ∃ d : Nat, c = d := ⟨c.toNat, by unfold badRow at hb; omega⟩
    have hj : j < S.k := by unfold badRow at hb; omega
    have hd : d < 3 := by unfold badRow at hb; omega
    have hhl := h.inv.hl
    obtain ⟨l, hl⟩ := of_lt (show j * 4 + d < σ.ls.length by omega)
    have hlen := h.inv.len hl
    have hsm := h.sm
    rcases last_cases l with rfl | ⟨l0, n, rfl⟩
    · rw [takeP_empty hj hd hl]
      refine (take_empty _ _ _ _ _ _ _ _ _ _ _ _ _ _ h.pr j hj d hd hl).mono ?_
      rintro e w1 ⟨rfl, rfl⟩
      exact ⟨rfl, hp, Fr.refl _ _⟩
    · obtain ⟨a, z, hw, ht, _⟩ := h.inv.own hd hl (n := n) (by simp)
      rw [takeP_some hj hd hl]
      refine (take_yes _ _ _ _ _ _ _ _ _ _ _ _ _ _ h.pr h.bs j hj d hd l0 n hl (by simp at hlen; omega) a z j d hw (h.inv.free hw ht)).mono ?_
      rintro e w1 ⟨rfl, vs', hpr, hf, hor⟩
      have hσ : (takeSt S base σ (j * 4 + d) l0 n).ws = setR σ.ws (base + a) z (true, 0) := setW_of hw
      exact ⟨rfl, h.step (by rw [hσ]; exact hpr) hf hor (h.inv.take hd hl)⟩

/-! ### Give -/
def giveP (S : Shp) (base : Nat) (σ : St) (i n : Int) : Nat × St :=
  if i < 0 ∨ (S.k : Int) ≤ i then (1, σ) else
    if n < 1 ∨ (S.many : Int) < n then (12, σ) else
      if σ.tk.getD n.toNat false then
        match whr S n.toNat with
        | some (_, _, o, c) => (0, giveSt S base σ (if i.toNat = o then o * 4 + c else o * 4 + 3) (σ.ls.getD (if i.toNat = o then o * 4 + c else o * 4 + 3) []) n.toNat)
        | none => (12, σ)
      else (11, σ)
theorem giveP_bad {i n : Int} (h : i < 0 ∨ (S.k : Int) ≤ i) : giveP S base σ i n = (1, σ) := by unfold giveP; rw [if_pos h]
theorem giveP_out {i : Nat} {n : Int} (hi : i < S.k) (h : n < 1 ∨ (S.many : Int) < n) : giveP S base σ i n = (12, σ) := by unfold giveP; rw [if_neg (by omega), if_pos h]
theorem giveP_state {i n : Nat} (hi : i < S.k) (h1 : 1 ≤ n) (h2 : n ≤ S.many) (ht : σ.tk[n]? = some false) : giveP S base σ i n = (11, σ) := by
  unfold giveP; rw [if_neg (by omega), if_neg (by omega)]
  simp [ht]
theorem giveP_yes {i n a z o c ix : Nat} {l : List Nat} (hi : i < S.k) (hw : whr S n = some (a, z, o, c)) (ht : σ.tk[n]? = some true) (hix : ix = if i = o then o * 4 + c else o * 4 + 3) (hl : σ.ls[ix]? = some l) : giveP S base σ i n = (0, giveSt S base σ ix l n) := by
  have ha := whr_at hw
  have h1 := ha.n1
  have h2 := ha.nm
  unfold giveP; rw [if_neg (by omega), if_neg (by omega)]
  simp only [Int.toNat_natCast, List.getD_eq_getElem?_getD, ht, Option.getD_some, if_true, hw, ← hix, hl]
theorem give_pl (h : Pl w0 G w P mp S base st σ) (i n : Int) (hn : n ≤ 9223372036854775807) :
    Calls Try.prog 17 #[.pointer (some ⟨P, 0, none⟩), .int .i64 i, .int .i64 n] w fun e w' => e = .returned (.int .i64 ((giveP S base σ i n).1 : Int)) ∧ Pl w0 G w' P mp S base st (giveP S base σ i n).2 ∧ FrG w0 G w w' := by
  have hp := h
  obtain ⟨x, ms, b, t, vs, h⟩ := h
  by_cases hb : i < 0 ∨ (S.k : Int) ≤ i
  · rw [giveP_bad hb]
    refine (give_no _ _ _ _ _ _ _ _ _ _ _ _ _ _ h.pr i n hb).mono ?_
    rintro e w1 ⟨rfl, rfl⟩
    exact ⟨rfl, hp, Fr.refl _ _⟩
  · obtain ⟨j, rfl⟩ : ∃ j : Nat, i = j := ⟨i.toNat, by omega⟩
    have hj : j < S.k := by omega
    by_cases ho : n < 1 ∨ (S.many : Int) < n
    · rw [giveP_out hj ho]
      refine (give_out _ _ _ _ _ _ _ _ _ _ _ _ _ _ h.pr h.bs j hj n hn ho).mono ?_
      rintro e w1 ⟨rfl, hf⟩
      exact ⟨rfl, hp.f0 hf, hf.f0⟩
    · obtain ⟨d, rfl⟩ : ∃ d : Nat, n = d := ⟨n.toNat, by omega⟩
      obtain ⟨a, z, o, c, hw⟩ := whr_some (S := S) (n := d) (by omega) (by omega)
      have ha := whr_at hw
      have hown := ha.own
      have hcls := ha.cls
      obtain ⟨f, hf⟩ := of_lt (show d < σ.tk.length by rw [h.inv.htl]; omega)
      cases f with
      | false =>
        rw [giveP_state hj (by omega) (by omega) hf]
        refine (give_state _ _ _ _ _ _ _ _ _ _ _ _ _ _ h.pr h.bs j hj d a z o c hw hf).mono ?_
        rintro e w1 ⟨rfl, hf⟩
        exact ⟨rfl, hp.f0 hf, hf.f0⟩
      | true =>
        obtain ⟨ix, hix⟩ : ∃ ix, ix = if j = o then o * 4 + c else o * 4 + 3 := ⟨_, rfl⟩
        have hix2 : ix = o * 4 + c ∨ ix = o * 4 + 3 := by
          by_cases e : j = o
          · rw [if_pos e] at hix; exact .inl hix
          · rw [if_neg e] at hix; exact .inr hix
        have hhl := h.inv.hl
        obtain ⟨l, hl⟩ := of_lt (show ix < σ.ls.length by omega)
        have hlen := h.inv.len hl
        have hsm := h.sm
        rw [giveP_yes hj hw hf hix hl]
        refine (give_yes _ _ _ _ _ _ _ _ _ _ _ _ _ _ h.pr h.bs j hj d a z o c hw hf (h.inv.live hw hf) ix hix l hl (by omega)).mono ?_
        rintro e w1 ⟨rfl, vs', hpr, hfr, hor⟩
        have hσ : (giveSt S base σ ix l d).ws = setR σ.ws (base + a) z (false, 0) := setW_of hw
        exact ⟨rfl, h.step (by rw [hσ]; exact hpr) hfr hor (h.inv.give hw hf hix2 hl)⟩

/-! ### Drain -/
def drainP (S : Shp) (σ : St) (i : Int) : Nat × St := if i < 0 ∨ (S.k : Int) ≤ i then (0, σ) else ((σ.ls.getD (i.toNat * 4 + 3) []).length, drainSt S σ i.toNat)
theorem drainP_bad {i : Int} (h : i < 0 ∨ (S.k : Int) ≤ i) : drainP S σ i = (0, σ) := by unfold drainP; rw [if_pos h]
theorem drainP_yes {i : Nat} (hi : i < S.k) {bk : List Nat} (hbk : σ.ls[i * 4 + 3]? = some bk) : drainP S σ i = (bk.length, drainSt S σ i) := by
  unfold drainP; rw [if_neg (by omega)]; simp [hbk]
theorem drain_pl (h : Pl w0 G w P mp S base st σ) (i : Int) :
    Calls Try.prog 19 #[.pointer (some ⟨P, 0, none⟩), .int .i64 i] w fun e w' => e = .returned (.int .i64 ((drainP S σ i).1 : Int)) ∧ Pl w0 G w' P mp S base st (drainP S σ i).2 ∧ FrG w0 G w w' := by
  have hp := h
  obtain ⟨x, ms, b, t, vs, h⟩ := h
  by_cases hb : i < 0 ∨ (S.k : Int) ≤ i
  · rw [drainP_bad hb]
    refine (drain_no _ _ _ _ _ _ _ _ _ _ _ _ _ _ h.pr i hb).mono ?_
    rintro e w1 ⟨rfl, rfl⟩
    exact ⟨rfl, hp, Fr.refl _ _⟩
  · obtain ⟨j, rfl⟩ : ∃ j : Nat, i = j := ⟨i.toNat, by omega⟩
    have hj : j < S.k := by omega
    have hhl := h.inv.hl
    obtain ⟨bk, hbk⟩ := of_lt (show j * 4 + 3 < σ.ls.length by omega)
    have hlen := h.inv.len hbk
    have hsm := h.sm
    rw [drainP_yes hj hbk]
    refine (drain_yes _ _ _ _ _ _ _ _ _ _ _ _ _ _ h.pr h.bs j hj bk hbk (by omega) (fun l hl => by
      obtain ⟨q, hq⟩ := List.getElem?_of_mem hl
      have := h.inv.len hq
      omega) (fun n hn => by
      obtain ⟨a, z, c, hw, _, _⟩ := h.inv.backs hbk hn
      exact ⟨(whr_at hw).n1, (whr_at hw).nm⟩)).mono ?_
    rintro e w1 ⟨rfl, vs', hpr, hfr, hor⟩
    exact ⟨rfl, h.step hpr hfr hor (h.inv.drain hj)⟩

/-! ### What is asked -/
theorem free_pl (h : Pl w0 G w P mp S base st σ) (i : Nat) (hi : i < S.k) (c : Nat) (hc : c < 3) :
    Calls Try.prog 29 #[.pointer (some ⟨P, 0, none⟩), .int .i64 (i : Int), .int .i64 (c : Int)] w fun e w' => e = .returned (.int .i64 ((σ.ls.getD (i * 4 + c) []).length : Int)) ∧ w' = w := by
  obtain ⟨x, ms, b, t, vs, h⟩ := h
  have hhl := h.inv.hl
  obtain ⟨l, hl⟩ := of_lt (show i * 4 + c < σ.ls.length by omega)
  rw [getDL hl]
  exact pfree_yes _ _ _ _ _ _ _ _ _ _ _ _ _ _ h.pr i hi c hc l hl
theorem remote_pl (h : Pl w0 G w P mp S base st σ) (i : Nat) (hi : i < S.k) :
    Calls Try.prog 30 #[.pointer (some ⟨P, 0, none⟩), .int .i64 (i : Int)] w fun e w' => e = .returned (.int .i64 ((σ.ls.getD (i * 4 + 3) []).length : Int)) ∧ w' = w := by
  obtain ⟨x, ms, b, t, vs, h⟩ := h
  have hhl := h.inv.hl
  obtain ⟨l, hl⟩ := of_lt (show i * 4 + 3 < σ.ls.length by omega)
  rw [getDL hl]
  exact remote_yes _ _ _ _ _ _ _ _ _ _ _ _ _ _ h.pr i hi l hl
theorem home_pl (h : Pl w0 G w P mp S base st σ) :
    Calls Try.prog 31 #[.pointer (some ⟨P, 0, none⟩)] w fun e w' => e = .returned (.bool (!missL S σ.ls)) ∧ Fr F0 w w' := by
  obtain ⟨x, ms, b, t, vs, h⟩ := h
  exact home_any w x P mp ms b t S base st vs _ _ _ h.pr
theorem where_pl (h : Pl w0 G w P mp S base st σ) (n a z o c : Nat) (hw : whr S n = some (a, z, o, c)) :
    Calls Try.prog 24 #[.pointer (some ⟨P, 0, none⟩), .int .i64 (n : Int)] w fun e w' => e = .returned (.tuple #[.int .i64 ((base + a : Nat) : Int), .int .i64 (z : Int), .int .i64 (o : Int), .int .i64 (c : Int), .bool true]) ∧ Fr F0 w w' := by
  obtain ⟨x, ms, b, t, vs, h⟩ := h
  exact where_in _ _ _ _ _ _ _ _ _ _ _ _ _ _ h.pr h.bs n a z o c hw
theorem where_plout (h : Pl w0 G w P mp S base st σ) (n : Int) (hnb : n ≤ 9223372036854775807) (hn : n < 1 ∨ (S.many : Int) < n) :
    Calls Try.prog 24 #[.pointer (some ⟨P, 0, none⟩), .int .i64 n] w fun e w' => e = .returned (.tuple #[.int .i64 0, .int .i64 0, .int .i64 0, .int .i64 0, .bool false]) ∧ Fr F0 w w' := by
  obtain ⟨x, ms, b, t, vs, h⟩ := h
  exact where_out _ _ _ _ _ _ _ _ _ _ _ _ _ _ h.pr h.bs n hnb hn
end

theorem new_pl (w0 w : World) (hf : Fr F0 w0 w) (S : Shp) (hS : S.Ok) (hsm : S.many ≤ 50000) (base mp ms : Nat) (hbase : base ≤ 100000) (ws : List (Bool × Int)) (st : Int) (hM : MemIs w mp ms ws st) (hmp : w0.heap.size ≤ mp) (hms : w0.heap.size ≤ ms) (hwl : ws.length ≤ 65536) (hfit : base + S.words ≤ ws.length) (hfree : ∀ j, j < S.words → ∃ m, ws[base + j]? = some (false, m)) :
    Calls Try.prog 12 #[.pointer (some ⟨mp, 0, none⟩), .int .i64 (base : Int), .agg S.i.cells] w fun e w' => ∃ P, e = .returned (.tuple #[.pointer (some ⟨P, 0, none⟩), .int .i64 0]) ∧ Pl w0 F0 w' P mp S base st (initSt S ws) ∧ Fr F0 w w' := by
  have hsz := hf.size
  refine (new_yes2 w w.heap.size (Nat.le_refl _) S hS base mp ms hbase ws st hM hwl hfit).mono ?_
  rintro e w' ⟨P, b, t, vs, rfl, hpr, hf1, hP, hor⟩
  refine ⟨P, rfl, ⟨_, ms, b, t, vs, hpr, fun k hk => ⟨?_, fun e => e⟩, Inv.init hfree hfit, fun _ e => e.elim, fun e => e, Nat.le_trans hsz hf1.size, hsm, hbase⟩, hf1⟩
  rcases hor k hk with (rfl | rfl) | h1
  · exact hmp
  · exact hms
  · omega
end Go.Proofs.Ytichhieopnbgpaa
