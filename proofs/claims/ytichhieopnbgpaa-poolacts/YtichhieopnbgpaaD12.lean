/-
  The document's pool and the program's, side by side. No condition.
-/
import Derived.Test.YtichhieopnbgpaaD11
namespace Go.Proofs.Ytichhieopnbgpaa
open Go.RowKit

theorem Rel.take {S : Shp} {σ : St} {fl rl : List (List Nat)} {tk : List Bool} (h : Rel S σ fl rl tk) (base : Nat) {i c n : Nat} {l0 : List Nat} (hi : i < S.k) (hc : c < 3) (hl : σ.ls[i * 4 + c]? = some (l0 ++ [n])) :
    fl[i * 3 + c]? = some (n :: l0.reverse) ∧ Rel S (takeSt S base σ (i * 4 + c) l0 n) (fl.set (i * 3 + c) l0.reverse) rl (tk.set n true) := by
  have e := h.fr i c hi hc
  rw [hl] at e
  simp only [Option.map_some, List.reverse_append, List.reverse_singleton, List.singleton_append] at e
  refine ⟨e, fun i' c' hi' hc' => ?_, fun i' hi' => ?_, by rw [h.tk]; rfl⟩
  · show (fl.set (i * 3 + c) l0.reverse)[i' * 3 + c']? = ((σ.ls.set (i * 4 + c) l0)[i' * 4 + c']?).map List.reverse
    by_cases he : i * 4 + c = i' * 4 + c'
    · have : i * 3 + c = i' * 3 + c' := by omega
      rw [← he, ← this, List.getElem?_set_self (lt_of e), List.getElem?_set_self (lt_of hl)]; rfl
    · rw [List.getElem?_set_ne (by omega), List.getElem?_set_ne he]; exact h.fr i' c' hi' hc'
  · show rl[i']? = (σ.ls.set (i * 4 + c) l0)[i' * 4 + 3]?
    rw [List.getElem?_set_ne (by omega)]; exact h.bk i' hi'
theorem Rel.own {S : Shp} {σ : St} {fl rl : List (List Nat)} {tk : List Bool} (h : Rel S σ fl rl tk) (base : Nat) {o c n : Nat} {l : List Nat} (ho : o < S.k) (hc : c < 3) (hl : σ.ls[o * 4 + c]? = some l) :
    Rel S (giveSt S base σ (o * 4 + c) l n) (fl.set (o * 3 + c) (n :: fl.getD (o * 3 + c) [])) rl (tk.set n false) := by
  have e := h.fr o c ho hc
  rw [hl] at e
  simp only [Option.map_some] at e
  refine ⟨fun i' c' hi' hc' => ?_, fun i' hi' => ?_, by rw [h.tk]; rfl⟩
  · show (fl.set (o * 3 + c) (n :: fl.getD (o * 3 + c) []))[i' * 3 + c']? = ((σ.ls.set (o * 4 + c) (l ++ [n]))[i' * 4 + c']?).map List.reverse
    by_cases he : o * 4 + c = i' * 4 + c'
    · have : o * 3 + c = i' * 3 + c' := by omega
      rw [← he, ← this, List.getElem?_set_self (lt_of e), List.getElem?_set_self (lt_of hl), getDL e]; simp
    · rw [List.getElem?_set_ne (by omega), List.getElem?_set_ne he]; exact h.fr i' c' hi' hc'
  · show rl[i']? = (σ.ls.set (o * 4 + c) (l ++ [n]))[i' * 4 + 3]?
    rw [List.getElem?_set_ne (by omega)]; exact h.bk i' hi'
theorem Rel.back {S : Shp} {σ : St} {fl rl : List (List Nat)} {tk : List Bool} (h : Rel S σ fl rl tk) (base : Nat) {o n : Nat} {l : List Nat} (ho : o < S.k) (hl : σ.ls[o * 4 + 3]? = some l) :
    Rel S (giveSt S base σ (o * 4 + 3) l n) fl (rl.set o (rl.getD o [] ++ [n])) (tk.set n false) := by
  have e := h.bk o ho
  rw [hl] at e
  refine ⟨fun i' c' hi' hc' => ?_, fun i' hi' => ?_, by rw [h.tk]; rfl⟩
  · show fl[i' * 3 + c']? = ((σ.ls.set (o * 4 + 3) (l ++ [n]))[i' * 4 + c']?).map List.reverse
    rw [List.getElem?_set_ne (by omega)]; exact h.fr i' c' hi' hc'
  · show (rl.set o (rl.getD o [] ++ [n]))[i']? = (σ.ls.set (o * 4 + 3) (l ++ [n]))[i' * 4 + 3]?
    by_cases he : o = i'
    · subst he
      rw [List.getElem?_set_self (lt_of e), List.getElem?_set_self (lt_of hl), getDL e]
    · rw [List.getElem?_set_ne he, List.getElem?_set_ne (by omega)]; exact h.bk i' hi'
theorem fold_rel {S : Shp} {i : Nat} (hi : i < S.k) (bk : List Nat) : ∀ (ls fl : List (List Nat)), ls.length = 4 * S.k → (∀ i' c, i' < S.k → c < 3 → fl[i' * 3 + c]? = (ls[i' * 4 + c]?).map List.reverse) →
    ∀ i' c, i' < S.k → c < 3 → (bk.foldl (dh1 S i) fl)[i' * 3 + c]? = ((bk.foldl (home1 S i) ls)[i' * 4 + c]?).map List.reverse := by
  induction bk with
  | nil => intro ls fl _ h; exact h
  | cons n r ih =>
    intro ls fl hl h
    rw [List.foldl_cons, List.foldl_cons]
    refine ih _ _ (by rw [home1_length]; exact hl) (fun i' c hi' hc => ?_)
    have hcl := cls_lt S n
    obtain ⟨l, hl2⟩ := of_lt (show i * 4 + cls S n < ls.length by omega)
    have e := h i (cls S n) hi hcl
    rw [hl2] at e
    simp only [Option.map_some] at e
    unfold dh1 home1
    by_cases he : i * 4 + cls S n = i' * 4 + c
    · have : i * 3 + cls S n = i' * 3 + c := by omega
      rw [← he, ← this, List.getElem?_set_self (lt_of e), List.getElem?_set_self (lt_of hl2), getDL e, getDL hl2]; simp
    · rw [List.getElem?_set_ne (by omega), List.getElem?_set_ne he]; exact h i' c hi' hc
theorem Rel.drain {S : Shp} {base : Nat} {σ : St} {fl rl : List (List Nat)} {tk : List Bool} (h : Rel S σ fl rl tk) (hv : Inv S base σ) {i : Nat} (hi : i < S.k) {bk : List Nat} (hbk : σ.ls[i * 4 + 3]? = some bk) :
    Rel S (drainSt S σ i) (bk.foldl (dh1 S i) fl) (rl.set i []) tk := by
  have hhl := hv.hl
  have e := h.bk i hi
  rw [hbk] at e
  refine ⟨fun i' c hi' hc => ?_, fun i' hi' => ?_, h.tk⟩
  · show _ = ((drainL S i σ.ls)[i' * 4 + c]?).map List.reverse
    unfold drainL
    rw [List.getElem?_set_ne (by omega), getDL hbk]
    exact fold_rel hi bk _ _ hhl h.fr i' c hi' hc
  · show (rl.set i [])[i']? = (drainL S i σ.ls)[i' * 4 + 3]?
    rw [drainL_get (by omega) hbk]
    by_cases he : i = i'
    · subst he
      rw [List.getElem?_set_self (lt_of e), if_pos rfl]
    · rw [List.getElem?_set_ne he, if_neg (by omega), h.bk i' hi']
      cases hx : σ.ls[i' * 4 + 3]? with
      | none => rfl
      | some l => simp only [Option.map_some]; rw [if_neg (by omega)]

/-- The law's guard, with all that is new. -/
def Gn (G : Nat → Prop) (w w' : World) (k : Nat) : Prop := G k ∨ (w.heap.size ≤ k ∧ k < w'.heap.size)
section
variable {w0 w w' : World} {G : Nat → Prop} {P mp D : Nat} {S : Shp} {base : Nat} {st : Int} {σ : St} {fl rl : List (List Nat)} {tk : List Bool}
theorem Pl.guardAll (h : Pl w0 G w P mp S base st σ) (hf : Fr G w w') : Pl w0 (Gn G w w') w' P mp S base st σ := by
  have h' := h.fr hf (fun _ e => e)
  obtain ⟨x, ms, b, t, vs, h⟩ := h
  obtain ⟨hp⟩ : True := trivial
  refine ⟨x, ms, b, t, vs, h.pr.fr hf (fun k hk e => (h.pb k hk).2 e) (fun e => h.gp e), fun k hk => ⟨(h.pb k hk).1, ?_⟩, h.inv, ?_, ?_, Nat.le_trans h.sz hf.size, h.sm, h.bs⟩
  · rintro (e | ⟨e, _⟩)
    · exact (h.pb k hk).2 e
    · have := h.pr.lt hk; omega
  · rintro k (e | ⟨_, e⟩)
    · exact Nat.lt_of_lt_of_le (h.gl k e) hf.size
    · exact e
  · rintro (e | ⟨e, _⟩)
    · exact h.gp e
    · have := h.pr.hP.lt; omega
/-- Behind a step of the document's pool. -/
def DlStep (w0 : World) (G : Nat → Prop) (w : World) (D : Nat) (S : Shp) (σ' : St) (w' : World) : Prop :=
  ∃ fl' rl' tk', Rel S σ' fl' rl' tk' ∧ Dl w0 (Gn G w w') w' D S fl' rl' tk' ∧ Fr G w w'
theorem DlStep.of {Q : Nat → Prop} {fb rb : Nat} {rv : List Value} {tv : Value} {σ' : St} {fl' rl' : List (List Nat)} {tk' : List Bool} (hsz : w0.heap.size ≤ w.heap.size) (hG : ∀ k, DB Q D fb rb rv tv k → G k ∧ w0.heap.size ≤ k)
    (h : DStep w Q w0.heap.size D fb rb S rv tv fl' rl' tk' w') (hR : Rel S σ' fl' rl' tk') : DlStep w0 G w D S σ' w' := by
  obtain ⟨Q', fv', rv', hD, hf, hn⟩ := h
  refine ⟨fl', rl', tk', hR, ⟨Q', fb, rb, fv', rv', tv, hD, fun k hk => ?_⟩, hf.mono (fun k hk => (hG k hk).1)⟩
  rcases hn k hk with h1 | h1
  · exact ⟨.inl (hG k h1).1, (hG k h1).2⟩
  · exact ⟨.inr ⟨h1, hD.lt hk⟩, by omega⟩
theorem DlStep.same (h : Dl w0 G w D S fl rl tk) (hR : Rel S σ fl rl tk) (hf : Fr F0 w w') : DlStep w0 G w D S σ w' :=
  ⟨fl, rl, tk, hR, (h.f0 hf).mono (fun _ e => .inl e), hf.f0⟩
theorem Rel.lens {Q : Nat → Prop} {x fb rb : Nat} {fv rv : List Value} {tv : Value} (hR : Rel S σ fl rl tk) (hv : Inv S base σ) (h : DR w Q x D fb rb S fv fl rv rl tv tk) : (∀ l ∈ fl, l.length ≤ S.many) ∧ ∀ l ∈ rl, l.length ≤ S.many := by
  refine ⟨fun l hl => ?_, fun l hl => ?_⟩
  · obtain ⟨q, hq⟩ := List.getElem?_of_mem hl
    have hlt := lt_of hq
    rw [h.fl3] at hlt
    have e := hR.fr (q / 3) (q % 3) (by omega) (by omega)
    rw [show q / 3 * 3 + q % 3 = q by omega, hq] at e
    cases hx : σ.ls[q / 3 * 4 + q % 3]? with
    | none => rw [hx] at e; cases e
    | some l' =>
      rw [hx] at e
      simp only [Option.map_some, Option.some.injEq] at e
      rw [e, List.length_reverse]
      exact hv.len hx
  · obtain ⟨q, hq⟩ := List.getElem?_of_mem hl
    have hlt := lt_of hq
    rw [h.rll] at hlt
    have e := hR.bk q hlt
    rw [hq] at e
    exact hv.len e.symm

theorem dtake_dl (hk : Small S) (hsz : w0.heap.size ≤ w.heap.size) (hv : Inv S base σ) (hD : Dl w0 G w D S fl rl tk) (hR : Rel S σ fl rl tk) (i c : Int) :
    Calls Try.prog 16 #[.pointer (some ⟨D, 0, none⟩), .int .i64 i, .int .i64 c] w fun e w' => e = .returned (.tuple #[.int .i64 ((takeP S base σ i c).1 : Int), .int .i64 ((takeP S base σ i c).2.1 : Int)]) ∧ DlStep w0 G w D S (takeP S base σ i c).2.2 w' := by
  have hDl := hD
  obtain ⟨Q, fb, rb, fv, rv, tv, h, hG⟩ := hD
  by_cases hb : badRow S i c
  · rw [takeP_bad hb]
    refine (dtake_bad h i c hb).mono ?_
    rintro e w1 ⟨rfl, rfl⟩
    exact ⟨rfl, DlStep.same hDl hR (Fr.refl _ _)⟩
  · obtain ⟨j, rfl⟩ : ∃ j : Nat, i = j := ⟨i.toNat, by unfold badRow at hb; omega⟩
    obtain ⟨d, rfl⟩ : ∃ d : Nat, c = d := ⟨c.toNat, by unfold badRow at hb; omega⟩
    have hj : j < S.k := by unfold badRow at hb; omega
    have hd : d < 3 := by unfold badRow at hb; omega
    have hhl := hv.hl
    obtain ⟨l, hl⟩ := of_lt (show j * 4 + d < σ.ls.length by omega)
    rcases last_cases l with rfl | ⟨l0, n, rfl⟩
    · rw [takeP_empty hj hd hl]
      have e := hR.fr j d hj hd
      rw [hl] at e
      refine (dtake_empty h j d hj hd e).mono ?_
      rintro e w1 ⟨rfl, rfl⟩
      exact ⟨rfl, DlStep.same hDl hR (Fr.refl _ _)⟩
    · obtain ⟨a, z, hw, ht, _⟩ := hv.own hd hl (n := n) (by simp)
      rw [takeP_some hj hd hl]
      obtain ⟨e, hR'⟩ := hR.take base hj hd hl
      have hlen := hv.len hl
      have hmk := hk.n
      have hk4 := hk.k
      refine (dtake_yes h j d hj (by omega) hd n _ e (by rw [hR.tk]; exact lt_of ht) (by rw [h.htl]; omega) (by simp at hlen ⊢; omega)).mono ?_
      rintro e w1 ⟨rfl, fv', hD', hf⟩
      refine ⟨rfl, DlStep.of hsz hG ⟨Q, fv', rv, hD', hf.mono (fun k hk => ?_), fun k hk => .inl hk⟩ hR'⟩
      rcases hk with hk | hk
      · exact .inr (.inl hk)
      · exact .inr (.inr (.inr (.inl hk)))
theorem dgive_dl (hk : Small S) (hsz : w0.heap.size ≤ w.heap.size) (hv : Inv S base σ) (hD : Dl w0 G w D S fl rl tk) (hR : Rel S σ fl rl tk) (i n : Int) :
    Calls Try.prog 18 #[.pointer (some ⟨D, 0, none⟩), .int .i64 i, .int .i64 n] w fun e w' => e = .returned (.int .i64 ((giveP S base σ i n).1 : Int)) ∧ DlStep w0 G w D S (giveP S base σ i n).2 w' := by
  have hDl := hD
  obtain ⟨Q, fb, rb, fv, rv, tv, h, hG⟩ := hD
  by_cases hb : i < 0 ∨ (S.k : Int) ≤ i
  · rw [giveP_bad hb]
    refine (dgive_no h hk i n hb).mono ?_
    rintro e w1 ⟨rfl, hf⟩
    exact ⟨rfl, DlStep.same hDl hR hf⟩
  · obtain ⟨j, rfl⟩ : ∃ j : Nat, i = j := ⟨i.toNat, by omega⟩
    have hj : j < S.k := by omega
    by_cases ho : n < 1 ∨ (S.many : Int) < n
    · rw [giveP_out hj ho]
      refine (dgive_out h j hj n ho).mono ?_
      rintro e w1 ⟨rfl, hf⟩
      exact ⟨rfl, DlStep.same hDl hR hf⟩
    · obtain ⟨d, rfl⟩ : ∃ d : Nat, n = d := ⟨n.toNat, by omega⟩
      obtain ⟨a, z, o, c, hw⟩ := whr_some (S := S) (n := d) (by omega) (by omega)
      have ha := whr_at hw
      have hown := ha.own
      have hcls := ha.cls
      have hhl := hv.hl
      obtain ⟨hl1, hl2⟩ := hR.lens hv h
      have hmk := hk.n
      obtain ⟨f, hf⟩ := of_lt (show d < σ.tk.length by rw [hv.htl]; omega)
      refine (dgive_in h hk j hj d a z o c hw (fun l hl => by have := hl1 l hl; omega) (fun l hl => by have := hl2 l hl; omega)).mono ?_
      rintro e w1 ⟨c1, c2, c3⟩
      rw [hR.tk] at c1 c2 c3
      cases f with
      | false =>
        rw [giveP_state hj (by omega) (by omega) hf]
        obtain ⟨he, hs⟩ := c1 hf
        exact ⟨he, DlStep.of hsz hG (by rw [hR.tk]; exact hs) hR⟩
      | true =>
        by_cases hjo : j = o
        · obtain ⟨l, hl⟩ := of_lt (show o * 4 + c < σ.ls.length by omega)
          rw [giveP_yes (base := base) hj hw hf (by rw [if_pos hjo]) hl]
          obtain ⟨he, hs⟩ := c2 hf hjo
          have hR' := hR.own base (n := d) hown hcls hl
          exact ⟨he, DlStep.of hsz hG (by rw [hR.tk]; exact hs) hR'⟩
        · obtain ⟨l, hl⟩ := of_lt (show o * 4 + 3 < σ.ls.length by omega)
          rw [giveP_yes (base := base) hj hw hf (by rw [if_neg hjo]) hl]
          obtain ⟨he, hs⟩ := c3 hf hjo
          have hR' := hR.back base (n := d) hown hl
          exact ⟨he, DlStep.of hsz hG (by rw [hR.tk]; exact hs) hR'⟩
theorem ddrain_dl (hk : Small S) (hsz : w0.heap.size ≤ w.heap.size) (hv : Inv S base σ) (hD : Dl w0 G w D S fl rl tk) (hR : Rel S σ fl rl tk) (i : Int) :
    Calls Try.prog 20 #[.pointer (some ⟨D, 0, none⟩), .int .i64 i] w fun e w' => e = .returned (.int .i64 ((drainP S σ i).1 : Int)) ∧ DlStep w0 G w D S (drainP S σ i).2 w' := by
  have hDl := hD
  obtain ⟨Q, fb, rb, fv, rv, tv, h, hG⟩ := hD
  by_cases hb : i < 0 ∨ (S.k : Int) ≤ i
  · rw [drainP_bad hb]
    refine (ddrain_no h i hb).mono ?_
    rintro e w1 ⟨rfl, rfl⟩
    exact ⟨rfl, DlStep.same hDl hR (Fr.refl _ _)⟩
  · obtain ⟨j, rfl⟩ : ∃ j : Nat, i = j := ⟨i.toNat, by omega⟩
    have hj : j < S.k := by omega
    have hhl := hv.hl
    obtain ⟨bk, hbk⟩ := of_lt (show j * 4 + 3 < σ.ls.length by omega)
    rw [drainP_yes hj hbk]
    obtain ⟨hl1, hl2⟩ := hR.lens hv h
    have hmk := hk.n
    have hlen := hv.len hbk
    have e := hR.bk j hj
    rw [hbk] at e
    refine (ddrain_yes h hk j hj bk e (by omega) (fun l hl => by have := hl1 l hl; omega) (fun n hn => by
      obtain ⟨a, z, c, hw, _, _⟩ := hv.backs hbk hn
      exact ⟨a, z, c, hw⟩)).mono ?_
    rintro e w1 ⟨rfl, hs⟩
    exact ⟨rfl, DlStep.of hsz hG hs (hR.drain hv hj hbk)⟩
/-- A new pair. -/
theorem Rel.init (S : Shp) (ws : List (Bool × Int)) {gl : List (List Nat)} (h : ∀ q, q < 3 * S.k → gl[q]? = some (asc (frs S (q / 3) (q % 3)) (mny S (q % 3)))) : Rel S (initSt S ws) gl (List.replicate S.k []) (List.replicate (S.many + 1) false) := by
  have hrow : ∀ q, q < 4 * S.k → (initL S)[q]? = some (rowAt S q) := by
    intro q hq
    unfold initL
    rw [List.getElem?_map, List.getElem?_range hq]
    rfl
  refine ⟨fun i c hi hc => ?_, fun i hi => ?_, rfl⟩
  · show _ = ((initL S)[i * 4 + c]?).map List.reverse
    rw [h _ (by omega), hrow _ (by omega), rowAt_of S hc (by omega), Option.map_some, asc_rev, show (i * 3 + c) / 3 = i by omega, show (i * 3 + c) % 3 = c by omega, show (i * 4 + c) / 4 = i by omega]
  · show _ = (initL S)[i * 4 + 3]?
    rw [hrow _ (by omega), rowAt_back S (by omega), List.getElem?_replicate, if_pos hi]
end
end Go.Proofs.Ytichhieopnbgpaa
