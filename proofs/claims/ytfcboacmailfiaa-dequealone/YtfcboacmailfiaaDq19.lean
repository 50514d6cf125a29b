/-
  A deque that one uses alone, beside a slice of the caller's own that is cut at both ends and appended to.
-/
import Derived.Test.YtfcboacmailfiaaDq17
import Derived.ArgAppend
namespace Go.Proofs.Ytfcboacmailfiaa
open Go.RowKit

/-- An operation is begun; run by itself it ends so. -/
def RunsF (w0 W : World) (D p s k n : Nat) (ws' : List (Bool × Int)) (m : Nat) (r1 r2 : Int) (e : Ending) (w' : World) : Prop :=
  ∃ o, e = .returned (.pointer (some ⟨o, 0, none⟩)) ∧ Calls Try.prog 18 #[.pointer (some ⟨p, 0, none⟩), .pointer (some ⟨o, 0, none⟩)] w' fun e w'' => e = .returned (.tuple #[.int .i64 r1, .int .i64 r2]) ∧ DW w0 w'' D p s k n ws' (m + 9) ∧ Fr (fun i => i = p ∨ i = s ∨ W.heap.size ≤ i) W w''
theorem start_runF {w0 W : World} {D p s k n m nn : Nat} {ws ws' : List (Bool × Int)} {v0 v' : Nat → OpV} {r1 r2 : Int} {f : FuncId} {args : Array Value} (h : DW w0 W D p s k n ws m) (hm : m + 9 < 900000)
    (hst : Calls Try.prog f args W fun e w' => e = .returned (.pointer (some ⟨W.heap.size + 2, 0, none⟩)) ∧ OpAt w' (W.heap.size + 2) (v0 (W.heap.size + 2)) ∧ Fr None' W w')
    (hch : Chain nn v0 ws v' ws') (hn9 : nn ≤ 9) (he : ∀ o, endR (v' o) = (r1, r2)) : Calls Try.prog f args W (RunsF w0 W D p s k n ws' m r1 r2) := by
  refine hst.mono ?_
  rintro e w4 ⟨rfl, hO4, hF4⟩
  refine ⟨_, rfl, ?_⟩
  have h4 := h.f0 hF4
  have hrun := run_any nn v0 ws v' ws' hch (by omega) w4 _ p s m hO4 h4.hM (by omega)
  rw [he] at hrun
  refine hrun.mono ?_
  rintro e w5 ⟨rfl, _, hM5, hF5⟩
  have hs0 := h.fr.size
  exact ⟨rfl, ⟨h4.hD.fr hF5 (h4.ne hO4), hM5.more (by omega), h4.fr.then hF5 (fun i hi => .inr (by rcases hi with rfl | rfl | rfl; exact Nat.le_trans hs0 (by omega); exact h.hp; exact h.hs)), h.hp, h.hs⟩, (hF4.mono (fun _ h => h.elim)).trans (hF5.mono (fun i hi => by rcases hi with rfl | rfl | rfl; exact .inr (.inr (by omega)); exact .inl rfl; exact .inr (.inl rfl)))⟩
section
variable {k n : Nat} {ty : TypeId} {w0 W : World} {D p s m c u : Nat} {ws : List (Bool × Int)}
theorem run_pushF (ha : Alone k ty n) (h : DW w0 W D p s k n ws m) (hm : m + 9 < 900000) (l : List Int) (hA : AK k n c ws l u) (hc : c ≤ 10000) (hl : l.length < n) (hu : u < n) (x : Int) :
    ∃ ws', AK k n (c + 1) ws' (l ++ [x]) (u + 1) ∧ Calls Try.prog 19 #[dag k n, .int .i64 x] W (RunsF w0 W D p s k n ws' m 0 0) := by
  obtain ⟨nn, v', ws', hn9, hch, he, hA'⟩ := ha.push c ws l u x hA hc hl hu
  exact ⟨ws', hA', start_runF h hm (ha.kpush W 0 n x) hch hn9 he⟩
theorem run_fullF (ha : Alone k ty n) (hb : AloneP k ty n) (h : DW w0 W D p s k n ws m) (hm : m + 9 < 900000) (l : List Int) (hA : AK k n c ws l u) (hc : c ≤ 10000) (hu : if k = 1 then u = n else l.length = n) (x : Int) :
    Calls Try.prog 19 #[dag k n, .int .i64 x] W (RunsF w0 W D p s k n ws m 0 8) := by
  obtain ⟨nn, v', hn9, hch, he⟩ := hb.full c ws l u x hA hc hu
  exact start_runF h hm (ha.kpush W 0 n x) hch hn9 he
theorem run_popF (ha : Alone k ty n) (hb : AloneP k ty n) (h : DW w0 W D p s k n ws m) (hm : m + 9 < 900000) (y : Int) (r : List Int) (hA : AK k n c ws (if k = 3 then y :: r else r ++ [y]) u) (hc : c ≤ 10000) :
    ∃ ws', AK k n (c + 1) ws' r (if r = [] then 0 else u - 1) ∧ Calls Try.prog 20 #[dag k n] W (RunsF w0 W D p s k n ws' m y 0) := by
  obtain ⟨nn, v', ws', hn9, hch, he, hA'⟩ := hb.pop c ws y r u hA hc
  exact ⟨ws', hA', start_runF h hm (ha.kpop W 0 n) hch hn9 he⟩
theorem run_popEF (ha : Alone k ty n) (h : DW w0 W D p s k n ws m) (hm : m + 9 < 900000) (hA : AK k n c ws [] u) (hc : c ≤ 10000) :
    ∃ ws', AK k n (c + 1) ws' [] 0 ∧ Calls Try.prog 20 #[dag k n] W (RunsF w0 W D p s k n ws' m 0 9) := by
  obtain ⟨nn, v', ws', hn9, hch, he, hA'⟩ := ha.popE c ws u hA hc
  exact ⟨ws', hA', start_runF h hm (ha.kpop W 0 n) hch hn9 he⟩
theorem run_stealF (ha : Alone k ty n) (h : DW w0 W D p s k n ws m) (hm : m + 9 < 900000) (y : Int) (r : List Int) (hA : AK k n c ws (if k = 2 then r ++ [y] else y :: r) u) (hc : c ≤ 10000) :
    ∃ ws', AK k n (c + 1) ws' r u ∧ Calls Try.prog 21 #[dag k n] W (RunsF w0 W D p s k n ws' m y 0) := by
  obtain ⟨nn, v', ws', hn9, hch, he, hA'⟩ := ha.steal c ws y r u hA hc
  exact ⟨ws', hA', start_runF h hm (ha.ksteal W 0 n) hch hn9 he⟩
theorem run_stealEF (ha : Alone k ty n) (h : DW w0 W D p s k n ws m) (hm : m + 9 < 900000) (hA : AK k n c ws [] u) (hc : c ≤ 10000) :
    Calls Try.prog 21 #[dag k n] W (RunsF w0 W D p s k n ws m 0 9) := by
  obtain ⟨nn, v', hn9, hch, he⟩ := ha.stealE c ws u hA hc
  exact start_runF h hm (ha.ksteal W 0 n) hch hn9 he
end

/-- A slice of numbers, in a block from B on, wherever it begins in it. -/
def Ths (w : World) (B : Nat) (v : Value) (l : List Int) : Prop :=
  ∃ (A : Option Addr) (cap : Nat), v = .slice A l.length cap ∧ l.length ≤ cap ∧ ((A = none ∧ cap = 0) ∨ ∃ g off cs, A = some ⟨g, off, none⟩ ∧ B ≤ g ∧ Blk w g 2 cs ∧ off + cap ≤ cs.size ∧ ∀ (j : Nat) (z : Int), l[j]? = some z → cs[off + j]? = some (.int .i64 z))
theorem Ths.nil (w : World) (B : Nat) : Ths w B (.slice none 0 0) [] := ⟨none, 0, rfl, Nat.le_refl _, .inl ⟨rfl, rfl⟩⟩
theorem Ths.fr {w w' : World} {B : Nat} {v : Value} {l : List Int} {X : Nat → Prop} (h : Ths w B v l) (hf : Fr X w w') (hX : ∀ g cs, B ≤ g → Blk w g 2 cs → ¬ X g) : Ths w' B v l := by
  obtain ⟨A, cap, hv, hc, h⟩ := h
  refine ⟨A, cap, hv, hc, ?_⟩
  rcases h with h | ⟨g, off, cs, h1, h2, h3, h4⟩
  · exact .inl h
  · exact .inr ⟨g, off, cs, h1, h2, h3.fr hf (hX g cs h2 h3), h4⟩
theorem Ths.run {w w' : World} {B p s : Nat} {v : Value} {l : List Int} (h : Ths w B v l) (hp : p < B) (hs : s < B) (hf : Fr (fun i => i = p ∨ i = s ∨ w.heap.size ≤ i) w w') : Ths w' B v l :=
  h.fr hf (fun g cs hg hb hx => by have := hb.lt; omega)
theorem Ths.cell {w : World} {B n cap : Nat} {A : Option Addr} {l : List Int} (h : Ths w B (.slice A n cap) l) {j : Nat} {z : Int} (hj : l[j]? = some z) : n = l.length ∧ ∃ g off, A = some ⟨g, off, none⟩ ∧ w.cell? ⟨g, off + j, none⟩ = some (.int .i64 z) := by
  obtain ⟨A', cap', hv, hc, h⟩ := h
  injection hv with h1 h2 h3
  subst h1 h2 h3
  have hjl := (List.getElem?_eq_some_iff.1 hj).1
  rcases h with ⟨_, h0⟩ | ⟨g, off, cs, h1, h2, h3, h4, h5⟩
  · omega
  · exact ⟨rfl, g, off, h1, by rw [h3.cell]; exact h5 j z hj⟩
set_option maxRecDepth 100000 in
/-- The first one is cut off. -/
theorem Ths.tail {w : World} {B n cap : Nat} {A : Option Addr} {y : Int} {r : List Int} (h : Ths w B (.slice A n cap) (y :: r)) :
    ∃ A', (∀ W : World, (Instr.slice 48 (.slice A n cap) (some (.int .i64 1)) none none).run Try.prog W = .ok (.slice A' (n - 1) (cap - 1)) W) ∧ Ths w B (.slice A' (n - 1) (cap - 1)) r := by
  obtain ⟨A0, cap', hv, hc, h⟩ := h
  injection hv with h1 h2 h3
  subst h1 h2 h3
  rw [List.length_cons] at hc ⊢
  refine ⟨if cap = 1 then A else A.map (·.add 1), fun W => ?_, ?_⟩
  · have hrun := @run_slice_l Try.prog W 48 A (r.length + 1) cap (by rfl) .i64 1 (by omega) (by omega)
    rw [hrun]
    have hs : (sizeOf (Try.prog.elem 48)).run Try.prog W = .ok 1 W := rfl
    rw [hs]
    simp only [Result.andThen_ok, sliced, Int.toNat_one, Nat.mul_one]
  · refine ⟨_, cap - 1, rfl, by omega, ?_⟩
    rcases h with ⟨_, h0⟩ | ⟨g, off, cs, rfl, h2, h3, h4, h5⟩
    · omega
    · by_cases e : cap = 1
      · rw [if_pos e]
        exact .inr ⟨g, off, cs, rfl, h2, h3, by omega, fun j z hj => by have := (List.getElem?_eq_some_iff.1 hj).1; omega⟩
      · rw [if_neg e]
        exact .inr ⟨g, off + 1, cs, by simp [Addr.add], h2, h3, by omega, fun j z hj => by rw [show off + 1 + j = off + (j + 1) by omega]; exact h5 (j + 1) z (by simpa using hj)⟩
set_option maxRecDepth 100000 in
/-- The last one is cut off. -/
theorem Ths.init {w : World} {B n cap : Nat} {A : Option Addr} {y : Int} {r : List Int} (h : Ths w B (.slice A n cap) (r ++ [y])) :
    (∀ W : World, (Instr.slice 48 (.slice A n cap) none (some (.int .i64 (r.length : Int))) none).run Try.prog W = .ok (.slice A r.length cap) W) ∧ Ths w B (.slice A r.length cap) r := by
  obtain ⟨A0, cap', hv, hc, h⟩ := h
  injection hv with h1 h2 h3
  subst h1 h2 h3
  rw [List.length_append, List.length_singleton] at hc ⊢
  refine ⟨fun W => ?_, ?_⟩
  · have hrun := @run_slice_h Try.prog W 48 A (r.length + 1) cap (by rfl) .i64 (r.length : Int) (by omega) (by omega)
    rw [hrun]
    have hs : (sizeOf (Try.prog.elem 48)).run Try.prog W = .ok 1 W := rfl
    rw [hs]
    simp only [Result.andThen_ok, sliced, Int.toNat_natCast]
    by_cases e : cap = 0
    · omega
    · rw [if_neg e]
      cases A <;> simp [Addr.add]
  · refine ⟨A, cap, rfl, by omega, ?_⟩
    rcases h with h | ⟨g, off, cs, h1, h2, h3, h4, h5⟩
    · exact .inl h
    · exact .inr ⟨g, off, cs, h1, h2, h3, h4, fun j z hj => h5 j z (by
        have := (List.getElem?_eq_some_iff.1 hj).1
        rw [List.getElem?_append_left this]; exact hj)⟩
theorem info_i64 : (Try.prog.info? 2).map (fun i => (i.zero, i.size, i.bytes)) = some (some (.int .i64 0), 1, 8) := by kernel_rfl
def ic (l : List Int) : List Value := l.map (Value.int .i64)
theorem own_ths {w : World} {B B' : Nat} {v : Value} {l : List Int} (h : w.ownsRow B' 2 1 v l.length (ic l)) (hB : B ≤ B') : Ths w B v l := by
  rcases h.2 with ⟨rfl, h0⟩ | ⟨g, cap, cur, rfl, hb, hg, hnc, hcm, hcs, htk⟩
  · have : l = [] := List.eq_nil_of_length_eq_zero h0
    subst this
    exact Ths.nil w B
  · refine ⟨_, cap, rfl, hnc, .inr ⟨g, 0, cur, rfl, by omega, hg, by omega, fun j z hj => ?_⟩⟩
    have hjl := (List.getElem?_eq_some_iff.1 hj).1
    have h1 : (cur.toList.take (l.length * 1))[j]? = some (.int .i64 z) := by
      rw [htk]
      unfold ic
      rw [List.getElem?_map, hj]
      rfl
    rw [List.getElem?_take, if_pos (by omega)] at h1
    rw [Nat.zero_add, ← Array.getElem?_toList]
    exact h1
theorem ths_append {w : World} {ops : Array Oper} {rest : List Oper} {o : Oper} {a : Act} {Q : Exit → Act → World → Prop} (hg : o.guard = none) (s x : Operand)
    (hop : o.op = Op.call { callee := Callee.builtin Builtin.append, args := #[s, x], argTypes := #[48, 48] }) (B : Nat) (v : Value) (l : List Int) (hs : a.eval s = v) (hT : Ths w B v l)
    (ad : Addr) (c : Nat) (z : Int) (hx : a.eval x = .slice (some ad) 1 c) (hc : w.cell? ad = some (.int .i64 z)) (hl : l.length ≤ 1000) (hB : B ≤ w.heap.size)
    (h : ∀ v' w', Ths w' B v' (l ++ [z]) → Fr (fun i => B ≤ i) w w' → wpList Try.prog ops Q rest (a.put o.dst v') w') : wpList Try.prog ops Q (o :: rest) a w := by
  obtain ⟨i, hi, h2⟩ := Option.map_eq_some_iff.1 info_i64
  simp only [Prod.mk.injEq] at h2
  obtain ⟨z0, z1, z2⟩ := h2
  have hnews : ∀ (j : Nat) (u : Value), [Value.int .i64 z][j]? = some u → w.cell? (ad.add j) = some u := by
    intro j u hj
    cases j with
    | zero => simp at hj; subst hj; simpa [Addr.add] using hc
    | succ j => simp at hj
  have h1c : ∀ u ∈ [Value.int .i64 z], u.oneCell' = true := by intro u hu; simp at hu; subst hu; rfl
  have hgrow : ∀ v' w', w'.ownsRow w.heap.size 2 1 v' (l.length + 1) (ic l ++ [Value.int .i64 z]) → w.grownBy w' none → wpList Try.prog ops Q rest (a.put o.dst v') w' := by
    intro v' w' hown hgr
    refine h v' w' (own_ths (B' := w.heap.size) (by rw [List.length_append, List.length_singleton]; simpa [ic] using hown) hB) ⟨hgr.os, hgr.tape, hgr.output, hgr.size, fun k hk _ => hgr.block k hk (by simp)⟩
  obtain ⟨A, cap, hv, hlc, hT⟩ := hT
  subst hv
  rcases hT with ⟨rfl, rfl⟩ | ⟨g, off, cs, rfl, hBg, hblk, hoc, hcells⟩
  · have hl0 : l = [] := List.eq_nil_of_length_eq_zero (by omega)
    subst hl0
    exact wpList_append_grows w hg s x 48 hop 2 i (.int .i64 0) 1 8 Try.underlying48 hi z0 z1 z2 rfl (by decide) none 0 0 [] hs (fun _ => ⟨rfl, rfl⟩) rfl (fun _ h => by cases h) ad 1 c [.int .i64 z] hx rfl hnews h1c (by decide) (by unfold maxLen; omega) (by omega) hgrow
  · refine wpList_append_arg w hg s x 48 hop 2 i (.int .i64 0) 1 8 Try.underlying48 hi z0 z1 z2 rfl (by decide) g off l.length cap (ic l) hs (by simp [ic]) (fun j u hj => ?_) ad 1 c [.int .i64 z] hx rfl hnews h1c (fun hr j hj => ?_) (by unfold maxLen; omega) (by omega) (fun hr => ?_) (fun _ => hgrow)
    · unfold ic at hj
      rw [List.getElem?_map] at hj
      obtain ⟨q, hq, rfl⟩ := Option.map_eq_some_iff.1 hj
      rw [hblk.cell]
      exact hcells j q hq
    · simp at hj
      subst hj
      refine ⟨?_, hblk.frozen _⟩
      rw [hblk.cell, Array.getElem?_eq_getElem (by omega)]
      rfl
    · refine h _ _ ?_ ?_
      · refine ⟨some ⟨g, off, none⟩, cap, by rw [List.length_append]; rfl, by rw [List.length_append, List.length_singleton]; omega, .inr ⟨g, off, cs.setIfInBounds (off + l.length * 1) (.int .i64 z), rfl, hBg, ?_, by rw [Array.size_setIfInBounds]; exact hoc, fun j q hj => ?_⟩⟩
        · show Blk (w.setCell ⟨g, off + l.length * 1, none⟩ (.int .i64 z)) g 2 _
          exact hblk.set_ _ _
        · rw [Array.getElem?_setIfInBounds]
          by_cases e : j = l.length
          · subst e
            rw [List.getElem?_append_right (Nat.le_refl _)] at hj
            simp at hj
            subst hj
            rw [if_pos (by omega), if_pos (by omega)]
          · have hjl := (List.getElem?_eq_some_iff.1 hj).1
            rw [List.length_append, List.length_singleton] at hjl
            rw [List.getElem?_append_left (by omega)] at hj
            rw [if_neg (by omega)]
            exact hcells j q hj
      · show Fr _ w (w.setCell ⟨g, off + l.length * 1, none⟩ (.int .i64 z))
        exact (Fr.refl _ w).setCell (p := ⟨g, off + l.length * 1, none⟩) (.inl hBg) _
theorem DW.newer {w0 w w' : World} {D p s k n m B : Nat} {ws : List (Bool × Int)} (h : DW w0 w D p s k n ws m) (hD : D < B) (hp : p < B) (hs : s < B) (hB : w0.heap.size ≤ B) (hf : Fr (fun i => B ≤ i) w w') : DW w0 w' D p s k n ws m :=
  ⟨h.hD.fr hf (by omega), h.hM.fr hf (by omega) (by omega), h.fr.then hf (fun i hi => .inr (Nat.le_trans hB hi)), h.hp, h.hs⟩
theorem AK_bounds {k n c u : Nat} {ws : List (Bool × Int)} {l : List Int} (h : AK k n c ws l u) : l.length ≤ n ∧ (k = 1 → l.length ≤ u ∧ u ≤ n) := by
  unfold AK at h
  split at h
  · obtain ⟨t, h⟩ := h
    have h1 := h.eu
    have h2 := h.ur
    exact ⟨by omega, fun _ => ⟨by omega, h2⟩⟩
  · obtain ⟨t, h⟩ := h
    exact ⟨h.ur, fun h => by omega⟩
  · obtain ⟨t, h⟩ := h
    exact ⟨h.ur, fun h' => by subst h'; rename_i h1 _; exact absurd rfl h1⟩
theorem AK_any {k n c u u' : Nat} {ws : List (Bool × Int)} {l : List Int} (h : AK k n c ws l u) (hk : k ≠ 1) : AK k n c ws l u' := by
  unfold AK at h ⊢
  split at h
  · exact absurd rfl hk
  · exact h
  · exact h
end Go.Proofs.Ytfcboacmailfiaa
