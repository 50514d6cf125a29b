/-
  The pool as it lies in memory; Take. No condition.
-/
import Derived.Test.YtichhieopnbgpaaP3
namespace Go.Proofs.Ytichhieopnbgpaa
open Go.RowKit

/-- Rows of numbers, each with a block of its own. -/
structure Rws (w : World) (x : Nat) (vs : List Value) (ls : List (List Nat)) : Prop where
  len : vs.length = ls.length
  own : ∀ (i : Nat) (v : Value) (l : List Nat), vs[i]? = some v → ls[i]? = some l → w.ownsRow x 3 1 v l.length (nc l)
  dis : ∀ (i j : Nat) (vi vj : Value) (b : Nat), vs[i]? = some vi → vs[j]? = some vj → vi.ownBlock = some b → vj.ownBlock = some b → i = j
theorem Rws.lt {w : World} {x : Nat} {vs : List Value} {ls : List (List Nat)} (h : Rws w x vs ls) {v : Value} (hv : v ∈ vs) {b : Nat} (hb : v.ownBlock = some b) : b < w.heap.size := by
  obtain ⟨i, hi⟩ := List.getElem?_of_mem hv
  obtain ⟨l, hl⟩ := of_lt (show i < ls.length by have := lt_of hi; have := h.len; omega)
  exact own_lt (h.own i v l hi hl) b hb
theorem Rws.fr {w w' : World} {x : Nat} {vs : List Value} {ls : List (List Nat)} {B : Nat → Prop} (h : Rws w x vs ls) (hf : Fr B w w') (hB : ∀ v ∈ vs, ∀ b, v.ownBlock = some b → ¬ B b) : Rws w' x vs ls :=
  ⟨h.len, fun i v l hv hl => own_fr (h.own i v l hv hl) hf (hB v (List.mem_of_getElem? hv)), h.dis⟩
theorem set_at {α : Type} {l : List α} {i j : Nat} {a x : α} (h : (l.set i a)[j]? = some x) : (j = i ∧ x = a) ∨ (j ≠ i ∧ l[j]? = some x) := by
  by_cases hij : i = j
  · subst hij
    have hl := lt_of h
    rw [List.length_set] at hl
    rw [List.getElem?_set_self hl] at h
    injection h with h
    exact .inl ⟨rfl, h.symm⟩
  · rw [List.getElem?_set_ne hij] at h
    exact .inr ⟨Ne.symm hij, h⟩
theorem Rws.turn {w w4 : World} {x i : Nat} {vs : List Value} {ls : List (List Nat)} {gv nv : Value} {l' : List Nat} (h : Rws w x vs ls) (hgv : vs[i]? = some gv)
    (hF : Fr (fun k => gv.ownBlock = some k) w w4) (hO : w4.ownsRow x 3 1 nv l'.length (nc l')) (hor : ∀ k, nv.ownBlock = some k → gv.ownBlock = some k ∨ w.heap.size ≤ k) : Rws w4 x (vs.set i nv) (ls.set i l') := by
  refine ⟨by rw [List.length_set, List.length_set]; exact h.len, fun j v l hv hl => ?_, fun j k vj vk b hj hk hbj hbk => ?_⟩
  · rcases set_at hv with ⟨rfl, rfl⟩ | ⟨hne, hv'⟩
    · rcases set_at hl with ⟨_, rfl⟩ | ⟨hn, _⟩
      · exact hO
      · exact absurd rfl hn
    · rw [List.getElem?_set_ne (Ne.symm hne)] at hl
      exact own_fr (h.own j v l hv' hl) hF (fun b hb hg => hne (h.dis j i v gv b hv' hgv hb hg))
  · rcases set_at hj with ⟨e1, e2⟩ | ⟨hnj, hj'⟩ <;> rcases set_at hk with ⟨e3, e4⟩ | ⟨hnk, hk'⟩
    · rw [e1, e3]
    · rw [e2] at hbj
      rcases hor b hbj with hg | hg
      · exact absurd (h.dis i k gv vk b hgv hk' hg hbk) (by rw [← e1]; intro he; exact hnk (by rw [← he, e1]))
      · have := h.lt (List.mem_of_getElem? hk') hbk; omega
    · rw [e4] at hbk
      rcases hor b hbk with hg | hg
      · exact absurd (h.dis i j gv vj b hgv hj' hg hbj) (by intro he; exact hnj he.symm)
      · have := h.lt (List.mem_of_getElem? hj') hbj; omega
    · exact h.dis j k vj vk b hj' hk' hbj hbk

def bc (l : List Bool) : List Value := l.map Value.bool
theorem bc_at {l : List Bool} {i : Nat} {a : Bool} (h : l[i]? = some a) : (bc l)[i]? = some (.bool a) := by simp [bc, h]

/-- The blocks that the pool may turn. -/
def PB (vs : List Value) (b t mp ms : Nat) (k : Nat) : Prop := k = b ∨ k = t ∨ k = mp ∨ k = ms ∨ ∃ v ∈ vs, v.ownBlock = some k
structure PR (w : World) (x P mp ms b t : Nat) (S : Shp) (base : Nat) (st : Int) (vs : List Value) (ls : List (List Nat)) (tk : List Bool) (ws : List (Bool × Int)) : Prop where
  hP : PoolB w P S base mp b t
  hb : Blk w b 79 vs.toArray
  hr : Rws w x vs ls
  hl : ls.length = 4 * S.k
  ht : Blk w t 4 (bc tk).toArray
  htl : tk.length = S.many + 1
  hm : MemIs w mp ms ws st
  w1 : ws.length ≤ 65536
  w2 : base + S.words ≤ ws.length
  hx : x ≤ w.heap.size
  hS : S.Ok
section
variable {w w' : World} {x P mp ms b t : Nat} {S : Shp} {base : Nat} {st : Int} {vs : List Value} {ls : List (List Nat)} {tk : List Bool} {ws : List (Bool × Int)}
theorem PR.ownT (h : PR w x P mp ms b t S base st vs ls tk ws) {v : Value} (hv : v ∈ vs) {g : Nat} {ty : TypeId} {cs : Array Value} (hB : Blk w g ty cs) (hne : 3 ≠ ty) : v.ownBlock ≠ some g := by
  obtain ⟨i, hi⟩ := List.getElem?_of_mem hv
  obtain ⟨l, hl⟩ := of_lt (show i < ls.length by have := lt_of hi; have := h.hr.len; omega)
  exact own_ne (h.hr.own i v l hi hl) hB hne
theorem PR.fr {B : Nat → Prop} (h : PR w x P mp ms b t S base st vs ls tk ws) (hf : Fr B w w') (hB : ∀ k, PB vs b t mp ms k → ¬ B k) (hP : ¬ B P) : PR w' x P mp ms b t S base st vs ls tk ws :=
  ⟨h.hP.fr hf hP, h.hb.fr hf (hB _ (.inl rfl)), h.hr.fr hf (fun v hv k hk => hB k (.inr (.inr (.inr (.inr ⟨v, hv, hk⟩))))), h.hl, h.ht.fr hf (hB _ (.inr (.inl rfl))), h.htl, h.hm.fr hf (hB _ (.inr (.inr (.inl rfl)))) (hB _ (.inr (.inr (.inr (.inl rfl))))), h.w1, h.w2, Nat.le_trans h.hx hf.size, h.hS⟩
theorem PR.f0 (h : PR w x P mp ms b t S base st vs ls tk ws) (hf : Fr F0 w w') : PR w' x P mp ms b t S base st vs ls tk ws := h.fr hf (fun _ _ h => h) (fun h => h)
theorem PR.vlen (h : PR w x P mp ms b t S base st vs ls tk ws) : vs.length = 4 * S.k := by rw [h.hr.len, h.hl]
/-- Memory's words have turned. -/
theorem PR.mem (h : PR w x P mp ms b t S base st vs ls tk ws) (hf : Fr (Two mp ms) w w') {ws' : List (Bool × Int)} {st' : Int} (hm : MemIs w' mp ms ws' st') (hl : ws'.length = ws.length) : PR w' x P mp ms b t S base st' vs ls tk ws' := by
  have a1 := Blk.ne_ h.hP h.hm.hp (by decide)
  have a2 := Blk.ne_ h.hP h.hm.hs (by decide)
  have b1 := Blk.ne_ h.hb h.hm.hp (by decide)
  have b2 := Blk.ne_ h.hb h.hm.hs (by decide)
  have c1 := Blk.ne_ h.ht h.hm.hp (by decide)
  have c2 := Blk.ne_ h.ht h.hm.hs (by decide)
  refine ⟨h.hP.fr hf (fun e => e.elim a1 a2), h.hb.fr hf (fun e => e.elim b1 b2), h.hr.fr hf (fun v hv k hk e => ?_), h.hl, h.ht.fr hf (fun e => e.elim c1 c2), h.htl, hm, by rw [hl]; exact h.w1, by rw [hl]; exact h.w2, Nat.le_trans h.hx hf.size, h.hS⟩
  rcases e with e | e
  · subst e; exact h.ownT hv h.hm.hp (by decide) hk
  · subst e; exact h.ownT hv h.hm.hs (by decide) hk
/-- A flag has turned. -/
theorem PR.flag (h : PR w x P mp ms b t S base st vs ls tk ws) (n : Nat) (a : Bool) : PR (w.setCell ⟨t, n, none⟩ (.bool a)) x P mp ms b t S base st vs ls (tk.set n a) ws := by
  have hf : Fr (fun q => q = t) w (w.setCell ⟨t, n, none⟩ (.bool a)) := (Fr.refl (fun q => q = t) w).setCell (p := ⟨t, n, none⟩) (.inl rfl) _
  have h1 := h.ht.set_ n (.bool a)
  rw [List.setIfInBounds_toArray, show (bc tk).set n (.bool a) = bc (tk.set n a) by simp [bc, List.map_set]] at h1
  refine ⟨h.hP.fr hf (Blk.ne_ h.hP h.ht (by decide)), h.hb.fr hf (Blk.ne_ h.hb h.ht (by decide)), h.hr.fr hf (fun v hv k hk e => ?_), h.hl, h1, by rw [List.length_set]; exact h.htl, h.hm.fr hf (Ne.symm (Blk.ne_ h.ht h.hm.hp (by decide))) (Ne.symm (Blk.ne_ h.ht h.hm.hs (by decide))), h.w1, h.w2, Nat.le_trans h.hx hf.size, h.hS⟩
  subst e; exact h.ownT hv h.ht (by decide) hk
/-- A row has turned, and lies in its place. -/
theorem PR.row (h : PR w x P mp ms b t S base st vs ls tk ws) {w4 : World} {i : Nat} {gv nv : Value} {l' : List Nat} (hgv : vs[i]? = some gv) (hF : Fr (fun k => gv.ownBlock = some k) w w4) (hO : w4.ownsRow x 3 1 nv l'.length (nc l'))
    (hor : ∀ k, nv.ownBlock = some k → gv.ownBlock = some k ∨ w.heap.size ≤ k) : PR (w4.setCell ⟨b, i, none⟩ nv) x P mp ms b t S base st (vs.set i nv) (ls.set i l') tk ws := by
  have hgm := List.mem_of_getElem? hgv
  have hP4 := h.hP.fr hF (fun e => h.ownT hgm h.hP (by decide) e)
  have hb4 := h.hb.fr hF (fun e => h.ownT hgm h.hb (by decide) e)
  have ht4 := h.ht.fr hF (fun e => h.ownT hgm h.ht (by decide) e)
  have hm4 := h.hm.fr hF (fun e => h.ownT hgm h.hm.hp (by decide) e) (fun e => h.ownT hgm h.hm.hs (by decide) e)
  have hr4 := h.hr.turn hgv hF hO hor
  have hf : Fr (fun q => q = b) w4 (w4.setCell ⟨b, i, none⟩ nv) := (Fr.refl (fun q => q = b) w4).setCell (p := ⟨b, i, none⟩) (.inl rfl) _
  have hb5 := hb4.set_ i nv
  rw [List.setIfInBounds_toArray] at hb5
  refine ⟨hP4.fr hf (Blk.ne_ hP4 hb4 (by decide)), hb5, hr4.fr hf (fun v hv k hk e => ?_), by rw [List.length_set]; exact h.hl, ht4.fr hf (Blk.ne_ ht4 hb4 (by decide)), h.htl, hm4.fr hf (Ne.symm (Blk.ne_ hb4 hm4.hp (by decide))) (Ne.symm (Blk.ne_ hb4 hm4.hs (by decide))), h.w1, h.w2, Nat.le_trans h.hx (Nat.le_trans hF.size hf.size), h.hS⟩
  subst e
  obtain ⟨j, hj⟩ := List.getElem?_of_mem hv
  obtain ⟨l, hl⟩ := of_lt (show j < (ls.set i l').length by have := lt_of hj; have := hr4.len; omega)
  exact own_ne (hr4.own j v l hj hl) hb4 (by decide) hk
theorem PB.row {i : Nat} {gv nv : Value} {n : Nat} (hgv : vs[i]? = some gv) (hor : ∀ k, nv.ownBlock = some k → gv.ownBlock = some k ∨ n ≤ k) {k : Nat} (h : PB (vs.set i nv) b t mp ms k) : PB vs b t mp ms k ∨ n ≤ k := by
  rcases h with h | h | h | h | ⟨v, hv, hk⟩
  · exact .inl (.inl h)
  · exact .inl (.inr (.inl h))
  · exact .inl (.inr (.inr (.inl h)))
  · exact .inl (.inr (.inr (.inr (.inl h))))
  · obtain ⟨j, hj⟩ := List.getElem?_of_mem hv
    rcases set_at hj with ⟨_, rfl⟩ | ⟨_, hj'⟩
    · rcases hor k hk with h1 | h1
      · exact .inl (.inr (.inr (.inr (.inr ⟨gv, List.mem_of_getElem? hgv, h1⟩))))
      · exact .inr h1
    · exact .inl (.inr (.inr (.inr (.inr ⟨v, List.mem_of_getElem? hj', hk⟩))))
end

theorem live_ok (w : World) (p s : Nat) (ws : List (Bool × Int)) (st : Int) (hM : MemIs w p s ws st) (a n : Nat) (hr : a + n ≤ ws.length) (hl : ws.length ≤ 65536) (hall : ∀ k, k < n → ∃ m, ws[a + k]? = some (false, m)) :
    Calls Try.prog 26 #[.pointer (some ⟨p, 0, none⟩), .int .i64 (a : Int), .int .i64 (n : Int)] w fun e w' => e = .returned (.int .i64 0) ∧ MemIs w' p s (setR ws a n (true, 0)) st ∧ Fr (Two p s) w w' := by
  have HT := Lib.hid (turn_ok w p s ws st hM a n true hr hl hall)
  clear hM hall
  go_enter Try.func26, Try.ntmps26
  go_wp2_with fail
  refine HT.out.mono ?_
  rintro e w1 ⟨rfl, h1, h2⟩
  go_wp2_with fail
  go_ret
  exact ⟨rfl, h1, h2⟩
end Go.Proofs.Ytichhieopnbgpaa
