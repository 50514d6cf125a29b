/-
  What stays of the log and of what was told while a task runs; one step of a task.
-/
import Derived.Test.YtbhnnnpofindiaaDoorPureE
namespace Go.Proofs.YtbhnnnpofindiaaDoor
open Go.RowKit

/-- What a run leaves of what was there. -/
structure Keeps (me : Nat) (a b : Sh) : Prop where
  left : b.left ≤ a.left
  log : a.log.length ≤ b.log.length
  other : ∀ j, j < a.log.length → j ≠ me → b.log[j]? = a.log[j]?
  told : b.told.length + b.left.toNat ≤ a.told.length + a.left.toNat
  logs : b.log.length + b.left.toNat ≤ a.log.length + a.left.toNat

theorem Keeps.refl (me : Nat) (a : Sh) : Keeps me a a := ⟨Int.le_refl _, Nat.le_refl _, fun _ _ _ => rfl, Nat.le_refl _, Nat.le_refl _⟩
theorem Keeps.trans {me : Nat} {a b c : Sh} (h : Keeps me a b) (k : Keeps me b c) : Keeps me a c :=
  ⟨Int.le_trans k.left h.left, Nat.le_trans h.log k.log, fun j hj hn => (k.other j (Nat.lt_of_lt_of_le hj h.log) hn).trans (h.other j hj hn), Nat.le_trans k.told h.told, Nat.le_trans k.logs h.logs⟩
theorem keeps_tick {me : Nat} {a : Sh} (h : ¬ a.left ≤ 0) : Keeps me a (tick a me) := by
  have e : (tick a me).left.toNat + 1 = a.left.toNat := by show (a.left - 1).toNat + 1 = _; omega
  have el : (tick a me).log.length = a.log.length := by simp [tick]
  refine ⟨by show a.left - 1 ≤ a.left; omega, by omega, fun j hj hn => ?_, ?_, ?_⟩
  · show (a.log.modify me _)[j]? = _
    rw [List.getElem?_modify]
    simp [Ne.symm hn]
  · show a.told.length + _ ≤ _; omega
  · omega
theorem keeps_tell {me : Nat} {a : Sh} (h : ¬ a.left ≤ 0) (v : Int) : Keeps me a { tick a me with told := (tick a me).told ++ [v] } := by
  have k := keeps_tick (me := me) h
  have e : (tick a me).left.toNat + 1 = a.left.toNat := by show (a.left - 1).toNat + 1 = _; omega
  refine ⟨k.left, k.log, k.other, ?_, k.logs⟩
  show (a.told ++ [v]).length + (tick a me).left.toNat ≤ _
  simp; omega
theorem keeps_enter {me : Nat} {a b : Sh} (h : ¬ a.left ≤ 0) (p : List Int) (hb : Keeps (tick a me).log.length (enter (tick a me) p) b) : Keeps me a b := by
  have k := keeps_tick (me := me) h
  have e : (tick a me).left.toNat + 1 = a.left.toNat := by show (a.left - 1).toNat + 1 = _; omega
  have el : (tick a me).log.length = a.log.length := by simp [tick]
  have h1 : (enter (tick a me) p).log.length = (tick a me).log.length + 1 := by simp [enter]
  have h2 : (enter (tick a me) p).left = (tick a me).left := rfl
  have h3 : (enter (tick a me) p).told = (tick a me).told := rfl
  have t1 := hb.told
  have t2 := hb.logs
  have t3 := hb.log
  have t4 := hb.left
  rw [h1, h2] at t2
  rw [h2, h3] at t1
  rw [h2] at t4
  rw [h1] at t3
  have t5 : (tick a me).told.length = a.told.length := rfl
  refine ⟨Int.le_trans t4 k.left, by omega, fun j hj hn => ?_, by omega, by omega⟩
  rw [hb.other j (by omega) (by omega), ← k.other j hj hn]
  show ((tick a me).log ++ [(p, 0)])[j]? = _
  rw [List.getElem?_append_left (by omega)]

theorem run_keeps (fs : List Fn) (bud dep : Int) : ∀ (f : Nat) (code : List Ins) (path : List Int) (me : Nat) (t : Tk) (sh : Sh), Keeps me sh (run fs bud dep f code path me t sh).2 := by
  intro f
  induction f with
  | zero => intro code path me t sh; exact Keeps.refl _ _
  | succ f ih =>
    intro code path me t sh
    unfold run
    split
    · exact Keeps.refl _ _
    · split
      · exact Keeps.refl _ _
      · rename_i h0
        have ht := keeps_tick (me := me) h0
        simp only
        split
        · exact ht.trans (ih _ _ _ _ _)
        · exact (keeps_tell h0 _).trans (ih _ _ _ _ _)
        · exact ht
        · exact ht
        · split
          · exact ht
          · have hc := keeps_enter h0 (path ++ [(t.kids : Int)]) (ih (codeAt fs (code.getD t.pc ⟨0, 0, 0, 0, 0⟩).c.toNat) (path ++ [(t.kids : Int)]) (tick sh me).log.length (newTk (argsOf fs (code.getD t.pc ⟨0, 0, 0, 0, 0⟩) { t with pc := t.pc + 1 }) t.futs) (enter (tick sh me) (path ++ [(t.kids : Int)])))
            split
            · rename_i v sh2 h2
              rw [h2] at hc
              exact hc.trans (ih _ _ _ _ _)
            · rename_i k sh2 h2
              rw [h2] at hc
              exact hc
            · rename_i sh2 h2
              rw [h2] at hc
              exact hc
theorem runF_keeps (fs : List Fn) (bud dep : Int) (code : List Ins) (path : List Int) (me : Nat) (t : Tk) (sh : Sh) : Keeps me sh (runF fs bud dep code path me t sh).2 := run_keeps fs bud dep _ code path me t sh

/-- What one step of a task comes to. -/
inductive Rs where
  | next (t : Tk) (sh : Sh)
  | done (v : Int) (t : Tk) (sh : Sh)
  | fail (k : Int) (sh : Sh)
  | long (sh : Sh)

/-- What a task comes to that is begun. -/
def kidR (fs : List Fn) (bud dep : Int) (path : List Int) (x : Ins) (t1 : Tk) (sh1 : Sh) : Out × Sh :=
  runF fs bud dep (codeAt fs x.c.toNat) (path ++ [(t1.kids : Int)]) sh1.log.length (newTk (argsOf fs x t1) t1.futs) (enter sh1 (path ++ [(t1.kids : Int)]))

def doR (fs : List Fn) (bud dep : Int) (path : List Int) (x : Ins) (t1 : Tk) (sh1 : Sh) : Rs :=
  match exec x t1 with
  | .next t' => .next t' sh1
  | .tell v t' => .next t' { sh1 with told := sh1.told ++ [v] }
  | .fin v t' => .done v t' sh1
  | .fail k => .fail k sh1
  | .call =>
    if (path.length : Int) = dep then .fail 4 sh1
    else
      match kidR fs bud dep path x t1 sh1 with
      | (.ok v, sh2) => .next (took x v t1) sh2
      | (.fail k, sh2) => .fail k sh2
      | (.long, sh2) => .long sh2

def stepR (fs : List Fn) (bud dep : Int) (code : List Ins) (path : List Int) (me : Nat) (t : Tk) (sh : Sh) : Rs :=
  if steps sh me = bud then .fail 3 sh
  else if sh.left ≤ 0 then .long sh
  else doR fs bud dep path (code.getD t.pc ⟨0, 0, 0, 0, 0⟩) { t with pc := t.pc + 1 } (tick sh me)

def thenR (fs : List Fn) (bud dep : Int) (code : List Ins) (path : List Int) (me : Nat) : Rs → Out × Sh
  | .next t sh => runF fs bud dep code path me t sh
  | .done v _ sh => (.ok v, sh)
  | .fail k sh => (.fail k, sh)
  | .long sh => (.long, sh)

theorem runF_stepR (fs : List Fn) (bud dep : Int) (code : List Ins) (path : List Int) (me : Nat) (t : Tk) (sh : Sh) (h : t.pc < code.length) : runF fs bud dep code path me t sh = thenR fs bud dep code path me (stepR fs bud dep code path me t sh) := by
  unfold stepR
  split
  · rename_i h1
    rw [runF_budget h1]; rfl
  · rename_i h1
    split
    · rename_i h2
      rw [runF_long h1 h2]; rfl
    · rename_i h2
      obtain ⟨x, hx⟩ : ∃ x, code[t.pc]? = some x := ⟨_, List.getElem?_eq_getElem h⟩
      have hd : code.getD t.pc ⟨0, 0, 0, 0, 0⟩ = x := by rw [List.getD_eq_getElem?_getD, hx]; rfl
      rw [runF_step h1 h2 hx, hd]
      unfold after doR kidR
      generalize ({ t with pc := t.pc + 1 } : Tk) = t1
      cases exec x t1 with
      | next t' => rfl
      | tell v t' => rfl
      | fin v t' => rfl
      | fail k => rfl
      | call =>
        simp only
        split
        · rfl
        · generalize runF fs bud dep (codeAt fs x.c.toNat) (path ++ [(t1.kids : Int)]) (tick sh me).log.length (newTk (argsOf fs x t1) t1.futs) (enter (tick sh me) (path ++ [(t1.kids : Int)])) = r
          obtain ⟨o, sh2⟩ := r
          cases o <;> rfl

/-- The fields of an instruction that may be. -/
structure InsOk (fs : List Fn) (pl : Nat) (x : Ins) (op a b c : Nat) : Prop where
  eop : x.op = op
  ea : x.a = a
  eb : x.b = b
  ec : x.c = c
  op1 : 1 ≤ op
  op17 : op ≤ 17
  a8 : a < 8
  b8 : b < 8
  c8 : 3 ≤ op → op ≤ 8 → c < 8
  fut : op = 13 → a < 4
  tch : op = 14 → b < 4
  fn : op = 11 ∨ op = 13 → c < fs.length ∧ (arityAt fs c).toNat + b ≤ 8
  place : op = 9 ∨ op = 10 → 0 ≤ x.k ∧ x.k < pl

theorem field_zero {fs : List Fn} {pl : Nat} {x : Ins} {op : Nat} (ho : x.op = op) (h2 : ∀ j, j < 4 → unusedE x j = 0) (h3 : ∀ j, j < 4 → fieldsE fs.length pl x j = 0) (j : Nat) (hj : j < 4) :
    (kdAt op j = 0 → x.num j = 0) ∧ (kdAt op j = 1 → 0 ≤ x.num j ∧ x.num j < 8) ∧ (kdAt op j = 2 → 0 ≤ x.num j ∧ x.num j < 4) ∧ (kdAt op j = 3 → 0 ≤ x.num j ∧ x.num j < fs.length) ∧ (kdAt op j = 4 → 0 ≤ x.num j ∧ x.num j < pl) := by
  have u := h2 j hj
  have f := h3 j hj
  unfold unusedE at u
  unfold fieldsE at f
  rw [ho, Int.toNat_natCast] at u f
  refine ⟨fun h => ?_, fun h => ?_, fun h => ?_, fun h => ?_, fun h => ?_⟩
  · by_cases hx : x.num j = 0
    · exact hx
    · rw [if_neg (by rw [h]; simp [hx])] at u
      exact absurd u (by decide)
  · rw [h] at f
    exact rngE_zero (e := 6) (by decide) f
  · rw [h] at f
    exact rngE_zero (e := 6) (by decide) f
  · rw [h] at f
    exact rngE_zero (e := 5) (by decide) f
  · rw [h] at f
    exact rngE_zero (e := 6) (by decide) f

theorem ins_ok {fs : List Fn} {pl : Nat} {x : Ins} (h : insE fs pl x = 0) : ∃ op a b c : Nat, InsOk fs pl x op a b c := by
  obtain ⟨h1, h2, h3, h4⟩ := insE_nought h
  obtain ⟨op, ho⟩ := Int.eq_ofNat_of_zero_le (show 0 ≤ x.op by omega)
  have hop : 1 ≤ op ∧ op ≤ 17 := by omega
  have F0 := field_zero ho h2 h3 0 (by decide)
  have F1 := field_zero ho h2 h3 1 (by decide)
  have F2 := field_zero ho h2 h3 2 (by decide)
  have F3 := field_zero ho h2 h3 3 (by decide)
  have k0 : ∀ op, op < 18 → 1 ≤ op → kdAt op 0 = 0 ∨ kdAt op 0 = 1 ∨ kdAt op 0 = 2 := by decide
  have k1 : ∀ op, op < 18 → 1 ≤ op → kdAt op 1 = 0 ∨ kdAt op 1 = 1 ∨ kdAt op 1 = 2 := by decide
  have k2 : ∀ op, op < 18 → 1 ≤ op → kdAt op 2 = 0 ∨ kdAt op 2 = 1 ∨ kdAt op 2 = 3 := by decide
  have k2r : ∀ op, op < 18 → 3 ≤ op → op ≤ 8 → kdAt op 2 = 1 := by decide
  have A := k0 op (by omega) hop.1
  have B := k1 op (by omega) hop.1
  have C := k2 op (by omega) hop.1
  have ha : 0 ≤ x.a ∧ x.a < 8 := by
    show 0 ≤ x.num 0 ∧ x.num 0 < 8
    rcases A with A | A | A
    · have := F0.1 A; omega
    · exact F0.2.1 A
    · have := F0.2.2.1 A; omega
  have hb : 0 ≤ x.b ∧ x.b < 8 := by
    show 0 ≤ x.num 1 ∧ x.num 1 < 8
    rcases B with B | B | B
    · have := F1.1 B; omega
    · exact F1.2.1 B
    · have := F1.2.2.1 B; omega
  have hc : 0 ≤ x.c := by
    show 0 ≤ x.num 2
    rcases C with C | C | C
    · have := F2.1 C; omega
    · exact (F2.2.1 C).1
    · exact (F2.2.2.2.1 C).1
  obtain ⟨a, ea⟩ := Int.eq_ofNat_of_zero_le ha.1
  obtain ⟨b, eb⟩ := Int.eq_ofNat_of_zero_le hb.1
  obtain ⟨c, ec⟩ := Int.eq_ofNat_of_zero_le hc
  refine ⟨op, a, b, c, ho, ea, eb, ec, hop.1, hop.2, by omega, by omega, fun g1 g2 => ?_, fun g => ?_, fun g => ?_, fun g => ?_, fun g => ?_⟩
  · have h5 : 0 ≤ x.c ∧ x.c < 8 := F2.2.1 (k2r op (by omega) g1 g2)
    omega
  · have h5 : 0 ≤ x.a ∧ x.a < 4 := F0.2.2.1 (by subst g; decide)
    omega
  · have h5 : 0 ≤ x.b ∧ x.b < 4 := F1.2.2.1 (by subst g; decide)
    omega
  · have h5 : 0 ≤ x.c ∧ x.c < fs.length := F2.2.2.2.1 (by rcases g with g | g <;> subst g <;> decide)
    unfold callE at h4
    refine ⟨by omega, ?_⟩
    by_cases h6 : 8 - x.b < arityAt fs x.c
    · rw [if_pos ⟨by omega, h6⟩] at h4
      exact absurd h4 (by decide)
    · rw [ec] at h6
      omega
  · exact F3.2.2.2.2 (by rcases g with g | g <;> subst g <;> decide)

/-- Where a task goes on. -/
theorem exec_pc {fs : List Fn} {pl : Nat} {x : Ins} {op a b c : Nat} (h : InsOk fs pl x op a b c) {t t' : Tk} (hp : t.pc < pl ∨ op = 9) (he : exec x t = .next t' ∨ ∃ v, exec x t = .tell v t') : t'.pc < pl := by
  have e1 : x.op.toNat = op := by rw [h.eop]; rfl
  have o17 := h.op17
  have o1 := h.op1
  unfold exec at he
  rw [e1] at he
  have : op = 1 ∨ op = 2 ∨ op = 3 ∨ op = 4 ∨ op = 5 ∨ op = 6 ∨ op = 7 ∨ op = 8 ∨ op = 9 ∨ op = 10 ∨ op = 11 ∨ op = 12 ∨ op = 13 ∨ op = 14 ∨ op = 15 ∨ op = 16 ∨ op = 17 := by omega
  rcases this with rfl | rfl | rfl | rfl | rfl | rfl | rfl | rfl | rfl | rfl | rfl | rfl | rfl | rfl | rfl | rfl | rfl
  all_goals simp only at he
  case inr.inr.inr.inr.inr.inr.inr.inr.inl =>
    have := h.place (.inl rfl)
    rcases he with he | ⟨v, he⟩
    · injection he with he
      subst he
      show x.k.toNat < pl
      omega
    · cases he
  case inr.inr.inr.inr.inr.inr.inr.inr.inr.inl =>
    have := h.place (.inr rfl)
    have hp' : t.pc < pl := by rcases hp with hp | hp; exact hp; cases hp
    split at he
    · rcases he with he | ⟨v, he⟩
      · injection he with he
        subst he
        show x.k.toNat < pl
        omega
      · cases he
    · rcases he with he | ⟨v, he⟩
      · injection he with he
        subst he
        exact hp'
      · cases he
  all_goals
    have hp' : t.pc < pl := by rcases hp with hp | hp; exact hp; cases hp
    (try split at he)
    all_goals
      rcases he with he | ⟨v, he⟩
      all_goals first
        | (injection he with he; subst he; exact hp')
        | (injection he with he1 he2; subst he2; exact hp')
        | cases he
end Go.Proofs.YtbhnnnpofindiaaDoor
