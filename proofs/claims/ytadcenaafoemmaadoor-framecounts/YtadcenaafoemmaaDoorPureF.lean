/-
  What programs mean, as plain data: a run of a task, one instruction after the other.
-/
import Derived.Test.YtadcenaafoemmaaDoorPureM
namespace Go.Proofs.YtadcenaafoemmaaDoor
open Go.RowKit

/-- A task: its next instruction, its registers, how many it began, its futures, what it stores at the next sync. -/
structure Tk where
  pc : Nat
  regs : List Int
  kids : Nat
  futs : List (Bool × Int)
  spw : List (Nat × Int)

/-- What all tasks share. -/
structure Sh where
  left : Int
  told : List Int
  log : List (List Int × Int)

inductive Out where
  | ok (v : Int)
  | fail (k : Int)
  | long

def reg (t : Tk) (a : Nat) : Int := t.regs.getD a 0
def setR (t : Tk) (a : Nat) (v : Int) : Tk := { t with regs := t.regs.set a v }
def bI (b : Bool) : Int := if b then 1 else 0
/-- What a sync stores. -/
def flushR (r : List Int) (l : List (Nat × Int)) : List Int := l.foldl (fun r s => r.set s.1 s.2) r
def flush (t : Tk) : Tk := { t with regs := flushR t.regs t.spw, spw := [] }
def Ins.n (x : Ins) : Nat × Nat × Nat × Nat := (x.op.toNat, x.a.toNat, x.b.toNat, x.c.toNat)

/-- What an instruction does that begins no task. -/
inductive Stp where
  | next (t : Tk)
  | tell (v : Int) (t : Tk)
  | fin (v : Int) (t : Tk)
  | fail (k : Int)
  | call

def exec (x : Ins) (t : Tk) : Stp :=
  let a := x.a.toNat
  let b := x.b.toNat
  let c := x.c.toNat
  match x.op.toNat with
  | 1 => .next (setR t a x.k)
  | 2 => .next (setR t a (reg t b))
  | 3 => .next (setR t a (wrap64 (reg t b + reg t c)))
  | 4 => .next (setR t a (wrap64 (reg t b - reg t c)))
  | 5 => .next (setR t a (wrap64 (reg t b * reg t c)))
  | 6 => if reg t c = 0 then .fail 1 else .next (setR t a (wrap64 ((reg t b).tdiv (reg t c))))
  | 7 => .next (setR t a (bI (decide (reg t b < reg t c))))
  | 8 => .next (setR t a (bI (reg t b == reg t c)))
  | 9 => .next { t with pc := x.k.toNat }
  | 10 => if reg t a = 0 then .next { t with pc := x.k.toNat } else .next t
  | 12 => .next (flush t)
  | 14 => if (t.futs.getD b (false, 0)).1 then .next (setR t a (t.futs.getD b (false, 0)).2) else .fail 2
  | 15 => .tell (reg t a) t
  | 16 => .fail x.k
  | 17 => .fin (reg (flush t) a) (flush t)
  | _ => .call

/-- A new task. -/
def newTk (args : List Int) (futs : List (Bool × Int)) : Tk := { pc := 0, regs := args ++ List.replicate (8 - args.length) 0, kids := 0, futs := futs, spw := [] }
/-- The arguments that a spawn or a future hands on. -/
def argsOf (fs : List Fn) (x : Ins) (t : Tk) : List Int := (t.regs.drop x.b.toNat).take (arityAt fs x.c).toNat
def codeAt (fs : List Fn) (c : Nat) : List Ins := ((fs[c]?).map Fn.code).getD []
/-- Behind a task that it began. -/
def took (x : Ins) (v : Int) (t : Tk) : Tk :=
  if x.op = 11 then { t with kids := t.kids + 1, spw := t.spw ++ [(x.a.toNat, v)] } else { t with kids := t.kids + 1, futs := t.futs.set x.a.toNat (true, v) }

def steps (sh : Sh) (me : Nat) : Int := ((sh.log[me]?).map Prod.snd).getD 0
def tick (sh : Sh) (me : Nat) : Sh := { sh with left := sh.left - 1, log := sh.log.modify me fun e => (e.1, e.2 + 1) }
def enter (sh : Sh) (path : List Int) : Sh := { sh with log := sh.log ++ [(path, 0)] }

def run (fs : List Fn) (bud dep : Int) : Nat → List Ins → List Int → Nat → Tk → Sh → Out × Sh
  | 0, _, _, _, _, sh => (.long, sh)
  | f + 1, code, path, me, t, sh =>
    if steps sh me = bud then (.fail 3, sh)
    else if sh.left ≤ 0 then (.long, sh)
    else
      let x := code.getD t.pc ⟨0, 0, 0, 0, 0⟩
      let t1 := { t with pc := t.pc + 1 }
      let sh1 := tick sh me
      match exec x t1 with
      | .next t' => run fs bud dep f code path me t' sh1
      | .tell v t' => run fs bud dep f code path me t' { sh1 with told := sh1.told ++ [v] }
      | .fin v _ => (.ok v, sh1)
      | .fail k => (.fail k, sh1)
      | .call =>
        if (path.length : Int) = dep then (.fail 4, sh1)
        else
          match run fs bud dep f (codeAt fs x.c.toNat) (path ++ [(t1.kids : Int)]) sh1.log.length (newTk (argsOf fs x t1) t1.futs) (enter sh1 (path ++ [(t1.kids : Int)])) with
          | (.ok v, sh2) => run fs bud dep f code path me (took x v t1) sh2
          | (.fail k, sh2) => (.fail k, sh2)
          | (.long, sh2) => (.long, sh2)

theorem run_left (fs : List Fn) (bud dep : Int) : ∀ (f : Nat) (code : List Ins) (path : List Int) (me : Nat) (t : Tk) (sh : Sh), (run fs bud dep f code path me t sh).2.left ≤ sh.left := by
  intro f
  induction f with
  | zero => intro code path me t sh; exact Int.le_refl _
  | succ f ih =>
    intro code path me t sh
    unfold run
    split
    · exact Int.le_refl _
    · split
      · exact Int.le_refl _
      · have ht : (tick sh me).left ≤ sh.left := by show sh.left - 1 ≤ sh.left; omega
        simp only
        split
        · exact Int.le_trans (ih _ _ _ _ _) ht
        · exact Int.le_trans (ih _ _ _ _ _) ht
        · exact ht
        · exact ht
        · split
          · exact ht
          · have hc := ih (codeAt fs (code.getD t.pc ⟨0, 0, 0, 0, 0⟩).c.toNat) (path ++ [(t.kids : Int)]) (tick sh me).log.length (newTk (argsOf fs (code.getD t.pc ⟨0, 0, 0, 0, 0⟩) { t with pc := t.pc + 1 }) t.futs) (enter (tick sh me) (path ++ [(t.kids : Int)]))
            split
            · rename_i v sh2 h2
              rw [h2] at hc
              exact Int.le_trans (ih _ _ _ _ _) (Int.le_trans hc ht)
            · rename_i k sh2 h2
              rw [h2] at hc
              exact Int.le_trans hc ht
            · rename_i sh2 h2
              rw [h2] at hc
              exact Int.le_trans hc ht

/-- More fuel than there are instructions left does nothing. -/
theorem run_fuel (fs : List Fn) (bud dep : Int) : ∀ (f g : Nat) (code : List Ins) (path : List Int) (me : Nat) (t : Tk) (sh : Sh), sh.left.toNat < f → sh.left.toNat < g → run fs bud dep f code path me t sh = run fs bud dep g code path me t sh := by
  intro f
  induction f with
  | zero => intro g code path me t sh h; omega
  | succ f ih =>
    intro g code path me t sh hf hg
    cases g with
    | zero => omega
    | succ g =>
      unfold run
      split
      · rfl
      · split
        · rfl
        · rename_i h0
          have h1 : (tick sh me).left.toNat < f := by show (sh.left - 1).toNat < f; omega
          have h2 : (tick sh me).left.toNat < g := by show (sh.left - 1).toNat < g; omega
          simp only
          split
          · exact ih g _ _ _ _ _ h1 h2
          · exact ih g _ _ _ _ _ h1 h2
          · rfl
          · rfl
          · split
            · rfl
            · have hc := ih g (codeAt fs (code.getD t.pc ⟨0, 0, 0, 0, 0⟩).c.toNat) (path ++ [(t.kids : Int)]) (tick sh me).log.length (newTk (argsOf fs (code.getD t.pc ⟨0, 0, 0, 0, 0⟩) { t with pc := t.pc + 1 }) t.futs) (enter (tick sh me) (path ++ [(t.kids : Int)])) h1 h2
              have hl := run_left fs bud dep f (codeAt fs (code.getD t.pc ⟨0, 0, 0, 0, 0⟩).c.toNat) (path ++ [(t.kids : Int)]) (tick sh me).log.length (newTk (argsOf fs (code.getD t.pc ⟨0, 0, 0, 0, 0⟩) { t with pc := t.pc + 1 }) t.futs) (enter (tick sh me) (path ++ [(t.kids : Int)]))
              rw [← hc]
              split
              · rename_i v sh2 e2
                rw [e2] at hl
                have hle : sh2.left ≤ (tick sh me).left := hl
                exact ih g _ _ _ _ _ (by omega) (by omega)
              · rfl
              · rfl

/-- The run of a task, with fuel enough. -/
def runF (fs : List Fn) (bud dep : Int) (code : List Ins) (path : List Int) (me : Nat) (t : Tk) (sh : Sh) : Out × Sh := run fs bud dep (sh.left.toNat + 1) code path me t sh
theorem runF_of (fs : List Fn) (bud dep : Int) (f : Nat) (code : List Ins) (path : List Int) (me : Nat) (t : Tk) (sh : Sh) (h : sh.left.toNat < f) : run fs bud dep f code path me t sh = runF fs bud dep code path me t sh :=
  run_fuel fs bud dep f _ code path me t sh h (Nat.lt_succ_self _)

section
variable {fs : List Fn} {bud dep : Int} {code : List Ins} {path : List Int} {me : Nat} {t : Tk} {sh : Sh}
theorem runF_budget (h : steps sh me = bud) : runF fs bud dep code path me t sh = (.fail 3, sh) := by
  unfold runF run; rw [if_pos h]
theorem runF_long (h : steps sh me ≠ bud) (h0 : sh.left ≤ 0) : runF fs bud dep code path me t sh = (.long, sh) := by
  unfold runF run; rw [if_neg h, if_pos h0]
theorem tick_lt (h0 : ¬ sh.left ≤ 0) : (tick sh me).left.toNat < sh.left.toNat := by show (sh.left - 1).toNat < _; omega

/-- One step of it. -/
def after (fs : List Fn) (bud dep : Int) (code : List Ins) (path : List Int) (me : Nat) (x : Ins) (t1 : Tk) (sh1 : Sh) : Out × Sh :=
  match exec x t1 with
  | .next t' => runF fs bud dep code path me t' sh1
  | .tell v t' => runF fs bud dep code path me t' { sh1 with told := sh1.told ++ [v] }
  | .fin v _ => (.ok v, sh1)
  | .fail k => (.fail k, sh1)
  | .call =>
    if (path.length : Int) = dep then (.fail 4, sh1)
    else
      match runF fs bud dep (codeAt fs x.c.toNat) (path ++ [(t1.kids : Int)]) sh1.log.length (newTk (argsOf fs x t1) t1.futs) (enter sh1 (path ++ [(t1.kids : Int)])) with
      | (.ok v, sh2) => runF fs bud dep code path me (took x v t1) sh2
      | (.fail k, sh2) => (.fail k, sh2)
      | (.long, sh2) => (.long, sh2)

theorem runF_step (h : steps sh me ≠ bud) (h0 : ¬ sh.left ≤ 0) {x : Ins} (hx : code[t.pc]? = some x) :
    runF fs bud dep code path me t sh = after fs bud dep code path me x { t with pc := t.pc + 1 } (tick sh me) := by
  have hd : code.getD t.pc ⟨0, 0, 0, 0, 0⟩ = x := by rw [List.getD_eq_getElem?_getD, hx]; rfl
  have ht := tick_lt (me := me) h0
  have e : runF fs bud dep code path me t sh = run fs bud dep (sh.left.toNat + 1) code path me t sh := rfl
  rw [e]
  unfold run after
  rw [if_neg h, if_neg h0]
  simp only [hd]
  split
  · exact runF_of _ _ _ _ _ _ _ _ _ ht
  · exact runF_of _ _ _ _ _ _ _ _ _ ht
  · rfl
  · rfl
  · split
    · rfl
    · rw [runF_of fs bud dep sh.left.toNat _ _ _ _ (enter (tick sh me) (path ++ [(t.kids : Int)])) ht]
      have hl := run_left fs bud dep (sh.left.toNat) (codeAt fs x.c.toNat) (path ++ [(t.kids : Int)]) (tick sh me).log.length (newTk (argsOf fs x { t with pc := t.pc + 1 }) t.futs) (enter (tick sh me) (path ++ [(t.kids : Int)]))
      rw [runF_of fs bud dep sh.left.toNat _ _ _ _ (enter (tick sh me) (path ++ [(t.kids : Int)])) ht] at hl
      split
      · rename_i v sh2 e2
        rw [e2] at hl
        have hle : sh2.left ≤ (tick sh me).left := hl
        exact runF_of _ _ _ _ _ _ _ _ _ (by omega)
      · rfl
      · rfl
end
end Go.Proofs.YtadcenaafoemmaaDoor

/-
  What stays of the log and of what was told while a task runs; one step of a task.
-/
namespace Go.Proofs.YtadcenaafoemmaaDoor
open Go.RowKit

/-- What a run leaves of what was there. -/
structure Keeps (me : Nat) (a b : Sh) : Prop where
  left : b.left ≤ a.left
  log : a.log.length ≤ b.log.length
  other : ∀ j, j < a.log.length → j ≠ me → b.log[j]? = a.log[j]?
  told : b.told.length + b.left.toNat ≤ a.told.length + a.left.toNat
  logs : b.log.length + b.left.toNat ≤ a.log.length + a.left.toNat

theorem Keeps.refl (me : Nat) (a : Sh) : Keeps me a a := ⟨Int.le_refl _, Nat.le_refl _, fun _ _ _ => rfl, Nat.le_refl _, Nat.le_refl _⟩
theorem Keeps.trans {me : Nat} {a b c : Sh} (h : Keeps me a b) (k : Keeps me b c) : Keeps me a c :=
  ⟨Int.le_trans k.left h.left, Nat.le_trans h.log k.log, fun j hj hn => (k.other j (Nat.lt_of_lt_of_le hj h.log) hn).trans (h.other j hj hn), Nat.le_trans k.told h.told, Nat.le_trans k.logs h.logs⟩
theorem keeps_tick {me : Nat} {a : Sh} (h : ¬ a.left ≤ 0) : Keeps me a (tick a me) := by
  have e : (tick a me).left.toNat + 1 = a.left.toNat := by show (a.left - 1).toNat + 1 = _; omega
  have el : (tick a me).log.length = a.log.length := by simp [tick]
  refine ⟨by show a.left - 1 ≤ a.left; omega, by omega, fun j hj hn => ?_, ?_, ?_⟩
  · show (a.log.modify me _)[j]? = _
    rw [List.getElem?_modify]
    simp [Ne.symm hn]
  · show a.told.length + _ ≤ _; omega
  · omega
theorem keeps_tell {me : Nat} {a : Sh} (h : ¬ a.left ≤ 0) (v : Int) : Keeps me a { tick a me with told := (tick a me).told ++ [v] } := by
  have k := keeps_tick (me := me) h
  have e : (tick a me).left.toNat + 1 = a.left.toNat := by show (a.left - 1).toNat + 1 = _; omega
  refine ⟨k.left, k.log, k.other, ?_, k.logs⟩
  show (a.told ++ [v]).length + (tick a me).left.toNat ≤ _
  simp; omega
theorem keeps_enter {me : Nat} {a b : Sh} (h : ¬ a.left ≤ 0) (p : List Int) (hb : Keeps (tick a me).log.length (enter (tick a me) p) b) : Keeps me a b := by
  have k := keeps_tick (me := me) h
  have e : (tick a me).left.toNat + 1 = a.left.toNat := by show (a.left - 1).toNat + 1 = _; omega
  have el : (tick a me).log.length = a.log.length := by simp [tick]
  have h1 : (enter (tick a me) p).log.length = (tick a me).log.length + 1 := by simp [enter]
  have h2 : (enter (tick a me) p).left = (tick a me).left := rfl
  have h3 : (enter (tick a me) p).told = (tick a me).told := rfl
  have t1 := hb.told
  have t2 := hb.logs
  have t3 := hb.log
  have t4 := hb.left
  rw [h1, h2] at t2
  rw [h2, h3] at t1
  rw [h2] at t4
  rw [h1] at t3
  have t5 : (tick a me).told.length = a.told.length := rfl
  refine ⟨Int.le_trans t4 k.left, by omega, fun j hj hn => ?_, by omega, by omega⟩
  rw [hb.other j (by omega) (by omega), ← k.other j hj hn]
  show ((tick a me).log ++ [(p, 0)])[j]? = _
  rw [List.getElem?_append_left (by omega)]

theorem run_keeps (fs : List Fn) (bud dep : Int) : ∀ (f : Nat) (code : List Ins) (path : List Int) (me : Nat) (t : Tk) (sh : Sh), Keeps me sh (run fs bud dep f code path me t sh).2 := by
  intro f
  induction f with
  | zero => intro code path me t sh; exact Keeps.refl _ _
  | succ f ih =>
    intro code path me t sh
    unfold run
    split
    · exact Keeps.refl _ _
    · split
      · exact Keeps.refl _ _
      · rename_i h0
        have ht := keeps_tick (me := me) h0
        simp only
        split
        · exact ht.trans (ih _ _ _ _ _)
        · exact (keeps_tell h0 _).trans (ih _ _ _ _ _)
        · exact ht
        · exact ht
        · split
          · exact ht
          · have hc := keeps_enter h0 (path ++ [(t.kids : Int)]) (ih (codeAt fs (code.getD t.pc ⟨0, 0, 0, 0, 0⟩).c.toNat) (path ++ [(t.kids : Int)]) (tick sh me).log.length (newTk (argsOf fs (code.getD t.pc ⟨0, 0, 0, 0, 0⟩) { t with pc := t.pc + 1 }) t.futs) (enter (tick sh me) (path ++ [(t.kids : Int)])))
            split
            · rename_i v sh2 h2
              rw [h2] at hc
              exact hc.trans (ih _ _ _ _ _)
            · rename_i k sh2 h2
              rw [h2] at hc
              exact hc
            · rename_i sh2 h2
              rw [h2] at hc
              exact hc
theorem runF_keeps (fs : List Fn) (bud dep : Int) (code : List Ins) (path : List Int) (me : Nat) (t : Tk) (sh : Sh) : Keeps me sh (runF fs bud dep code path me t sh).2 := run_keeps fs bud dep _ code path me t sh

/-- What one step of a task comes to. -/
inductive Rs where
  | next (t : Tk) (sh : Sh)
  | done (v : Int) (t : Tk) (sh : Sh)
  | fail (k : Int) (sh : Sh)
  | long (sh : Sh)

/-- What a task comes to that is begun. -/
def kidR (fs : List Fn) (bud dep : Int) (path : List Int) (x : Ins) (t1 : Tk) (sh1 : Sh) : Out × Sh :=
  runF fs bud dep (codeAt fs x.c.toNat) (path ++ [(t1.kids : Int)]) sh1.log.length (newTk (argsOf fs x t1) t1.futs) (enter sh1 (path ++ [(t1.kids : Int)]))

def doR (fs : List Fn) (bud dep : Int) (path : List Int) (x : Ins) (t1 : Tk) (sh1 : Sh) : Rs :=
  match exec x t1 with
  | .next t' => .next t' sh1
  | .tell v t' => .next t' { sh1 with told := sh1.told ++ [v] }
  | .fin v t' => .done v t' sh1
  | .fail k => .fail k sh1
  | .call =>
    if (path.length : Int) = dep then .fail 4 sh1
    else
      match kidR fs bud dep path x t1 sh1 with
      | (.ok v, sh2) => .next (took x v t1) sh2
      | (.fail k, sh2) => .fail k sh2
      | (.long, sh2) => .long sh2

def stepR (fs : List Fn) (bud dep : Int) (code : List Ins) (path : List Int) (me : Nat) (t : Tk) (sh : Sh) : Rs :=
  if steps sh me = bud then .fail 3 sh
  else if sh.left ≤ 0 then .long sh
  else doR fs bud dep path (code.getD t.pc ⟨0, 0, 0, 0, 0⟩) { t with pc := t.pc + 1 } (tick sh me)

def thenR (fs : List Fn) (bud dep : Int) (code : List Ins) (path : List Int) (me : Nat) : Rs → Out × Sh
  | .next t sh => runF fs bud dep code path me t sh
  | .done v _ sh => (.ok v, sh)
  | .fail k sh => (.fail k, sh)
  | .long sh => (.long, sh)

theorem runF_stepR (fs : List Fn) (bud dep : Int) (code : List Ins) (path : List Int) (me : Nat) (t : Tk) (sh : Sh) (h : t.pc < code.length) : runF fs bud dep code path me t sh = thenR fs bud dep code path me (stepR fs bud dep code path me t sh) := by
  unfold stepR
  split
  · rename_i h1
    rw [runF_budget h1]; rfl
  · rename_i h1
    split
    · rename_i h2
      rw [runF_long h1 h2]; rfl
    · rename_i h2
      obtain ⟨x, hx⟩ : ∃ x, code[t.pc]? = some x := ⟨_, List.getElem?_eq_getElem h⟩
      have hd : code.getD t.pc ⟨0, 0, 0, 0, 0⟩ = x := by rw [List.getD_eq_getElem?_getD, hx]; rfl
      rw [runF_step h1 h2 hx, hd]
      unfold after doR kidR
      generalize ({ t with pc := t.pc + 1 } : Tk) = t1
      cases exec x t1 with
      | next t' => rfl
      | tell v t' => rfl
      | fin v t' => rfl
      | fail k => rfl
      | call =>
        simp only
        split
        · rfl
        · generalize runF fs bud dep (codeAt fs x.c.toNat) (path ++ [(t1.kids : Int)]) (tick sh me).log.length (newTk (argsOf fs x t1) t1.futs) (enter (tick sh me) (path ++ [(t1.kids : Int)])) = r
          obtain ⟨o, sh2⟩ := r
          cases o <;> rfl

/-- The fields of an instruction that may be. -/
structure InsOk (fs : List Fn) (pl : Nat) (x : Ins) (op a b c : Nat) : Prop where
  eop : x.op = op
  ea : x.a = a
  eb : x.b = b
  ec : x.c = c
  op1 : 1 ≤ op
  op17 : op ≤ 17
  a8 : a < 8
  b8 : b < 8
  c8 : 3 ≤ op → op ≤ 8 → c < 8
  fut : op = 13 → a < 4
  tch : op = 14 → b < 4
  fn : op = 11 ∨ op = 13 → c < fs.length ∧ (arityAt fs c).toNat + b ≤ 8
  place : op = 9 ∨ op = 10 → 0 ≤ x.k ∧ x.k < pl

theorem field_zero {fs : List Fn} {pl : Nat} {x : Ins} {op : Nat} (ho : x.op = op) (h2 : ∀ j, j < 4 → unusedE x j = 0) (h3 : ∀ j, j < 4 → fieldsE fs.length pl x j = 0) (j : Nat) (hj : j < 4) :
    (kdAt op j = 0 → x.num j = 0) ∧ (kdAt op j = 1 → 0 ≤ x.num j ∧ x.num j < 8) ∧ (kdAt op j = 2 → 0 ≤ x.num j ∧ x.num j < 4) ∧ (kdAt op j = 3 → 0 ≤ x.num j ∧ x.num j < fs.length) ∧ (kdAt op j = 4 → 0 ≤ x.num j ∧ x.num j < pl) := by
  have u := h2 j hj
  have f := h3 j hj
  unfold unusedE at u
  unfold fieldsE at f
  rw [ho, Int.toNat_natCast] at u f
  refine ⟨fun h => ?_, fun h => ?_, fun h => ?_, fun h => ?_, fun h => ?_⟩
  · by_cases hx : x.num j = 0
    · exact hx
    · rw [if_neg (by rw [h]; simp [hx])] at u
      exact absurd u (by decide)
  · rw [h] at f
    exact rngE_zero (e := 6) (by decide) f
  · rw [h] at f
    exact rngE_zero (e := 6) (by decide) f
  · rw [h] at f
    exact rngE_zero (e := 5) (by decide) f
  · rw [h] at f
    exact rngE_zero (e := 6) (by decide) f

theorem ins_ok {fs : List Fn} {pl : Nat} {x : Ins} (h : insE fs pl x = 0) : ∃ op a b c : Nat, InsOk fs pl x op a b c := by
  obtain ⟨h1, h2, h3, h4⟩ := insE_nought h
  obtain ⟨op, ho⟩ := Int.eq_ofNat_of_zero_le (show 0 ≤ x.op by omega)
  have hop : 1 ≤ op ∧ op ≤ 17 := by omega
  have F0 := field_zero ho h2 h3 0 (by decide)
  have F1 := field_zero ho h2 h3 1 (by decide)
  have F2 := field_zero ho h2 h3 2 (by decide)
  have F3 := field_zero ho h2 h3 3 (by decide)
  have k0 : ∀ op, op < 18 → 1 ≤ op → kdAt op 0 = 0 ∨ kdAt op 0 = 1 ∨ kdAt op 0 = 2 := by decide
  have k1 : ∀ op, op < 18 → 1 ≤ op → kdAt op 1 = 0 ∨ kdAt op 1 = 1 ∨ kdAt op 1 = 2 := by decide
  have k2 : ∀ op, op < 18 → 1 ≤ op → kdAt op 2 = 0 ∨ kdAt op 2 = 1 ∨ kdAt op 2 = 3 := by decide
  have k2r : ∀ op, op < 18 → 3 ≤ op → op ≤ 8 → kdAt op 2 = 1 := by decide
  have A := k0 op (by omega) hop.1
  have B := k1 op (by omega) hop.1
  have C := k2 op (by omega) hop.1
  have ha : 0 ≤ x.a ∧ x.a < 8 := by
    show 0 ≤ x.num 0 ∧ x.num 0 < 8
    rcases A with A | A | A
    · have := F0.1 A; omega
    · exact F0.2.1 A
    · have := F0.2.2.1 A; omega
  have hb : 0 ≤ x.b ∧ x.b < 8 := by
    show 0 ≤ x.num 1 ∧ x.num 1 < 8
    rcases B with B | B | B
    · have := F1.1 B; omega
    · exact F1.2.1 B
    · have := F1.2.2.1 B; omega
  have hc : 0 ≤ x.c := by
    show 0 ≤ x.num 2
    rcases C with C | C | C
    · have := F2.1 C; omega
    · exact (F2.2.1 C).1
    · exact (F2.2.2.2.1 C).1
  obtain ⟨a, ea⟩ := Int.eq_ofNat_of_zero_le ha.1
  obtain ⟨b, eb⟩ := Int.eq_ofNat_of_zero_le hb.1
  obtain ⟨c, ec⟩ := Int.eq_ofNat_of_zero_le hc
  refine ⟨op, a, b, c, ho, ea, eb, ec, hop.1, hop.2, by omega, by omega, fun g1 g2 => ?_, fun g => ?_, fun g => ?_, fun g => ?_, fun g => ?_⟩
  · have h5 : 0 ≤ x.c ∧ x.c < 8 := F2.2.1 (k2r op (by omega) g1 g2)
    omega
  · have h5 : 0 ≤ x.a ∧ x.a < 4 := F0.2.2.1 (by subst g; decide)
    omega
  · have h5 : 0 ≤ x.b ∧ x.b < 4 := F1.2.2.1 (by subst g; decide)
    omega
  · have h5 : 0 ≤ x.c ∧ x.c < fs.length := F2.2.2.2.1 (by rcases g with g | g <;> subst g <;> decide)
    unfold callE at h4
    refine ⟨by omega, ?_⟩
    by_cases h6 : 8 - x.b < arityAt fs x.c
    · rw [if_pos ⟨by omega, h6⟩] at h4
      exact absurd h4 (by decide)
    · rw [ec] at h6
      omega
  · exact F3.2.2.2.2 (by rcases g with g | g <;> subst g <;> decide)

/-- Where a task goes on. -/
theorem exec_pc {fs : List Fn} {pl : Nat} {x : Ins} {op a b c : Nat} (h : InsOk fs pl x op a b c) {t t' : Tk} (hp : t.pc < pl ∨ op = 9) (he : exec x t = .next t' ∨ ∃ v, exec x t = .tell v t') : t'.pc < pl := by
  have e1 : x.op.toNat = op := by rw [h.eop]; rfl
  have o17 := h.op17
  have o1 := h.op1
  unfold exec at he
  rw [e1] at he
  have : op = 1 ∨ op = 2 ∨ op = 3 ∨ op = 4 ∨ op = 5 ∨ op = 6 ∨ op = 7 ∨ op = 8 ∨ op = 9 ∨ op = 10 ∨ op = 11 ∨ op = 12 ∨ op = 13 ∨ op = 14 ∨ op = 15 ∨ op = 16 ∨ op = 17 := by omega
  rcases this with rfl | rfl | rfl | rfl | rfl | rfl | rfl | rfl | rfl | rfl | rfl | rfl | rfl | rfl | rfl | rfl | rfl
  all_goals simp only at he
  case inr.inr.inr.inr.inr.inr.inr.inr.inl =>
    have := h.place (.inl rfl)
    rcases he with he | ⟨v, he⟩
    · injection he with he
      subst he
      show x.k.toNat < pl
      omega
    · cases he
  case inr.inr.inr.inr.inr.inr.inr.inr.inr.inl =>
    have := h.place (.inr rfl)
    have hp' : t.pc < pl := by rcases hp with hp | hp; exact hp; cases hp
    split at he
    · rcases he with he | ⟨v, he⟩
      · injection he with he
        subst he
        show x.k.toNat < pl
        omega
      · cases he
    · rcases he with he | ⟨v, he⟩
      · injection he with he
        subst he
        exact hp'
      · cases he
  all_goals
    have hp' : t.pc < pl := by rcases hp with hp | hp; exact hp; cases hp
    (try split at he)
    all_goals
      rcases he with he | ⟨v, he⟩
      all_goals first
        | (injection he with he; subst he; exact hp')
        | (injection he with he1 he2; subst he2; exact hp')
        | cases he
end Go.Proofs.YtadcenaafoemmaaDoor
