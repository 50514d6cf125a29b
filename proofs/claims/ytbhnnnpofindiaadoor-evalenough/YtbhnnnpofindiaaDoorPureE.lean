/-
  What programs mean, as plain data: a run of a task, one instruction after the other.
-/
import Derived.Test.YtbhnnnpofindiaaDoorPureM
namespace Go.Proofs.YtbhnnnpofindiaaDoor
open Go.RowKit

/-- A task: its next instruction, its registers, how many it began, its futures, what it stores at the next sync. -/
structure Tk where
  pc : Nat
  regs : List Int
  kids : Nat
  futs : List (Bool × Int)
  spw : List (Nat × Int)

/-- What all tasks share. -/
structure Sh where
  left : Int
  told : List Int
  log : List (List Int × Int)

inductive Out where
  | ok (v : Int)
  | fail (k : Int)
  | long

def reg (t : Tk) (a : Nat) : Int := t.regs.getD a 0
def setR (t : Tk) (a : Nat) (v : Int) : Tk := { t with regs := t.regs.set a v }
def bI (b : Bool) : Int := if b then 1 else 0
/-- What a sync stores. -/
def flushR (r : List Int) (l : List (Nat × Int)) : List Int := l.foldl (fun r s => r.set s.1 s.2) r
def flush (t : Tk) : Tk := { t with regs := flushR t.regs t.spw, spw := [] }
def Ins.n (x : Ins) : Nat × Nat × Nat × Nat := (x.op.toNat, x.a.toNat, x.b.toNat, x.c.toNat)

/-- What an instruction does that begins no task. -/
inductive Stp where
  | next (t : Tk)
  | tell (v : Int) (t : Tk)
  | fin (v : Int) (t : Tk)
  | fail (k : Int)
  | call

def exec (x : Ins) (t : Tk) : Stp :=
  let a := x.a.toNat
  let b := x.b.toNat
  let c := x.c.toNat
  match x.op.toNat with
  | 1 => .next (setR t a x.k)
  | 2 => .next (setR t a (reg t b))
  | 3 => .next (setR t a (wrap64 (reg t b + reg t c)))
  | 4 => .next (setR t a (wrap64 (reg t b - reg t c)))
  | 5 => .next (setR t a (wrap64 (reg t b * reg t c)))
  | 6 => if reg t c = 0 then .fail 1 else .next (setR t a (wrap64 ((reg t b).tdiv (reg t c))))
  | 7 => .next (setR t a (bI (decide (reg t b < reg t c))))
  | 8 => .next (setR t a (bI (reg t b == reg t c)))
  | 9 => .next { t with pc := x.k.toNat }
  | 10 => if reg t a = 0 then .next { t with pc := x.k.toNat } else .next t
  | 12 => .next (flush t)
  | 14 => if (t.futs.getD b (false, 0)).1 then .next (setR t a (t.futs.getD b (false, 0)).2) else .fail 2
  | 15 => .tell (reg t a) t
  | 16 => .fail x.k
  | 17 => .fin (reg (flush t) a) (flush t)
  | _ => .call

/-- A new task. -/
def newTk (args : List Int) (futs : List (Bool × Int)) : Tk := { pc := 0, regs := args ++ List.replicate (8 - args.length) 0, kids := 0, futs := futs, spw := [] }
/-- The arguments that a spawn or a future hands on. -/
def argsOf (fs : List Fn) (x : Ins) (t : Tk) : List Int := (t.regs.drop x.b.toNat).take (arityAt fs x.c).toNat
def codeAt (fs : List Fn) (c : Nat) : List Ins := ((fs[c]?).map Fn.code).getD []
/-- Behind a task that it began. -/
def took (x : Ins) (v : Int) (t : Tk) : Tk :=
  if x.op = 11 then { t with kids := t.kids + 1, spw := t.spw ++ [(x.a.toNat, v)] } else { t with kids := t.kids + 1, futs := t.futs.set x.a.toNat (true, v) }

def steps (sh : Sh) (me : Nat) : Int := ((sh.log[me]?).map Prod.snd).getD 0
def tick (sh : Sh) (me : Nat) : Sh := { sh with left := sh.left - 1, log := sh.log.modify me fun e => (e.1, e.2 + 1) }
def enter (sh : Sh) (path : List Int) : Sh := { sh with log := sh.log ++ [(path, 0)] }

def run (fs : List Fn) (bud dep : Int) : Nat → List Ins → List Int → Nat → Tk → Sh → Out × Sh
  | 0, _, _, _, _, sh => (.long, sh)
  | f + 1, code, path, me, t, sh =>
    if steps sh me = bud then (.fail 3, sh)
    else if sh.left ≤ 0 then (.long, sh)
    else
      let x := code.getD t.pc ⟨0, 0, 0, 0, 0⟩
      let t1 := { t with pc := t.pc + 1 }
      let sh1 := tick sh me
      match exec x t1 with
      | .next t' => run fs bud dep f code path me t' sh1
      | .tell v t' => run fs bud dep f code path me t' { sh1 with told := sh1.told ++ [v] }
      | .fin v _ => (.ok v, sh1)
      | .fail k => (.fail k, sh1)
      | .call =>
        if (path.length : Int) = dep then (.fail 4, sh1)
        else
          match run fs bud dep f (codeAt fs x.c.toNat) (path ++ [(t1.kids : Int)]) sh1.log.length (newTk (argsOf fs x t1) t1.futs) (enter sh1 (path ++ [(t1.kids : Int)])) with
          | (.ok v, sh2) => run fs bud dep f code path me (took x v t1) sh2
          | (.fail k, sh2) => (.fail k, sh2)
          | (.long, sh2) => (.long, sh2)

theorem run_left (fs : List Fn) (bud dep : Int) : ∀ (f : Nat) (code : List Ins) (path : List Int) (me : Nat) (t : Tk) (sh : Sh), (run fs bud dep f code path me t sh).2.left ≤ sh.left := by
  intro f
  induction f with
  | zero => intro code path me t sh; exact Int.le_refl _
  | succ f ih =>
    intro code path me t sh
    unfold run
    split
    · exact Int.le_refl _
    · split
      · exact Int.le_refl _
      · have ht : (tick sh me).left ≤ sh.left := by show sh.left - 1 ≤ sh.left; omega
        simp only
        split
        · exact Int.le_trans (ih _ _ _ _ _) ht
        · exact Int.le_trans (ih _ _ _ _ _) ht
        · exact ht
        · exact ht
        · split
          · exact ht
          · have hc := ih (codeAt fs (code.getD t.pc ⟨0, 0, 0, 0, 0⟩).c.toNat) (path ++ [(t.kids : Int)]) (tick sh me).log.length (newTk (argsOf fs (code.getD t.pc ⟨0, 0, 0, 0, 0⟩) { t with pc := t.pc + 1 }) t.futs) (enter (tick sh me) (path ++ [(t.kids : Int)]))
            split
            · rename_i v sh2 h2
              rw [h2] at hc
              exact Int.le_trans (ih _ _ _ _ _) (Int.le_trans hc ht)
            · rename_i k sh2 h2
              rw [h2] at hc
              exact Int.le_trans hc ht
            · rename_i sh2 h2
              rw [h2] at hc
              exact Int.le_trans hc ht

/-- More fuel than there are instructions left does nothing. -/
theorem run_fuel (fs : List Fn) (bud dep : Int) : ∀ (f g : Nat) (code : List Ins) (path : List Int) (me : Nat) (t : Tk) (sh : Sh), sh.left.toNat < f → sh.left.toNat < g → run fs bud dep f code path me t sh = run fs bud dep g code path me t sh := by
  intro f
  induction f with
  | zero => intro g code path me t sh h; omega
  | succ f ih =>
    intro g code path me t sh hf hg
    cases g with
    | zero => omega
    | succ g =>
      unfold run
      split
      · rfl
      · split
        · rfl
        · rename_i h0
          have h1 : (tick sh me).left.toNat < f := by show (sh.left - 1).toNat < f; omega
          have h2 : (tick sh me).left.toNat < g := by show (sh.left - 1).toNat < g; omega
          simp only
          split
          · exact ih g _ _ _ _ _ h1 h2
          · exact ih g _ _ _ _ _ h1 h2
          · rfl
          · rfl
          · split
            · rfl
            · have hc := ih g (codeAt fs (code.getD t.pc ⟨0, 0, 0, 0, 0⟩).c.toNat) (path ++ [(t.kids : Int)]) (tick sh me).log.length (newTk (argsOf fs (code.getD t.pc ⟨0, 0, 0, 0, 0⟩) { t with pc := t.pc + 1 }) t.futs) (enter (tick sh me) (path ++ [(t.kids : Int)])) h1 h2
              have hl := run_left fs bud dep f (codeAt fs (code.getD t.pc ⟨0, 0, 0, 0, 0⟩).c.toNat) (path ++ [(t.kids : Int)]) (tick sh me).log.length (newTk (argsOf fs (code.getD t.pc ⟨0, 0, 0, 0, 0⟩) { t with pc := t.pc + 1 }) t.futs) (enter (tick sh me) (path ++ [(t.kids : Int)]))
              rw [← hc]
              split
              · rename_i v sh2 e2
                rw [e2] at hl
                have hle : sh2.left ≤ (tick sh me).left := hl
                exact ih g _ _ _ _ _ (by omega) (by omega)
              · rfl
              · rfl

/-- The run of a task, with fuel enough. -/
def runF (fs : List Fn) (bud dep : Int) (code : List Ins) (path : List Int) (me : Nat) (t : Tk) (sh : Sh) : Out × Sh := run fs bud dep (sh.left.toNat + 1) code path me t sh
theorem runF_of (fs : List Fn) (bud dep : Int) (f : Nat) (code : List Ins) (path : List Int) (me : Nat) (t : Tk) (sh : Sh) (h : sh.left.toNat < f) : run fs bud dep f code path me t sh = runF fs bud dep code path me t sh :=
  run_fuel fs bud dep f _ code path me t sh h (Nat.lt_succ_self _)

section
variable {fs : List Fn} {bud dep : Int} {code : List Ins} {path : List Int} {me : Nat} {t : Tk} {sh : Sh}
theorem runF_budget (h : steps sh me = bud) : runF fs bud dep code path me t sh = (.fail 3, sh) := by
  unfold runF run; rw [if_pos h]
theorem runF_long (h : steps sh me ≠ bud) (h0 : sh.left ≤ 0) : runF fs bud dep code path me t sh = (.long, sh) := by
  unfold runF run; rw [if_neg h, if_pos h0]
theorem tick_lt (h0 : ¬ sh.left ≤ 0) : (tick sh me).left.toNat < sh.left.toNat := by show (sh.left - 1).toNat < _; omega

/-- One step of it. -/
def after (fs : List Fn) (bud dep : Int) (code : List Ins) (path : List Int) (me : Nat) (x : Ins) (t1 : Tk) (sh1 : Sh) : Out × Sh :=
  match exec x t1 with
  | .next t' => runF fs bud dep code path me t' sh1
  | .tell v t' => runF fs bud dep code path me t' { sh1 with told := sh1.told ++ [v] }
  | .fin v _ => (.ok v, sh1)
  | .fail k => (.fail k, sh1)
  | .call =>
    if (path.length : Int) = dep then (.fail 4, sh1)
    else
      match runF fs bud dep (codeAt fs x.c.toNat) (path ++ [(t1.kids : Int)]) sh1.log.length (newTk (argsOf fs x t1) t1.futs) (enter sh1 (path ++ [(t1.kids : Int)])) with
      | (.ok v, sh2) => runF fs bud dep code path me (took x v t1) sh2
      | (.fail k, sh2) => (.fail k, sh2)
      | (.long, sh2) => (.long, sh2)

theorem runF_step (h : steps sh me ≠ bud) (h0 : ¬ sh.left ≤ 0) {x : Ins} (hx : code[t.pc]? = some x) :
    runF fs bud dep code path me t sh = after fs bud dep code path me x { t with pc := t.pc + 1 } (tick sh me) := by
  have hd : code.getD t.pc ⟨0, 0, 0, 0, 0⟩ = x := by rw [List.getD_eq_getElem?_getD, hx]; rfl
  have ht := tick_lt (me := me) h0
  have e : runF fs bud dep code path me t sh = run fs bud dep (sh.left.toNat + 1) code path me t sh := rfl
  rw [e]
  unfold run after
  rw [if_neg h, if_neg h0]
  simp only [hd]
  split
  · exact runF_of _ _ _ _ _ _ _ _ _ ht
  · exact runF_of _ _ _ _ _ _ _ _ _ ht
  · rfl
  · rfl
  · split
    · rfl
    · rw [runF_of fs bud dep sh.left.toNat _ _ _ _ (enter (tick sh me) (path ++ [(t.kids : Int)])) ht]
      have hl := run_left fs bud dep (sh.left.toNat) (codeAt fs x.c.toNat) (path ++ [(t.kids : Int)]) (tick sh me).log.length (newTk (argsOf fs x { t with pc := t.pc + 1 }) t.futs) (enter (tick sh me) (path ++ [(t.kids : Int)]))
      rw [runF_of fs bud dep sh.left.toNat _ _ _ _ (enter (tick sh me) (path ++ [(t.kids : Int)])) ht] at hl
      split
      · rename_i v sh2 e2
        rw [e2] at hl
        have hle : sh2.left ≤ (tick sh me).left := hl
        exact runF_of _ _ _ _ _ _ _ _ _ (by omega)
      · rfl
      · rfl
end
end Go.Proofs.YtbhnnnpofindiaaDoor
