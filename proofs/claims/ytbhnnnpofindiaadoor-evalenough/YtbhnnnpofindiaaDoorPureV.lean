/-
  Which programs may run, as plain data: the first thing that is wrong, and where.
-/
import Derived.Test.YtbhnnnpofindiaaDoorPure
namespace Go.Proofs.YtbhnnnpofindiaaDoor
open Go.RowKit

/-- What the fields A, B, C and K of the operations are: 0 nothing, 1 a register, 2 a future, 3 a function, 4 a place, 5 a reason, 6 a number. -/
def kd : List (List Nat) := [[0, 0, 0, 0], [1, 0, 0, 6], [1, 1, 0, 0], [1, 1, 1, 0], [1, 1, 1, 0], [1, 1, 1, 0], [1, 1, 1, 0], [1, 1, 1, 0], [1, 1, 1, 0], [0, 0, 0, 4], [1, 0, 0, 4], [1, 1, 3, 0], [0, 0, 0, 0], [2, 1, 3, 0], [1, 2, 0, 0], [1, 0, 0, 0], [0, 0, 0, 5], [1, 0, 0, 0]]
def kdAt (op j : Nat) : Nat := (kd.getD op []).getD j 0
theorem kd_le : ∀ op, op < 18 → ∀ j, j < 4 → kdAt op j ≤ 6 := by decide
theorem kd_call : ∀ op, op < 18 → ((op = 11 ∨ op = 13) ↔ kdAt op 2 = 3) := by decide
theorem kd_callB : ∀ op, op < 18 → (op = 11 ∨ op = 13) → kdAt op 1 = 1 := by decide
theorem kd_three : ∀ op, op < 18 → ∀ j, j < 4 → kdAt op j = 3 → j = 2 := by decide

/-- The instruction's numbers. -/
def Ins.num (x : Ins) : Nat → Int
  | 0 => x.a
  | 1 => x.b
  | 2 => x.c
  | _ => x.k

/-- Is a number from lo on and below hi? Else the error. -/
def rngE (lo hi e m : Int) : Int := if lo ≤ m ∧ m < hi then 0 else e
theorem rngE_in {lo hi e m : Int} (h1 : lo ≤ m) (h2 : m < hi) : rngE lo hi e m = 0 := if_pos ⟨h1, h2⟩
theorem rngE_out {lo hi e m : Int} (h : ¬ (lo ≤ m ∧ m < hi)) : rngE lo hi e m = e := if_neg h
theorem rngE_zero {lo hi e m : Int} (he : e ≠ 0) (h : rngE lo hi e m = 0) : lo ≤ m ∧ m < hi := by
  by_cases h' : lo ≤ m ∧ m < hi
  · exact h'
  · rw [rngE_out h'] at h; exact absurd h he

/-- What is wrong with a field's number. -/
def fieldE (nf pl : Nat) (kind : Nat) (n : Int) : Int :=
  if kind = 1 then rngE 0 8 6 n
  else if kind = 2 then rngE 0 4 6 n
  else if kind = 3 then rngE 0 nf 5 n
  else if kind = 4 then rngE 0 pl 6 n
  else if kind = 5 then rngE 16 2147483648 6 n
  else if kind = 6 then rngE (-2147483648) 2147483648 6 n
  else 0

/-- The first of some numbers that is not 0; 0, if there is none. -/
def firstE (g : Nat → Int) : Nat → Nat → Int
  | _, 0 => 0
  | j, m + 1 => if g j = 0 then firstE g (j + 1) m else g j
theorem firstE_ok {g : Nat → Int} : ∀ (m j : Nat), (∀ i, j ≤ i → i < j + m → g i = 0) → firstE g j m = 0
  | 0, _, _ => rfl
  | m + 1, j, h => by
    unfold firstE
    rw [if_pos (h j (Nat.le_refl _) (by omega))]
    exact firstE_ok m (j + 1) (fun i h1 h2 => h i (by omega) (by omega))
theorem firstE_bad {g : Nat → Int} : ∀ (m j k : Nat), (∀ i, j ≤ i → i < j + k → g i = 0) → k < m → g (j + k) ≠ 0 → firstE g j m = g (j + k)
  | 0, _, _, _, h, _ => by omega
  | m + 1, j, 0, _, _, h => by
    unfold firstE
    exact if_neg h
  | m + 1, j, k + 1, h, hk, hn => by
    unfold firstE
    rw [if_pos (h j (Nat.le_refl _) (by omega))]
    have := firstE_bad (g := g) m (j + 1) k (fun i h1 h2 => h i (by omega) (by omega)) (by omega) (by rw [show j + 1 + k = j + (k + 1) by omega]; exact hn)
    rw [this, show j + 1 + k = j + (k + 1) by omega]

def unusedE (x : Ins) (j : Nat) : Int := if kdAt x.op.toNat j ≠ 0 ∨ x.num j = 0 then 0 else 4
def fieldsE (nf pl : Nat) (x : Ins) (j : Nat) : Int := fieldE nf pl (kdAt x.op.toNat j) (x.num j)
def arityAt (fs : List Fn) (c : Int) : Int := ((fs[c.toNat]?).map Fn.arity).getD 0
/-- Does it begin a task for which the registers are too few? -/
def callE (fs : List Fn) (x : Ins) : Int := if (x.op = 11 ∨ x.op = 13) ∧ 8 - x.b < arityAt fs x.c then 6 else 0

/-- What is wrong with an instruction. -/
def insE (fs : List Fn) (pl : Nat) (x : Ins) : Int :=
  if 1 ≤ x.op ∧ x.op ≤ 17 then
    if firstE (unusedE x) 0 4 = 0 then
      if firstE (fieldsE fs.length pl x) 0 4 = 0 then callE fs x else firstE (fieldsE fs.length pl x) 0 4
    else 4
  else 4

def codeE (fs : List Fn) (pl : Nat) : Nat → List Ins → Nat × Int
  | _, [] => (0, 0)
  | i, x :: r => if insE fs pl x = 0 then codeE fs pl (i + 1) r else (i, insE fs pl x)
theorem codeE_ok (fs : List Fn) (pl : Nat) : ∀ (l : List Ins) (i : Nat), (∀ x ∈ l, insE fs pl x = 0) → codeE fs pl i l = (0, 0)
  | [], _, _ => rfl
  | x :: r, i, h => by
    unfold codeE
    rw [if_pos (h x (List.mem_cons_self ..))]
    exact codeE_ok fs pl r (i + 1) (fun y hy => h y (List.mem_cons_of_mem _ hy))
theorem codeE_bad (fs : List Fn) (pl : Nat) : ∀ (l : List Ins) (i k : Nat) (x : Ins), l[k]? = some x → (∀ y ∈ l.take k, insE fs pl y = 0) → insE fs pl x ≠ 0 → codeE fs pl i l = (i + k, insE fs pl x)
  | [], _, _, _, h, _, _ => by simp at h
  | a :: r, i, 0, x, h, _, hx => by
    simp at h; subst h
    unfold codeE
    rw [if_neg hx]; rfl
  | a :: r, i, k + 1, x, h, hl, hx => by
    unfold codeE
    rw [if_pos (hl a (by simp))]
    have := codeE_bad fs pl r (i + 1) k x (by simpa using h) (fun y hy => hl y (by simp [hy])) hx
    rw [this, show i + 1 + k = i + (k + 1) by omega]
theorem codeE_zero (fs : List Fn) (pl : Nat) : ∀ (l : List Ins) (i : Nat), (codeE fs pl i l).2 = 0 → ∀ x ∈ l, insE fs pl x = 0
  | [], _, _ => fun x hx => by cases hx
  | a :: r, i, h => by
    unfold codeE at h
    by_cases ha : insE fs pl a = 0
    · rw [if_pos ha] at h
      intro x hx
      rcases List.mem_cons.1 hx with rfl | hx
      · exact ha
      · exact codeE_zero fs pl r (i + 1) h x hx
    · rw [if_neg ha] at h
      exact absurd h ha

def lastOp (l : List Ins) : Int := (l.getLast?.map Ins.op).getD 0
def lastOk (l : List Ins) : Prop := lastOp l = 9 ∨ lastOp l = 16 ∨ lastOp l = 17
instance (l : List Ins) : Decidable (lastOk l) := by unfold lastOk; infer_instance
theorem last_at {l : List Ins} {x : Ins} (h : l[l.length - 1]? = some x) : lastOp l = x.op := by
  unfold lastOp
  rw [List.getLast?_eq_getElem?, h]; rfl

/-- What is wrong with a function: the instruction, and the error. -/
def fnE (fs : List Fn) (f : Fn) : Nat × Int :=
  if 0 ≤ f.arity ∧ f.arity ≤ 4 then
    if 1 ≤ f.code.length ∧ f.code.length ≤ 64 then
      if (codeE fs f.code.length 0 f.code).2 = 0 then
        if lastOk f.code then (0, 0) else (f.code.length - 1, 11)
      else codeE fs f.code.length 0 f.code
    else (0, 3)
  else (0, 6)

def fnsE (fs : List Fn) : Nat → List Fn → Nat × Nat × Int
  | _, [] => (0, 0, 0)
  | i, f :: r => if (fnE fs f).2 = 0 then fnsE fs (i + 1) r else (i, (fnE fs f).1, (fnE fs f).2)
theorem fnsE_ok (fs : List Fn) : ∀ (l : List Fn) (i : Nat), (∀ x ∈ l, (fnE fs x).2 = 0) → fnsE fs i l = (0, 0, 0)
  | [], _, _ => rfl
  | x :: r, i, h => by
    unfold fnsE
    rw [if_pos (h x (List.mem_cons_self ..))]
    exact fnsE_ok fs r (i + 1) (fun y hy => h y (List.mem_cons_of_mem _ hy))
theorem fnsE_bad (fs : List Fn) : ∀ (l : List Fn) (i k : Nat) (x : Fn), l[k]? = some x → (∀ y ∈ l.take k, (fnE fs y).2 = 0) → (fnE fs x).2 ≠ 0 → fnsE fs i l = (i + k, (fnE fs x).1, (fnE fs x).2)
  | [], _, _, _, h, _, _ => by simp at h
  | a :: r, i, 0, x, h, _, hx => by
    simp at h; subst h
    unfold fnsE
    rw [if_neg hx]; rfl
  | a :: r, i, k + 1, x, h, hl, hx => by
    unfold fnsE
    rw [if_pos (hl a (by simp))]
    have := fnsE_bad fs r (i + 1) k x (by simpa using h) (fun y hy => hl y (by simp [hy])) hx
    rw [this, show i + 1 + k = i + (k + 1) by omega]
theorem fnsE_zero (fs : List Fn) : ∀ (l : List Fn) (i : Nat), (fnsE fs i l).2.2 = 0 → ∀ x ∈ l, (fnE fs x).2 = 0
  | [], _, _ => fun x hx => by cases hx
  | a :: r, i, h => by
    unfold fnsE at h
    by_cases ha : (fnE fs a).2 = 0
    · rw [if_pos ha] at h
      intro x hx
      rcases List.mem_cons.1 hx with rfl | hx
      · exact ha
      · exact fnsE_zero fs r (i + 1) h x hx
    · rw [if_neg ha] at h
      exact absurd h ha

/-- What Check answers: the function, the instruction, the error. -/
def chk (fs : List Fn) : Nat × Nat × Int := if 1 ≤ fs.length ∧ fs.length ≤ 16 then fnsE fs 0 fs else (0, 0, 3)
end Go.Proofs.YtbhnnnpofindiaaDoor
