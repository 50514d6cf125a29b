/-
  eval.Eval comes to the run of its program.
-/
import Derived.Test.YtbhnnnpofindiaaDoorCat
namespace Go.Proofs.YtbhnnnpofindiaaDoor
open Go.RowKit

def futs0 : List (Bool × Int) := [(false, 0), (false, 0), (false, 0), (false, 0)]
/-- What a program that may run comes to. -/
def runP (fs : List Fn) (args : List Int) (bud dep most : Int) : Out × Sh := runF fs bud dep (codeAt fs 0) [] 0 (newTk args futs0) (enter ⟨most, [], []⟩ [])

/-- What a result holds: the value, the failure, what was told, the log; and the error. -/
structure Res where
  v : Int
  f : Int
  told : List Int
  log : List (List Int × Int)
  e : Int
def resOf (r : Out × Sh) : Res := match r.1 with
  | .ok v => ⟨v, 0, r.2.told, r.2.log, 0⟩
  | .fail k => ⟨0, k, r.2.told, r.2.log, 0⟩
  | .long => ⟨0, 0, [], [], 3⟩
def evalR (fs : List Fn) (args : List Int) (bud dep most : Int) : Res := if rightB fs args.length bud dep = true then resOf (runP fs args bud dep most) else ⟨0, 0, [], [], 1⟩

/-- A result in memory. -/
def ResAt (w : World) (base : Nat) (tv lv : Value) (told : List Int) (log : List (List Int × Int)) : Prop :=
  w.ownsRow base 2 1 tv told.length (ints told) ∧ ∃ ll : List LEnt, ll.map LEnt.pure = log ∧ w.ownsRow base 49 2 lv ll.length (ll.flatMap LEnt.cells) ∧ ∀ x ∈ ll, PInts w x.A x.path
theorem ResAt.nil (w : World) (base : Nat) : ResAt w base (.slice none 0 0) (.slice none 0 0) [] [] := ⟨⟨rfl, .inl ⟨rfl, rfl⟩⟩, [], rfl, ⟨rfl, .inl ⟨rfl, rfl⟩⟩, fun x hx => by cases hx⟩

/-- What Eval comes to. -/
def EPost (w : World) (R : Res) (e : Ending) (w' : World) : Prop :=
  ∃ tv lv, e = .returned (.tuple #[.agg #[.int .i64 R.v, .int .i64 R.f, tv, lv], .int .i64 R.e]) ∧ ResAt w' w.heap.size tv lv R.told R.log ∧ Fr None' w w'

set_option maxHeartbeats 16000000 in
set_option maxRecDepth 100000 in
theorem eval_no (w : World) (PA : Option Addr) (pc : Nat) (L : List LFn) (hR : FnRow w (fun b => b < w.heap.size) PA L) (hT : FieldsAt w) (hL : L.length < 1000000) (A : Option Addr) (n ac : Nat) (hn : n ≤ 1000000) (bud dep most : Int) (hno : rightB (fns L) n bud dep = false) :
    Calls Tryd.prog 12 #[.slice PA L.length pc, .slice A n ac, .agg #[.int .i64 bud, .int .i64 dep], .int .i64 most] w (EPost w ⟨0, 0, [], [], 1⟩) := by
  have HRT := Lib.hid (fun (W : World) (hF : Fr None' w W) => right_any W PA pc L ((hR.fr hF (fun _ _ h => h)).mono (fun _ hb => Nat.lt_of_lt_of_le hb hF.size)) (hT.fr hF (fun h => h)) hL A n ac hn bud dep)
  rw [hno] at HRT
  clear hR hT hno
  go_enter_defers Tryd.func12, Tryd.ntmps12
  go_wp2_with fail
  have hF0 : Fr None' w (((w.alloc (.cells #[.int .i64 bud, .int .i64 dep] 37)).alloc (.cells #[.int .i64 0, .int .i64 0, .slice none 0 0, .slice none 0 0] 30)).alloc (.cells #[.int .i64 0] 31)) := (((Fr.refl _ w).alloc _).alloc _).alloc _
  refine (HRT.out _ hF0).mono ?_
  rintro e w1 ⟨rfl, hF1⟩
  have hBl : Blk w1 w.heap.size 37 #[.int .i64 bud, .int .i64 dep] := (((Blk.new w _ _).alloc _).alloc _).fr hF1 (fun h => h)
  have hBr : Blk w1 (w.heap.size + 1) 30 #[.int .i64 0, .int .i64 0, .slice none 0 0, .slice none 0 0] := by
    have := ((Blk.new (w.alloc (.cells #[.int .i64 bud, .int .i64 dep] 37)) 30 #[.int .i64 0, .int .i64 0, .slice none 0 0, .slice none 0 0]).alloc (.cells #[.int .i64 0] 31)).fr hF1 (fun h => h)
    rwa [show (w.alloc (.cells #[.int .i64 bud, .int .i64 dep] 37)).heap.size = w.heap.size + 1 by simp] at this
  have hBe : Blk w1 (w.heap.size + 1 + 1) 31 #[.int .i64 0] := by
    have := (Blk.new ((w.alloc (.cells #[.int .i64 bud, .int .i64 dep] 37)).alloc (.cells #[.int .i64 0, .int .i64 0, .slice none 0 0, .slice none 0 0] 30)) 31 #[.int .i64 0]).fr hF1 (fun h => h)
    rwa [show ((w.alloc (.cells #[.int .i64 bud, .int .i64 dep] 37)).alloc (.cells #[.int .i64 0, .int .i64 0, .slice none 0 0, .slice none 0 0] 30)).heap.size = w.heap.size + 1 + 1 by simp] at this
  have l0 : w1.cell? ⟨w.heap.size, 0, none⟩ = some (.int .i64 bud) := by rw [hBl.cell]; rfl
  have l1 : w1.cell? ⟨w.heap.size, 1, none⟩ = some (.int .i64 dep) := by rw [hBl.cell]; rfl
  have r0 : w1.cell? ⟨w.heap.size + 1, 0, none⟩ = some (.int .i64 0) := by rw [hBr.cell]; rfl
  have r1 : w1.cell? ⟨w.heap.size + 1, 1, none⟩ = some (.int .i64 0) := by rw [hBr.cell]; rfl
  have r2 : w1.cell? ⟨w.heap.size + 1, 2, none⟩ = some (.slice none 0 0) := by rw [hBr.cell]; rfl
  have r3 : w1.cell? ⟨w.heap.size + 1, 3, none⟩ = some (.slice none 0 0) := by rw [hBr.cell]; rfl
  have e0 : w1.cell? ⟨w.heap.size + 1 + 1, 0, none⟩ = some (.int .i64 0) := by rw [hBe.cell]; rfl
  have z0 := hBr.frozen 0
  have z1 := hBr.frozen 1
  have z2 := hBr.frozen 2
  have z3 := hBr.frozen 3
  have y0 := hBe.frozen 0
  have HF := Lib.hid (hF0.trans hF1)
  have HBr := Lib.hid hBr
  have HBe := Lib.hid hBe
  have hs1 : w.heap.size + 3 ≤ w1.heap.size := by have := hBe.lt; omega
  clear hF0 hF1 hBl hBr hBe
  go_wp2_with fail
  have hB1 := (((((HBr.out.set_ 0 (.int .i64 0)).set_ 1 (.int .i64 0)).set_ 2 (.slice none 0 0)).set_ 3 (.slice none 0 0)).far (p := ⟨w.heap.size + 1 + 1, 0, none⟩) (by simp) (.int .i64 1))
  have hB2 := (((((HBe.out.far (p := ⟨w.heap.size + 1, 0, none⟩) (by simp) (.int .i64 0)).far (p := ⟨w.heap.size + 1, 1, none⟩) (by simp) (.int .i64 0)).far (p := ⟨w.heap.size + 1, 2, none⟩) (by simp) (.slice none 0 0)).far (p := ⟨w.heap.size + 1, 3, none⟩) (by simp) (.slice none 0 0)).set_ 0 (.int .i64 1))
  have hF2 : Fr None' w (((((w1.setCell ⟨w.heap.size + 1, 0, none⟩ (.int .i64 0)).setCell ⟨w.heap.size + 1, 1, none⟩ (.int .i64 0)).setCell ⟨w.heap.size + 1, 2, none⟩ (.slice none 0 0)).setCell ⟨w.heap.size + 1, 3, none⟩ (.slice none 0 0)).setCell ⟨w.heap.size + 1 + 1, 0, none⟩ (.int .i64 1)) :=
    ((((HF.out.setCell (p := ⟨w.heap.size + 1, 0, none⟩) (.inr (by simp)) _).setCell (p := ⟨w.heap.size + 1, 1, none⟩) (.inr (by simp)) _).setCell (p := ⟨w.heap.size + 1, 2, none⟩) (.inr (by simp)) _).setCell (p := ⟨w.heap.size + 1, 3, none⟩) (.inr (by simp)) _).setCell (p := ⟨w.heap.size + 1 + 1, 0, none⟩) (.inr (by simp; omega)) _
  generalize (((((w1.setCell ⟨w.heap.size + 1, 0, none⟩ (.int .i64 0)).setCell ⟨w.heap.size + 1, 1, none⟩ (.int .i64 0)).setCell ⟨w.heap.size + 1, 2, none⟩ (.slice none 0 0)).setCell ⟨w.heap.size + 1, 3, none⟩ (.slice none 0 0)).setCell ⟨w.heap.size + 1 + 1, 0, none⟩ (.int .i64 1)) = W at hB1 hB2 hF2 ⊢
  have q0 : W.cell? ⟨w.heap.size + 1, 0, none⟩ = some (.int .i64 0) := by rw [hB1.cell]; rfl
  have q1 : W.cell? ⟨w.heap.size + 1, 1, none⟩ = some (.int .i64 0) := by rw [hB1.cell]; rfl
  have q2 : W.cell? ⟨w.heap.size + 1, 2, none⟩ = some (.slice none 0 0) := by rw [hB1.cell]; rfl
  have q3 : W.cell? ⟨w.heap.size + 1, 3, none⟩ = some (.slice none 0 0) := by rw [hB1.cell]; rfl
  have q4 : W.cell? ⟨w.heap.size + 1 + 1, 0, none⟩ = some (.int .i64 1) := by rw [hB2.cell]; rfl
  refine ⟨.tuple #[.agg #[.int .i64 0, .int .i64 0, .slice none 0 0, .slice none 0 0], .int .i64 1], ?_, ?_⟩
  · simp [results, Tryd.results12, go_sem, q0, q1, q2, q3, q4]
  · exact ⟨_, _, rfl, ResAt.nil _ _, hF2⟩

set_option maxRecDepth 100000 in
theorem at4 (W : World) (a b c d : Obj) : (((((W.alloc a).alloc b).alloc c).alloc d).heap[W.heap.size]? = some a ∧ ((((W.alloc a).alloc b).alloc c).alloc d).heap[W.heap.size + 1]? = some b ∧ ((((W.alloc a).alloc b).alloc c).alloc d).heap[W.heap.size + 1 + 1]? = some c ∧ ((((W.alloc a).alloc b).alloc c).alloc d).heap[W.heap.size + 1 + 1 + 1]? = some d) := by
  have e1 : (W.alloc a).heap.size = W.heap.size + 1 := by simp
  have e2 : ((W.alloc a).alloc b).heap.size = W.heap.size + 1 + 1 := by simp
  have e3 : (((W.alloc a).alloc b).alloc c).heap.size = W.heap.size + 1 + 1 + 1 := by simp
  refine ⟨?_, ?_, ?_, ?_⟩
  · rw [Below.heap_alloc _ d _ (by omega), Below.heap_alloc _ c _ (by omega), Below.heap_alloc _ b _ (by omega)]
    exact heap_alloc_new W a
  · rw [Below.heap_alloc _ d _ (by omega), Below.heap_alloc _ c _ (by omega), ← e1]
    exact heap_alloc_new _ b
  · rw [Below.heap_alloc _ d _ (by omega), ← e2]
    exact heap_alloc_new _ c
  · rw [← e3]
    exact heap_alloc_new _ d

theorem fin_res {c : Cx} {w W4 w6 W8 : World} {sh : Sh} {tA lA : Option Addr} {tc lc tn ln : Nat} {ll : List LEnt} {v f : Int} {rv lv0 : Array Value} (hS : ShAt c w6 sh (.slice tA sh.told.length tc) (.slice lA ll.length lc) ll) (hb : c.base = w.heap.size) (htn : sh.told.length = tn) (hln : ll.length = ln)
    (hF4 : Fr None' w W4) (hF6 : Fr (ShB c (.slice none 0 0) (.slice none 0 0)) W4 w6) (hsh : ∀ k, ShB c (.slice none 0 0) (.slice none 0 0) k → w.heap.size ≤ k) (hF9 : Fr (fun k => k = w.heap.size + 1 ∨ k = w.heap.size + 1 + 1) w6 W8) (_ : w.heap.size ≤ w.heap.size)
    (hBR : Blk w6 (w.heap.size + 1) 30 rv) (hBE : Blk w6 (w.heap.size + 1 + 1) 31 lv0) :
    EPost w ⟨v, f, sh.told, sh.log, 0⟩ (.returned (.tuple #[.agg #[.int .i64 v, .int .i64 f, .slice tA tn tc, .slice lA ln lc], .int .i64 0])) W8 := by
  subst htn hln
  have nt : ∀ {e : TypeId} {size n : Nat} {v : Value} {xs : List Value}, w6.ownsRow c.base e size v n xs → e ≠ 30 → e ≠ 31 → ∀ k, v.ownBlock = some k → ¬ (k = w.heap.size + 1 ∨ k = w.heap.size + 1 + 1) := fun ho h1 h2 k hk h => by
    rcases h with h | h
    · subst h; exact own_ne ho hBR h1 hk
    · subst h; exact own_ne ho hBE h2 hk
  refine ⟨_, _, rfl, ⟨?_, ll, hS.same, ?_, fun x hx => (hS.paths x hx).fr hF9 (fun k cs hk h => ?_)⟩, (hF4.then hF6 (fun k hk => .inr (hsh k hk))).then hF9 (fun k hk => .inr (by omega))⟩
  · have := own_fr hS.told hF9 (nt hS.told (by decide) (by decide))
    rwa [hb] at this
  · have := own_fr hS.log hF9 (nt hS.log (by decide) (by decide))
    rwa [hb] at this
  · rcases h with h | h
    · subst h; exact Blk.ne_ hk hBR (by decide) rfl
    · subst h; exact Blk.ne_ hk hBE (by decide) rfl

theorem pl_at (w : World) (n : Nat) (h : w.heap.size = n) : Calls Tryd.prog 22 #[] w fun e w' => e = .returned (.map (some n)) ∧ w' = w.alloc (.map plE 9) := by subst h; exact pl_any w
theorem ev_at (w : World) (n : Nat) (h : w.heap.size = n) : Calls Tryd.prog 23 #[] w fun e w' => e = .returned (.map (some n)) ∧ w' = w.alloc (.map evE 8) := by subst h; exact ev_any w

set_option maxHeartbeats 16000000 in
set_option maxRecDepth 100000 in
theorem eval_yes (w : World) (PA : Option Addr) (pc : Nat) (L : List LFn) (hR : FnRow w (fun b => b < w.heap.size) PA L) (hT : FieldsAt w) (hL : L.length < 1000000) (A : Option Addr) (args : List Int) (ac : Nat) (hA : IntsA w A args) (hn : args.length ≤ 1000000) (bud dep most : Int) (hyes : rightB (fns L) args.length bud dep = true) (hm : most ≤ 900000) :
    Calls Tryd.prog 12 #[.slice PA L.length pc, .slice A args.length ac, .agg #[.int .i64 bud, .int .i64 dep], .int .i64 most] w (EPost w (resOf (runP (fns L) args bud dep most))) := by
  obtain ⟨RR, hRR⟩ : ∃ RR, resOf (runP (fns L) args bud dep most) = RR := ⟨_, rfl⟩
  rw [hRR]
  have HRR := Lib.hid hRR
  have HRT := Lib.hid (fun (W : World) (hF : Fr None' w W) => right_any W PA pc L ((hR.fr hF (fun _ _ h => h)).mono (fun _ hb => Nat.lt_of_lt_of_le hb hF.size)) (hT.fr hF (fun h => h)) hL A args.length ac hn bud dep)
  rw [hyes] at HRT
  have HR := Lib.hid hR
  have HA := Lib.hid hA
  have HY := Lib.hid hyes
  have hmf : ∀ (fn : Go.Fn) (first cap : Array Value) (w : World), (Instr.makeFunc fn first cap).run Tryd.prog w = .ok (.func fn first cap) w := fun _ _ _ _ => rfl
  clear hR hT hyes hA hRR
  go_enter_defers Tryd.func12, Tryd.ntmps12
  go_wp2_with fail
  have hF0 : Fr None' w (((w.alloc (.cells #[.int .i64 bud, .int .i64 dep] 37)).alloc (.cells #[.int .i64 0, .int .i64 0, .slice none 0 0, .slice none 0 0] 30)).alloc (.cells #[.int .i64 0] 31)) := (((Fr.refl _ w).alloc _).alloc _).alloc _
  refine (HRT.out _ hF0).mono ?_
  rintro e w1 ⟨rfl, hF1⟩
  have hBl : Blk w1 w.heap.size 37 #[.int .i64 bud, .int .i64 dep] := (((Blk.new w _ _).alloc _).alloc _).fr hF1 (fun h => h)
  have hBr : Blk w1 (w.heap.size + 1) 30 #[.int .i64 0, .int .i64 0, .slice none 0 0, .slice none 0 0] := by
    have := ((Blk.new (w.alloc (.cells #[.int .i64 bud, .int .i64 dep] 37)) 30 #[.int .i64 0, .int .i64 0, .slice none 0 0, .slice none 0 0]).alloc (.cells #[.int .i64 0] 31)).fr hF1 (fun h => h)
    rwa [show (w.alloc (.cells #[.int .i64 bud, .int .i64 dep] 37)).heap.size = w.heap.size + 1 by simp] at this
  have hBe : Blk w1 (w.heap.size + 1 + 1) 31 #[.int .i64 0] := by
    have := (Blk.new ((w.alloc (.cells #[.int .i64 bud, .int .i64 dep] 37)).alloc (.cells #[.int .i64 0, .int .i64 0, .slice none 0 0, .slice none 0 0] 30)) 31 #[.int .i64 0]).fr hF1 (fun h => h)
    rwa [show ((w.alloc (.cells #[.int .i64 bud, .int .i64 dep] 37)).alloc (.cells #[.int .i64 0, .int .i64 0, .slice none 0 0, .slice none 0 0] 30)).heap.size = w.heap.size + 1 + 1 by simp] at this
  have l0 : w1.cell? ⟨w.heap.size, 0, none⟩ = some (.int .i64 bud) := by rw [hBl.cell]; rfl
  have l1 : w1.cell? ⟨w.heap.size, 1, none⟩ = some (.int .i64 dep) := by rw [hBl.cell]; rfl
  have r0 : w1.cell? ⟨w.heap.size + 1, 0, none⟩ = some (.int .i64 0) := by rw [hBr.cell]; rfl
  have r1 : w1.cell? ⟨w.heap.size + 1, 1, none⟩ = some (.int .i64 0) := by rw [hBr.cell]; rfl
  have r2 : w1.cell? ⟨w.heap.size + 1, 2, none⟩ = some (.slice none 0 0) := by rw [hBr.cell]; rfl
  have r3 : w1.cell? ⟨w.heap.size + 1, 3, none⟩ = some (.slice none 0 0) := by rw [hBr.cell]; rfl
  have e0 : w1.cell? ⟨w.heap.size + 1 + 1, 0, none⟩ = some (.int .i64 0) := by rw [hBe.cell]; rfl
  have z0 := hBr.frozen 0
  have z1 := hBr.frozen 1
  have z2 := hBr.frozen 2
  have z3 := hBr.frozen 3
  have y0 := hBe.frozen 0
  have HF := Lib.hid (hF0.trans hF1)
  have HBr := Lib.hid hBr
  have HBe := Lib.hid hBe
  have hs1 : w.heap.size + 3 ≤ w1.heap.size := by have := hBe.lt; omega
  clear hF0 hF1 hBl hBr hBe
  go_wp2_with fail
  have HKS : Hid (∀ W', Fr None' w1 W' → W'.cell? ⟨w.heap.size, 0, none⟩ = some (.int .i64 bud) ∧ W'.cell? ⟨w.heap.size, 1, none⟩ = some (.int .i64 dep)) := Lib.hid (fun W' h => ⟨h.held l0 (fun h => h), h.held l1 (fun h => h)⟩)
  refine wp_region_noPanic ?_
  refine region_K 6 (fun w' => w'.cell? ⟨w.heap.size, 0, none⟩ = some (.int .i64 bud) ∧ w'.cell? ⟨w.heap.size, 1, none⟩ = some (.int .i64 dep)) (by kernel_rfl) ?_
  have HS : (fun w' : World => w'.cell? ⟨w.heap.size, 0, none⟩ = some (.int .i64 bud) ∧ w'.cell? ⟨w.heap.size, 1, none⟩ = some (.int .i64 dep)) w1.drew := ⟨l0, l1⟩
  refine AnyK.take (i := 0) rfl (by decide) (by kernel_rfl) (by kernel_rfl) (by kernel_rfl) (fun _ _ _ _ h => h) HS (fun K hK => ?_)
  go_simp
  refine hK.out _ ⟨_, by rfl, Or.inl ⟨by rfl, by intro w hSw; (try dsimp only at hSw); go_simp⟩, ?_⟩
  clear hK K
  refine AnyK.take (i := 1) rfl (by decide) (by kernel_rfl) (by kernel_rfl) (by kernel_rfl) (fun _ _ _ _ h => h) HS (fun K hK => ?_)
  go_simp
  refine hK.out _ ⟨_, by rfl, Or.inl ⟨by rfl, by intro w hSw; (try dsimp only at hSw); go_simp⟩, ?_⟩
  clear hK K
  refine AnyK.take (i := 2) rfl (by decide) (by kernel_rfl) (by kernel_rfl) (by kernel_rfl) (fun _ _ _ _ h => h) HS (fun K hK => ?_)
  go_simp
  refine hK.out _ ⟨_, by rfl, Or.inl ⟨by rfl, by intro w hSw; (try dsimp only at hSw); go_simp⟩, ?_⟩
  clear hK K
  clear HS
  refine AnyK.two (i := 3) (j := 7) rfl rfl (by kernel_rfl) (fun K hK => ?_) (fun K hK => ?_)
  · go_simp
    refine (pl_at _ (w1.heap.size) (by simp)).mono ?_
    rintro e w' ⟨rfl, rfl⟩
    refine hK.out _ _ (fun _ => HKS.out _ (by repeat (first | exact Fr.refl _ _ | refine Fr.alloc ?_ _ | refine Fr.drew ?_))) ?_
    clear hK K
    refine AnyK.two (i := 4) (j := 7) rfl rfl (by kernel_rfl) (fun K hK => ?_) (fun K hK => ?_)
    · go_simp
      refine (ev_at _ (w1.heap.size + 1) (by simp)).mono ?_
      rintro e w' ⟨rfl, rfl⟩
      refine hK.out _ _ (fun _ => HKS.out _ (by repeat (first | exact Fr.refl _ _ | refine Fr.alloc ?_ _ | refine Fr.drew ?_))) ?_
      clear hK K
      refine AnyK.take (i := 5) rfl (by decide) (by kernel_rfl) (by kernel_rfl) (by kernel_rfl) (fun _ _ _ _ h => h) (HKS.out _ (by repeat (first | exact Fr.refl _ _ | refine Fr.alloc ?_ _ | refine Fr.drew ?_))) (fun K hK => ?_)
      go_simp
      refine hK.out _ ⟨_, by rfl, Or.inl ⟨by rfl, by intro w hSw; (try dsimp only at hSw); go_simp⟩, ?_⟩
      clear hK K
      refine AnyK.two (i := 6) (j := 7) rfl rfl (by kernel_rfl) (fun K hK => ?_) (fun K hK => ?_)
      · go_simp
        refine hK.out _ _ (fun _ => HKS.out _ (by repeat (first | exact Fr.refl _ _ | refine Fr.alloc ?_ _ | refine Fr.drew ?_))) ?_
        clear hK K
        refine AnyK.one (i := 7) rfl (by kernel_rfl) (fun K hK => ?_)
        go_simp
        refine hK.out _ _ (fun _ => HKS.out _ (by repeat (first | exact Fr.refl _ _ | refine Fr.alloc ?_ _ | refine Fr.drew ?_))) ?_
        clear hK K
        refine AnyK.one (i := 8) rfl (by kernel_rfl) (fun K hK => ?_)
        go_simp
        refine hK.out _ _ (fun h => absurd (h.symm.trans (by kernel_rfl : _ = true)) (by decide)) ?_
        clear hK K
        refine AnyK.done (by kernel_rfl) ?_ _
        refine NoPanic.normal ?_
        generalize hW4 : World.drew _ = W4
        have hpm : W4.heap[(w1.heap.size)]? = some (.map plE 9) := by rw [← hW4]; exact (at4 w1 _ _ _ _).1
        have hdm : W4.heap[(w1.heap.size + 1)]? = some (.map evE 8) := by rw [← hW4]; exact (at4 w1 _ _ _ _).2.1
        have hWn : Blk W4 (w1.heap.size + 1 + 1) 75 #[.slice PA L.length pc, .int .i64 bud, .int .i64 dep, .int .i64 most, .map (some (w1.heap.size)), .map (some (w1.heap.size + 1)), .slice none 0 0, .slice none 0 0] := by rw [← hW4]; exact (at4 w1 _ _ _ _).2.2.1
        have hCb : Blk W4 (w1.heap.size + 1 + 1 + 1) 69 #[.pointer (some ⟨(w1.heap.size + 1 + 1), 0, none⟩)] := by rw [← hW4]; exact (at4 w1 _ _ _ _).2.2.2
        have hF4 : Fr None' w1 W4 := by rw [← hW4]; repeat (first | exact Fr.refl _ _ | refine Fr.alloc ?_ _ | refine Fr.drew ?_)
        clear hW4
        obtain ⟨pm, epm⟩ : ∃ pm, (w1.heap.size) = pm := ⟨_, rfl⟩
        obtain ⟨dm, edm⟩ : ∃ dm, (w1.heap.size + 1) = dm := ⟨_, rfl⟩
        obtain ⟨Wn, eWn⟩ : ∃ Wn, (w1.heap.size + 1 + 1) = Wn := ⟨_, rfl⟩
        obtain ⟨cb, ecb⟩ : ∃ cb, (w1.heap.size + 1 + 1 + 1) = cb := ⟨_, rfl⟩
        have lWn : w.heap.size + 3 ≤ Wn := by omega
        have lcb : w.heap.size + 3 ≤ cb := by omega
        simp only [ecb] at hpm hdm hWn hCb ⊢
        simp only [eWn] at hpm hdm hWn hCb ⊢
        simp only [edm] at hpm hdm hWn hCb ⊢
        rw [epm] at hpm hWn ⊢
        clear epm edm eWn ecb
        have HF4 := Lib.hid (HF.out.trans hF4)
        have hBr := HBr.out.fr hF4 (fun h => h)
        have hBe := HBe.out.fr hF4 (fun h => h)
        obtain ⟨c, hc⟩ : ∃ c : Cx, c = ⟨w.heap.size, Wn, pm, dm, PA, pc, L, bud, dep⟩ := ⟨_, rfl⟩
        have hS : ShAt c W4 ⟨most, [], []⟩ (.slice none 0 0) (.slice none 0 0) [] := by
          subst hc
          exact ⟨hWn, by show w.heap.size ≤ Wn; omega, ⟨rfl, .inl ⟨rfl, rfl⟩⟩, ⟨rfl, .inl ⟨rfl, rfl⟩⟩, rfl, (fun x hx => by cases hx), hpm, hdm, HR.out.fr HF4.out (fun _ _ h => h)⟩
        have hyes := HY.out
        unfold rightB limB at hyes
        simp only [Bool.and_eq_true, decide_eq_true_eq] at hyes
        obtain ⟨hy1, hy2, hy3⟩ := hyes
        have hP : PFits c := by
          subst hc
          refine ⟨hy3.1, hy3.2.1, hy3.2.2.2, fun y hy => ?_⟩
          exact fnE_nought ((chk_nought hy1).2 y.f (by unfold fns; exact List.mem_map.2 ⟨y, hy, rfl⟩))
        have hL1 := (chk_nought hy1).1
        rw [show (fns L).length = L.length by simp [fns]] at hL1
        obtain ⟨y, hy⟩ : ∃ y, L[0]? = some y := ⟨_, List.getElem?_eq_getElem (by omega)⟩
        rw [fns0 hy] at hy2
        have hya := (fnE_nought ((chk_nought hy1).2 y.f (by unfold fns; exact List.mem_map.2 ⟨y, List.mem_of_getElem? hy, rfl⟩))).1
        have h8 : args.length ≤ 8 := by omega
        have hA4 : IntsA W4 A args := fun h0 => by
          obtain ⟨b, off, e, hcc⟩ := HA.out h0
          exact ⟨b, off, e, fun j x hx => HF4.out.held (hcc j x hx) (fun h => h)⟩
        have hcW : c.W = Wn := by subst hc; rfl
        have hcb' : c.base = w.heap.size := by subst hc; rfl
        have hrp : runF (fns c.L) c.bud c.dep y.f.code [] ([] : List (List Int × Int)).length (newTk args futs0) (enter ⟨most, [], []⟩ []) = runP (fns L) args bud dep most := by
          subst hc
          unfold runP codeAt
          rw [fns, List.getElem?_map, hy]
          rfl
        have hEv := eval_all c hP (most.toNat + 1) W4 ⟨most, [], []⟩ (.slice none 0 0) (.slice none 0 0) [] 0 y args A ac [] none 0 futs0 hS (Nat.lt_succ_self _) (by subst hc; exact hy) hA4 h8 PInts.nil (by subst hc; exact hy3.2.2.1) (Nat.zero_le _) rfl ⟨by simp [enter]; omega, by simp [enter]; omega⟩
        rw [hcW] at hEv
        have hEv2 : Calls Tryd.prog 25 #[.pointer (some ⟨Wn, 0, none⟩), .int .i64 0, .slice A args.length ac, .slice none 0 0, .agg #[.bool false, .int .i64 0, .bool false, .int .i64 0, .bool false, .int .i64 0, .bool false, .int .i64 0]] W4 (EvPost c W4 (.slice none 0 0) (.slice none 0 0) (runP (fns L) args bud dep most)) := hrp ▸ hEv
        obtain ⟨r, hr⟩ : ∃ r, runP (fns L) args bud dep most = r := ⟨_, rfl⟩
        rw [hr] at hEv2
        have HRs : Hid (resOf r = RR) := Lib.hid (by rw [← hr]; exact HRR.out)
        have HEV := Lib.hid hEv2
        have k0 : W4.cell? ⟨cb, 0, none⟩ = some (.pointer (some ⟨Wn, 0, none⟩)) := by rw [hCb.cell]; rfl
        have hne : cb ≠ Wn := fun h => by subst h; exact Blk.ne_ hCb hWn (by decide) rfl
        have HBr4 := Lib.hid hBr
        have HBe4 := Lib.hid hBe
        have HCb := Lib.hid hCb
        have HcW := Lib.hid hcW
        have Hcb := Lib.hid hcb'
        have shb : Hid (∀ k, ShB c (.slice none 0 0) (.slice none 0 0) k → k = Wn) := Lib.hid (fun k hk => by
          rcases hk with h | h | h
          · rw [h, HcW.out]
          · cases h
          · cases h)
        clear hF4 hBr hBe hS hy1 hy2 hy3 hP hL1 hy hya hA4 hcW hcb' hrp hEv hEv2 hr hc hpm hdm hWn hCb HRT HKS l0 l1 r0 r1 r2 r3 e0 z0 z1 z2 z3 y0 HF HBr HBe
        go_wp2_with fail
        refine HEV.out.mono ?_
        intro e w6 hp
        obtain ⟨oo, sh2⟩ := r
        cases oo with
        | ok v =>
          obtain ⟨rfl, tv, lv, ll, hS6, hF6, n1, n2⟩ := hp
          obtain ⟨tA, tc, htv⟩ := own_slice hS6.told
          obtain ⟨lA, lc, hlv⟩ := own_slice hS6.log
          subst htv hlv
          obtain ⟨tn, htn⟩ : ∃ tn, sh2.told.length = tn := ⟨_, rfl⟩
          obtain ⟨ln, hln⟩ : ∃ ln, ll.length = ln := ⟨_, rfl⟩
          have BW := hS6.blk
          rw [HcW.out, htn, hln] at BW
          have m6 : w6.cell? ⟨Wn, 6, none⟩ = some (.slice tA tn tc) := by rw [BW.cell]; rfl
          have m7 : w6.cell? ⟨Wn, 7, none⟩ = some (.slice lA ln lc) := by rw [BW.cell]; rfl
          have m0 : w6.cell? ⟨cb, 0, none⟩ = some (.pointer (some ⟨Wn, 0, none⟩)) := hF6.held k0 (fun h => hne (shb.out _ h))
          have BR := HBr4.out.fr hF6 (fun h => by have := shb.out _ h; omega)
          have BE := HBe4.out.fr hF6 (fun h => by have := shb.out _ h; omega)
          have r0 : w6.cell? ⟨w.heap.size + 1, 0, none⟩ = some (.int .i64 0) := by rw [BR.cell]; rfl
          have r1 : w6.cell? ⟨w.heap.size + 1, 1, none⟩ = some (.int .i64 0) := by rw [BR.cell]; rfl
          have r2 : w6.cell? ⟨w.heap.size + 1, 2, none⟩ = some (.slice none 0 0) := by rw [BR.cell]; rfl
          have r3 : w6.cell? ⟨w.heap.size + 1, 3, none⟩ = some (.slice none 0 0) := by rw [BR.cell]; rfl
          have e0 : w6.cell? ⟨w.heap.size + 1 + 1, 0, none⟩ = some (.int .i64 0) := by rw [BE.cell]; rfl
          have z0 := BR.frozen 0
          have z1 := BR.frozen 1
          have z2 := BR.frozen 2
          have z3 := BR.frozen 3
          have y0 := BE.frozen 0
          have HS6 := Lib.hid hS6
          have HF6 := Lib.hid hF6
          have HBR := Lib.hid BR
          have HBE := Lib.hid BE
          have HTN := Lib.hid htn
          have HLN := Lib.hid hln
          have nW1 : w.heap.size + 1 ≠ Wn := by omega
          have nC1 : w.heap.size + 1 ≠ cb := by omega
          clear hS6 hF6 n1 n2 BW BR BE htn hln
          go_wp2_with fail
          refine wp_region_noPanic ?_
          refine region_K 10 (fun w' => w'.cell? ⟨cb, 0, none⟩ = some (.pointer (some ⟨Wn, 0, none⟩)) ∧ w'.cell? ⟨Wn, 6, none⟩ = some (.slice tA tn tc) ∧ w'.cell? ⟨Wn, 7, none⟩ = some (.slice lA ln lc)) (by kernel_rfl) ?_
          have HS : (fun w' : World => w'.cell? ⟨cb, 0, none⟩ = some (.pointer (some ⟨Wn, 0, none⟩)) ∧ w'.cell? ⟨Wn, 6, none⟩ = some (.slice tA tn tc) ∧ w'.cell? ⟨Wn, 7, none⟩ = some (.slice lA ln lc)) w6.drew := ⟨m0, m6, m7⟩
          refine AnyK.take (i := 0) rfl (by decide) (by kernel_rfl) (by kernel_rfl) (by kernel_rfl) (fun _ _ _ _ h => h) HS (fun K hK => ?_)
          go_simp
          refine hK.out _ ⟨_, by rfl, Or.inl ⟨by rfl, by intro w hSw; (try dsimp only at hSw); go_simp⟩, ?_⟩
          clear hK K
          refine AnyK.take (i := 1) rfl (by decide) (by kernel_rfl) (by kernel_rfl) (by kernel_rfl) (fun _ _ _ _ h => h) HS (fun K hK => ?_)
          go_simp
          refine hK.out _ ⟨_, by rfl, Or.inl ⟨by rfl, by intro w hSw; (try dsimp only at hSw); go_simp⟩, ?_⟩
          clear hK K
          refine AnyK.take (i := 2) rfl (by decide) (by kernel_rfl) (by kernel_rfl) (by kernel_rfl) (fun _ _ _ _ h => h) HS (fun K hK => ?_)
          go_simp
          refine hK.out _ ⟨_, by rfl, Or.inl ⟨by rfl, by intro w hSw; (try dsimp only at hSw); go_simp⟩, ?_⟩
          clear hK K
          refine AnyK.take (i := 3) rfl (by decide) (by kernel_rfl) (by kernel_rfl) (by kernel_rfl) (fun _ _ _ _ h => h) HS (fun K hK => ?_)
          go_simp
          refine hK.out _ ⟨_, by rfl, Or.inl ⟨by rfl, by intro w hSw; (try dsimp only at hSw); go_simp⟩, ?_⟩
          clear hK K
          refine AnyK.take (i := 4) rfl (by decide) (by kernel_rfl) (by kernel_rfl) (by kernel_rfl) (fun _ _ _ _ h => h) HS (fun K hK => ?_)
          go_simp
          refine hK.out _ ⟨_, by rfl, Or.inl ⟨by rfl, by intro w hSw; (try dsimp only at hSw); go_simp⟩, ?_⟩
          clear hK K
          refine AnyK.take (i := 5) rfl (by decide) (by kernel_rfl) (by kernel_rfl) (by kernel_rfl) (fun _ _ _ _ h => h) HS (fun K hK => ?_)
          go_simp
          refine hK.out _ ⟨_, by rfl, Or.inl ⟨by rfl, by intro w hSw; (try dsimp only at hSw); go_simp⟩, ?_⟩
          clear hK K
          refine AnyK.take (i := 6) rfl (by decide) (by kernel_rfl) (by kernel_rfl) (by kernel_rfl) (fun _ _ _ _ h => h) HS (fun K hK => ?_)
          go_simp
          refine hK.out _ ⟨_, by rfl, Or.inl ⟨by rfl, by intro w hSw; (try dsimp only at hSw); go_simp⟩, ?_⟩
          clear hK K
          refine AnyK.take (i := 7) rfl (by decide) (by kernel_rfl) (by kernel_rfl) (by kernel_rfl) (fun _ _ _ _ h => h) HS (fun K hK => ?_)
          go_simp
          refine hK.out _ ⟨_, by rfl, Or.inl ⟨by rfl, by intro w hSw; (try dsimp only at hSw); go_simp⟩, ?_⟩
          clear hK K
          refine AnyK.take (i := 8) rfl (by decide) (by kernel_rfl) (by kernel_rfl) (by kernel_rfl) (fun _ _ _ _ h => h) HS (fun K hK => ?_)
          go_simp
          refine hK.out _ ⟨_, by rfl, Or.inl ⟨by rfl, by intro w hSw; (try dsimp only at hSw); go_simp⟩, ?_⟩
          clear hK K
          refine AnyK.take (i := 9) rfl (by decide) (by kernel_rfl) (by kernel_rfl) (by kernel_rfl) (fun _ _ _ _ h => h) HS (fun K hK => ?_)
          go_simp
          refine hK.out _ ⟨_, by rfl, Or.inl ⟨by rfl, by intro w hSw; (try dsimp only at hSw); go_simp⟩, ?_⟩
          clear hK K
          refine AnyK.one (i := 10) rfl (by kernel_rfl) (fun K hK => ?_)
          go_simp
          have hB1 : Blk ((((w6.setCell ⟨w.heap.size + 1, 0, none⟩ (.int .i64 v)).setCell ⟨w.heap.size + 1, 1, none⟩ (.int .i64 0)).setCell ⟨w.heap.size + 1, 2, none⟩ (.slice tA tn tc)).setCell ⟨w.heap.size + 1, 3, none⟩ (.slice lA ln lc)).drew (w.heap.size + 1) 30 #[.int .i64 v, .int .i64 0, .slice tA tn tc, .slice lA ln lc] := ((((HBR.out.set_ 0 (.int .i64 v)).set_ 1 (.int .i64 0)).set_ 2 (.slice tA tn tc)).set_ 3 (.slice lA ln lc)).drew
          have hF1 : Fr (fun k => k = w.heap.size + 1) w6 ((((w6.setCell ⟨w.heap.size + 1, 0, none⟩ (.int .i64 v)).setCell ⟨w.heap.size + 1, 1, none⟩ (.int .i64 0)).setCell ⟨w.heap.size + 1, 2, none⟩ (.slice tA tn tc)).setCell ⟨w.heap.size + 1, 3, none⟩ (.slice lA ln lc)).drew := (((((Fr.refl (fun k => k = w.heap.size + 1) w6).setCell (p := ⟨w.heap.size + 1, 0, none⟩) (.inl rfl) _).setCell (p := ⟨w.heap.size + 1, 1, none⟩) (.inl rfl) _).setCell (p := ⟨w.heap.size + 1, 2, none⟩) (.inl rfl) _).setCell (p := ⟨w.heap.size + 1, 3, none⟩) (.inl rfl) _).drew
          refine hK.out _ _ (fun _ => ⟨hF1.held m0 (fun h => nC1 h.symm), hF1.held m6 (fun h => nW1 h.symm), hF1.held m7 (fun h => nW1 h.symm)⟩) ?_
          clear hK K
          generalize hW7 : ((((w6.setCell ⟨w.heap.size + 1, 0, none⟩ (.int .i64 v)).setCell ⟨w.heap.size + 1, 1, none⟩ (.int .i64 0)).setCell ⟨w.heap.size + 1, 2, none⟩ (.slice tA tn tc)).setCell ⟨w.heap.size + 1, 3, none⟩ (.slice lA ln lc)).drew = W7 at hB1 hF1 ⊢
          have HB1 := Lib.hid hB1
          have HF1 := Lib.hid hF1
          have hB2 := HBE.out.fr hF1 (fun h => by have h' : w.heap.size + 1 + 1 = w.heap.size + 1 := h; omega)
          have e0' : W7.cell? ⟨w.heap.size + 1 + 1, 0, none⟩ = some (.int .i64 0) := by rw [hB2.cell]; rfl
          have y0' := hB2.frozen 0
          have HB2 := Lib.hid hB2
          clear hB1 hF1 HS hB2 hW7
          refine AnyK.one (i := 11) rfl (by kernel_rfl) (fun K hK => ?_)
          go_simp
          refine hK.out _ _ (fun h => absurd (h.symm.trans (by kernel_rfl : _ = true)) (by decide)) ?_
          clear hK K
          refine AnyK.done (by kernel_rfl) ?_ _
          refine NoPanic.normal ?_
          go_wp2
          refine leaves_cons (f := 24) (args := #[.pointer (some ⟨cb, 0, none⟩), .pointer (some ⟨w.heap.size + 1, 0, none⟩), .pointer (some ⟨w.heap.size + 1 + 1, 0, none⟩)]) (by simp) (by simp [go_sem]) ?_
          refine (ecatch_idle _ _ _ _).mono ?_
          rintro e u' w'' ⟨rfl, rfl, rfl⟩
          have hB8 := HB1.out.far (p := ⟨w.heap.size + 1 + 1, 0, none⟩) (by simp) (.int .i64 0)
          have hB9 := HB2.out.set_ 0 (.int .i64 0)
          have hF9 : Fr (fun k => k = w.heap.size + 1 ∨ k = w.heap.size + 1 + 1) w6 (W7.setCell ⟨w.heap.size + 1 + 1, 0, none⟩ (.int .i64 0)) := (HF1.out.mono (fun _ h => .inl h)).setCell (p := ⟨w.heap.size + 1 + 1, 0, none⟩) (.inl (.inr rfl)) _
          generalize W7.setCell ⟨w.heap.size + 1 + 1, 0, none⟩ (.int .i64 0) = W8 at hB8 hB9 hF9 ⊢
          have q0 : W8.cell? ⟨w.heap.size + 1, 0, none⟩ = some (.int .i64 v) := by rw [hB8.cell]; rfl
          have q1 : W8.cell? ⟨w.heap.size + 1, 1, none⟩ = some (.int .i64 0) := by rw [hB8.cell]; rfl
          have q2 : W8.cell? ⟨w.heap.size + 1, 2, none⟩ = some (.slice tA tn tc) := by rw [hB8.cell]; rfl
          have q3 : W8.cell? ⟨w.heap.size + 1, 3, none⟩ = some (.slice lA ln lc) := by rw [hB8.cell]; rfl
          have q4 : W8.cell? ⟨w.heap.size + 1 + 1, 0, none⟩ = some (.int .i64 0) := by rw [hB9.cell]; rfl
          refine ⟨.tuple #[.agg #[.int .i64 v, .int .i64 0, .slice tA tn tc, .slice lA ln lc], .int .i64 0], ?_, ?_⟩
          · simp [results, Tryd.results12, go_sem, q0, q1, q2, q3, q4]
          · rw [← HRs.out]
            exact fin_res HS6.out Hcb.out HTN.out HLN.out HF4.out HF6.out (fun k hk => by have := shb.out k hk; omega) hF9 (by omega) HBR.out HBE.out
        | fail k =>
          obtain ⟨rfl, tv, lv, ll, hS6, hF6⟩ := hp
          obtain ⟨tA, tc, htv⟩ := own_slice hS6.told
          obtain ⟨lA, lc, hlv⟩ := own_slice hS6.log
          subst htv hlv
          obtain ⟨tn, htn⟩ : ∃ tn, sh2.told.length = tn := ⟨_, rfl⟩
          obtain ⟨ln, hln⟩ : ∃ ln, ll.length = ln := ⟨_, rfl⟩
          have BW := hS6.blk
          rw [HcW.out, htn, hln] at BW
          have m6 : w6.cell? ⟨Wn, 6, none⟩ = some (.slice tA tn tc) := by rw [BW.cell]; rfl
          have m7 : w6.cell? ⟨Wn, 7, none⟩ = some (.slice lA ln lc) := by rw [BW.cell]; rfl
          have m0 : w6.cell? ⟨cb, 0, none⟩ = some (.pointer (some ⟨Wn, 0, none⟩)) := hF6.held k0 (fun h => hne (shb.out _ h))
          have BR := HBr4.out.fr hF6 (fun h => by have := shb.out _ h; omega)
          have BE := HBe4.out.fr hF6 (fun h => by have := shb.out _ h; omega)
          have HS6 := Lib.hid hS6
          have HF6 := Lib.hid hF6
          have HBR := Lib.hid BR
          have HBE := Lib.hid BE
          have HTN := Lib.hid htn
          have HLN := Lib.hid hln
          clear hS6 hF6 BW BR BE htn hln
          go_wp2
          refine leaves_cons (f := 24) (args := #[.pointer (some ⟨cb, 0, none⟩), .pointer (some ⟨w.heap.size + 1, 0, none⟩), .pointer (some ⟨w.heap.size + 1 + 1, 0, none⟩)]) (by simp) (by simp [go_sem]) ?_
          refine (ecatch_fail cb (w.heap.size + 1) (w.heap.size + 1 + 1) Wn k tA lA tn tc ln lc _ _ _ _ _ [] w6 (by omega) (by omega) (by omega) (by omega) (by omega) HBR.out HBE.out m0 m6 m7).mono ?_
          rintro e u' W8 ⟨rfl, rfl, hB8, hB9, hF9⟩
          have q0 : W8.cell? ⟨w.heap.size + 1, 0, none⟩ = some (.int .i64 0) := by rw [hB8.cell]; rfl
          have q1 : W8.cell? ⟨w.heap.size + 1, 1, none⟩ = some (.int .i64 k) := by rw [hB8.cell]; rfl
          have q2 : W8.cell? ⟨w.heap.size + 1, 2, none⟩ = some (.slice tA tn tc) := by rw [hB8.cell]; rfl
          have q3 : W8.cell? ⟨w.heap.size + 1, 3, none⟩ = some (.slice lA ln lc) := by rw [hB8.cell]; rfl
          have q4 : W8.cell? ⟨w.heap.size + 1 + 1, 0, none⟩ = some (.int .i64 0) := by rw [hB9.cell]; rfl
          refine ⟨.tuple #[.agg #[.int .i64 0, .int .i64 k, .slice tA tn tc, .slice lA ln lc], .int .i64 0], ?_, ?_⟩
          · simp only [results, Tryd.results12]
            simp [go_sem, q0, q1, q2, q3, q4]
          · rw [← HRs.out]
            exact fin_res HS6.out Hcb.out HTN.out HLN.out HF4.out HF6.out (fun k hk => by have := shb.out k hk; omega) hF9 (by omega) HBR.out HBE.out
        | long =>
          obtain ⟨rfl, hF6⟩ := hp
          have BR := HBr4.out.fr hF6 (fun h => by have := shb.out _ h; omega)
          have BE := HBe4.out.fr hF6 (fun h => by have := shb.out _ h; omega)
          have HF6 := Lib.hid hF6
          have HBR := Lib.hid BR
          have HBE := Lib.hid BE
          clear hF6 BR BE
          go_wp2
          refine leaves_cons (f := 24) (args := #[.pointer (some ⟨cb, 0, none⟩), .pointer (some ⟨w.heap.size + 1, 0, none⟩), .pointer (some ⟨w.heap.size + 1 + 1, 0, none⟩)]) (by simp) (by simp [go_sem]) ?_
          refine (ecatch_long cb (w.heap.size + 1) (w.heap.size + 1 + 1) _ _ _ _ _ [] w6 (by omega) HBR.out HBE.out).mono ?_
          rintro e u' W8 ⟨rfl, rfl, hB8, hB9, hF9⟩
          have q0 : W8.cell? ⟨w.heap.size + 1, 0, none⟩ = some (.int .i64 0) := by rw [hB8.cell]; rfl
          have q1 : W8.cell? ⟨w.heap.size + 1, 1, none⟩ = some (.int .i64 0) := by rw [hB8.cell]; rfl
          have q2 : W8.cell? ⟨w.heap.size + 1, 2, none⟩ = some (.slice none 0 0) := by rw [hB8.cell]; rfl
          have q3 : W8.cell? ⟨w.heap.size + 1, 3, none⟩ = some (.slice none 0 0) := by rw [hB8.cell]; rfl
          have q4 : W8.cell? ⟨w.heap.size + 1 + 1, 0, none⟩ = some (.int .i64 3) := by rw [hB9.cell]; rfl
          refine ⟨.tuple #[.agg #[.int .i64 0, .int .i64 0, .slice none 0 0, .slice none 0 0], .int .i64 3], ?_, ?_⟩
          · simp only [results, Tryd.results12]
            simp [go_sem, q0, q1, q2, q3, q4]
          · rw [← HRs.out]
            exact ⟨_, _, rfl, ResAt.nil _ _, (HF4.out.then HF6.out (fun k hk => .inr (by have := shb.out k hk; omega))).then hF9 (fun k hk => .inr (by omega))⟩
      · go_simp
        refine hK.out _ _ (fun _ => HKS.out _ (by repeat (first | exact Fr.refl _ _ | refine Fr.alloc ?_ _ | refine Fr.drew ?_))) ?_
        clear hK K
        refine AnyK.one (i := 6) rfl (by kernel_rfl) (fun K hK => ?_)
        go_simp
        refine hK.out _ _ (fun _ => HKS.out _ (by repeat (first | exact Fr.refl _ _ | refine Fr.alloc ?_ _ | refine Fr.drew ?_))) ?_
        clear hK K
        refine AnyK.one (i := 8) rfl (by kernel_rfl) (fun K hK => ?_)
        go_simp
        refine hK.out _ _ (fun h => absurd (h.symm.trans (by kernel_rfl : _ = true)) (by decide)) ?_
        clear hK K
        refine AnyK.done (by kernel_rfl) ?_ _
        refine NoPanic.normal ?_
        generalize hW4 : World.drew _ = W4
        have hpm : W4.heap[(w1.heap.size)]? = some (.map plE 9) := by rw [← hW4]; exact (at4 w1 _ _ _ _).1
        have hdm : W4.heap[(w1.heap.size + 1)]? = some (.map evE 8) := by rw [← hW4]; exact (at4 w1 _ _ _ _).2.1
        have hWn : Blk W4 (w1.heap.size + 1 + 1 + 1) 75 #[.slice PA L.length pc, .int .i64 bud, .int .i64 dep, .int .i64 most, .map (some (w1.heap.size)), .map (some (w1.heap.size + 1)), .slice none 0 0, .slice none 0 0] := by rw [← hW4]; exact (at4 w1 _ _ _ _).2.2.2
        have hCb : Blk W4 (w1.heap.size + 1 + 1) 69 #[.pointer (some ⟨(w1.heap.size + 1 + 1 + 1), 0, none⟩)] := by rw [← hW4]; exact (at4 w1 _ _ _ _).2.2.1
        have hF4 : Fr None' w1 W4 := by rw [← hW4]; repeat (first | exact Fr.refl _ _ | refine Fr.alloc ?_ _ | refine Fr.drew ?_)
        clear hW4
        obtain ⟨pm, epm⟩ : ∃ pm, (w1.heap.size) = pm := ⟨_, rfl⟩
        obtain ⟨dm, edm⟩ : ∃ dm, (w1.heap.size + 1) = dm := ⟨_, rfl⟩
        obtain ⟨Wn, eWn⟩ : ∃ Wn, (w1.heap.size + 1 + 1 + 1) = Wn := ⟨_, rfl⟩
        obtain ⟨cb, ecb⟩ : ∃ cb, (w1.heap.size + 1 + 1) = cb := ⟨_, rfl⟩
        have lWn : w.heap.size + 3 ≤ Wn := by omega
        have lcb : w.heap.size + 3 ≤ cb := by omega
        simp only [eWn] at hpm hdm hWn hCb ⊢
        simp only [ecb] at hpm hdm hWn hCb ⊢
        simp only [edm] at hpm hdm hWn hCb ⊢
        rw [epm] at hpm hWn ⊢
        clear epm edm eWn ecb
        have HF4 := Lib.hid (HF.out.trans hF4)
        have hBr := HBr.out.fr hF4 (fun h => h)
        have hBe := HBe.out.fr hF4 (fun h => h)
        obtain ⟨c, hc⟩ : ∃ c : Cx, c = ⟨w.heap.size, Wn, pm, dm, PA, pc, L, bud, dep⟩ := ⟨_, rfl⟩
        have hS : ShAt c W4 ⟨most, [], []⟩ (.slice none 0 0) (.slice none 0 0) [] := by
          subst hc
          exact ⟨hWn, by show w.heap.size ≤ Wn; omega, ⟨rfl, .inl ⟨rfl, rfl⟩⟩, ⟨rfl, .inl ⟨rfl, rfl⟩⟩, rfl, (fun x hx => by cases hx), hpm, hdm, HR.out.fr HF4.out (fun _ _ h => h)⟩
        have hyes := HY.out
        unfold rightB limB at hyes
        simp only [Bool.and_eq_true, decide_eq_true_eq] at hyes
        obtain ⟨hy1, hy2, hy3⟩ := hyes
        have hP : PFits c := by
          subst hc
          refine ⟨hy3.1, hy3.2.1, hy3.2.2.2, fun y hy => ?_⟩
          exact fnE_nought ((chk_nought hy1).2 y.f (by unfold fns; exact List.mem_map.2 ⟨y, hy, rfl⟩))
        have hL1 := (chk_nought hy1).1
        rw [show (fns L).length = L.length by simp [fns]] at hL1
        obtain ⟨y, hy⟩ : ∃ y, L[0]? = some y := ⟨_, List.getElem?_eq_getElem (by omega)⟩
        rw [fns0 hy] at hy2
        have hya := (fnE_nought ((chk_nought hy1).2 y.f (by unfold fns; exact List.mem_map.2 ⟨y, List.mem_of_getElem? hy, rfl⟩))).1
        have h8 : args.length ≤ 8 := by omega
        have hA4 : IntsA W4 A args := fun h0 => by
          obtain ⟨b, off, e, hcc⟩ := HA.out h0
          exact ⟨b, off, e, fun j x hx => HF4.out.held (hcc j x hx) (fun h => h)⟩
        have hcW : c.W = Wn := by subst hc; rfl
        have hcb' : c.base = w.heap.size := by subst hc; rfl
        have hrp : runF (fns c.L) c.bud c.dep y.f.code [] ([] : List (List Int × Int)).length (newTk args futs0) (enter ⟨most, [], []⟩ []) = runP (fns L) args bud dep most := by
          subst hc
          unfold runP codeAt
          rw [fns, List.getElem?_map, hy]
          rfl
        have hEv := eval_all c hP (most.toNat + 1) W4 ⟨most, [], []⟩ (.slice none 0 0) (.slice none 0 0) [] 0 y args A ac [] none 0 futs0 hS (Nat.lt_succ_self _) (by subst hc; exact hy) hA4 h8 PInts.nil (by subst hc; exact hy3.2.2.1) (Nat.zero_le _) rfl ⟨by simp [enter]; omega, by simp [enter]; omega⟩
        rw [hcW] at hEv
        have hEv2 : Calls Tryd.prog 25 #[.pointer (some ⟨Wn, 0, none⟩), .int .i64 0, .slice A args.length ac, .slice none 0 0, .agg #[.bool false, .int .i64 0, .bool false, .int .i64 0, .bool false, .int .i64 0, .bool false, .int .i64 0]] W4 (EvPost c W4 (.slice none 0 0) (.slice none 0 0) (runP (fns L) args bud dep most)) := hrp ▸ hEv
        obtain ⟨r, hr⟩ : ∃ r, runP (fns L) args bud dep most = r := ⟨_, rfl⟩
        rw [hr] at hEv2
        have HRs : Hid (resOf r = RR) := Lib.hid (by rw [← hr]; exact HRR.out)
        have HEV := Lib.hid hEv2
        have k0 : W4.cell? ⟨cb, 0, none⟩ = some (.pointer (some ⟨Wn, 0, none⟩)) := by rw [hCb.cell]; rfl
        have hne : cb ≠ Wn := fun h => by subst h; exact Blk.ne_ hCb hWn (by decide) rfl
        have HBr4 := Lib.hid hBr
        have HBe4 := Lib.hid hBe
        have HCb := Lib.hid hCb
        have HcW := Lib.hid hcW
        have Hcb := Lib.hid hcb'
        have shb : Hid (∀ k, ShB c (.slice none 0 0) (.slice none 0 0) k → k = Wn) := Lib.hid (fun k hk => by
          rcases hk with h | h | h
          · rw [h, HcW.out]
          · cases h
          · cases h)
        clear hF4 hBr hBe hS hy1 hy2 hy3 hP hL1 hy hya hA4 hcW hcb' hrp hEv hEv2 hr hc hpm hdm hWn hCb HRT HKS l0 l1 r0 r1 r2 r3 e0 z0 z1 z2 z3 y0 HF HBr HBe
        go_wp2_with fail
        refine HEV.out.mono ?_
        intro e w6 hp
        obtain ⟨oo, sh2⟩ := r
        cases oo with
        | ok v =>
          obtain ⟨rfl, tv, lv, ll, hS6, hF6, n1, n2⟩ := hp
          obtain ⟨tA, tc, htv⟩ := own_slice hS6.told
          obtain ⟨lA, lc, hlv⟩ := own_slice hS6.log
          subst htv hlv
          obtain ⟨tn, htn⟩ : ∃ tn, sh2.told.length = tn := ⟨_, rfl⟩
          obtain ⟨ln, hln⟩ : ∃ ln, ll.length = ln := ⟨_, rfl⟩
          have BW := hS6.blk
          rw [HcW.out, htn, hln] at BW
          have m6 : w6.cell? ⟨Wn, 6, none⟩ = some (.slice tA tn tc) := by rw [BW.cell]; rfl
          have m7 : w6.cell? ⟨Wn, 7, none⟩ = some (.slice lA ln lc) := by rw [BW.cell]; rfl
          have m0 : w6.cell? ⟨cb, 0, none⟩ = some (.pointer (some ⟨Wn, 0, none⟩)) := hF6.held k0 (fun h => hne (shb.out _ h))
          have BR := HBr4.out.fr hF6 (fun h => by have := shb.out _ h; omega)
          have BE := HBe4.out.fr hF6 (fun h => by have := shb.out _ h; omega)
          have r0 : w6.cell? ⟨w.heap.size + 1, 0, none⟩ = some (.int .i64 0) := by rw [BR.cell]; rfl
          have r1 : w6.cell? ⟨w.heap.size + 1, 1, none⟩ = some (.int .i64 0) := by rw [BR.cell]; rfl
          have r2 : w6.cell? ⟨w.heap.size + 1, 2, none⟩ = some (.slice none 0 0) := by rw [BR.cell]; rfl
          have r3 : w6.cell? ⟨w.heap.size + 1, 3, none⟩ = some (.slice none 0 0) := by rw [BR.cell]; rfl
          have e0 : w6.cell? ⟨w.heap.size + 1 + 1, 0, none⟩ = some (.int .i64 0) := by rw [BE.cell]; rfl
          have z0 := BR.frozen 0
          have z1 := BR.frozen 1
          have z2 := BR.frozen 2
          have z3 := BR.frozen 3
          have y0 := BE.frozen 0
          have HS6 := Lib.hid hS6
          have HF6 := Lib.hid hF6
          have HBR := Lib.hid BR
          have HBE := Lib.hid BE
          have HTN := Lib.hid htn
          have HLN := Lib.hid hln
          have nW1 : w.heap.size + 1 ≠ Wn := by omega
          have nC1 : w.heap.size + 1 ≠ cb := by omega
          clear hS6 hF6 n1 n2 BW BR BE htn hln
          go_wp2_with fail
          refine wp_region_noPanic ?_
          refine region_K 10 (fun w' => w'.cell? ⟨cb, 0, none⟩ = some (.pointer (some ⟨Wn, 0, none⟩)) ∧ w'.cell? ⟨Wn, 6, none⟩ = some (.slice tA tn tc) ∧ w'.cell? ⟨Wn, 7, none⟩ = some (.slice lA ln lc)) (by kernel_rfl) ?_
          have HS : (fun w' : World => w'.cell? ⟨cb, 0, none⟩ = some (.pointer (some ⟨Wn, 0, none⟩)) ∧ w'.cell? ⟨Wn, 6, none⟩ = some (.slice tA tn tc) ∧ w'.cell? ⟨Wn, 7, none⟩ = some (.slice lA ln lc)) w6.drew := ⟨m0, m6, m7⟩
          refine AnyK.take (i := 0) rfl (by decide) (by kernel_rfl) (by kernel_rfl) (by kernel_rfl) (fun _ _ _ _ h => h) HS (fun K hK => ?_)
          go_simp
          refine hK.out _ ⟨_, by rfl, Or.inl ⟨by rfl, by intro w hSw; (try dsimp only at hSw); go_simp⟩, ?_⟩
          clear hK K
          refine AnyK.take (i := 1) rfl (by decide) (by kernel_rfl) (by kernel_rfl) (by kernel_rfl) (fun _ _ _ _ h => h) HS (fun K hK => ?_)
          go_simp
          refine hK.out _ ⟨_, by rfl, Or.inl ⟨by rfl, by intro w hSw; (try dsimp only at hSw); go_simp⟩, ?_⟩
          clear hK K
          refine AnyK.take (i := 2) rfl (by decide) (by kernel_rfl) (by kernel_rfl) (by kernel_rfl) (fun _ _ _ _ h => h) HS (fun K hK => ?_)
          go_simp
          refine hK.out _ ⟨_, by rfl, Or.inl ⟨by rfl, by intro w hSw; (try dsimp only at hSw); go_simp⟩, ?_⟩
          clear hK K
          refine AnyK.take (i := 3) rfl (by decide) (by kernel_rfl) (by kernel_rfl) (by kernel_rfl) (fun _ _ _ _ h => h) HS (fun K hK => ?_)
          go_simp
          refine hK.out _ ⟨_, by rfl, Or.inl ⟨by rfl, by intro w hSw; (try dsimp only at hSw); go_simp⟩, ?_⟩
          clear hK K
          refine AnyK.take (i := 4) rfl (by decide) (by kernel_rfl) (by kernel_rfl) (by kernel_rfl) (fun _ _ _ _ h => h) HS (fun K hK => ?_)
          go_simp
          refine hK.out _ ⟨_, by rfl, Or.inl ⟨by rfl, by intro w hSw; (try dsimp only at hSw); go_simp⟩, ?_⟩
          clear hK K
          refine AnyK.take (i := 5) rfl (by decide) (by kernel_rfl) (by kernel_rfl) (by kernel_rfl) (fun _ _ _ _ h => h) HS (fun K hK => ?_)
          go_simp
          refine hK.out _ ⟨_, by rfl, Or.inl ⟨by rfl, by intro w hSw; (try dsimp only at hSw); go_simp⟩, ?_⟩
          clear hK K
          refine AnyK.take (i := 6) rfl (by decide) (by kernel_rfl) (by kernel_rfl) (by kernel_rfl) (fun _ _ _ _ h => h) HS (fun K hK => ?_)
          go_simp
          refine hK.out _ ⟨_, by rfl, Or.inl ⟨by rfl, by intro w hSw; (try dsimp only at hSw); go_simp⟩, ?_⟩
          clear hK K
          refine AnyK.take (i := 7) rfl (by decide) (by kernel_rfl) (by kernel_rfl) (by kernel_rfl) (fun _ _ _ _ h => h) HS (fun K hK => ?_)
          go_simp
          refine hK.out _ ⟨_, by rfl, Or.inl ⟨by rfl, by intro w hSw; (try dsimp only at hSw); go_simp⟩, ?_⟩
          clear hK K
          refine AnyK.take (i := 8) rfl (by decide) (by kernel_rfl) (by kernel_rfl) (by kernel_rfl) (fun _ _ _ _ h => h) HS (fun K hK => ?_)
          go_simp
          refine hK.out _ ⟨_, by rfl, Or.inl ⟨by rfl, by intro w hSw; (try dsimp only at hSw); go_simp⟩, ?_⟩
          clear hK K
          refine AnyK.take (i := 9) rfl (by decide) (by kernel_rfl) (by kernel_rfl) (by kernel_rfl) (fun _ _ _ _ h => h) HS (fun K hK => ?_)
          go_simp
          refine hK.out _ ⟨_, by rfl, Or.inl ⟨by rfl, by intro w hSw; (try dsimp only at hSw); go_simp⟩, ?_⟩
          clear hK K
          refine AnyK.one (i := 10) rfl (by kernel_rfl) (fun K hK => ?_)
          go_simp
          have hB1 : Blk ((((w6.setCell ⟨w.heap.size + 1, 0, none⟩ (.int .i64 v)).setCell ⟨w.heap.size + 1, 1, none⟩ (.int .i64 0)).setCell ⟨w.heap.size + 1, 2, none⟩ (.slice tA tn tc)).setCell ⟨w.heap.size + 1, 3, none⟩ (.slice lA ln lc)).drew (w.heap.size + 1) 30 #[.int .i64 v, .int .i64 0, .slice tA tn tc, .slice lA ln lc] := ((((HBR.out.set_ 0 (.int .i64 v)).set_ 1 (.int .i64 0)).set_ 2 (.slice tA tn tc)).set_ 3 (.slice lA ln lc)).drew
          have hF1 : Fr (fun k => k = w.heap.size + 1) w6 ((((w6.setCell ⟨w.heap.size + 1, 0, none⟩ (.int .i64 v)).setCell ⟨w.heap.size + 1, 1, none⟩ (.int .i64 0)).setCell ⟨w.heap.size + 1, 2, none⟩ (.slice tA tn tc)).setCell ⟨w.heap.size + 1, 3, none⟩ (.slice lA ln lc)).drew := (((((Fr.refl (fun k => k = w.heap.size + 1) w6).setCell (p := ⟨w.heap.size + 1, 0, none⟩) (.inl rfl) _).setCell (p := ⟨w.heap.size + 1, 1, none⟩) (.inl rfl) _).setCell (p := ⟨w.heap.size + 1, 2, none⟩) (.inl rfl) _).setCell (p := ⟨w.heap.size + 1, 3, none⟩) (.inl rfl) _).drew
          refine hK.out _ _ (fun _ => ⟨hF1.held m0 (fun h => nC1 h.symm), hF1.held m6 (fun h => nW1 h.symm), hF1.held m7 (fun h => nW1 h.symm)⟩) ?_
          clear hK K
          generalize hW7 : ((((w6.setCell ⟨w.heap.size + 1, 0, none⟩ (.int .i64 v)).setCell ⟨w.heap.size + 1, 1, none⟩ (.int .i64 0)).setCell ⟨w.heap.size + 1, 2, none⟩ (.slice tA tn tc)).setCell ⟨w.heap.size + 1, 3, none⟩ (.slice lA ln lc)).drew = W7 at hB1 hF1 ⊢
          have HB1 := Lib.hid hB1
          have HF1 := Lib.hid hF1
          have hB2 := HBE.out.fr hF1 (fun h => by have h' : w.heap.size + 1 + 1 = w.heap.size + 1 := h; omega)
          have e0' : W7.cell? ⟨w.heap.size + 1 + 1, 0, none⟩ = some (.int .i64 0) := by rw [hB2.cell]; rfl
          have y0' := hB2.frozen 0
          have HB2 := Lib.hid hB2
          clear hB1 hF1 HS hB2 hW7
          refine AnyK.one (i := 11) rfl (by kernel_rfl) (fun K hK => ?_)
          go_simp
          refine hK.out _ _ (fun h => absurd (h.symm.trans (by kernel_rfl : _ = true)) (by decide)) ?_
          clear hK K
          refine AnyK.done (by kernel_rfl) ?_ _
          refine NoPanic.normal ?_
          go_wp2
          refine leaves_cons (f := 24) (args := #[.pointer (some ⟨cb, 0, none⟩), .pointer (some ⟨w.heap.size + 1, 0, none⟩), .pointer (some ⟨w.heap.size + 1 + 1, 0, none⟩)]) (by simp) (by simp [go_sem]) ?_
          refine (ecatch_idle _ _ _ _).mono ?_
          rintro e u' w'' ⟨rfl, rfl, rfl⟩
          have hB8 := HB1.out.far (p := ⟨w.heap.size + 1 + 1, 0, none⟩) (by simp) (.int .i64 0)
          have hB9 := HB2.out.set_ 0 (.int .i64 0)
          have hF9 : Fr (fun k => k = w.heap.size + 1 ∨ k = w.heap.size + 1 + 1) w6 (W7.setCell ⟨w.heap.size + 1 + 1, 0, none⟩ (.int .i64 0)) := (HF1.out.mono (fun _ h => .inl h)).setCell (p := ⟨w.heap.size + 1 + 1, 0, none⟩) (.inl (.inr rfl)) _
          generalize W7.setCell ⟨w.heap.size + 1 + 1, 0, none⟩ (.int .i64 0) = W8 at hB8 hB9 hF9 ⊢
          have q0 : W8.cell? ⟨w.heap.size + 1, 0, none⟩ = some (.int .i64 v) := by rw [hB8.cell]; rfl
          have q1 : W8.cell? ⟨w.heap.size + 1, 1, none⟩ = some (.int .i64 0) := by rw [hB8.cell]; rfl
          have q2 : W8.cell? ⟨w.heap.size + 1, 2, none⟩ = some (.slice tA tn tc) := by rw [hB8.cell]; rfl
          have q3 : W8.cell? ⟨w.heap.size + 1, 3, none⟩ = some (.slice lA ln lc) := by rw [hB8.cell]; rfl
          have q4 : W8.cell? ⟨w.heap.size + 1 + 1, 0, none⟩ = some (.int .i64 0) := by rw [hB9.cell]; rfl
          refine ⟨.tuple #[.agg #[.int .i64 v, .int .i64 0, .slice tA tn tc, .slice lA ln lc], .int .i64 0], ?_, ?_⟩
          · simp [results, Tryd.results12, go_sem, q0, q1, q2, q3, q4]
          · rw [← HRs.out]
            exact fin_res HS6.out Hcb.out HTN.out HLN.out HF4.out HF6.out (fun k hk => by have := shb.out k hk; omega) hF9 (by omega) HBR.out HBE.out
        | fail k =>
          obtain ⟨rfl, tv, lv, ll, hS6, hF6⟩ := hp
          obtain ⟨tA, tc, htv⟩ := own_slice hS6.told
          obtain ⟨lA, lc, hlv⟩ := own_slice hS6.log
          subst htv hlv
          obtain ⟨tn, htn⟩ : ∃ tn, sh2.told.length = tn := ⟨_, rfl⟩
          obtain ⟨ln, hln⟩ : ∃ ln, ll.length = ln := ⟨_, rfl⟩
          have BW := hS6.blk
          rw [HcW.out, htn, hln] at BW
          have m6 : w6.cell? ⟨Wn, 6, none⟩ = some (.slice tA tn tc) := by rw [BW.cell]; rfl
          have m7 : w6.cell? ⟨Wn, 7, none⟩ = some (.slice lA ln lc) := by rw [BW.cell]; rfl
          have m0 : w6.cell? ⟨cb, 0, none⟩ = some (.pointer (some ⟨Wn, 0, none⟩)) := hF6.held k0 (fun h => hne (shb.out _ h))
          have BR := HBr4.out.fr hF6 (fun h => by have := shb.out _ h; omega)
          have BE := HBe4.out.fr hF6 (fun h => by have := shb.out _ h; omega)
          have HS6 := Lib.hid hS6
          have HF6 := Lib.hid hF6
          have HBR := Lib.hid BR
          have HBE := Lib.hid BE
          have HTN := Lib.hid htn
          have HLN := Lib.hid hln
          clear hS6 hF6 BW BR BE htn hln
          go_wp2
          refine leaves_cons (f := 24) (args := #[.pointer (some ⟨cb, 0, none⟩), .pointer (some ⟨w.heap.size + 1, 0, none⟩), .pointer (some ⟨w.heap.size + 1 + 1, 0, none⟩)]) (by simp) (by simp [go_sem]) ?_
          refine (ecatch_fail cb (w.heap.size + 1) (w.heap.size + 1 + 1) Wn k tA lA tn tc ln lc _ _ _ _ _ [] w6 (by omega) (by omega) (by omega) (by omega) (by omega) HBR.out HBE.out m0 m6 m7).mono ?_
          rintro e u' W8 ⟨rfl, rfl, hB8, hB9, hF9⟩
          have q0 : W8.cell? ⟨w.heap.size + 1, 0, none⟩ = some (.int .i64 0) := by rw [hB8.cell]; rfl
          have q1 : W8.cell? ⟨w.heap.size + 1, 1, none⟩ = some (.int .i64 k) := by rw [hB8.cell]; rfl
          have q2 : W8.cell? ⟨w.heap.size + 1, 2, none⟩ = some (.slice tA tn tc) := by rw [hB8.cell]; rfl
          have q3 : W8.cell? ⟨w.heap.size + 1, 3, none⟩ = some (.slice lA ln lc) := by rw [hB8.cell]; rfl
          have q4 : W8.cell? ⟨w.heap.size + 1 + 1, 0, none⟩ = some (.int .i64 0) := by rw [hB9.cell]; rfl
          refine ⟨.tuple #[.agg #[.int .i64 0, .int .i64 k, .slice tA tn tc, .slice lA ln lc], .int .i64 0], ?_, ?_⟩
          · simp only [results, Tryd.results12]
            simp [go_sem, q0, q1, q2, q3, q4]
          · rw [← HRs.out]
            exact fin_res HS6.out Hcb.out HTN.out HLN.out HF4.out HF6.out (fun k hk => by have := shb.out k hk; omega) hF9 (by omega) HBR.out HBE.out
        | long =>
          obtain ⟨rfl, hF6⟩ := hp
          have BR := HBr4.out.fr hF6 (fun h => by have := shb.out _ h; omega)
          have BE := HBe4.out.fr hF6 (fun h => by have := shb.out _ h; omega)
          have HF6 := Lib.hid hF6
          have HBR := Lib.hid BR
          have HBE := Lib.hid BE
          clear hF6 BR BE
          go_wp2
          refine leaves_cons (f := 24) (args := #[.pointer (some ⟨cb, 0, none⟩), .pointer (some ⟨w.heap.size + 1, 0, none⟩), .pointer (some ⟨w.heap.size + 1 + 1, 0, none⟩)]) (by simp) (by simp [go_sem]) ?_
          refine (ecatch_long cb (w.heap.size + 1) (w.heap.size + 1 + 1) _ _ _ _ _ [] w6 (by omega) HBR.out HBE.out).mono ?_
          rintro e u' W8 ⟨rfl, rfl, hB8, hB9, hF9⟩
          have q0 : W8.cell? ⟨w.heap.size + 1, 0, none⟩ = some (.int .i64 0) := by rw [hB8.cell]; rfl
          have q1 : W8.cell? ⟨w.heap.size + 1, 1, none⟩ = some (.int .i64 0) := by rw [hB8.cell]; rfl
          have q2 : W8.cell? ⟨w.heap.size + 1, 2, none⟩ = some (.slice none 0 0) := by rw [hB8.cell]; rfl
          have q3 : W8.cell? ⟨w.heap.size + 1, 3, none⟩ = some (.slice none 0 0) := by rw [hB8.cell]; rfl
          have q4 : W8.cell? ⟨w.heap.size + 1 + 1, 0, none⟩ = some (.int .i64 3) := by rw [hB9.cell]; rfl
          refine ⟨.tuple #[.agg #[.int .i64 0, .int .i64 0, .slice none 0 0, .slice none 0 0], .int .i64 3], ?_, ?_⟩
          · simp only [results, Tryd.results12]
            simp [go_sem, q0, q1, q2, q3, q4]
          · rw [← HRs.out]
            exact ⟨_, _, rfl, ResAt.nil _ _, (HF4.out.then HF6.out (fun k hk => .inr (by have := shb.out k hk; omega))).then hF9 (fun k hk => .inr (by omega))⟩
    · go_simp
      refine hK.out _ _ (fun _ => HKS.out _ (by repeat (first | exact Fr.refl _ _ | refine Fr.alloc ?_ _ | refine Fr.drew ?_))) ?_
      clear hK K
      refine AnyK.one (i := 4) rfl (by kernel_rfl) (fun K hK => ?_)
      go_simp
      refine (ev_at _ (w1.heap.size + 1 + 1) (by simp)).mono ?_
      rintro e w' ⟨rfl, rfl⟩
      refine hK.out _ _ (fun _ => HKS.out _ (by repeat (first | exact Fr.refl _ _ | refine Fr.alloc ?_ _ | refine Fr.drew ?_))) ?_
      clear hK K
      refine AnyK.take (i := 5) rfl (by decide) (by kernel_rfl) (by kernel_rfl) (by kernel_rfl) (fun _ _ _ _ h => h) (HKS.out _ (by repeat (first | exact Fr.refl _ _ | refine Fr.alloc ?_ _ | refine Fr.drew ?_))) (fun K hK => ?_)
      go_simp
      refine hK.out _ ⟨_, by rfl, Or.inl ⟨by rfl, by intro w hSw; (try dsimp only at hSw); go_simp⟩, ?_⟩
      clear hK K
      refine AnyK.one (i := 6) rfl (by kernel_rfl) (fun K hK => ?_)
      go_simp
      refine hK.out _ _ (fun _ => HKS.out _ (by repeat (first | exact Fr.refl _ _ | refine Fr.alloc ?_ _ | refine Fr.drew ?_))) ?_
      clear hK K
      refine AnyK.one (i := 8) rfl (by kernel_rfl) (fun K hK => ?_)
      go_simp
      refine hK.out _ _ (fun h => absurd (h.symm.trans (by kernel_rfl : _ = true)) (by decide)) ?_
      clear hK K
      refine AnyK.done (by kernel_rfl) ?_ _
      refine NoPanic.normal ?_
      generalize hW4 : World.drew _ = W4
      have hpm : W4.heap[(w1.heap.size)]? = some (.map plE 9) := by rw [← hW4]; exact (at4 w1 _ _ _ _).1
      have hdm : W4.heap[(w1.heap.size + 1 + 1)]? = some (.map evE 8) := by rw [← hW4]; exact (at4 w1 _ _ _ _).2.2.1
      have hWn : Blk W4 (w1.heap.size + 1 + 1 + 1) 75 #[.slice PA L.length pc, .int .i64 bud, .int .i64 dep, .int .i64 most, .map (some (w1.heap.size)), .map (some (w1.heap.size + 1 + 1)), .slice none 0 0, .slice none 0 0] := by rw [← hW4]; exact (at4 w1 _ _ _ _).2.2.2
      have hCb : Blk W4 (w1.heap.size + 1) 69 #[.pointer (some ⟨(w1.heap.size + 1 + 1 + 1), 0, none⟩)] := by rw [← hW4]; exact (at4 w1 _ _ _ _).2.1
      have hF4 : Fr None' w1 W4 := by rw [← hW4]; repeat (first | exact Fr.refl _ _ | refine Fr.alloc ?_ _ | refine Fr.drew ?_)
      clear hW4
      obtain ⟨pm, epm⟩ : ∃ pm, (w1.heap.size) = pm := ⟨_, rfl⟩
      obtain ⟨dm, edm⟩ : ∃ dm, (w1.heap.size + 1 + 1) = dm := ⟨_, rfl⟩
      obtain ⟨Wn, eWn⟩ : ∃ Wn, (w1.heap.size + 1 + 1 + 1) = Wn := ⟨_, rfl⟩
      obtain ⟨cb, ecb⟩ : ∃ cb, (w1.heap.size + 1) = cb := ⟨_, rfl⟩
      have lWn : w.heap.size + 3 ≤ Wn := by omega
      have lcb : w.heap.size + 3 ≤ cb := by omega
      simp only [eWn] at hpm hdm hWn hCb ⊢
      simp only [edm] at hpm hdm hWn hCb ⊢
      simp only [ecb] at hpm hdm hWn hCb ⊢
      rw [epm] at hpm hWn ⊢
      clear epm edm eWn ecb
      have HF4 := Lib.hid (HF.out.trans hF4)
      have hBr := HBr.out.fr hF4 (fun h => h)
      have hBe := HBe.out.fr hF4 (fun h => h)
      obtain ⟨c, hc⟩ : ∃ c : Cx, c = ⟨w.heap.size, Wn, pm, dm, PA, pc, L, bud, dep⟩ := ⟨_, rfl⟩
      have hS : ShAt c W4 ⟨most, [], []⟩ (.slice none 0 0) (.slice none 0 0) [] := by
        subst hc
        exact ⟨hWn, by show w.heap.size ≤ Wn; omega, ⟨rfl, .inl ⟨rfl, rfl⟩⟩, ⟨rfl, .inl ⟨rfl, rfl⟩⟩, rfl, (fun x hx => by cases hx), hpm, hdm, HR.out.fr HF4.out (fun _ _ h => h)⟩
      have hyes := HY.out
      unfold rightB limB at hyes
      simp only [Bool.and_eq_true, decide_eq_true_eq] at hyes
      obtain ⟨hy1, hy2, hy3⟩ := hyes
      have hP : PFits c := by
        subst hc
        refine ⟨hy3.1, hy3.2.1, hy3.2.2.2, fun y hy => ?_⟩
        exact fnE_nought ((chk_nought hy1).2 y.f (by unfold fns; exact List.mem_map.2 ⟨y, hy, rfl⟩))
      have hL1 := (chk_nought hy1).1
      rw [show (fns L).length = L.length by simp [fns]] at hL1
      obtain ⟨y, hy⟩ : ∃ y, L[0]? = some y := ⟨_, List.getElem?_eq_getElem (by omega)⟩
      rw [fns0 hy] at hy2
      have hya := (fnE_nought ((chk_nought hy1).2 y.f (by unfold fns; exact List.mem_map.2 ⟨y, List.mem_of_getElem? hy, rfl⟩))).1
      have h8 : args.length ≤ 8 := by omega
      have hA4 : IntsA W4 A args := fun h0 => by
        obtain ⟨b, off, e, hcc⟩ := HA.out h0
        exact ⟨b, off, e, fun j x hx => HF4.out.held (hcc j x hx) (fun h => h)⟩
      have hcW : c.W = Wn := by subst hc; rfl
      have hcb' : c.base = w.heap.size := by subst hc; rfl
      have hrp : runF (fns c.L) c.bud c.dep y.f.code [] ([] : List (List Int × Int)).length (newTk args futs0) (enter ⟨most, [], []⟩ []) = runP (fns L) args bud dep most := by
        subst hc
        unfold runP codeAt
        rw [fns, List.getElem?_map, hy]
        rfl
      have hEv := eval_all c hP (most.toNat + 1) W4 ⟨most, [], []⟩ (.slice none 0 0) (.slice none 0 0) [] 0 y args A ac [] none 0 futs0 hS (Nat.lt_succ_self _) (by subst hc; exact hy) hA4 h8 PInts.nil (by subst hc; exact hy3.2.2.1) (Nat.zero_le _) rfl ⟨by simp [enter]; omega, by simp [enter]; omega⟩
      rw [hcW] at hEv
      have hEv2 : Calls Tryd.prog 25 #[.pointer (some ⟨Wn, 0, none⟩), .int .i64 0, .slice A args.length ac, .slice none 0 0, .agg #[.bool false, .int .i64 0, .bool false, .int .i64 0, .bool false, .int .i64 0, .bool false, .int .i64 0]] W4 (EvPost c W4 (.slice none 0 0) (.slice none 0 0) (runP (fns L) args bud dep most)) := hrp ▸ hEv
      obtain ⟨r, hr⟩ : ∃ r, runP (fns L) args bud dep most = r := ⟨_, rfl⟩
      rw [hr] at hEv2
      have HRs : Hid (resOf r = RR) := Lib.hid (by rw [← hr]; exact HRR.out)
      have HEV := Lib.hid hEv2
      have k0 : W4.cell? ⟨cb, 0, none⟩ = some (.pointer (some ⟨Wn, 0, none⟩)) := by rw [hCb.cell]; rfl
      have hne : cb ≠ Wn := fun h => by subst h; exact Blk.ne_ hCb hWn (by decide) rfl
      have HBr4 := Lib.hid hBr
      have HBe4 := Lib.hid hBe
      have HCb := Lib.hid hCb
      have HcW := Lib.hid hcW
      have Hcb := Lib.hid hcb'
      have shb : Hid (∀ k, ShB c (.slice none 0 0) (.slice none 0 0) k → k = Wn) := Lib.hid (fun k hk => by
        rcases hk with h | h | h
        · rw [h, HcW.out]
        · cases h
        · cases h)
      clear hF4 hBr hBe hS hy1 hy2 hy3 hP hL1 hy hya hA4 hcW hcb' hrp hEv hEv2 hr hc hpm hdm hWn hCb HRT HKS l0 l1 r0 r1 r2 r3 e0 z0 z1 z2 z3 y0 HF HBr HBe
      go_wp2_with fail
      refine HEV.out.mono ?_
      intro e w6 hp
      obtain ⟨oo, sh2⟩ := r
      cases oo with
      | ok v =>
        obtain ⟨rfl, tv, lv, ll, hS6, hF6, n1, n2⟩ := hp
        obtain ⟨tA, tc, htv⟩ := own_slice hS6.told
        obtain ⟨lA, lc, hlv⟩ := own_slice hS6.log
        subst htv hlv
        obtain ⟨tn, htn⟩ : ∃ tn, sh2.told.length = tn := ⟨_, rfl⟩
        obtain ⟨ln, hln⟩ : ∃ ln, ll.length = ln := ⟨_, rfl⟩
        have BW := hS6.blk
        rw [HcW.out, htn, hln] at BW
        have m6 : w6.cell? ⟨Wn, 6, none⟩ = some (.slice tA tn tc) := by rw [BW.cell]; rfl
        have m7 : w6.cell? ⟨Wn, 7, none⟩ = some (.slice lA ln lc) := by rw [BW.cell]; rfl
        have m0 : w6.cell? ⟨cb, 0, none⟩ = some (.pointer (some ⟨Wn, 0, none⟩)) := hF6.held k0 (fun h => hne (shb.out _ h))
        have BR := HBr4.out.fr hF6 (fun h => by have := shb.out _ h; omega)
        have BE := HBe4.out.fr hF6 (fun h => by have := shb.out _ h; omega)
        have r0 : w6.cell? ⟨w.heap.size + 1, 0, none⟩ = some (.int .i64 0) := by rw [BR.cell]; rfl
        have r1 : w6.cell? ⟨w.heap.size + 1, 1, none⟩ = some (.int .i64 0) := by rw [BR.cell]; rfl
        have r2 : w6.cell? ⟨w.heap.size + 1, 2, none⟩ = some (.slice none 0 0) := by rw [BR.cell]; rfl
        have r3 : w6.cell? ⟨w.heap.size + 1, 3, none⟩ = some (.slice none 0 0) := by rw [BR.cell]; rfl
        have e0 : w6.cell? ⟨w.heap.size + 1 + 1, 0, none⟩ = some (.int .i64 0) := by rw [BE.cell]; rfl
        have z0 := BR.frozen 0
        have z1 := BR.frozen 1
        have z2 := BR.frozen 2
        have z3 := BR.frozen 3
        have y0 := BE.frozen 0
        have HS6 := Lib.hid hS6
        have HF6 := Lib.hid hF6
        have HBR := Lib.hid BR
        have HBE := Lib.hid BE
        have HTN := Lib.hid htn
        have HLN := Lib.hid hln
        have nW1 : w.heap.size + 1 ≠ Wn := by omega
        have nC1 : w.heap.size + 1 ≠ cb := by omega
        clear hS6 hF6 n1 n2 BW BR BE htn hln
        go_wp2_with fail
        refine wp_region_noPanic ?_
        refine region_K 10 (fun w' => w'.cell? ⟨cb, 0, none⟩ = some (.pointer (some ⟨Wn, 0, none⟩)) ∧ w'.cell? ⟨Wn, 6, none⟩ = some (.slice tA tn tc) ∧ w'.cell? ⟨Wn, 7, none⟩ = some (.slice lA ln lc)) (by kernel_rfl) ?_
        have HS : (fun w' : World => w'.cell? ⟨cb, 0, none⟩ = some (.pointer (some ⟨Wn, 0, none⟩)) ∧ w'.cell? ⟨Wn, 6, none⟩ = some (.slice tA tn tc) ∧ w'.cell? ⟨Wn, 7, none⟩ = some (.slice lA ln lc)) w6.drew := ⟨m0, m6, m7⟩
        refine AnyK.take (i := 0) rfl (by decide) (by kernel_rfl) (by kernel_rfl) (by kernel_rfl) (fun _ _ _ _ h => h) HS (fun K hK => ?_)
        go_simp
        refine hK.out _ ⟨_, by rfl, Or.inl ⟨by rfl, by intro w hSw; (try dsimp only at hSw); go_simp⟩, ?_⟩
        clear hK K
        refine AnyK.take (i := 1) rfl (by decide) (by kernel_rfl) (by kernel_rfl) (by kernel_rfl) (fun _ _ _ _ h => h) HS (fun K hK => ?_)
        go_simp
        refine hK.out _ ⟨_, by rfl, Or.inl ⟨by rfl, by intro w hSw; (try dsimp only at hSw); go_simp⟩, ?_⟩
        clear hK K
        refine AnyK.take (i := 2) rfl (by decide) (by kernel_rfl) (by kernel_rfl) (by kernel_rfl) (fun _ _ _ _ h => h) HS (fun K hK => ?_)
        go_simp
        refine hK.out _ ⟨_, by rfl, Or.inl ⟨by rfl, by intro w hSw; (try dsimp only at hSw); go_simp⟩, ?_⟩
        clear hK K
        refine AnyK.take (i := 3) rfl (by decide) (by kernel_rfl) (by kernel_rfl) (by kernel_rfl) (fun _ _ _ _ h => h) HS (fun K hK => ?_)
        go_simp
        refine hK.out _ ⟨_, by rfl, Or.inl ⟨by rfl, by intro w hSw; (try dsimp only at hSw); go_simp⟩, ?_⟩
        clear hK K
        refine AnyK.take (i := 4) rfl (by decide) (by kernel_rfl) (by kernel_rfl) (by kernel_rfl) (fun _ _ _ _ h => h) HS (fun K hK => ?_)
        go_simp
        refine hK.out _ ⟨_, by rfl, Or.inl ⟨by rfl, by intro w hSw; (try dsimp only at hSw); go_simp⟩, ?_⟩
        clear hK K
        refine AnyK.take (i := 5) rfl (by decide) (by kernel_rfl) (by kernel_rfl) (by kernel_rfl) (fun _ _ _ _ h => h) HS (fun K hK => ?_)
        go_simp
        refine hK.out _ ⟨_, by rfl, Or.inl ⟨by rfl, by intro w hSw; (try dsimp only at hSw); go_simp⟩, ?_⟩
        clear hK K
        refine AnyK.take (i := 6) rfl (by decide) (by kernel_rfl) (by kernel_rfl) (by kernel_rfl) (fun _ _ _ _ h => h) HS (fun K hK => ?_)
        go_simp
        refine hK.out _ ⟨_, by rfl, Or.inl ⟨by rfl, by intro w hSw; (try dsimp only at hSw); go_simp⟩, ?_⟩
        clear hK K
        refine AnyK.take (i := 7) rfl (by decide) (by kernel_rfl) (by kernel_rfl) (by kernel_rfl) (fun _ _ _ _ h => h) HS (fun K hK => ?_)
        go_simp
        refine hK.out _ ⟨_, by rfl, Or.inl ⟨by rfl, by intro w hSw; (try dsimp only at hSw); go_simp⟩, ?_⟩
        clear hK K
        refine AnyK.take (i := 8) rfl (by decide) (by kernel_rfl) (by kernel_rfl) (by kernel_rfl) (fun _ _ _ _ h => h) HS (fun K hK => ?_)
        go_simp
        refine hK.out _ ⟨_, by rfl, Or.inl ⟨by rfl, by intro w hSw; (try dsimp only at hSw); go_simp⟩, ?_⟩
        clear hK K
        refine AnyK.take (i := 9) rfl (by decide) (by kernel_rfl) (by kernel_rfl) (by kernel_rfl) (fun _ _ _ _ h => h) HS (fun K hK => ?_)
        go_simp
        refine hK.out _ ⟨_, by rfl, Or.inl ⟨by rfl, by intro w hSw; (try dsimp only at hSw); go_simp⟩, ?_⟩
        clear hK K
        refine AnyK.one (i := 10) rfl (by kernel_rfl) (fun K hK => ?_)
        go_simp
        have hB1 : Blk ((((w6.setCell ⟨w.heap.size + 1, 0, none⟩ (.int .i64 v)).setCell ⟨w.heap.size + 1, 1, none⟩ (.int .i64 0)).setCell ⟨w.heap.size + 1, 2, none⟩ (.slice tA tn tc)).setCell ⟨w.heap.size + 1, 3, none⟩ (.slice lA ln lc)).drew (w.heap.size + 1) 30 #[.int .i64 v, .int .i64 0, .slice tA tn tc, .slice lA ln lc] := ((((HBR.out.set_ 0 (.int .i64 v)).set_ 1 (.int .i64 0)).set_ 2 (.slice tA tn tc)).set_ 3 (.slice lA ln lc)).drew
        have hF1 : Fr (fun k => k = w.heap.size + 1) w6 ((((w6.setCell ⟨w.heap.size + 1, 0, none⟩ (.int .i64 v)).setCell ⟨w.heap.size + 1, 1, none⟩ (.int .i64 0)).setCell ⟨w.heap.size + 1, 2, none⟩ (.slice tA tn tc)).setCell ⟨w.heap.size + 1, 3, none⟩ (.slice lA ln lc)).drew := (((((Fr.refl (fun k => k = w.heap.size + 1) w6).setCell (p := ⟨w.heap.size + 1, 0, none⟩) (.inl rfl) _).setCell (p := ⟨w.heap.size + 1, 1, none⟩) (.inl rfl) _).setCell (p := ⟨w.heap.size + 1, 2, none⟩) (.inl rfl) _).setCell (p := ⟨w.heap.size + 1, 3, none⟩) (.inl rfl) _).drew
        refine hK.out _ _ (fun _ => ⟨hF1.held m0 (fun h => nC1 h.symm), hF1.held m6 (fun h => nW1 h.symm), hF1.held m7 (fun h => nW1 h.symm)⟩) ?_
        clear hK K
        generalize hW7 : ((((w6.setCell ⟨w.heap.size + 1, 0, none⟩ (.int .i64 v)).setCell ⟨w.heap.size + 1, 1, none⟩ (.int .i64 0)).setCell ⟨w.heap.size + 1, 2, none⟩ (.slice tA tn tc)).setCell ⟨w.heap.size + 1, 3, none⟩ (.slice lA ln lc)).drew = W7 at hB1 hF1 ⊢
        have HB1 := Lib.hid hB1
        have HF1 := Lib.hid hF1
        have hB2 := HBE.out.fr hF1 (fun h => by have h' : w.heap.size + 1 + 1 = w.heap.size + 1 := h; omega)
        have e0' : W7.cell? ⟨w.heap.size + 1 + 1, 0, none⟩ = some (.int .i64 0) := by rw [hB2.cell]; rfl
        have y0' := hB2.frozen 0
        have HB2 := Lib.hid hB2
        clear hB1 hF1 HS hB2 hW7
        refine AnyK.one (i := 11) rfl (by kernel_rfl) (fun K hK => ?_)
        go_simp
        refine hK.out _ _ (fun h => absurd (h.symm.trans (by kernel_rfl : _ = true)) (by decide)) ?_
        clear hK K
        refine AnyK.done (by kernel_rfl) ?_ _
        refine NoPanic.normal ?_
        go_wp2
        refine leaves_cons (f := 24) (args := #[.pointer (some ⟨cb, 0, none⟩), .pointer (some ⟨w.heap.size + 1, 0, none⟩), .pointer (some ⟨w.heap.size + 1 + 1, 0, none⟩)]) (by simp) (by simp [go_sem]) ?_
        refine (ecatch_idle _ _ _ _).mono ?_
        rintro e u' w'' ⟨rfl, rfl, rfl⟩
        have hB8 := HB1.out.far (p := ⟨w.heap.size + 1 + 1, 0, none⟩) (by simp) (.int .i64 0)
        have hB9 := HB2.out.set_ 0 (.int .i64 0)
        have hF9 : Fr (fun k => k = w.heap.size + 1 ∨ k = w.heap.size + 1 + 1) w6 (W7.setCell ⟨w.heap.size + 1 + 1, 0, none⟩ (.int .i64 0)) := (HF1.out.mono (fun _ h => .inl h)).setCell (p := ⟨w.heap.size + 1 + 1, 0, none⟩) (.inl (.inr rfl)) _
        generalize W7.setCell ⟨w.heap.size + 1 + 1, 0, none⟩ (.int .i64 0) = W8 at hB8 hB9 hF9 ⊢
        have q0 : W8.cell? ⟨w.heap.size + 1, 0, none⟩ = some (.int .i64 v) := by rw [hB8.cell]; rfl
        have q1 : W8.cell? ⟨w.heap.size + 1, 1, none⟩ = some (.int .i64 0) := by rw [hB8.cell]; rfl
        have q2 : W8.cell? ⟨w.heap.size + 1, 2, none⟩ = some (.slice tA tn tc) := by rw [hB8.cell]; rfl
        have q3 : W8.cell? ⟨w.heap.size + 1, 3, none⟩ = some (.slice lA ln lc) := by rw [hB8.cell]; rfl
        have q4 : W8.cell? ⟨w.heap.size + 1 + 1, 0, none⟩ = some (.int .i64 0) := by rw [hB9.cell]; rfl
        refine ⟨.tuple #[.agg #[.int .i64 v, .int .i64 0, .slice tA tn tc, .slice lA ln lc], .int .i64 0], ?_, ?_⟩
        · simp [results, Tryd.results12, go_sem, q0, q1, q2, q3, q4]
        · rw [← HRs.out]
          exact fin_res HS6.out Hcb.out HTN.out HLN.out HF4.out HF6.out (fun k hk => by have := shb.out k hk; omega) hF9 (by omega) HBR.out HBE.out
      | fail k =>
        obtain ⟨rfl, tv, lv, ll, hS6, hF6⟩ := hp
        obtain ⟨tA, tc, htv⟩ := own_slice hS6.told
        obtain ⟨lA, lc, hlv⟩ := own_slice hS6.log
        subst htv hlv
        obtain ⟨tn, htn⟩ : ∃ tn, sh2.told.length = tn := ⟨_, rfl⟩
        obtain ⟨ln, hln⟩ : ∃ ln, ll.length = ln := ⟨_, rfl⟩
        have BW := hS6.blk
        rw [HcW.out, htn, hln] at BW
        have m6 : w6.cell? ⟨Wn, 6, none⟩ = some (.slice tA tn tc) := by rw [BW.cell]; rfl
        have m7 : w6.cell? ⟨Wn, 7, none⟩ = some (.slice lA ln lc) := by rw [BW.cell]; rfl
        have m0 : w6.cell? ⟨cb, 0, none⟩ = some (.pointer (some ⟨Wn, 0, none⟩)) := hF6.held k0 (fun h => hne (shb.out _ h))
        have BR := HBr4.out.fr hF6 (fun h => by have := shb.out _ h; omega)
        have BE := HBe4.out.fr hF6 (fun h => by have := shb.out _ h; omega)
        have HS6 := Lib.hid hS6
        have HF6 := Lib.hid hF6
        have HBR := Lib.hid BR
        have HBE := Lib.hid BE
        have HTN := Lib.hid htn
        have HLN := Lib.hid hln
        clear hS6 hF6 BW BR BE htn hln
        go_wp2
        refine leaves_cons (f := 24) (args := #[.pointer (some ⟨cb, 0, none⟩), .pointer (some ⟨w.heap.size + 1, 0, none⟩), .pointer (some ⟨w.heap.size + 1 + 1, 0, none⟩)]) (by simp) (by simp [go_sem]) ?_
        refine (ecatch_fail cb (w.heap.size + 1) (w.heap.size + 1 + 1) Wn k tA lA tn tc ln lc _ _ _ _ _ [] w6 (by omega) (by omega) (by omega) (by omega) (by omega) HBR.out HBE.out m0 m6 m7).mono ?_
        rintro e u' W8 ⟨rfl, rfl, hB8, hB9, hF9⟩
        have q0 : W8.cell? ⟨w.heap.size + 1, 0, none⟩ = some (.int .i64 0) := by rw [hB8.cell]; rfl
        have q1 : W8.cell? ⟨w.heap.size + 1, 1, none⟩ = some (.int .i64 k) := by rw [hB8.cell]; rfl
        have q2 : W8.cell? ⟨w.heap.size + 1, 2, none⟩ = some (.slice tA tn tc) := by rw [hB8.cell]; rfl
        have q3 : W8.cell? ⟨w.heap.size + 1, 3, none⟩ = some (.slice lA ln lc) := by rw [hB8.cell]; rfl
        have q4 : W8.cell? ⟨w.heap.size + 1 + 1, 0, none⟩ = some (.int .i64 0) := by rw [hB9.cell]; rfl
        refine ⟨.tuple #[.agg #[.int .i64 0, .int .i64 k, .slice tA tn tc, .slice lA ln lc], .int .i64 0], ?_, ?_⟩
        · simp only [results, Tryd.results12]
          simp [go_sem, q0, q1, q2, q3, q4]
        · rw [← HRs.out]
          exact fin_res HS6.out Hcb.out HTN.out HLN.out HF4.out HF6.out (fun k hk => by have := shb.out k hk; omega) hF9 (by omega) HBR.out HBE.out
      | long =>
        obtain ⟨rfl, hF6⟩ := hp
        have BR := HBr4.out.fr hF6 (fun h => by have := shb.out _ h; omega)
        have BE := HBe4.out.fr hF6 (fun h => by have := shb.out _ h; omega)
        have HF6 := Lib.hid hF6
        have HBR := Lib.hid BR
        have HBE := Lib.hid BE
        clear hF6 BR BE
        go_wp2
        refine leaves_cons (f := 24) (args := #[.pointer (some ⟨cb, 0, none⟩), .pointer (some ⟨w.heap.size + 1, 0, none⟩), .pointer (some ⟨w.heap.size + 1 + 1, 0, none⟩)]) (by simp) (by simp [go_sem]) ?_
        refine (ecatch_long cb (w.heap.size + 1) (w.heap.size + 1 + 1) _ _ _ _ _ [] w6 (by omega) HBR.out HBE.out).mono ?_
        rintro e u' W8 ⟨rfl, rfl, hB8, hB9, hF9⟩
        have q0 : W8.cell? ⟨w.heap.size + 1, 0, none⟩ = some (.int .i64 0) := by rw [hB8.cell]; rfl
        have q1 : W8.cell? ⟨w.heap.size + 1, 1, none⟩ = some (.int .i64 0) := by rw [hB8.cell]; rfl
        have q2 : W8.cell? ⟨w.heap.size + 1, 2, none⟩ = some (.slice none 0 0) := by rw [hB8.cell]; rfl
        have q3 : W8.cell? ⟨w.heap.size + 1, 3, none⟩ = some (.slice none 0 0) := by rw [hB8.cell]; rfl
        have q4 : W8.cell? ⟨w.heap.size + 1 + 1, 0, none⟩ = some (.int .i64 3) := by rw [hB9.cell]; rfl
        refine ⟨.tuple #[.agg #[.int .i64 0, .int .i64 0, .slice none 0 0, .slice none 0 0], .int .i64 3], ?_, ?_⟩
        · simp only [results, Tryd.results12]
          simp [go_sem, q0, q1, q2, q3, q4]
        · rw [← HRs.out]
          exact ⟨_, _, rfl, ResAt.nil _ _, (HF4.out.then HF6.out (fun k hk => .inr (by have := shb.out k hk; omega))).then hF9 (fun k hk => .inr (by omega))⟩
  · go_simp
    refine hK.out _ _ (fun _ => HKS.out _ (by repeat (first | exact Fr.refl _ _ | refine Fr.alloc ?_ _ | refine Fr.drew ?_))) ?_
    clear hK K
    refine AnyK.one (i := 3) rfl (by kernel_rfl) (fun K hK => ?_)
    go_simp
    refine (pl_at _ (w1.heap.size + 1) (by simp)).mono ?_
    rintro e w' ⟨rfl, rfl⟩
    refine hK.out _ _ (fun _ => HKS.out _ (by repeat (first | exact Fr.refl _ _ | refine Fr.alloc ?_ _ | refine Fr.drew ?_))) ?_
    clear hK K
    refine AnyK.one (i := 4) rfl (by kernel_rfl) (fun K hK => ?_)
    go_simp
    refine (ev_at _ (w1.heap.size + 1 + 1) (by simp)).mono ?_
    rintro e w' ⟨rfl, rfl⟩
    refine hK.out _ _ (fun _ => HKS.out _ (by repeat (first | exact Fr.refl _ _ | refine Fr.alloc ?_ _ | refine Fr.drew ?_))) ?_
    clear hK K
    refine AnyK.take (i := 5) rfl (by decide) (by kernel_rfl) (by kernel_rfl) (by kernel_rfl) (fun _ _ _ _ h => h) (HKS.out _ (by repeat (first | exact Fr.refl _ _ | refine Fr.alloc ?_ _ | refine Fr.drew ?_))) (fun K hK => ?_)
    go_simp
    refine hK.out _ ⟨_, by rfl, Or.inl ⟨by rfl, by intro w hSw; (try dsimp only at hSw); go_simp⟩, ?_⟩
    clear hK K
    refine AnyK.one (i := 6) rfl (by kernel_rfl) (fun K hK => ?_)
    go_simp
    refine hK.out _ _ (fun _ => HKS.out _ (by repeat (first | exact Fr.refl _ _ | refine Fr.alloc ?_ _ | refine Fr.drew ?_))) ?_
    clear hK K
    refine AnyK.one (i := 8) rfl (by kernel_rfl) (fun K hK => ?_)
    go_simp
    refine hK.out _ _ (fun h => absurd (h.symm.trans (by kernel_rfl : _ = true)) (by decide)) ?_
    clear hK K
    refine AnyK.done (by kernel_rfl) ?_ _
    refine NoPanic.normal ?_
    generalize hW4 : World.drew _ = W4
    have hpm : W4.heap[(w1.heap.size + 1)]? = some (.map plE 9) := by rw [← hW4]; exact (at4 w1 _ _ _ _).2.1
    have hdm : W4.heap[(w1.heap.size + 1 + 1)]? = some (.map evE 8) := by rw [← hW4]; exact (at4 w1 _ _ _ _).2.2.1
    have hWn : Blk W4 (w1.heap.size + 1 + 1 + 1) 75 #[.slice PA L.length pc, .int .i64 bud, .int .i64 dep, .int .i64 most, .map (some (w1.heap.size + 1)), .map (some (w1.heap.size + 1 + 1)), .slice none 0 0, .slice none 0 0] := by rw [← hW4]; exact (at4 w1 _ _ _ _).2.2.2
    have hCb : Blk W4 (w1.heap.size) 69 #[.pointer (some ⟨(w1.heap.size + 1 + 1 + 1), 0, none⟩)] := by rw [← hW4]; exact (at4 w1 _ _ _ _).1
    have hF4 : Fr None' w1 W4 := by rw [← hW4]; repeat (first | exact Fr.refl _ _ | refine Fr.alloc ?_ _ | refine Fr.drew ?_)
    clear hW4
    obtain ⟨pm, epm⟩ : ∃ pm, (w1.heap.size + 1) = pm := ⟨_, rfl⟩
    obtain ⟨dm, edm⟩ : ∃ dm, (w1.heap.size + 1 + 1) = dm := ⟨_, rfl⟩
    obtain ⟨Wn, eWn⟩ : ∃ Wn, (w1.heap.size + 1 + 1 + 1) = Wn := ⟨_, rfl⟩
    obtain ⟨cb, ecb⟩ : ∃ cb, (w1.heap.size) = cb := ⟨_, rfl⟩
    have lWn : w.heap.size + 3 ≤ Wn := by omega
    have lcb : w.heap.size + 3 ≤ cb := by omega
    simp only [eWn] at hpm hdm hWn hCb ⊢
    simp only [edm] at hpm hdm hWn hCb ⊢
    simp only [epm] at hpm hdm hWn hCb ⊢
    rw [ecb] at hCb ⊢
    clear epm edm eWn ecb
    have HF4 := Lib.hid (HF.out.trans hF4)
    have hBr := HBr.out.fr hF4 (fun h => h)
    have hBe := HBe.out.fr hF4 (fun h => h)
    obtain ⟨c, hc⟩ : ∃ c : Cx, c = ⟨w.heap.size, Wn, pm, dm, PA, pc, L, bud, dep⟩ := ⟨_, rfl⟩
    have hS : ShAt c W4 ⟨most, [], []⟩ (.slice none 0 0) (.slice none 0 0) [] := by
      subst hc
      exact ⟨hWn, by show w.heap.size ≤ Wn; omega, ⟨rfl, .inl ⟨rfl, rfl⟩⟩, ⟨rfl, .inl ⟨rfl, rfl⟩⟩, rfl, (fun x hx => by cases hx), hpm, hdm, HR.out.fr HF4.out (fun _ _ h => h)⟩
    have hyes := HY.out
    unfold rightB limB at hyes
    simp only [Bool.and_eq_true, decide_eq_true_eq] at hyes
    obtain ⟨hy1, hy2, hy3⟩ := hyes
    have hP : PFits c := by
      subst hc
      refine ⟨hy3.1, hy3.2.1, hy3.2.2.2, fun y hy => ?_⟩
      exact fnE_nought ((chk_nought hy1).2 y.f (by unfold fns; exact List.mem_map.2 ⟨y, hy, rfl⟩))
    have hL1 := (chk_nought hy1).1
    rw [show (fns L).length = L.length by simp [fns]] at hL1
    obtain ⟨y, hy⟩ : ∃ y, L[0]? = some y := ⟨_, List.getElem?_eq_getElem (by omega)⟩
    rw [fns0 hy] at hy2
    have hya := (fnE_nought ((chk_nought hy1).2 y.f (by unfold fns; exact List.mem_map.2 ⟨y, List.mem_of_getElem? hy, rfl⟩))).1
    have h8 : args.length ≤ 8 := by omega
    have hA4 : IntsA W4 A args := fun h0 => by
      obtain ⟨b, off, e, hcc⟩ := HA.out h0
      exact ⟨b, off, e, fun j x hx => HF4.out.held (hcc j x hx) (fun h => h)⟩
    have hcW : c.W = Wn := by subst hc; rfl
    have hcb' : c.base = w.heap.size := by subst hc; rfl
    have hrp : runF (fns c.L) c.bud c.dep y.f.code [] ([] : List (List Int × Int)).length (newTk args futs0) (enter ⟨most, [], []⟩ []) = runP (fns L) args bud dep most := by
      subst hc
      unfold runP codeAt
      rw [fns, List.getElem?_map, hy]
      rfl
    have hEv := eval_all c hP (most.toNat + 1) W4 ⟨most, [], []⟩ (.slice none 0 0) (.slice none 0 0) [] 0 y args A ac [] none 0 futs0 hS (Nat.lt_succ_self _) (by subst hc; exact hy) hA4 h8 PInts.nil (by subst hc; exact hy3.2.2.1) (Nat.zero_le _) rfl ⟨by simp [enter]; omega, by simp [enter]; omega⟩
    rw [hcW] at hEv
    have hEv2 : Calls Tryd.prog 25 #[.pointer (some ⟨Wn, 0, none⟩), .int .i64 0, .slice A args.length ac, .slice none 0 0, .agg #[.bool false, .int .i64 0, .bool false, .int .i64 0, .bool false, .int .i64 0, .bool false, .int .i64 0]] W4 (EvPost c W4 (.slice none 0 0) (.slice none 0 0) (runP (fns L) args bud dep most)) := hrp ▸ hEv
    obtain ⟨r, hr⟩ : ∃ r, runP (fns L) args bud dep most = r := ⟨_, rfl⟩
    rw [hr] at hEv2
    have HRs : Hid (resOf r = RR) := Lib.hid (by rw [← hr]; exact HRR.out)
    have HEV := Lib.hid hEv2
    have k0 : W4.cell? ⟨cb, 0, none⟩ = some (.pointer (some ⟨Wn, 0, none⟩)) := by rw [hCb.cell]; rfl
    have hne : cb ≠ Wn := fun h => by subst h; exact Blk.ne_ hCb hWn (by decide) rfl
    have HBr4 := Lib.hid hBr
    have HBe4 := Lib.hid hBe
    have HCb := Lib.hid hCb
    have HcW := Lib.hid hcW
    have Hcb := Lib.hid hcb'
    have shb : Hid (∀ k, ShB c (.slice none 0 0) (.slice none 0 0) k → k = Wn) := Lib.hid (fun k hk => by
      rcases hk with h | h | h
      · rw [h, HcW.out]
      · cases h
      · cases h)
    clear hF4 hBr hBe hS hy1 hy2 hy3 hP hL1 hy hya hA4 hcW hcb' hrp hEv hEv2 hr hc hpm hdm hWn hCb HRT HKS l0 l1 r0 r1 r2 r3 e0 z0 z1 z2 z3 y0 HF HBr HBe
    go_wp2_with fail
    refine HEV.out.mono ?_
    intro e w6 hp
    obtain ⟨oo, sh2⟩ := r
    cases oo with
    | ok v =>
      obtain ⟨rfl, tv, lv, ll, hS6, hF6, n1, n2⟩ := hp
      obtain ⟨tA, tc, htv⟩ := own_slice hS6.told
      obtain ⟨lA, lc, hlv⟩ := own_slice hS6.log
      subst htv hlv
      obtain ⟨tn, htn⟩ : ∃ tn, sh2.told.length = tn := ⟨_, rfl⟩
      obtain ⟨ln, hln⟩ : ∃ ln, ll.length = ln := ⟨_, rfl⟩
      have BW := hS6.blk
      rw [HcW.out, htn, hln] at BW
      have m6 : w6.cell? ⟨Wn, 6, none⟩ = some (.slice tA tn tc) := by rw [BW.cell]; rfl
      have m7 : w6.cell? ⟨Wn, 7, none⟩ = some (.slice lA ln lc) := by rw [BW.cell]; rfl
      have m0 : w6.cell? ⟨cb, 0, none⟩ = some (.pointer (some ⟨Wn, 0, none⟩)) := hF6.held k0 (fun h => hne (shb.out _ h))
      have BR := HBr4.out.fr hF6 (fun h => by have := shb.out _ h; omega)
      have BE := HBe4.out.fr hF6 (fun h => by have := shb.out _ h; omega)
      have r0 : w6.cell? ⟨w.heap.size + 1, 0, none⟩ = some (.int .i64 0) := by rw [BR.cell]; rfl
      have r1 : w6.cell? ⟨w.heap.size + 1, 1, none⟩ = some (.int .i64 0) := by rw [BR.cell]; rfl
      have r2 : w6.cell? ⟨w.heap.size + 1, 2, none⟩ = some (.slice none 0 0) := by rw [BR.cell]; rfl
      have r3 : w6.cell? ⟨w.heap.size + 1, 3, none⟩ = some (.slice none 0 0) := by rw [BR.cell]; rfl
      have e0 : w6.cell? ⟨w.heap.size + 1 + 1, 0, none⟩ = some (.int .i64 0) := by rw [BE.cell]; rfl
      have z0 := BR.frozen 0
      have z1 := BR.frozen 1
      have z2 := BR.frozen 2
      have z3 := BR.frozen 3
      have y0 := BE.frozen 0
      have HS6 := Lib.hid hS6
      have HF6 := Lib.hid hF6
      have HBR := Lib.hid BR
      have HBE := Lib.hid BE
      have HTN := Lib.hid htn
      have HLN := Lib.hid hln
      have nW1 : w.heap.size + 1 ≠ Wn := by omega
      have nC1 : w.heap.size + 1 ≠ cb := by omega
      clear hS6 hF6 n1 n2 BW BR BE htn hln
      go_wp2_with fail
      refine wp_region_noPanic ?_
      refine region_K 10 (fun w' => w'.cell? ⟨cb, 0, none⟩ = some (.pointer (some ⟨Wn, 0, none⟩)) ∧ w'.cell? ⟨Wn, 6, none⟩ = some (.slice tA tn tc) ∧ w'.cell? ⟨Wn, 7, none⟩ = some (.slice lA ln lc)) (by kernel_rfl) ?_
      have HS : (fun w' : World => w'.cell? ⟨cb, 0, none⟩ = some (.pointer (some ⟨Wn, 0, none⟩)) ∧ w'.cell? ⟨Wn, 6, none⟩ = some (.slice tA tn tc) ∧ w'.cell? ⟨Wn, 7, none⟩ = some (.slice lA ln lc)) w6.drew := ⟨m0, m6, m7⟩
      refine AnyK.take (i := 0) rfl (by decide) (by kernel_rfl) (by kernel_rfl) (by kernel_rfl) (fun _ _ _ _ h => h) HS (fun K hK => ?_)
      go_simp
      refine hK.out _ ⟨_, by rfl, Or.inl ⟨by rfl, by intro w hSw; (try dsimp only at hSw); go_simp⟩, ?_⟩
      clear hK K
      refine AnyK.take (i := 1) rfl (by decide) (by kernel_rfl) (by kernel_rfl) (by kernel_rfl) (fun _ _ _ _ h => h) HS (fun K hK => ?_)
      go_simp
      refine hK.out _ ⟨_, by rfl, Or.inl ⟨by rfl, by intro w hSw; (try dsimp only at hSw); go_simp⟩, ?_⟩
      clear hK K
      refine AnyK.take (i := 2) rfl (by decide) (by kernel_rfl) (by kernel_rfl) (by kernel_rfl) (fun _ _ _ _ h => h) HS (fun K hK => ?_)
      go_simp
      refine hK.out _ ⟨_, by rfl, Or.inl ⟨by rfl, by intro w hSw; (try dsimp only at hSw); go_simp⟩, ?_⟩
      clear hK K
      refine AnyK.take (i := 3) rfl (by decide) (by kernel_rfl) (by kernel_rfl) (by kernel_rfl) (fun _ _ _ _ h => h) HS (fun K hK => ?_)
      go_simp
      refine hK.out _ ⟨_, by rfl, Or.inl ⟨by rfl, by intro w hSw; (try dsimp only at hSw); go_simp⟩, ?_⟩
      clear hK K
      refine AnyK.take (i := 4) rfl (by decide) (by kernel_rfl) (by kernel_rfl) (by kernel_rfl) (fun _ _ _ _ h => h) HS (fun K hK => ?_)
      go_simp
      refine hK.out _ ⟨_, by rfl, Or.inl ⟨by rfl, by intro w hSw; (try dsimp only at hSw); go_simp⟩, ?_⟩
      clear hK K
      refine AnyK.take (i := 5) rfl (by decide) (by kernel_rfl) (by kernel_rfl) (by kernel_rfl) (fun _ _ _ _ h => h) HS (fun K hK => ?_)
      go_simp
      refine hK.out _ ⟨_, by rfl, Or.inl ⟨by rfl, by intro w hSw; (try dsimp only at hSw); go_simp⟩, ?_⟩
      clear hK K
      refine AnyK.take (i := 6) rfl (by decide) (by kernel_rfl) (by kernel_rfl) (by kernel_rfl) (fun _ _ _ _ h => h) HS (fun K hK => ?_)
      go_simp
      refine hK.out _ ⟨_, by rfl, Or.inl ⟨by rfl, by intro w hSw; (try dsimp only at hSw); go_simp⟩, ?_⟩
      clear hK K
      refine AnyK.take (i := 7) rfl (by decide) (by kernel_rfl) (by kernel_rfl) (by kernel_rfl) (fun _ _ _ _ h => h) HS (fun K hK => ?_)
      go_simp
      refine hK.out _ ⟨_, by rfl, Or.inl ⟨by rfl, by intro w hSw; (try dsimp only at hSw); go_simp⟩, ?_⟩
      clear hK K
      refine AnyK.take (i := 8) rfl (by decide) (by kernel_rfl) (by kernel_rfl) (by kernel_rfl) (fun _ _ _ _ h => h) HS (fun K hK => ?_)
      go_simp
      refine hK.out _ ⟨_, by rfl, Or.inl ⟨by rfl, by intro w hSw; (try dsimp only at hSw); go_simp⟩, ?_⟩
      clear hK K
      refine AnyK.take (i := 9) rfl (by decide) (by kernel_rfl) (by kernel_rfl) (by kernel_rfl) (fun _ _ _ _ h => h) HS (fun K hK => ?_)
      go_simp
      refine hK.out _ ⟨_, by rfl, Or.inl ⟨by rfl, by intro w hSw; (try dsimp only at hSw); go_simp⟩, ?_⟩
      clear hK K
      refine AnyK.one (i := 10) rfl (by kernel_rfl) (fun K hK => ?_)
      go_simp
      have hB1 : Blk ((((w6.setCell ⟨w.heap.size + 1, 0, none⟩ (.int .i64 v)).setCell ⟨w.heap.size + 1, 1, none⟩ (.int .i64 0)).setCell ⟨w.heap.size + 1, 2, none⟩ (.slice tA tn tc)).setCell ⟨w.heap.size + 1, 3, none⟩ (.slice lA ln lc)).drew (w.heap.size + 1) 30 #[.int .i64 v, .int .i64 0, .slice tA tn tc, .slice lA ln lc] := ((((HBR.out.set_ 0 (.int .i64 v)).set_ 1 (.int .i64 0)).set_ 2 (.slice tA tn tc)).set_ 3 (.slice lA ln lc)).drew
      have hF1 : Fr (fun k => k = w.heap.size + 1) w6 ((((w6.setCell ⟨w.heap.size + 1, 0, none⟩ (.int .i64 v)).setCell ⟨w.heap.size + 1, 1, none⟩ (.int .i64 0)).setCell ⟨w.heap.size + 1, 2, none⟩ (.slice tA tn tc)).setCell ⟨w.heap.size + 1, 3, none⟩ (.slice lA ln lc)).drew := (((((Fr.refl (fun k => k = w.heap.size + 1) w6).setCell (p := ⟨w.heap.size + 1, 0, none⟩) (.inl rfl) _).setCell (p := ⟨w.heap.size + 1, 1, none⟩) (.inl rfl) _).setCell (p := ⟨w.heap.size + 1, 2, none⟩) (.inl rfl) _).setCell (p := ⟨w.heap.size + 1, 3, none⟩) (.inl rfl) _).drew
      refine hK.out _ _ (fun _ => ⟨hF1.held m0 (fun h => nC1 h.symm), hF1.held m6 (fun h => nW1 h.symm), hF1.held m7 (fun h => nW1 h.symm)⟩) ?_
      clear hK K
      generalize hW7 : ((((w6.setCell ⟨w.heap.size + 1, 0, none⟩ (.int .i64 v)).setCell ⟨w.heap.size + 1, 1, none⟩ (.int .i64 0)).setCell ⟨w.heap.size + 1, 2, none⟩ (.slice tA tn tc)).setCell ⟨w.heap.size + 1, 3, none⟩ (.slice lA ln lc)).drew = W7 at hB1 hF1 ⊢
      have HB1 := Lib.hid hB1
      have HF1 := Lib.hid hF1
      have hB2 := HBE.out.fr hF1 (fun h => by have h' : w.heap.size + 1 + 1 = w.heap.size + 1 := h; omega)
      have e0' : W7.cell? ⟨w.heap.size + 1 + 1, 0, none⟩ = some (.int .i64 0) := by rw [hB2.cell]; rfl
      have y0' := hB2.frozen 0
      have HB2 := Lib.hid hB2
      clear hB1 hF1 HS hB2 hW7
      refine AnyK.one (i := 11) rfl (by kernel_rfl) (fun K hK => ?_)
      go_simp
      refine hK.out _ _ (fun h => absurd (h.symm.trans (by kernel_rfl : _ = true)) (by decide)) ?_
      clear hK K
      refine AnyK.done (by kernel_rfl) ?_ _
      refine NoPanic.normal ?_
      go_wp2
      refine leaves_cons (f := 24) (args := #[.pointer (some ⟨cb, 0, none⟩), .pointer (some ⟨w.heap.size + 1, 0, none⟩), .pointer (some ⟨w.heap.size + 1 + 1, 0, none⟩)]) (by simp) (by simp [go_sem]) ?_
      refine (ecatch_idle _ _ _ _).mono ?_
      rintro e u' w'' ⟨rfl, rfl, rfl⟩
      have hB8 := HB1.out.far (p := ⟨w.heap.size + 1 + 1, 0, none⟩) (by simp) (.int .i64 0)
      have hB9 := HB2.out.set_ 0 (.int .i64 0)
      have hF9 : Fr (fun k => k = w.heap.size + 1 ∨ k = w.heap.size + 1 + 1) w6 (W7.setCell ⟨w.heap.size + 1 + 1, 0, none⟩ (.int .i64 0)) := (HF1.out.mono (fun _ h => .inl h)).setCell (p := ⟨w.heap.size + 1 + 1, 0, none⟩) (.inl (.inr rfl)) _
      generalize W7.setCell ⟨w.heap.size + 1 + 1, 0, none⟩ (.int .i64 0) = W8 at hB8 hB9 hF9 ⊢
      have q0 : W8.cell? ⟨w.heap.size + 1, 0, none⟩ = some (.int .i64 v) := by rw [hB8.cell]; rfl
      have q1 : W8.cell? ⟨w.heap.size + 1, 1, none⟩ = some (.int .i64 0) := by rw [hB8.cell]; rfl
      have q2 : W8.cell? ⟨w.heap.size + 1, 2, none⟩ = some (.slice tA tn tc) := by rw [hB8.cell]; rfl
      have q3 : W8.cell? ⟨w.heap.size + 1, 3, none⟩ = some (.slice lA ln lc) := by rw [hB8.cell]; rfl
      have q4 : W8.cell? ⟨w.heap.size + 1 + 1, 0, none⟩ = some (.int .i64 0) := by rw [hB9.cell]; rfl
      refine ⟨.tuple #[.agg #[.int .i64 v, .int .i64 0, .slice tA tn tc, .slice lA ln lc], .int .i64 0], ?_, ?_⟩
      · simp [results, Tryd.results12, go_sem, q0, q1, q2, q3, q4]
      · rw [← HRs.out]
        exact fin_res HS6.out Hcb.out HTN.out HLN.out HF4.out HF6.out (fun k hk => by have := shb.out k hk; omega) hF9 (by omega) HBR.out HBE.out
    | fail k =>
      obtain ⟨rfl, tv, lv, ll, hS6, hF6⟩ := hp
      obtain ⟨tA, tc, htv⟩ := own_slice hS6.told
      obtain ⟨lA, lc, hlv⟩ := own_slice hS6.log
      subst htv hlv
      obtain ⟨tn, htn⟩ : ∃ tn, sh2.told.length = tn := ⟨_, rfl⟩
      obtain ⟨ln, hln⟩ : ∃ ln, ll.length = ln := ⟨_, rfl⟩
      have BW := hS6.blk
      rw [HcW.out, htn, hln] at BW
      have m6 : w6.cell? ⟨Wn, 6, none⟩ = some (.slice tA tn tc) := by rw [BW.cell]; rfl
      have m7 : w6.cell? ⟨Wn, 7, none⟩ = some (.slice lA ln lc) := by rw [BW.cell]; rfl
      have m0 : w6.cell? ⟨cb, 0, none⟩ = some (.pointer (some ⟨Wn, 0, none⟩)) := hF6.held k0 (fun h => hne (shb.out _ h))
      have BR := HBr4.out.fr hF6 (fun h => by have := shb.out _ h; omega)
      have BE := HBe4.out.fr hF6 (fun h => by have := shb.out _ h; omega)
      have HS6 := Lib.hid hS6
      have HF6 := Lib.hid hF6
      have HBR := Lib.hid BR
      have HBE := Lib.hid BE
      have HTN := Lib.hid htn
      have HLN := Lib.hid hln
      clear hS6 hF6 BW BR BE htn hln
      go_wp2
      refine leaves_cons (f := 24) (args := #[.pointer (some ⟨cb, 0, none⟩), .pointer (some ⟨w.heap.size + 1, 0, none⟩), .pointer (some ⟨w.heap.size + 1 + 1, 0, none⟩)]) (by simp) (by simp [go_sem]) ?_
      refine (ecatch_fail cb (w.heap.size + 1) (w.heap.size + 1 + 1) Wn k tA lA tn tc ln lc _ _ _ _ _ [] w6 (by omega) (by omega) (by omega) (by omega) (by omega) HBR.out HBE.out m0 m6 m7).mono ?_
      rintro e u' W8 ⟨rfl, rfl, hB8, hB9, hF9⟩
      have q0 : W8.cell? ⟨w.heap.size + 1, 0, none⟩ = some (.int .i64 0) := by rw [hB8.cell]; rfl
      have q1 : W8.cell? ⟨w.heap.size + 1, 1, none⟩ = some (.int .i64 k) := by rw [hB8.cell]; rfl
      have q2 : W8.cell? ⟨w.heap.size + 1, 2, none⟩ = some (.slice tA tn tc) := by rw [hB8.cell]; rfl
      have q3 : W8.cell? ⟨w.heap.size + 1, 3, none⟩ = some (.slice lA ln lc) := by rw [hB8.cell]; rfl
      have q4 : W8.cell? ⟨w.heap.size + 1 + 1, 0, none⟩ = some (.int .i64 0) := by rw [hB9.cell]; rfl
      refine ⟨.tuple #[.agg #[.int .i64 0, .int .i64 k, .slice tA tn tc, .slice lA ln lc], .int .i64 0], ?_, ?_⟩
      · simp only [results, Tryd.results12]
        simp [go_sem, q0, q1, q2, q3, q4]
      · rw [← HRs.out]
        exact fin_res HS6.out Hcb.out HTN.out HLN.out HF4.out HF6.out (fun k hk => by have := shb.out k hk; omega) hF9 (by omega) HBR.out HBE.out
    | long =>
      obtain ⟨rfl, hF6⟩ := hp
      have BR := HBr4.out.fr hF6 (fun h => by have := shb.out _ h; omega)
      have BE := HBe4.out.fr hF6 (fun h => by have := shb.out _ h; omega)
      have HF6 := Lib.hid hF6
      have HBR := Lib.hid BR
      have HBE := Lib.hid BE
      clear hF6 BR BE
      go_wp2
      refine leaves_cons (f := 24) (args := #[.pointer (some ⟨cb, 0, none⟩), .pointer (some ⟨w.heap.size + 1, 0, none⟩), .pointer (some ⟨w.heap.size + 1 + 1, 0, none⟩)]) (by simp) (by simp [go_sem]) ?_
      refine (ecatch_long cb (w.heap.size + 1) (w.heap.size + 1 + 1) _ _ _ _ _ [] w6 (by omega) HBR.out HBE.out).mono ?_
      rintro e u' W8 ⟨rfl, rfl, hB8, hB9, hF9⟩
      have q0 : W8.cell? ⟨w.heap.size + 1, 0, none⟩ = some (.int .i64 0) := by rw [hB8.cell]; rfl
      have q1 : W8.cell? ⟨w.heap.size + 1, 1, none⟩ = some (.int .i64 0) := by rw [hB8.cell]; rfl
      have q2 : W8.cell? ⟨w.heap.size + 1, 2, none⟩ = some (.slice none 0 0) := by rw [hB8.cell]; rfl
      have q3 : W8.cell? ⟨w.heap.size + 1, 3, none⟩ = some (.slice none 0 0) := by rw [hB8.cell]; rfl
      have q4 : W8.cell? ⟨w.heap.size + 1 + 1, 0, none⟩ = some (.int .i64 3) := by rw [hB9.cell]; rfl
      refine ⟨.tuple #[.agg #[.int .i64 0, .int .i64 0, .slice none 0 0, .slice none 0 0], .int .i64 3], ?_, ?_⟩
      · simp only [results, Tryd.results12]
        simp [go_sem, q0, q1, q2, q3, q4]
      · rw [← HRs.out]
        exact ⟨_, _, rfl, ResAt.nil _ _, (HF4.out.then HF6.out (fun k hk => .inr (by have := shb.out k hk; omega))).then hF9 (fun k hk => .inr (by omega))⟩

theorem eval_any (w : World) (PA : Option Addr) (pc : Nat) (L : List LFn) (hR : FnRow w (fun b => b < w.heap.size) PA L) (hT : FieldsAt w) (hL : L.length < 1000000) (A : Option Addr) (args : List Int) (ac : Nat) (hA : IntsA w A args) (hn : args.length ≤ 1000000) (bud dep most : Int) (hm : most ≤ 900000) :
    Calls Tryd.prog 12 #[.slice PA L.length pc, .slice A args.length ac, .agg #[.int .i64 bud, .int .i64 dep], .int .i64 most] w (EPost w (evalR (fns L) args bud dep most)) := by
  unfold evalR
  by_cases h : rightB (fns L) args.length bud dep = true
  · rw [if_pos h]
    exact eval_yes w PA pc L hR hT hL A args ac hA hn bud dep most h hm
  · rw [if_neg h]
    exact eval_no w PA pc L hR hT hL A args.length ac hn bud dep most (by simpa using h)
end Go.Proofs.YtbhnnnpofindiaaDoor
