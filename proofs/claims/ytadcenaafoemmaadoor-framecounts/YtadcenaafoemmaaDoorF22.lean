/-
  Exec, whatever the program and the frame: what it comes to, as plain data. No condition.
-/
import Derived.Test.YtadcenaafoemmaaDoorF21
import Derived.Test.YtadcenaafoemmaaDoorF11
namespace Go.Proofs.YtadcenaafoemmaaDoor
open Go.RowKit

/-- Numbers in a block of numbers. -/
def PInts (w : World) (A : Option Addr) (xs : List Int) : Prop := 0 < xs.length → ∃ (b : Nat) (cs : Array Value), A = some ⟨b, 0, none⟩ ∧ Blk w b 3 cs ∧ ∀ (j : Nat) (x : Int), xs[j]? = some x → cs[j]? = some (Value.int .i64 x)
theorem PInts.fr {w w' : World} {A : Option Addr} {xs : List Int} {B : Nat → Prop} (h : PInts w A xs) (hf : Fr B w w') (hB : ∀ k cs, Blk w k 3 cs → ¬ B k) : PInts w' A xs := fun h0 => by
  obtain ⟨b, cs, e, hb, hc⟩ := h h0
  exact ⟨b, cs, e, hb.fr hf (hB _ _ hb), hc⟩
theorem PInts.a {w : World} {A : Option Addr} {xs : List Int} (h : PInts w A xs) : IntsA w A xs := fun h0 => by
  obtain ⟨b, cs, e, hb, hc⟩ := h h0
  exact ⟨b, 0, e, fun j x hx => by rw [Nat.zero_add, hb.cell]; exact hc j x hx⟩
theorem PInts.of_own {w : World} {base n : Nat} {v : Value} {xs : List Int} (h : w.ownsRow base 3 1 v n (ints xs)) : ∃ A cp, v = .slice A xs.length cp ∧ xs.length ≤ cp ∧ (A = none → cp = 0) ∧ PInts w A xs := by
  have hl : xs.length = n := by have := h.1; simpa [ints] using this
  rcases h.2 with ⟨rfl, h0⟩ | ⟨g, cap, cur, rfl, _, hh, h1, _, h3, h4⟩
  · exact ⟨none, 0, by rw [hl, h0], by omega, fun _ => rfl, fun hp => by omega⟩
  · refine ⟨some ⟨g, 0, none⟩, cap, by rw [hl], by omega, fun h => absurd h (by simp), fun _ => ⟨g, cur, rfl, hh, fun j x hx => ?_⟩⟩
    have hj := (List.getElem?_eq_some_iff.1 hx).1
    have e : (ints xs)[j]? = some (.int .i64 x) := by rw [ints, List.getElem?_map, hx]; rfl
    rw [← h4, List.getElem?_take, if_pos (by omega)] at e
    rw [← Array.getElem?_toList]
    exact e

/-- A frame. -/
structure FR where
  fn : Int
  at_ : Int
  steps : Int
  kids : Int
  path : List Int
  regs : List Int
  hands : List Int
/-- A frame in memory. -/
structure FrameAt (w : World) (F : Nat) (f : FR) : Prop where
  blk : ∃ P pc, Blk w F 95 (frL f.fn f.at_ f.steps f.kids (.slice P f.path.length pc) f.regs f.hands).toArray ∧ PInts w P f.path ∧ f.path.length ≤ pc ∧ (P = none → pc = 0)
  r8 : f.regs.length = 8
  h4 : f.hands.length = 4
  lo : -9223372036854775808 ≤ f.steps
theorem FrameAt.fr {w w' : World} {F : Nat} {f : FR} {B : Nat → Prop} (h : FrameAt w F f) (hf : Fr B w w') (hB : ¬ B F) (hT : ∀ k cs, Blk w k 3 cs → ¬ B k) : FrameAt w' F f := by
  obtain ⟨P, pc, hb, hp, h1, h2⟩ := h.blk
  exact ⟨⟨P, pc, hb.fr hf hB, hp.fr hf hT, h1, h2⟩, h.r8, h.h4, h.lo⟩

def zE : EF := ⟨0, 0, 0, 0, 0, 0, [], []⟩
/-- May a program run, with limits? -/
def rightF (fs : List Fn) (bud dep : Int) : Bool := rightB fs (arityAt fs 0).toNat bud dep
theorem right_chk {fs : List Fn} {n : Nat} {bud dep : Int} (h : rightB fs n bud dep = true) : (chk fs).2.2 = 0 ∧ (n : Int) = arityAt fs 0 ∧ 1 ≤ bud ∧ bud ≤ 10000 ∧ 0 ≤ dep ∧ dep ≤ 30 := by
  unfold rightB limB at h
  simp only [Bool.and_eq_true, decide_eq_true_eq] at h
  exact ⟨h.1, h.2.1, h.2.2⟩
theorem right_front (L : List LFn) (bud dep : Int) : frightB L bud dep = rightF (fns L) bud dep := by
  unfold rightF
  cases L with
  | nil => rfl
  | cons y r =>
    have e : arityAt (fns (y :: r)) 0 = y.f.arity := rfl
    rw [e]
    unfold frightB
    by_cases h : 0 ≤ y.f.arity ∧ y.f.arity ≤ 4
    · simp [h.1, h.2]
    · have : rightB (fns (y :: r)) y.f.arity.toNat bud dep = false := by
        rw [← Bool.not_eq_true]
        intro hr
        obtain ⟨h1, _⟩ := right_chk hr
        obtain ⟨_, h2⟩ := chk_nought h1
        have h3 := fnE_nought (h2 y.f (by simp [fns]))
        exact h ⟨h3.1.1, h3.1.2⟩
      show (decide (0 ≤ y.f.arity) && decide (y.f.arity ≤ 4) && rightB (fns (y :: r)) y.f.arity.toNat bud dep) = rightB (fns (y :: r)) y.f.arity.toNat bud dep
      rw [this, Bool.and_false]

/-- The instruction at which a frame is. -/
def insAt (fs : List Fn) (f : FR) : Option Ins := if 0 ≤ f.fn ∧ 0 ≤ f.at_ then (fs[f.fn.toNat]?).bind fun g => g.code[f.at_.toNat]? else none
/-- What a frame comes to behind an instruction. -/
def stepF (fs : List Fn) (dep : Int) (x : Ins) (f : FR) : XO := xstep x.op.toNat x.a.toNat x.b.toNat x.c.toNat x.k (arityAt fs x.c).toNat (f.at_ + 1) f.kids dep f.regs f.hands f.path
def afterF (o : XO) (f : FR) : FR := { f with at_ := o.at_, steps := f.steps + 1, kids := o.kids, regs := o.regs }
/-- What Exec comes to. -/
def execP (fs : List Fn) (bud dep : Int) (f : FR) : EF × Int × FR :=
  if rightF fs bud dep = true then
    match insAt fs f with
    | none => (zE, 11, f)
    | some x => if bud ≤ f.steps then (failE 3, 0, f) else ((stepF fs dep x f).ef, 0, afterF (stepF fs dep x f) f)
  else (zE, 1, f)

theorem xstep_len {op a b c : Nat} {k : Int} {ar : Nat} {at_ kd dep : Int} {regs hands path : List Int} : (xstep op a b c k ar at_ kd dep regs hands path).regs.length = regs.length := by
  unfold xstep
  split <;> (try split) <;> simp

def ExecPost (w : World) (F : Nat) (r : EF × Int × FR) (e : Ending) (w' : World) : Prop :=
  ∃ ea ep, e = .returned (.tuple #[.agg (efC r.1.kind r.1.value r.1.reg r.1.fn r.1.hand r.1.why ea ep), .int .i64 r.2.1]) ∧ EfAt w' w.heap.size r.1 ea ep ∧ FrameAt w' F r.2.2 ∧ Fr (At F) w w'

theorem Calls.swap {P : Program} {f : Nat} {a b : Array Value} {w : World} {Q : Ending → World → Prop} (h : a = b) (hc : Calls P f b w Q) : Calls P f a w Q := h ▸ hc

theorem exec_any (w : World) (A : Option Addr) (pc F : Nat) (L : List LFn) (bud dep : Int) (f : FR) (hR : FnRow w (fun b => b < w.heap.size ∧ b ≠ F) A L) (hT : FieldsAt w) (hL : L.length < 1000000) (hc : ∀ y ∈ L, y.f.code.length < 1000000) (hf : FrameAt w F f) (h1000 : f.path.length ≤ 1000) :
    Calls Tryd.prog 11 #[.slice A L.length pc, .agg #[.int .i64 bud, .int .i64 dep], .pointer (some ⟨F, 0, none⟩)] w (ExecPost w F (execP (fns L) bud dep f)) := by
  have hR' : FnRow w (fun b => b < w.heap.size) A L := hR.mono (fun b h => h.1)
  have HR1 : ∀ w1, Fr None' w w1 → Calls Tryd.prog 25 #[.slice A L.length pc, .agg #[.int .i64 bud, .int .i64 dep]] w1 fun e w' => e = .returned (.bool (rightF (fns L) bud dep)) ∧ Fr None' w1 w' := fun w1 hF => by
    have h := fright_any w1 A pc L ((hR'.fr hF (fun _ _ h => h)).mono (fun b h => Nat.lt_of_lt_of_le h hF.size)) (hT.fr hF (fun h => h)) hL bud dep
    rw [right_front] at h
    exact h
  obtain ⟨P, pcc, hB, hP, hpc, hN⟩ := hf.blk
  have hz : ∀ (e : Ending) (w' : World) (code : Int) (g : EF), g.args = [] → g.path = [] → e = .returned (.tuple #[.agg (efC g.kind g.value g.reg g.fn g.hand g.why nilS nilS), .int .i64 code]) ∧ Fr None' w w' → ExecPost w F (g, code, f) e w' := fun e w' code g ha hp h =>
    ⟨nilS, nilS, h.1, by
      have eg : g = ⟨g.kind, g.value, g.reg, g.fn, g.hand, g.why, [], []⟩ := by
        cases g
        simp only at ha hp
        subst ha hp
        rfl
      rw [eg]; exact EfAt.nil _ _ _ _ _ _ _ _, hf.fr h.2 (fun h => h) (fun _ _ _ h => h), h.2.mono (fun _ h => h.elim)⟩
  have hf0 : w.cell? ⟨F, 0, none⟩ = some (.int .i64 f.fn) := by rw [hB.cell]; rfl
  have hf1 : w.cell? ⟨F, 1, none⟩ = some (.int .i64 f.at_) := by rw [hB.cell]; rfl
  by_cases hr : rightF (fns L) bud dep = true
  · unfold execP
    rw [if_pos hr]
    simp only [hr] at HR1
    have hchk := right_chk hr
    obtain ⟨hlen, hfn⟩ := chk_nought hchk.1
    rw [show (fns L).length = L.length by simp [fns]] at hlen
    by_cases hfn0 : f.fn < 0 ∨ (L.length : Int) ≤ f.fn
    · have hi : insAt (fns L) f = none := by
        unfold insAt
        by_cases h0 : 0 ≤ f.fn ∧ 0 ≤ f.at_
        · rw [if_pos h0, List.getElem?_eq_none (by simp [fns]; omega)]; rfl
        · rw [if_neg h0]
      rw [hi]
      refine (exec_out w _ F bud dep (Lib.hid HR1) (Lib.hid (fun w1 hF => within_fn w1 F L.length pc A f.fn (hF.held hf0 (fun h => h)) hfn0))).mono (fun e w' h => hz e w' 11 zE rfl rfl h)
    · obtain ⟨fn, hfnn⟩ := Int.eq_ofNat_of_zero_le (show 0 ≤ f.fn by omega)
      have hlt : fn < L.length := by omega
      obtain ⟨y, hy⟩ : ∃ y, L[fn]? = some y := ⟨_, List.getElem?_eq_getElem hlt⟩
      obtain ⟨b, off, hA, hQ, ha, hcell, hI⟩ := hR.at_ hy
      subst hA
      have hym := List.mem_of_getElem? hy
      have hyf : (fns L)[fn]? = some y.f := by rw [fns, List.getElem?_map, hy]; rfl
      by_cases hat0 : f.at_ < 0 ∨ (y.f.code.length : Int) ≤ f.at_
      · have hi : insAt (fns L) f = none := by
          unfold insAt
          by_cases h0 : 0 ≤ f.fn ∧ 0 ≤ f.at_
          · rw [if_pos h0, hfnn, Int.toNat_natCast, hyf]
            show y.f.code[f.at_.toNat]? = none
            exact List.getElem?_eq_none (by omega)
          · rw [if_neg h0]
        rw [hi]
        rw [hfnn] at hf0
        refine (exec_out w _ F bud dep (Lib.hid HR1) (Lib.hid (fun w1 hF => within_at w1 F b off L.length pc fn y.f.code.length y.c y.A f.at_ (hF.held hf0 (fun h => h)) (hF.held hf1 (fun h => h)) (hF.held hcell (fun h => h)) hlt hat0))).mono (fun e w' h => hz e w' 11 zE rfl rfl h)
      · obtain ⟨at_, hatn⟩ := Int.eq_ofNat_of_zero_le (show 0 ≤ f.at_ by omega)
        have halt : at_ < y.f.code.length := by omega
        obtain ⟨x, hx⟩ : ∃ x, y.f.code[at_]? = some x := ⟨_, List.getElem?_eq_getElem halt⟩
        have hi : insAt (fns L) f = some x := by
          unfold insAt
          rw [if_pos (by omega), hfnn, Int.toNat_natCast, hyf, hatn, Int.toNat_natCast]
          exact hx
        rw [hi]
        obtain ⟨ib, io, hyA, hiQ, i0, i1, i2, i3, i4⟩ := hI.at_ hx
        rw [hyA] at hcell
        rw [hfnn] at hf0
        rw [hatn] at hf1
        by_cases hbs : bud ≤ f.steps
        · show Calls _ _ _ _ (ExecPost w F (if bud ≤ f.steps then _ else _))
          rw [if_pos hbs]
          refine (exec_over w _ F bud dep f.steps (Lib.hid HR1) (Lib.hid (fun w1 hF => within_in w1 F b off L.length pc fn at_ y.f.code.length y.c (some ⟨ib, io, none⟩) (hF.held hf0 (fun h => h)) (hF.held hf1 (fun h => h)) (hF.held hcell (fun h => h)) hlt halt)) (by rw [hB.cell]; rfl) hbs).mono (fun e w' h => hz e w' 0 (failE 3) rfl rfl h)
        · show Calls _ _ _ _ (ExecPost w F (if bud ≤ f.steps then _ else _))
          rw [if_neg hbs]
          have hok := ins_ok ((fnE_nought (hfn y.f (List.mem_of_getElem? hyf))).2.2.1 x (List.mem_of_getElem? hx))
          obtain ⟨op, a, bb, c, hok⟩ := hok
          have har : ∀ z ∈ L, 0 ≤ z.f.arity := fun z hz => (fnE_nought (hfn z.f (List.mem_map.2 ⟨z, hz, rfl⟩))).1.1
          have hst : stepF (fns L) dep x f = xstep op a bb c x.k (arityAt (fns L) x.c).toNat (f.at_ + 1) f.kids dep f.regs f.hands f.path := by
            unfold stepF
            rw [hok.eop, hok.ea, hok.eb, hok.ec]
            rfl
          obtain ⟨X, hX⟩ : ∃ X, X = stepF (fns L) dep x f := ⟨_, rfl⟩
          rw [← hX]
          have hX8 : X.regs.length = 8 := by rw [hX, hst, xstep_len]; exact hf.r8
          obtain ⟨s0, s1, s2, s3, s4, s5, s6, s7, hs⟩ : ∃ s0 s1 s2 s3 s4 s5 s6 s7, X.regs = [s0, s1, s2, s3, s4, s5, s6, s7] := by
            match h : X.regs, hX8 with
            | [s0, s1, s2, s3, s4, s5, s6, s7], _ => exact ⟨_, _, _, _, _, _, _, _, rfl⟩
          obtain ⟨r0, r1, r2, r3, r4, r5, r6, r7, hr8⟩ : ∃ s0 s1 s2 s3 s4 s5 s6 s7, f.regs = [s0, s1, s2, s3, s4, s5, s6, s7] := by
            match h : f.regs, hf.r8 with
            | [s0, s1, s2, s3, s4, s5, s6, s7], _ => exact ⟨_, _, _, _, _, _, _, _, rfl⟩
          have hXe : X = ⟨X.ef, X.at_, [s0, s1, s2, s3, s4, s5, s6, s7], X.kids⟩ := by rw [← hs]
          have hBr := hB
          rw [hr8, hfnn, hatn] at hBr
          have hdo := exec_open w F b off L.length pc fn at_ y.f.code.length y.c f.steps f.kids (.slice P f.path.length pcc) r0 r1 r2 r3 r4 r5 r6 r7 f.hands ib io x.op x.a x.b x.c x.k bud dep L X.ef X.at_ X.kids s0 s1 s2 s3 s4 s5 s6 s7 rfl hf.h4 hR' hT hL (by rw [right_front]; exact hr) hBr hcell (fun j u hu => by
              match j, hu with
              | 0, hu => cases hu; exact i0
              | 1, hu => cases hu; exact i1
              | 2, hu => cases hu; exact i2
              | 3, hu => cases hu; exact i3
              | 4, hu => cases hu; exact i4
              | j + 5, hu => cases hu) hlt halt (hc y hym) (by omega) hf.lo hchk.2.2.2.1 hQ.2 hiQ.2 (Lib.hid (fun W t hF htw hTW => by
              have hd := do_any W t F w.heap.size fn at_ f.steps ((at_ : Int) + 1) f.kids bud dep [r0, r1, r2, r3, r4, r5, r6, r7] f.hands rfl hf.h4 b off L.length pc L rfl ((hR'.fr hF (fun _ _ h => h)).mono (fun b h => Nat.lt_of_lt_of_le h hF.size)) hQ.2 hTW P f.path pcc (hBr.fr hF (fun h => h)) h1000 hpc hN ((hP.fr hF (fun _ _ _ h => h)).a) hF.size har x y.f.code.length op a bb c hok
              rw [← hok.eop, ← hok.ea, ← hok.eb, ← hok.ec] at hd
              rw [← hXe, hX, hst, hr8, hatn]
              exact hd))
          refine hdo.mono (fun e w' h => ?_)
          obtain ⟨ea, ep, he, hE, hB', hF'⟩ := h
          refine ⟨ea, ep, he, hE, ⟨⟨P, pcc, ?_, hP.fr hF' (fun k cs hk h => ?_), hpc, hN⟩, ?_, hf.h4, ?_⟩, hF'⟩
          · have : (afterF X f) = { f with at_ := X.at_, steps := f.steps + 1, kids := X.kids, regs := X.regs } := rfl
            rw [this]
            simp only
            rw [hs, hfnn]
            exact hB'
          · have h' : k = F := h
            subst h'
            exact Blk.ne_ hk hB (by decide) rfl
          · exact hX8
          · show -9223372036854775808 ≤ f.steps + 1
            have := hf.lo
            omega
  · unfold execP
    rw [if_neg hr]
    rw [Bool.not_eq_true] at hr
    simp only [hr] at HR1
    exact (exec_arg w _ _ bud dep (Lib.hid HR1)).mono (fun e w' h => hz e w' 1 zE rfl rfl h)
end Go.Proofs.YtadcenaafoemmaaDoor
