/-
  What an instruction comes to, as plain data; what a turn's do tells. No condition.
-/
import Derived.Test.YtadcenaafoemmaaDoorF10
namespace Go.Proofs.YtadcenaafoemmaaDoor
open Go.RowKit

/-- An effect. -/
structure EF where
  kind : Int
  value : Int
  reg : Int
  fn : Int
  hand : Int
  why : Int
  args : List Int
  path : List Int
/-- An effect, where the frame goes on, its registers, its kids. -/
structure XO where
  ef : EF
  at_ : Int
  regs : List Int
  kids : Int

/-- An effect in memory. -/
def EfAt (w : World) (base : Nat) (f : EF) (ea ep : Value) : Prop := w.ownsRow base 2 1 ea f.args.length (ints f.args) ∧ w.ownsRow base 3 1 ep f.path.length (ints f.path)
theorem EfAt.fr {w w' : World} {base : Nat} {f : EF} {ea ep : Value} {B : Nat → Prop} (h : EfAt w base f ea ep) (hf : Fr B w w') (hB : ∀ g t cs, Blk w g t cs → (t = 2 ∨ t = 3) → ¬ B g) : EfAt w' base f ea ep := by
  constructor
  · refine own_fr h.1 hf (fun g hg => ?_)
    rcases h.1.2 with ⟨hv, _⟩ | ⟨g', cap, cur, hv, _, hh, _⟩
    · rw [hv] at hg; cases hg
    · rw [hv] at hg
      simp only [Value.ownBlock, Option.some.injEq] at hg
      subst hg
      exact hB _ _ _ hh (.inl rfl)
  · refine own_fr h.2 hf (fun g hg => ?_)
    rcases h.2.2 with ⟨hv, _⟩ | ⟨g', cap, cur, hv, _, hh, _⟩
    · rw [hv] at hg; cases hg
    · rw [hv] at hg
      simp only [Value.ownBlock, Option.some.injEq] at hg
      subst hg
      exact hB _ _ _ hh (.inr rfl)
theorem EfAt.nil (w : World) (base : Nat) (kind value reg fn hand why : Int) : EfAt w base ⟨kind, value, reg, fn, hand, why, [], []⟩ nilS nilS := ⟨⟨rfl, .inl ⟨rfl, rfl⟩⟩, ⟨rfl, .inl ⟨rfl, rfl⟩⟩⟩
theorem EfAt.slices {w : World} {base : Nat} {f : EF} {ea ep : Value} (h : EfAt w base f ea ep) : (∃ A c, ea = .slice A f.args.length c) ∧ ∃ A c, ep = .slice A f.path.length c := ⟨own_slice h.1, own_slice h.2⟩

/-- What do tells. -/
def DoPost (w : World) (base t F : Nat) (fn at0 st : Int) (pv : Value) (regs0 hands : List Int) (pg : Value) (bud dep : Int) (x : XO) (e : Ending) (w' : World) : Prop :=
  ∃ ea ep, e = .returned (.agg (efC x.ef.kind x.ef.value x.ef.reg x.ef.fn x.ef.hand x.ef.why ea ep)) ∧ EfAt w' base x.ef ea ep ∧ Blk w' t 115 (tnL x.at_ x.regs F pg bud dep).toArray ∧ Blk w' F 95 (frL fn at0 st x.kids pv regs0 hands).toArray ∧ Fr (fun k => k = t ∨ k = F) w w'
/-- What Exec tells, where it is done. -/
def ExPost (w : World) (F : Nat) (fn st : Int) (pv : Value) (hands : List Int) (x : XO) (e : Ending) (w' : World) : Prop :=
  ∃ ea ep, e = .returned (.tuple #[.agg (efC x.ef.kind x.ef.value x.ef.reg x.ef.fn x.ef.hand x.ef.why ea ep), .int .i64 0]) ∧ EfAt w' w.heap.size x.ef ea ep ∧ Blk w' F 95 (frL fn x.at_ st x.kids pv x.regs hands).toArray ∧ Fr (At F) w w'
theorem results_ct {fn : Func} {p u : Tmp} {ty : TypeId} (h : fn.results = #[.cell p ty, .tmp u]) (tmps : Array Value) {P : Program} {w : World} (g : Nat) {cs : Array Value}
    (hp : tmps.getD p undef = .pointer (some ⟨g, 0, none⟩)) (hl : (loadVar ty ⟨g, 0, none⟩).run P w = .ok (.agg cs) w) :
    (results fn tmps).run P w = .ok (.tuple #[.agg cs, tmps.getD u undef]) w := by
  have hp' : tmps[p]?.getD undef = .pointer (some ⟨g, 0, none⟩) := by simpa using hp
  simp [results, h, hp', asAddr, hl, Result.andThen]
theorem fr_cells8 {fn at_ st kd : Int} {pv : Value} {r0 r1 r2 r3 r4 r5 r6 r7 s0 s1 s2 s3 s4 s5 s6 s7 : Int} {hands : List Int} {w : World} {F : Nat} (h4 : hands.length = 4) (h : Blk w F 95 (frL fn at_ st kd pv [r0, r1, r2, r3, r4, r5, r6, r7] hands).toArray) :
    Blk ((((((((w.setCell ⟨F, 5, none⟩ (.int .i64 s0)).setCell ⟨F, 6, none⟩ (.int .i64 s1)).setCell ⟨F, 7, none⟩ (.int .i64 s2)).setCell ⟨F, 8, none⟩ (.int .i64 s3)).setCell ⟨F, 9, none⟩ (.int .i64 s4)).setCell ⟨F, 10, none⟩ (.int .i64 s5)).setCell ⟨F, 11, none⟩ (.int .i64 s6)).setCell ⟨F, 12, none⟩ (.int .i64 s7)) F 95 (frL fn at_ st kd pv [s0, s1, s2, s3, s4, s5, s6, s7] hands).toArray := by
  match hands, h4 with
  | [q0, q1, q2, q3], _ =>
    have h1 := (((((((h.set_ 5 (.int .i64 s0)).set_ 6 (.int .i64 s1)).set_ 7 (.int .i64 s2)).set_ 8 (.int .i64 s3)).set_ 9 (.int .i64 s4)).set_ 10 (.int .i64 s5)).set_ 11 (.int .i64 s6)).set_ 12 (.int .i64 s7)
    simpa [frL, ints] using h1
theorem fr_set {x fn at_ st kd : Int} {pv : Value} {regs hands : List Int} : (frL fn at_ st kd pv regs hands).toArray.setIfInBounds 1 (.int .i64 x) = (frL fn x st kd pv regs hands).toArray ∧ (frL fn at_ st kd pv regs hands).toArray.setIfInBounds 2 (.int .i64 x) = (frL fn at_ x kd pv regs hands).toArray ∧ (frL fn at_ st kd pv regs hands).toArray.setIfInBounds 3 (.int .i64 x) = (frL fn at_ st x pv regs hands).toArray := by
  refine ⟨?_, ?_, ?_⟩ <;> rfl
theorem fr_frame {w0 w : World} {F : Nat} {B : Nat → Prop} (hf : Fr B w0 w) (hg : B F ∨ w0.heap.size ≤ F) (v0 v1 v2 v3 v4 v5 v6 v7 : Value) : Fr B w0 ((((((((w.setCell ⟨F, 5, none⟩ v0).setCell ⟨F, 6, none⟩ v1).setCell ⟨F, 7, none⟩ v2).setCell ⟨F, 8, none⟩ v3).setCell ⟨F, 9, none⟩ v4).setCell ⟨F, 10, none⟩ v5).setCell ⟨F, 11, none⟩ v6).setCell ⟨F, 12, none⟩ v7) :=
  (((((((hf.setCell (p := ⟨F, 5, none⟩) hg _).setCell (p := ⟨F, 6, none⟩) hg _).setCell (p := ⟨F, 7, none⟩) hg _).setCell (p := ⟨F, 8, none⟩) hg _).setCell (p := ⟨F, 9, none⟩) hg _).setCell (p := ⟨F, 10, none⟩) hg _).setCell (p := ⟨F, 11, none⟩) hg _).setCell (p := ⟨F, 12, none⟩) hg _
end Go.Proofs.YtadcenaafoemmaaDoor
