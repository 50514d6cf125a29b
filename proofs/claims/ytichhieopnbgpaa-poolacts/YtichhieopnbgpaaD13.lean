/-
  A base that lies lower serves as well. No condition.
-/
import Derived.Test.YtichhieopnbgpaaD12
import Derived.Deep.Onto
namespace Go.Proofs.Ytichhieopnbgpaa
open Go.RowKit

theorem DR.lower {w : World} {Q : Nat → Prop} {x y D fb rb : Nat} {S : Shp} {fv : List Value} {fl : List (List Nat)} {rv : List Value} {rl : List (List Nat)} {tv : Value} {tk : List Bool} (h : DR w Q x D fb rb S fv fl rv rl tv tk) (hy : y ≤ x) : DR w Q y D fb rb S fv fl rv rl tv tk :=
  ⟨h.hD, h.hf, h.fl3, h.fvl, h.row, h.qi, h.hr, ⟨h.rr.len, fun i v l h1 h2 => (h.rr.own i v l h1 h2).mono hy, h.rr.dis⟩, h.rll, h.rq, h.ht.mono hy, h.htl, Nat.le_trans hy h.hx⟩
end Go.Proofs.Ytichhieopnbgpaa
