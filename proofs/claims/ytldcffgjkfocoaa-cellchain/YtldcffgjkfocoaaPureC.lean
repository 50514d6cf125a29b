/-
  A cell's operations as plain data: what a move does.
-/
import Derived.Test.YtldcffgjkfocoaaW
namespace Go.Proofs.Ytldcffgjkfocoaa

/-- An operation: a fill, or a wait; so many moves are behind it; what it has loaded. -/
structure PO where
  fil : Bool
  base : Nat
  x : Int
  lk : Nat
  nx : Nat
  h : Int
  val : Int
  why : Int
  ended : Bool
  waits : Bool
  first : Int
  ev : Int
  ey : Int

def stp (v : PO) (m : List Int) : PO × List Int :=
  if v.ended then (v, m) else
  if v.fil then
    if v.nx = 0 then ({ v with nx := 1 }, m.set (v.base + 1) v.val)
    else if v.nx = 1 then ({ v with nx := 2 }, m.set (v.base + 2) v.why)
    else if v.nx = 2 then ({ v with nx := 3, h := m.getD v.base 0 }, m)
    else if m.getD v.base 0 = v.h then ({ v with nx := 4, ended := true, first := v.h }, m.set v.base (-1))
    else ({ v with nx := 2 }, m)
  else
    if v.nx = 0 then (if m.getD v.base 0 = -1 then ({ v with nx := 3, h := -1 }, m) else ({ v with nx := 1, h := m.getD v.base 0 }, m))
    else if v.nx = 1 then ({ v with nx := 2 }, m.set v.lk v.h)
    else if v.nx = 2 then (if m.getD v.base 0 = v.h then ({ v with nx := 3, ended := true, waits := true }, m.set v.base v.x) else ({ v with nx := 0 }, m))
    else if v.nx = 3 then ({ v with nx := 4, val := m.getD (v.base + 1) 0 }, m)
    else ({ v with nx := 5, why := m.getD (v.base + 2) 0, ended := true, ev := v.val, ey := m.getD (v.base + 2) 0 }, m)
end Go.Proofs.Ytldcffgjkfocoaa
