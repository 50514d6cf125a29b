/-
  What some small programs come to, as plain data: touches of a future; a function that begins itself; many tasks of one function.
-/
import Derived.Test.YtbhnnnpofindiaaDoorPureL
namespace Go.Proofs.YtbhnnnpofindiaaDoor
open Go.RowKit

/-- A whole run from its beginning. -/
def begun (fs : List Fn) (args : List Int) (bud dep most : Int) : Out × Sh := runF fs bud dep (codeAt fs 0) [] 0 (newTk args [(false, 0), (false, 0), (false, 0), (false, 0)]) (enter ⟨most, [], []⟩ [])

abbrev touchP (h : Nat) (ahead : Bool) : List Fn :=
  [⟨1, (if ahead then [⟨11, 2, 0, 2, 0⟩, ⟨13, h, 0, 1, 0⟩] else [⟨13, h, 0, 1, 0⟩, ⟨11, 2, 0, 2, 0⟩]) ++ [⟨12, 0, 0, 0, 0⟩, ⟨17, 2, 0, 0, 0⟩]⟩, ⟨1, [⟨3, 1, 0, 0, 0⟩, ⟨17, 1, 0, 0, 0⟩]⟩, ⟨1, [⟨15, 0, 0, 0, 0⟩, ⟨14, 3, h, 0, 0⟩, ⟨17, 3, 0, 0, 0⟩]⟩]
theorem touch_ahead (h : Nat) (hh : h < 4) (v : Int) : begun (touchP h true) [v] 9 1 99 = (.fail 2, ⟨96, [v], [([], 1), ([0], 2)]⟩) := by
  have : h = 0 ∨ h = 1 ∨ h = 2 ∨ h = 3 := by omega
  rcases this with rfl | rfl | rfl | rfl <;> rfl
theorem touch_behind (h : Nat) (hh : h < 4) (v : Int) : begun (touchP h false) [v] 9 1 99 = (.ok (wrap64 (v + v)), ⟨90, [v], [([], 4), ([0], 2), ([1], 3)]⟩) := by
  have : h = 0 ∨ h = 1 ∨ h = 2 ∨ h = 3 := by omega
  rcases this with rfl | rfl | rfl | rfl <;> rfl

abbrev deepP (op : Int) : List Fn := [⟨1, [⟨15, 0, 0, 0, 0⟩, ⟨1, 1, 0, 0, 1⟩, ⟨3, 2, 0, 1, 0⟩, ⟨op, 3, 2, 0, 0⟩, ⟨17, 0, 0, 0, 0⟩]⟩]
/-- What a run down to the depth comes to. -/
def deepR (d : Nat) : Out × Sh := (.fail 4, ⟨2000 - 4 * (d + 1), (List.range (d + 1)).map Int.ofNat, (List.range (d + 1)).map fun i => (List.replicate i 0, 4)⟩)
theorem deep_any (futures : Bool) (d : Nat) (hd : d < 31) : begun (deepP (if futures then 13 else 11)) [0] 9 (d : Int) 2000 = deepR d := by
  have : d = 0 ∨ d = 1 ∨ d = 2 ∨ d = 3 ∨ d = 4 ∨ d = 5 ∨ d = 6 ∨ d = 7 ∨ d = 8 ∨ d = 9 ∨ d = 10 ∨ d = 11 ∨ d = 12 ∨ d = 13 ∨ d = 14 ∨ d = 15 ∨ d = 16 ∨ d = 17 ∨ d = 18 ∨ d = 19 ∨ d = 20 ∨ d = 21 ∨ d = 22 ∨ d = 23 ∨ d = 24 ∨ d = 25 ∨ d = 26 ∨ d = 27 ∨ d = 28 ∨ d = 29 ∨ d = 30 := by omega
  rcases this with rfl | rfl | rfl | rfl | rfl | rfl | rfl | rfl | rfl | rfl | rfl | rfl | rfl | rfl | rfl | rfl | rfl | rfl | rfl | rfl | rfl | rfl | rfl | rfl | rfl | rfl | rfl | rfl | rfl | rfl | rfl <;> cases futures <;> show _ = _ <;> kernel_rfl

/-- The code of a task that begins so many others. -/
def sumC (k : Nat) (futures : Bool) : List Ins :=
  [⟨2, 1, 0, 0, 0⟩] ++ (List.replicate k (if futures then [⟨13, 2, 1, 1, 0⟩, ⟨12, 0, 0, 0, 0⟩, ⟨14, 2, 2, 0, 0⟩] else [⟨11, 2, 1, 1, 0⟩, ⟨12, 0, 0, 0, 0⟩])).flatten ++ [⟨17, 2, 0, 0, 0⟩]
abbrev sumP (k : Nat) (futures : Bool) : List Fn := [⟨1, sumC k futures⟩, ⟨1, [⟨15, 0, 0, 0, 0⟩, ⟨3, 3, 0, 0, 0⟩, ⟨17, 3, 0, 0, 0⟩]⟩]
/-- What a run of it comes to. -/
def sumR (most : Int) (k : Nat) (futures : Bool) (v : Int) : Out × Sh :=
  (.ok (if k = 0 then 0 else wrap64 (v + v)), ⟨most - ((if futures then 6 else 5) * k + 2), List.replicate k v, ([], (if futures then 3 else 2) * k + 2) :: (List.range k).map fun i => ([Int.ofNat i], 3)⟩)
theorem sum_any (futures : Bool) (k : Nat) (hk : k < 20) (v : Int) : begun (sumP k futures) [v] 100 1 3000 = sumR 3000 k futures v := by
  have : k = 0 ∨ k = 1 ∨ k = 2 ∨ k = 3 ∨ k = 4 ∨ k = 5 ∨ k = 6 ∨ k = 7 ∨ k = 8 ∨ k = 9 ∨ k = 10 ∨ k = 11 ∨ k = 12 ∨ k = 13 ∨ k = 14 ∨ k = 15 ∨ k = 16 ∨ k = 17 ∨ k = 18 ∨ k = 19 := by omega
  rcases this with rfl | rfl | rfl | rfl | rfl | rfl | rfl | rfl | rfl | rfl | rfl | rfl | rfl | rfl | rfl | rfl | rfl | rfl | rfl | rfl <;> cases futures <;> show _ = _ <;> kernel_rfl
end Go.Proofs.YtbhnnnpofindiaaDoor
