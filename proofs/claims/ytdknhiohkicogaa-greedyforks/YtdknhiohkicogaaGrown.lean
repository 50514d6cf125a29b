/-
  A region that draws its order, whose operations and callees leave all that was there as it was (they may draw, and lay blocks of their own): one walk, in the text's order, serves every order. No condition.
-/
import Derived.Test.YtdknhiohkicogaaBase
import Derived.Deep.QuietTactic
import Derived.BigQuiet
namespace Go.Proofs.Ytdknhiohkicogaa
open Go.RowKit

/-- A world that has grown out of w. -/
structure Grown (w : World) where
  at_ : World
  fr : Fr (fun _ => False) w at_

instance (w : World) : Inhabited (Grown w) := ⟨⟨w, Fr.refl _ w⟩⟩

theorem wp_region_grown {P : Program} {id : Nat} {Q : Exit → Act → World → Prop} {a : Act} {w : World} {l : List Oper} (hm : P.follows .mixedOrders = true) (hB : Region.lexB .any l.toArray = true)
    (h : wpQuiet P l.toArray (fun w' => ∃ p : Grown w, w' = p.at_) (fun a' => ∀ w', (∃ p : Grown w, w' = p.at_) → Q .normal a' w') l a) : (Code.region id l.toArray true).wp P Q a w :=
  wp_region_quiet (C := fun w' => ∃ p : Grown w, w' = p.at_) hm hB ⟨⟨w.drew, (Fr.refl _ w).drew⟩, rfl⟩ (by simpa using h)

/-- A callee's contract, met in a world that has grown out of w. -/
theorem grown_of {P : Program} {f : FuncId} {args : Array Value} {w : World} (p : Grown w) {v : Value}
    (h : Calls P f args p.at_ fun e w' => e = .returned v ∧ Fr (fun _ => False) p.at_ w') : Calls P f args p.at_ fun e w'' => e = .returned v ∧ ∃ q : Grown w, w'' = q.at_ :=
  h.mono fun _ w' ⟨he, hF⟩ => ⟨he, ⟨w', p.fr.trans hF⟩, rfl⟩
theorem grown_of_same {P : Program} {f : FuncId} {args : Array Value} {w : World} (p : Grown w) {v : Value}
    (h : Calls P f args p.at_ fun e w' => e = .returned v ∧ w' = p.at_) : Calls P f args p.at_ fun e w'' => e = .returned v ∧ ∃ q : Grown w, w'' = q.at_ :=
  h.mono fun _ _ ⟨he, hF⟩ => ⟨he, p, hF⟩
theorem grown_of_drew {P : Program} {f : FuncId} {args : Array Value} {w : World} (p : Grown w) {v : Value}
    (h : Calls P f args p.at_ fun e w' => e = .returned v ∧ ∃ q, w' = p.at_.drewN q) : Calls P f args p.at_ fun e w'' => e = .returned v ∧ ∃ q : Grown w, w'' = q.at_ :=
  h.mono fun _ _ ⟨he, q, hF⟩ => ⟨he, ⟨p.at_.drewN q, p.fr.drewN q⟩, hF⟩
end Go.Proofs.Ytdknhiohkicogaa
