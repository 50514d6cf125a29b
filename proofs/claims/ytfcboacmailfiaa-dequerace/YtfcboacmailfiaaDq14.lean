/-
  Package deque: a move of an operation that has ended does nothing.
-/
import Derived.Test.YtfcboacmailfiaaDq13
namespace Go.Proofs.Ytfcboacmailfiaa
open Go.RowKit

set_option maxHeartbeats 2000000 in
set_option maxRecDepth 100000 in
theorem move_done (w : World) (o : Nat) (pv : Value) (v : OpV) (hO : OpAt w o v) (hn : v.next = .nilFunc) :
    Calls Try.prog 22 #[.pointer (some ⟨o, 0, none⟩), pv] w fun e w' => e = .returned (.bool true) ∧ w' = w := by
  have c3 : w.cell? ⟨o, 3, none⟩ = some .nilFunc := by rw [← hn]; rw [Blk.cell hO]; rfl
  have hb2 : ∀ W : World, (binOp .eql 76 .nilFunc .nilFunc).run Try.prog W = .ok (.bool true) W := fun _ => rfl
  clear hO
  go_enter Try.func22, Try.ntmps22
  go_wp2_with fail
  go_ret
  exact ⟨rfl, rfl⟩
end Go.Proofs.Ytfcboacmailfiaa
