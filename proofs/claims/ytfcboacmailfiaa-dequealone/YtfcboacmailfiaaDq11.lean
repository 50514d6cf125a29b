/-
  Package deque: an operation that nobody disturbs, move by move, as chains: push, pop and steal of the three kinds.
-/
import Derived.Test.YtfcboacmailfiaaDq5
import Derived.Test.YtfcboacmailfiaaDq6
import Derived.Test.YtfcboacmailfiaaDq10
namespace Go.Proofs.Ytfcboacmailfiaa
open Go.RowKit

/-- An operation as it begins. -/
def op0 (kind : Int) (base room : Nat) (m : String) (ty : TypeId) (takes : Bool) (x : Int) (o : Nat) : OpV := ⟨kind, base, room, mv1 m ty o, .nilFunc, false, 0, takes, x, 0, 0⟩

section
variable (base room : Nat) (hbl : base ≤ 60000) (ws : List (Bool × Int))
include hbl

/-- Kind 1: a push where there is room. -/
theorem ex_push_chain (x : Int) (E : Nat) (hE : E < room) (hr : room ≤ 1000) (m : Int) (h0 : ws[base]? = some (true, (E : Int))) (h2 : ws[base + 2 + E]? = some (true, m)) :
    ∃ v' : Nat → OpV, Chain 3 (op0 1 base room "haymow/deque.push" 94 false x) ws v' ((ws.set (base + 2 + E) (true, x)).set base (true, ((E + 1 : Nat) : Int))) ∧ ∀ o, endR (v' o) = (0, 0) := by
  refine ⟨_, .more (v1 := fun o => { op0 1 base room "haymow/deque.push" 94 false x o with e := (E : Int), next := mv 66 o, how := 0, ended := false }) (ws1 := ws) ?_ (.more (v1 := fun o => { op0 1 base room "haymow/deque.push" 94 false x o with e := (E : Int), next := mv 72 o, how := 0, ended := false }) (ws1 := ws.set (base + 2 + E) (true, x)) ?_ (.last (v' := fun o => { op0 1 base room "haymow/deque.push" 94 false x o with e := (E : Int), next := .nilFunc, how := 0, ended := true }) ?_)), fun _ => rfl⟩
  · intro w o p s b hO hM hb
    exact begin_go w o p s _ _ _ b hO 61 ex_push_own 66 "haymow/deque.push" 94 ex_push_rule rfl 0 (ex_push_go w o p s _ _ b hO hM hb base rfl hbl (E : Int) h0 (by show (E : Int) ≠ (room : Int); omega))
  · intro w o p s b hO hM hb
    exact move_go w o p s _ _ _ b hO 66 ex_pushFills_own 72 rfl 0 (ex_pushFills w o p s _ _ b hO hM hb base rfl hbl E rfl (by omega) m h2)
  · intro w o p s b hO hM hb
    exact move_end w o p s _ _ _ b hO 72 ex_pushEnds_own rfl 0 (ex_pushEnds w o p s _ _ b hO hM hb base rfl hbl E rfl (by omega) (E : Int) (by first | exact h0 | (rw [List.getElem?_set_ne (by omega)]; exact h0) | (rw [List.getElem?_set_ne (by omega), List.getElem?_set_ne (by omega)]; exact h0) | (rw [List.getElem?_set_self (List.getElem?_eq_some_iff.1 h0).1])))

/-- Kind 1: a push where there is no room. -/
theorem ex_push_full_chain (x : Int) (h0 : ws[base]? = some (true, (room : Int))) :
    ∃ v' : Nat → OpV, Chain 1 (op0 1 base room "haymow/deque.push" 94 false x) ws v' (ws) ∧ ∀ o, endR (v' o) = (0, 8) := by
  refine ⟨_, .last (v' := fun o => { op0 1 base room "haymow/deque.push" 94 false x o with e := (room : Int), next := .nilFunc, how := 8, ended := true }) ?_, fun _ => rfl⟩
  · intro w o p s b hO hM hb
    exact begin_end w o p s _ _ _ b hO 61 ex_push_own "haymow/deque.push" 94 ex_push_rule rfl 8 (ex_push_full w o p s _ _ b hO hM hb base rfl hbl (room : Int) h0 rfl)

/-- Kind 1: a pop of one that no thief can be after. -/
theorem ex_pop_chain (j : Nat) (hj : j < 60000) (n : Int) (h0 : ws[base]? = some (true, ((j + 1 : Nat) : Int))) (h2 : ws[base + 2 + j]? = some (true, n)) (t q : Nat) (htl : t < 1152921504606846976) (hq : t % 65536 = q) (h1 : ws[base + 1]? = some (true, (t : Int))) (hm : q < j) :
    ∃ v' : Nat → OpV, Chain 4 (op0 1 base room "haymow/deque.pop" 94 true 0) ws v' (ws.set base (true, (j : Int))) ∧ ∀ o, endR (v' o) = (n, 0) := by
  refine ⟨_, .more (v1 := fun o => { op0 1 base room "haymow/deque.pop" 94 true 0 o with e := ((j + 1 : Nat) : Int) - 1, next := mv 65 o, how := 0, ended := false }) (ws1 := ws) ?_ (.more (v1 := fun o => { op0 1 base room "haymow/deque.pop" 94 true 0 o with e := ((j + 1 : Nat) : Int) - 1, next := mv 70 o, how := 0, ended := false }) (ws1 := ws.set base (true, (j : Int))) ?_ (.more (v1 := fun o => { op0 1 base room "haymow/deque.pop" 94 true 0 o with e := ((j + 1 : Nat) : Int) - 1, num := n, next := mv 78 o, how := 0, ended := false }) (ws1 := ws.set base (true, (j : Int))) ?_ (.last (v' := fun o => { op0 1 base room "haymow/deque.pop" 94 true 0 o with e := ((j + 1 : Nat) : Int) - 1, num := n, t := (t : Int), next := .nilFunc, how := 0, ended := true }) ?_))), fun _ => rfl⟩
  · intro w o p s b hO hM hb
    exact begin_go w o p s _ _ _ b hO 60 ex_pop_own 65 "haymow/deque.pop" 94 ex_pop_rule rfl 0 (ex_pop_go w o p s _ _ b hO hM hb base rfl hbl (j + 1) h0 (by omega) (by omega))
  · intro w o p s b hO hM hb
    exact move_go w o p s _ _ _ b hO 65 ex_popLowers_own 70 rfl 0 (ex_popLowers w o p s _ _ b hO hM hb base rfl hbl j (by show ((j + 1 : Nat) : Int) - 1 = (j : Int); omega) (by omega) ((j + 1 : Nat) : Int) h0)
  · intro w o p s b hO hM hb
    exact move_go w o p s _ _ _ b hO 70 ex_popFinds_own 78 rfl 0 (ex_popFinds w o p s _ _ b hO hM hb base rfl hbl j (by show ((j + 1 : Nat) : Int) - 1 = (j : Int); omega) (by omega) n (by first | exact h2 | (rw [List.getElem?_set_ne (by omega)]; exact h2) | (rw [List.getElem?_set_ne (by omega), List.getElem?_set_ne (by omega)]; exact h2) | (rw [List.getElem?_set_self (List.getElem?_eq_some_iff.1 h2).1])))
  · intro w o p s b hO hM hb
    exact move_end w o p s _ _ _ b hO 78 ex_popLooks_own rfl 0 (ex_popLooks_done w o p s _ _ b hO hM hb base rfl hbl j (by show ((j + 1 : Nat) : Int) - 1 = (j : Int); omega) t htl q hq (by first | exact h1 | (rw [List.getElem?_set_ne (by omega)]; exact h1) | (rw [List.getElem?_set_ne (by omega), List.getElem?_set_ne (by omega)]; exact h1) | (rw [List.getElem?_set_self (List.getElem?_eq_some_iff.1 h1).1])) hm)

/-- Kind 1: a pop of the last one. -/
theorem ex_pop_race_chain (j : Nat) (hj : j < 60000) (n : Int) (h0 : ws[base]? = some (true, ((j + 1 : Nat) : Int))) (h2 : ws[base + 2 + j]? = some (true, n)) (t q : Nat) (htl : t < 1152921504606846976) (hq : t % 65536 = q) (h1 : ws[base + 1]? = some (true, (t : Int))) (hm : j = q) (r : Nat) (hr : t - t % 65536 + 65536 + 0 = r) :
    ∃ v' : Nat → OpV, Chain 6 (op0 1 base room "haymow/deque.pop" 94 true 0) ws v' (((ws.set base (true, (j : Int))).set base (true, 0)).set (base + 1) (true, (r : Int))) ∧ ∀ o, endR (v' o) = (n, 0) := by
  refine ⟨_, .more (v1 := fun o => { op0 1 base room "haymow/deque.pop" 94 true 0 o with e := ((j + 1 : Nat) : Int) - 1, next := mv 65 o, how := 0, ended := false }) (ws1 := ws) ?_ (.more (v1 := fun o => { op0 1 base room "haymow/deque.pop" 94 true 0 o with e := ((j + 1 : Nat) : Int) - 1, next := mv 70 o, how := 0, ended := false }) (ws1 := ws.set base (true, (j : Int))) ?_ (.more (v1 := fun o => { op0 1 base room "haymow/deque.pop" 94 true 0 o with e := ((j + 1 : Nat) : Int) - 1, num := n, next := mv 78 o, how := 0, ended := false }) (ws1 := ws.set base (true, (j : Int))) ?_ (.more (v1 := fun o => { op0 1 base room "haymow/deque.pop" 94 true 0 o with e := ((j + 1 : Nat) : Int) - 1, num := n, t := (t : Int), next := mv 81 o, how := 0, ended := false }) (ws1 := ws.set base (true, (j : Int))) ?_ (.more (v1 := fun o => { op0 1 base room "haymow/deque.pop" 94 true 0 o with e := ((j + 1 : Nat) : Int) - 1, num := n, t := (t : Int), next := mv 83 o, how := 0, ended := false }) (ws1 := (ws.set base (true, (j : Int))).set base (true, 0)) ?_ (.last (v' := fun o => { op0 1 base room "haymow/deque.pop" 94 true 0 o with e := ((j + 1 : Nat) : Int) - 1, num := n, t := (t : Int), next := .nilFunc, how := 0, ended := true }) ?_))))), fun _ => rfl⟩
  · intro w o p s b hO hM hb
    exact begin_go w o p s _ _ _ b hO 60 ex_pop_own 65 "haymow/deque.pop" 94 ex_pop_rule rfl 0 (ex_pop_go w o p s _ _ b hO hM hb base rfl hbl (j + 1) h0 (by omega) (by omega))
  · intro w o p s b hO hM hb
    exact move_go w o p s _ _ _ b hO 65 ex_popLowers_own 70 rfl 0 (ex_popLowers w o p s _ _ b hO hM hb base rfl hbl j (by show ((j + 1 : Nat) : Int) - 1 = (j : Int); omega) (by omega) ((j + 1 : Nat) : Int) h0)
  · intro w o p s b hO hM hb
    exact move_go w o p s _ _ _ b hO 70 ex_popFinds_own 78 rfl 0 (ex_popFinds w o p s _ _ b hO hM hb base rfl hbl j (by show ((j + 1 : Nat) : Int) - 1 = (j : Int); omega) (by omega) n (by first | exact h2 | (rw [List.getElem?_set_ne (by omega)]; exact h2) | (rw [List.getElem?_set_ne (by omega), List.getElem?_set_ne (by omega)]; exact h2) | (rw [List.getElem?_set_self (List.getElem?_eq_some_iff.1 h2).1])))
  · intro w o p s b hO hM hb
    exact move_go w o p s _ _ _ b hO 78 ex_popLooks_own 81 rfl 0 (ex_popLooks_go w o p s _ _ b hO hM hb base rfl hbl j (by show ((j + 1 : Nat) : Int) - 1 = (j : Int); omega) t htl q hq (by first | exact h1 | (rw [List.getElem?_set_ne (by omega)]; exact h1) | (rw [List.getElem?_set_ne (by omega), List.getElem?_set_ne (by omega)]; exact h1) | (rw [List.getElem?_set_self (List.getElem?_eq_some_iff.1 h1).1])) (by omega))
  · intro w o p s b hO hM hb
    exact move_go w o p s _ _ _ b hO 81 ex_popClears_own 83 rfl 0 (ex_popClears_race w o p s _ _ b hO hM hb base rfl hbl j (by show ((j + 1 : Nat) : Int) - 1 = (j : Int); omega) t rfl htl q hq (j : Int) (by first | exact h0 | (rw [List.getElem?_set_ne (by omega)]; exact h0) | (rw [List.getElem?_set_ne (by omega), List.getElem?_set_ne (by omega)]; exact h0) | (rw [List.getElem?_set_self (List.getElem?_eq_some_iff.1 h0).1])) hm)
  · intro w o p s b hO hM hb
    exact move_end w o p s _ _ _ b hO 83 ex_popRaces_own rfl 0 (ex_popRaces_yes w o p s _ _ b hO hM hb base rfl hbl t rfl htl r hr (t : Int) (by first | exact h1 | (rw [List.getElem?_set_ne (by omega)]; exact h1) | (rw [List.getElem?_set_ne (by omega), List.getElem?_set_ne (by omega)]; exact h1) | (rw [List.getElem?_set_self (List.getElem?_eq_some_iff.1 h1).1])) rfl)

/-- Kind 1: a pop where all was stolen. -/
theorem ex_pop_lost_chain (j : Nat) (hj : j < 60000) (n : Int) (h0 : ws[base]? = some (true, ((j + 1 : Nat) : Int))) (h2 : ws[base + 2 + j]? = some (true, n)) (t q : Nat) (htl : t < 1152921504606846976) (hq : t % 65536 = q) (h1 : ws[base + 1]? = some (true, (t : Int))) (hm : j < q) (r : Nat) (hr : t - t % 65536 + 65536 + 0 = r) :
    ∃ v' : Nat → OpV, Chain 6 (op0 1 base room "haymow/deque.pop" 94 true 0) ws v' (((ws.set base (true, (j : Int))).set base (true, 0)).set (base + 1) (true, (r : Int))) ∧ ∀ o, endR (v' o) = (0, 9) := by
  refine ⟨_, .more (v1 := fun o => { op0 1 base room "haymow/deque.pop" 94 true 0 o with e := ((j + 1 : Nat) : Int) - 1, next := mv 65 o, how := 0, ended := false }) (ws1 := ws) ?_ (.more (v1 := fun o => { op0 1 base room "haymow/deque.pop" 94 true 0 o with e := ((j + 1 : Nat) : Int) - 1, next := mv 70 o, how := 0, ended := false }) (ws1 := ws.set base (true, (j : Int))) ?_ (.more (v1 := fun o => { op0 1 base room "haymow/deque.pop" 94 true 0 o with e := ((j + 1 : Nat) : Int) - 1, num := n, next := mv 78 o, how := 0, ended := false }) (ws1 := ws.set base (true, (j : Int))) ?_ (.more (v1 := fun o => { op0 1 base room "haymow/deque.pop" 94 true 0 o with e := ((j + 1 : Nat) : Int) - 1, num := n, t := (t : Int), next := mv 81 o, how := 0, ended := false }) (ws1 := ws.set base (true, (j : Int))) ?_ (.more (v1 := fun o => { op0 1 base room "haymow/deque.pop" 94 true 0 o with e := ((j + 1 : Nat) : Int) - 1, num := n, t := (t : Int), next := mv 84 o, how := 0, ended := false }) (ws1 := (ws.set base (true, (j : Int))).set base (true, 0)) ?_ (.last (v' := fun o => { op0 1 base room "haymow/deque.pop" 94 true 0 o with e := ((j + 1 : Nat) : Int) - 1, num := n, t := (t : Int), next := .nilFunc, how := 9, ended := true }) ?_))))), fun _ => rfl⟩
  · intro w o p s b hO hM hb
    exact begin_go w o p s _ _ _ b hO 60 ex_pop_own 65 "haymow/deque.pop" 94 ex_pop_rule rfl 0 (ex_pop_go w o p s _ _ b hO hM hb base rfl hbl (j + 1) h0 (by omega) (by omega))
  · intro w o p s b hO hM hb
    exact move_go w o p s _ _ _ b hO 65 ex_popLowers_own 70 rfl 0 (ex_popLowers w o p s _ _ b hO hM hb base rfl hbl j (by show ((j + 1 : Nat) : Int) - 1 = (j : Int); omega) (by omega) ((j + 1 : Nat) : Int) h0)
  · intro w o p s b hO hM hb
    exact move_go w o p s _ _ _ b hO 70 ex_popFinds_own 78 rfl 0 (ex_popFinds w o p s _ _ b hO hM hb base rfl hbl j (by show ((j + 1 : Nat) : Int) - 1 = (j : Int); omega) (by omega) n (by first | exact h2 | (rw [List.getElem?_set_ne (by omega)]; exact h2) | (rw [List.getElem?_set_ne (by omega), List.getElem?_set_ne (by omega)]; exact h2) | (rw [List.getElem?_set_self (List.getElem?_eq_some_iff.1 h2).1])))
  · intro w o p s b hO hM hb
    exact move_go w o p s _ _ _ b hO 78 ex_popLooks_own 81 rfl 0 (ex_popLooks_go w o p s _ _ b hO hM hb base rfl hbl j (by show ((j + 1 : Nat) : Int) - 1 = (j : Int); omega) t htl q hq (by first | exact h1 | (rw [List.getElem?_set_ne (by omega)]; exact h1) | (rw [List.getElem?_set_ne (by omega), List.getElem?_set_ne (by omega)]; exact h1) | (rw [List.getElem?_set_self (List.getElem?_eq_some_iff.1 h1).1])) (by omega))
  · intro w o p s b hO hM hb
    exact move_go w o p s _ _ _ b hO 81 ex_popClears_own 84 rfl 0 (ex_popClears_lost w o p s _ _ b hO hM hb base rfl hbl j (by show ((j + 1 : Nat) : Int) - 1 = (j : Int); omega) t rfl htl q hq (j : Int) (by first | exact h0 | (rw [List.getElem?_set_ne (by omega)]; exact h0) | (rw [List.getElem?_set_ne (by omega), List.getElem?_set_ne (by omega)]; exact h0) | (rw [List.getElem?_set_self (List.getElem?_eq_some_iff.1 h0).1])) (by omega))
  · intro w o p s b hO hM hb
    exact move_end w o p s _ _ _ b hO 84 ex_popLost_own rfl 9 (ex_popLost w o p s _ _ b hO hM hb base rfl hbl t rfl htl r hr (t : Int) (by first | exact h1 | (rw [List.getElem?_set_ne (by omega)]; exact h1) | (rw [List.getElem?_set_ne (by omega), List.getElem?_set_ne (by omega)]; exact h1) | (rw [List.getElem?_set_self (List.getElem?_eq_some_iff.1 h1).1])))

/-- Kind 1: a pop of an empty one. -/
theorem ex_pop_empty_chain (h0 : ws[base]? = some (true, (0 : Int))) :
    ∃ v' : Nat → OpV, Chain 1 (op0 1 base room "haymow/deque.pop" 94 true 0) ws v' (ws) ∧ ∀ o, endR (v' o) = (0, 9) := by
  refine ⟨_, .last (v' := fun o => { op0 1 base room "haymow/deque.pop" 94 true 0 o with e := -1, next := .nilFunc, how := 9, ended := true }) ?_, fun _ => rfl⟩
  · intro w o p s b hO hM hb
    exact begin_end w o p s _ _ _ b hO 60 ex_pop_own "haymow/deque.pop" 94 ex_pop_rule rfl 9 (ex_pop_empty w o p s _ _ b hO hM hb base rfl hbl h0)

/-- Kind 1: a steal. -/
theorem ex_steal_chain (t q : Nat) (htl : t < 1152921504606846976) (hq : t % 65536 = q) (h1 : ws[base + 1]? = some (true, (t : Int))) (E : Nat) (n : Int) (h0 : ws[base]? = some (true, (E : Int))) (hm : q < E) (h2 : ws[base + 2 + q]? = some (true, n)) :
    ∃ v' : Nat → OpV, Chain 4 (op0 1 base room "haymow/deque.steal" 94 true 0) ws v' (ws.set (base + 1) (true, ((t + 1 : Nat) : Int))) ∧ ∀ o, endR (v' o) = (n, 0) := by
  refine ⟨_, .more (v1 := fun o => { op0 1 base room "haymow/deque.steal" 94 true 0 o with t := (t : Int), next := mv 68 o, how := 0, ended := false }) (ws1 := ws) ?_ (.more (v1 := fun o => { op0 1 base room "haymow/deque.steal" 94 true 0 o with t := (t : Int), next := mv 75 o, how := 0, ended := false }) (ws1 := ws) ?_ (.more (v1 := fun o => { op0 1 base room "haymow/deque.steal" 94 true 0 o with t := (t : Int), num := n, next := mv 80 o, how := 0, ended := false }) (ws1 := ws) ?_ (.last (v' := fun o => { op0 1 base room "haymow/deque.steal" 94 true 0 o with t := (t : Int), num := n, next := .nilFunc, how := 0, ended := true }) ?_))), fun _ => rfl⟩
  · intro w o p s b hO hM hb
    exact begin_go w o p s _ _ _ b hO 62 ex_steal_own 68 "haymow/deque.steal" 94 ex_steal_rule rfl 0 (ex_steal w o p s _ _ b hO hM hb base rfl hbl (t : Int) h1)
  · intro w o p s b hO hM hb
    exact move_go w o p s _ _ _ b hO 68 ex_stealLooks_own 75 rfl 0 (ex_stealLooks_go w o p s _ _ b hO hM hb base rfl hbl t rfl htl q hq E h0 hm)
  · intro w o p s b hO hM hb
    exact move_go w o p s _ _ _ b hO 75 ex_stealFinds_own 80 rfl 0 (ex_stealFinds w o p s _ _ b hO hM hb base rfl hbl t rfl htl q hq n h2)
  · intro w o p s b hO hM hb
    exact move_end w o p s _ _ _ b hO 80 ex_stealRaces_own rfl 0 (ex_stealRaces_yes w o p s _ _ b hO hM hb base rfl hbl t rfl htl (t : Int) h1 rfl)

/-- Kind 1: a steal of an empty one. -/
theorem ex_steal_empty_chain (t q : Nat) (htl : t < 1152921504606846976) (hq : t % 65536 = q) (h1 : ws[base + 1]? = some (true, (t : Int))) (E : Nat) (h0 : ws[base]? = some (true, (E : Int))) (hm : E ≤ q) :
    ∃ v' : Nat → OpV, Chain 2 (op0 1 base room "haymow/deque.steal" 94 true 0) ws v' (ws) ∧ ∀ o, endR (v' o) = (0, 9) := by
  refine ⟨_, .more (v1 := fun o => { op0 1 base room "haymow/deque.steal" 94 true 0 o with t := (t : Int), next := mv 68 o, how := 0, ended := false }) (ws1 := ws) ?_ (.last (v' := fun o => { op0 1 base room "haymow/deque.steal" 94 true 0 o with t := (t : Int), next := .nilFunc, how := 9, ended := true }) ?_), fun _ => rfl⟩
  · intro w o p s b hO hM hb
    exact begin_go w o p s _ _ _ b hO 62 ex_steal_own 68 "haymow/deque.steal" 94 ex_steal_rule rfl 0 (ex_steal w o p s _ _ b hO hM hb base rfl hbl (t : Int) h1)
  · intro w o p s b hO hM hb
    exact move_end w o p s _ _ _ b hO 68 ex_stealLooks_own rfl 9 (ex_stealLooks_empty w o p s _ _ b hO hM hb base rfl hbl t rfl htl q hq E h0 hm)

/-- Kind 2: a push where there is room. -/
theorem la_push_chain (x : Int) (t q : Nat) (htl : t < 1152921504606846976) (hq : t % 65536 = q) (h1 : ws[base + 1]? = some (true, (t : Int))) (hm : ¬ q = room) (m : Int) (h2 : ws[base + 2 + q]? = some (true, m)) (r : Nat) (hr : t - t % 65536 + 65536 + (q + 1) = r) :
    ∃ v' : Nat → OpV, Chain 3 (op0 2 base room "haymow/deque.push" 95 false x) ws v' ((ws.set (base + 2 + q) (true, x)).set (base + 1) (true, (r : Int))) ∧ ∀ o, endR (v' o) = (0, 0) := by
  refine ⟨_, .more (v1 := fun o => { op0 2 base room "haymow/deque.push" 95 false x o with t := (t : Int), next := mv 93 o, how := 0, ended := false }) (ws1 := ws) ?_ (.more (v1 := fun o => { op0 2 base room "haymow/deque.push" 95 false x o with t := (t : Int), next := mv 96 o, how := 0, ended := false }) (ws1 := ws.set (base + 2 + q) (true, x)) ?_ (.last (v' := fun o => { op0 2 base room "haymow/deque.push" 95 false x o with t := (t : Int), next := .nilFunc, how := 0, ended := true }) ?_)), fun _ => rfl⟩
  · intro w o p s b hO hM hb
    exact begin_go w o p s _ _ _ b hO 89 la_push_own 93 "haymow/deque.push" 95 la_push_rule rfl 0 (la_push_go w o p s _ _ b hO hM hb base rfl hbl room rfl t htl q hq h1 hm)
  · intro w o p s b hO hM hb
    exact move_go w o p s _ _ _ b hO 93 la_pushFills_own 96 rfl 0 (la_pushFills w o p s _ _ b hO hM hb base rfl hbl t rfl htl q hq m h2)
  · intro w o p s b hO hM hb
    exact move_end w o p s _ _ _ b hO 96 la_pushEnds_own rfl 0 (la_pushEnds w o p s _ _ b hO hM hb base rfl hbl t rfl htl q hq r hr (t : Int) (by first | exact h1 | (rw [List.getElem?_set_ne (by omega)]; exact h1) | (rw [List.getElem?_set_ne (by omega), List.getElem?_set_ne (by omega)]; exact h1) | (rw [List.getElem?_set_self (List.getElem?_eq_some_iff.1 h1).1])))

/-- Kind 2: a push where there is no room. -/
theorem la_push_full_chain (x : Int) (t q : Nat) (htl : t < 1152921504606846976) (hq : t % 65536 = q) (h1 : ws[base + 1]? = some (true, (t : Int))) (hm : q = room) :
    ∃ v' : Nat → OpV, Chain 1 (op0 2 base room "haymow/deque.push" 95 false x) ws v' (ws) ∧ ∀ o, endR (v' o) = (0, 8) := by
  refine ⟨_, .last (v' := fun o => { op0 2 base room "haymow/deque.push" 95 false x o with t := (t : Int), next := .nilFunc, how := 8, ended := true }) ?_, fun _ => rfl⟩
  · intro w o p s b hO hM hb
    exact begin_end w o p s _ _ _ b hO 89 la_push_own "haymow/deque.push" 95 la_push_rule rfl 8 (la_push_full w o p s _ _ b hO hM hb base rfl hbl room rfl t htl q hq h1 hm)

/-- Kind 2: a pop. -/
theorem la_pop_chain (t q : Nat) (htl : t < 1152921504606846976) (hq : t % 65536 = q) (h1 : ws[base + 1]? = some (true, (t : Int))) (j : Nat) (hj : j + 1 = q) (n : Int) (h2 : ws[base + 2 + j]? = some (true, n)) :
    ∃ v' : Nat → OpV, Chain 3 (op0 2 base room "haymow/deque.pop" 95 true 0) ws v' (ws.set (base + 1) (true, (t : Int) - 1)) ∧ ∀ o, endR (v' o) = (n, 0) := by
  refine ⟨_, .more (v1 := fun o => { op0 2 base room "haymow/deque.pop" 95 true 0 o with final := mv 91 o, t := (t : Int), next := mv 95 o, how := 0, ended := false }) (ws1 := ws) ?_ (.more (v1 := fun o => { op0 2 base room "haymow/deque.pop" 95 true 0 o with final := mv 91 o, t := (t : Int), num := n, next := mv 91 o, how := 0, ended := false }) (ws1 := ws) ?_ (.last (v' := fun o => { op0 2 base room "haymow/deque.pop" 95 true 0 o with final := mv 91 o, t := (t : Int), num := n, next := .nilFunc, how := 0, ended := true }) ?_)), fun _ => rfl⟩
  · intro w o p s b hO hM hb
    exact begin_go w o p s _ _ _ b hO 88 la_pop_own 95 "haymow/deque.pop" 95 la_pop_rule rfl 0 (la_pop_go w o p s _ _ b hO hM hb base rfl hbl t htl q hq h1 (by omega))
  · intro w o p s b hO hM hb
    exact move_go w o p s _ _ _ b hO 95 la_takeFinds_own 91 rfl 0 (la_takeFinds w o p s _ _ b hO hM hb base rfl hbl t rfl htl q hq j hj n h2)
  · intro w o p s b hO hM hb
    exact move_end w o p s _ _ _ b hO 91 la_popEnds_own rfl 0 (la_popEnds w o p s _ _ b hO hM hb base rfl hbl t rfl htl (t : Int) h1)

/-- Kind 2: a pop of an empty one. -/
theorem la_pop_empty_chain (t q : Nat) (htl : t < 1152921504606846976) (hq : t % 65536 = q) (h1 : ws[base + 1]? = some (true, (t : Int))) (hm : q = 0) :
    ∃ v' : Nat → OpV, Chain 1 (op0 2 base room "haymow/deque.pop" 95 true 0) ws v' (ws) ∧ ∀ o, endR (v' o) = (0, 9) := by
  refine ⟨_, .last (v' := fun o => { op0 2 base room "haymow/deque.pop" 95 true 0 o with final := mv 91 o, t := (t : Int), next := .nilFunc, how := 9, ended := true }) ?_, fun _ => rfl⟩
  · intro w o p s b hO hM hb
    exact begin_end w o p s _ _ _ b hO 88 la_pop_own "haymow/deque.pop" 95 la_pop_rule rfl 9 (la_pop_empty w o p s _ _ b hO hM hb base rfl hbl t htl q hq h1 hm)

/-- Kind 2: a steal. -/
theorem la_steal_chain (t q : Nat) (htl : t < 1152921504606846976) (hq : t % 65536 = q) (h1 : ws[base + 1]? = some (true, (t : Int))) (j : Nat) (hj : j + 1 = q) (n : Int) (h2 : ws[base + 2 + j]? = some (true, n)) :
    ∃ v' : Nat → OpV, Chain 3 (op0 2 base room "haymow/deque.steal" 95 true 0) ws v' (ws.set (base + 1) (true, (t : Int) - 1)) ∧ ∀ o, endR (v' o) = (n, 0) := by
  refine ⟨_, .more (v1 := fun o => { op0 2 base room "haymow/deque.steal" 95 true 0 o with final := mv 94 o, t := (t : Int), next := mv 95 o, how := 0, ended := false }) (ws1 := ws) ?_ (.more (v1 := fun o => { op0 2 base room "haymow/deque.steal" 95 true 0 o with final := mv 94 o, t := (t : Int), num := n, next := mv 94 o, how := 0, ended := false }) (ws1 := ws) ?_ (.last (v' := fun o => { op0 2 base room "haymow/deque.steal" 95 true 0 o with final := mv 94 o, t := (t : Int), num := n, next := .nilFunc, how := 0, ended := true }) ?_)), fun _ => rfl⟩
  · intro w o p s b hO hM hb
    exact begin_go w o p s _ _ _ b hO 90 la_steal_own 95 "haymow/deque.steal" 95 la_steal_rule rfl 0 (la_steal_go w o p s _ _ b hO hM hb base rfl hbl t htl q hq h1 (by omega))
  · intro w o p s b hO hM hb
    exact move_go w o p s _ _ _ b hO 95 la_takeFinds_own 94 rfl 0 (la_takeFinds w o p s _ _ b hO hM hb base rfl hbl t rfl htl q hq j hj n h2)
  · intro w o p s b hO hM hb
    exact move_end w o p s _ _ _ b hO 94 la_stealRaces_own rfl 0 (la_stealRaces_yes w o p s _ _ b hO hM hb base rfl hbl t rfl htl (t : Int) h1 rfl)

/-- Kind 2: a steal of an empty one. -/
theorem la_steal_empty_chain (t q : Nat) (htl : t < 1152921504606846976) (hq : t % 65536 = q) (h1 : ws[base + 1]? = some (true, (t : Int))) (hm : q = 0) :
    ∃ v' : Nat → OpV, Chain 1 (op0 2 base room "haymow/deque.steal" 95 true 0) ws v' (ws) ∧ ∀ o, endR (v' o) = (0, 9) := by
  refine ⟨_, .last (v' := fun o => { op0 2 base room "haymow/deque.steal" 95 true 0 o with final := mv 94 o, t := (t : Int), next := .nilFunc, how := 9, ended := true }) ?_, fun _ => rfl⟩
  · intro w o p s b hO hM hb
    exact begin_end w o p s _ _ _ b hO 90 la_steal_own "haymow/deque.steal" 95 la_steal_rule rfl 9 (la_steal_empty w o p s _ _ b hO hM hb base rfl hbl t htl q hq h1 hm)

/-- Kind 3: a push where there is room. -/
theorem fi_push_chain (x : Int) (hr0 : 0 < room) (hr1 : room ≤ 1000) (t : Nat) (htl : t < 1152921504606846976) (h1 : ws[base + 1]? = some (true, (t : Int))) (E : Nat) (hEl : E < 1152921504606846976) (h0 : ws[base]? = some (true, (E : Int))) (hm : E < t + room) (q : Nat) (hq : E % room = q) (m : Int) (h2 : ws[base + 2 + q]? = some (true, m)) :
    ∃ v' : Nat → OpV, Chain 4 (op0 3 base room "haymow/deque.push" 96 false x) ws v' ((ws.set (base + 2 + q) (true, x)).set base (true, ((E + 1 : Nat) : Int))) ∧ ∀ o, endR (v' o) = (0, 0) := by
  refine ⟨_, .more (v1 := fun o => { op0 3 base room "haymow/deque.push" 96 false x o with t := (t : Int), next := mv 102 o, how := 0, ended := false }) (ws1 := ws) ?_ (.more (v1 := fun o => { op0 3 base room "haymow/deque.push" 96 false x o with t := (t : Int), e := (E : Int), next := mv 105 o, how := 0, ended := false }) (ws1 := ws) ?_ (.more (v1 := fun o => { op0 3 base room "haymow/deque.push" 96 false x o with t := (t : Int), e := (E : Int), next := mv 106 o, how := 0, ended := false }) (ws1 := ws.set (base + 2 + q) (true, x)) ?_ (.last (v' := fun o => { op0 3 base room "haymow/deque.push" 96 false x o with t := (t : Int), e := (E : Int), next := .nilFunc, how := 0, ended := true }) ?_))), fun _ => rfl⟩
  · intro w o p s b hO hM hb
    exact begin_go w o p s _ _ _ b hO 98 fi_push_own 102 "haymow/deque.push" 96 fi_push_rule rfl 0 (fi_push w o p s _ _ b hO hM hb base rfl hbl (t : Int) h1)
  · intro w o p s b hO hM hb
    exact move_go w o p s _ _ _ b hO 102 fi_pushLooks_own 105 rfl 0 (fi_pushLooks_go w o p s _ _ b hO hM hb base rfl hbl room rfl t rfl htl E hEl h0 hm)
  · intro w o p s b hO hM hb
    exact move_go w o p s _ _ _ b hO 105 fi_pushFills_own 106 rfl 0 (fi_pushFills w o p s _ _ b hO hM hb base rfl hbl room rfl hr0 hr1 E rfl q hq m h2)
  · intro w o p s b hO hM hb
    exact move_end w o p s _ _ _ b hO 106 fi_pushEnds_own rfl 0 (fi_pushEnds w o p s _ _ b hO hM hb base rfl hbl E rfl hEl (E : Int) (by first | exact h0 | (rw [List.getElem?_set_ne (by omega)]; exact h0) | (rw [List.getElem?_set_ne (by omega), List.getElem?_set_ne (by omega)]; exact h0) | (rw [List.getElem?_set_self (List.getElem?_eq_some_iff.1 h0).1])))

/-- Kind 3: a push where there is no room. -/
theorem fi_push_full_chain (x : Int) (t : Nat) (htl : t < 1152921504606846976) (h1 : ws[base + 1]? = some (true, (t : Int))) (E : Nat) (hEl : E < 1152921504606846976) (h0 : ws[base]? = some (true, (E : Int))) (hm : t + room ≤ E) :
    ∃ v' : Nat → OpV, Chain 2 (op0 3 base room "haymow/deque.push" 96 false x) ws v' (ws) ∧ ∀ o, endR (v' o) = (0, 8) := by
  refine ⟨_, .more (v1 := fun o => { op0 3 base room "haymow/deque.push" 96 false x o with t := (t : Int), next := mv 102 o, how := 0, ended := false }) (ws1 := ws) ?_ (.last (v' := fun o => { op0 3 base room "haymow/deque.push" 96 false x o with t := (t : Int), e := (E : Int), next := .nilFunc, how := 8, ended := true }) ?_), fun _ => rfl⟩
  · intro w o p s b hO hM hb
    exact begin_go w o p s _ _ _ b hO 98 fi_push_own 102 "haymow/deque.push" 96 fi_push_rule rfl 0 (fi_push w o p s _ _ b hO hM hb base rfl hbl (t : Int) h1)
  · intro w o p s b hO hM hb
    exact move_end w o p s _ _ _ b hO 102 fi_pushLooks_own rfl 8 (fi_pushLooks_full w o p s _ _ b hO hM hb base rfl hbl room rfl t rfl htl E hEl h0 hm)

/-- Kind 3: a pop. -/
theorem fi_pop_chain (hr0 : 0 < room) (hr1 : room ≤ 1000) (t : Nat) (htl : t < 1152921504606846976) (h1 : ws[base + 1]? = some (true, (t : Int))) (E : Nat) (_hEl : E < 1152921504606846976) (h0 : ws[base]? = some (true, (E : Int))) (hm : t < E) (q : Nat) (hq : t % room = q) (n : Int) (h2 : ws[base + 2 + q]? = some (true, n)) :
    ∃ v' : Nat → OpV, Chain 4 (op0 3 base room "haymow/deque.pop" 96 true 0) ws v' (ws.set (base + 1) (true, ((t + 1 : Nat) : Int))) ∧ ∀ o, endR (v' o) = (n, 0) := by
  refine ⟨_, .more (v1 := fun o => { op0 3 base room "haymow/deque.pop" 96 true 0 o with final := mv 100 o, t := (t : Int), next := mv 101 o, how := 0, ended := false }) (ws1 := ws) ?_ (.more (v1 := fun o => { op0 3 base room "haymow/deque.pop" 96 true 0 o with final := mv 100 o, t := (t : Int), next := mv 104 o, how := 0, ended := false }) (ws1 := ws) ?_ (.more (v1 := fun o => { op0 3 base room "haymow/deque.pop" 96 true 0 o with final := mv 100 o, t := (t : Int), num := n, next := mv 100 o, how := 0, ended := false }) (ws1 := ws) ?_ (.last (v' := fun o => { op0 3 base room "haymow/deque.pop" 96 true 0 o with final := mv 100 o, t := (t : Int), num := n, next := .nilFunc, how := 0, ended := true }) ?_))), fun _ => rfl⟩
  · intro w o p s b hO hM hb
    exact begin_go w o p s _ _ _ b hO 97 fi_pop_own 101 "haymow/deque.pop" 96 fi_pop_rule rfl 0 (fi_pop w o p s _ _ b hO hM hb base rfl hbl (t : Int) h1)
  · intro w o p s b hO hM hb
    exact move_go w o p s _ _ _ b hO 101 fi_takeLooks_own 104 rfl 0 (fi_takeLooks_go w o p s _ _ b hO hM hb base rfl hbl t rfl E h0 hm)
  · intro w o p s b hO hM hb
    exact move_go w o p s _ _ _ b hO 104 fi_takeFinds_own 100 rfl 0 (fi_takeFinds w o p s _ _ b hO hM hb base rfl hbl room rfl hr0 hr1 t rfl q hq n h2)
  · intro w o p s b hO hM hb
    exact move_end w o p s _ _ _ b hO 100 fi_popEnds_own rfl 0 (fi_popEnds w o p s _ _ b hO hM hb base rfl hbl t rfl htl (t : Int) h1)

/-- Kind 3: a pop of an empty one. -/
theorem fi_pop_empty_chain (t : Nat) (_htl : t < 1152921504606846976) (h1 : ws[base + 1]? = some (true, (t : Int))) (E : Nat) (_hEl : E < 1152921504606846976) (h0 : ws[base]? = some (true, (E : Int))) (hm : E ≤ t) :
    ∃ v' : Nat → OpV, Chain 2 (op0 3 base room "haymow/deque.pop" 96 true 0) ws v' (ws) ∧ ∀ o, endR (v' o) = (0, 9) := by
  refine ⟨_, .more (v1 := fun o => { op0 3 base room "haymow/deque.pop" 96 true 0 o with final := mv 100 o, t := (t : Int), next := mv 101 o, how := 0, ended := false }) (ws1 := ws) ?_ (.last (v' := fun o => { op0 3 base room "haymow/deque.pop" 96 true 0 o with final := mv 100 o, t := (t : Int), next := .nilFunc, how := 9, ended := true }) ?_), fun _ => rfl⟩
  · intro w o p s b hO hM hb
    exact begin_go w o p s _ _ _ b hO 97 fi_pop_own 101 "haymow/deque.pop" 96 fi_pop_rule rfl 0 (fi_pop w o p s _ _ b hO hM hb base rfl hbl (t : Int) h1)
  · intro w o p s b hO hM hb
    exact move_end w o p s _ _ _ b hO 101 fi_takeLooks_own rfl 9 (fi_takeLooks_empty w o p s _ _ b hO hM hb base rfl hbl t rfl E h0 hm)

/-- Kind 3: a steal. -/
theorem fi_steal_chain (hr0 : 0 < room) (hr1 : room ≤ 1000) (t : Nat) (htl : t < 1152921504606846976) (h1 : ws[base + 1]? = some (true, (t : Int))) (E : Nat) (_hEl : E < 1152921504606846976) (h0 : ws[base]? = some (true, (E : Int))) (hm : t < E) (q : Nat) (hq : t % room = q) (n : Int) (h2 : ws[base + 2 + q]? = some (true, n)) :
    ∃ v' : Nat → OpV, Chain 4 (op0 3 base room "haymow/deque.steal" 96 true 0) ws v' (ws.set (base + 1) (true, ((t + 1 : Nat) : Int))) ∧ ∀ o, endR (v' o) = (n, 0) := by
  refine ⟨_, .more (v1 := fun o => { op0 3 base room "haymow/deque.steal" 96 true 0 o with final := mv 103 o, t := (t : Int), next := mv 101 o, how := 0, ended := false }) (ws1 := ws) ?_ (.more (v1 := fun o => { op0 3 base room "haymow/deque.steal" 96 true 0 o with final := mv 103 o, t := (t : Int), next := mv 104 o, how := 0, ended := false }) (ws1 := ws) ?_ (.more (v1 := fun o => { op0 3 base room "haymow/deque.steal" 96 true 0 o with final := mv 103 o, t := (t : Int), num := n, next := mv 103 o, how := 0, ended := false }) (ws1 := ws) ?_ (.last (v' := fun o => { op0 3 base room "haymow/deque.steal" 96 true 0 o with final := mv 103 o, t := (t : Int), num := n, next := .nilFunc, how := 0, ended := true }) ?_))), fun _ => rfl⟩
  · intro w o p s b hO hM hb
    exact begin_go w o p s _ _ _ b hO 99 fi_steal_own 101 "haymow/deque.steal" 96 fi_steal_rule rfl 0 (fi_steal w o p s _ _ b hO hM hb base rfl hbl (t : Int) h1)
  · intro w o p s b hO hM hb
    exact move_go w o p s _ _ _ b hO 101 fi_takeLooks_own 104 rfl 0 (fi_takeLooks_go w o p s _ _ b hO hM hb base rfl hbl t rfl E h0 hm)
  · intro w o p s b hO hM hb
    exact move_go w o p s _ _ _ b hO 104 fi_takeFinds_own 103 rfl 0 (fi_takeFinds w o p s _ _ b hO hM hb base rfl hbl room rfl hr0 hr1 t rfl q hq n h2)
  · intro w o p s b hO hM hb
    exact move_end w o p s _ _ _ b hO 103 fi_stealRaces_own rfl 0 (fi_stealRaces_yes w o p s _ _ b hO hM hb base rfl hbl t rfl htl (t : Int) h1 rfl)

/-- Kind 3: a steal of an empty one. -/
theorem fi_steal_empty_chain (t : Nat) (_htl : t < 1152921504606846976) (h1 : ws[base + 1]? = some (true, (t : Int))) (E : Nat) (_hEl : E < 1152921504606846976) (h0 : ws[base]? = some (true, (E : Int))) (hm : E ≤ t) :
    ∃ v' : Nat → OpV, Chain 2 (op0 3 base room "haymow/deque.steal" 96 true 0) ws v' (ws) ∧ ∀ o, endR (v' o) = (0, 9) := by
  refine ⟨_, .more (v1 := fun o => { op0 3 base room "haymow/deque.steal" 96 true 0 o with final := mv 103 o, t := (t : Int), next := mv 101 o, how := 0, ended := false }) (ws1 := ws) ?_ (.last (v' := fun o => { op0 3 base room "haymow/deque.steal" 96 true 0 o with final := mv 103 o, t := (t : Int), next := .nilFunc, how := 9, ended := true }) ?_), fun _ => rfl⟩
  · intro w o p s b hO hM hb
    exact begin_go w o p s _ _ _ b hO 99 fi_steal_own 101 "haymow/deque.steal" 96 fi_steal_rule rfl 0 (fi_steal w o p s _ _ b hO hM hb base rfl hbl (t : Int) h1)
  · intro w o p s b hO hM hb
    exact move_end w o p s _ _ _ b hO 101 fi_takeLooks_own rfl 9 (fi_takeLooks_empty w o p s _ _ b hO hM hb base rfl hbl t rfl E h0 hm)
end
end Go.Proofs.Ytfcboacmailfiaa
