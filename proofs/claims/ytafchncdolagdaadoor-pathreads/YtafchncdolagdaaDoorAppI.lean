/-
  append onto a row of numbers of the call's own.
-/
import Derived.Test.YtafchncdolagdaaDoorApp
import Derived.Test.YtafchncdolagdaaDoorAwkP
namespace Go.Proofs.YtafchncdolagdaaDoor
open Go.RowKit

abbrev ic (xs : List Int) : List Value := xs.map fun x => Value.int .i64 x
theorem info_int : (Tryd.prog.info? 3).map (fun i => (i.zero, i.size, i.bytes)) = some (some (.int .i64 0), 1, 8) := by kernel_rfl

theorem Ints.of_own {w : World} {base : Nat} {A : Option Addr} {n c : Nat} {xs : List Int} (h : w.ownsRow base 3 1 (.slice A n c) n (ic xs)) : Ints w A n xs := by
  have hr := Rd.of_own h
  have hl := hr.1
  simp only [List.length_map, Nat.mul_one] at hl
  refine ⟨hl, fun hn => ?_⟩
  obtain ⟨b, off, e, _, hc⟩ := hr.2 hn
  exact ⟨b, off, e, fun j x hx => hc j _ (by rw [List.getElem?_map, hx]; rfl)⟩
theorem Ints.rd {w : World} {A : Option Addr} {n : Nat} {xs : List Int} (h : Ints w A n xs) : Rd w (fun _ => True) 1 A n (ic xs) := by
  have hl := h.1
  refine ⟨by rw [List.length_map]; omega, fun hn => ?_⟩
  obtain ⟨b, off, e, hc⟩ := h.2 hn
  refine ⟨b, off, e, trivial, fun j u hu => ?_⟩
  rw [List.getElem?_map] at hu
  cases hx : xs[j]? with
  | none => rw [hx] at hu; cases hu
  | some x => rw [hx] at hu; cases hu; exact hc j x hx
theorem own_slice' {w : World} {base size n : Nat} {e : TypeId} {v : Value} {xs : List Value} (h : w.ownsRow base e size v n xs) : ∃ A c, v = .slice A n c := by
  rcases h.2 with ⟨rfl, rfl⟩ | ⟨g1, cap, cur, rfl, hb, h1, _⟩
  · exact ⟨none, 0, rfl⟩
  · exact ⟨_, cap, rfl⟩
theorem own_low' {w : World} {base size n : Nat} {e : TypeId} {v : Value} {xs : List Value} (h : w.ownsRow base e size v n xs) : ∀ g, v.ownBlock = some g → base ≤ g := by
  intro g hg
  rcases h.2 with ⟨rfl, _⟩ | ⟨g1, cap, cur, rfl, hb, h1, _⟩
  · cases hg
  · simp only [Value.ownBlock, Option.some.injEq] at hg
    omega
theorem own_fr' {w w' : World} {base size n : Nat} {e : TypeId} {v : Value} {xs : List Value} {B : Nat → Prop} (h : w.ownsRow base e size v n xs) (hf : Fr B w w') (hB : ∀ g, v.ownBlock = some g → ¬ B g) : w'.ownsRow base e size v n xs := by
  refine ⟨h.1, ?_⟩
  rcases h.2 with h2 | ⟨g, cap, cur, hv, hg, hh, r⟩
  · exact .inl h2
  · have hlt : g < w.heap.size := Blk.lt (t := e) hh
    exact .inr ⟨g, cap, cur, hv, hg, (hf.block g hlt (hB g (by rw [hv]; rfl))).trans hh, r⟩

theorem app_int {w : World} {ops : Array Oper} {rest : List Oper} {o : Oper} {a : Act} {R : Exit → Act → World → Prop} (hgd : o.guard = none) (s x : Operand)
    (ho : o.op = .call { callee := .builtin .append, args := #[s, x], argTypes := #[22, 22] })
    (base : Nat) (v : Value) (n : Nat) (xs : List Int) (hs : a.eval s = v) (hown : w.ownsRow base 3 1 v n (ic xs))
    (A : Option Addr) (m c : Nat) (ys : List Int) (hx : a.eval x = .slice A m c) (hr : Ints w A m ys) (hn : n + m ≤ 1000) (hbase : base ≤ w.heap.size)
    (h : ∀ A' c' w', w'.ownsRow base 3 1 (.slice A' (n + m) c') (n + m) (ic (xs ++ ys)) → (∀ w0, w0.heap.size ≤ base → Fr None' w0 w → Fr None' w0 w') → wpList Tryd.prog ops R rest (a.put o.dst (.slice A' (n + m) c')) w') : wpList Tryd.prog ops R (o :: rest) a w := by
  obtain ⟨i0, hi, hi2⟩ := Option.map_eq_some_iff.1 info_int
  simp only [Prod.mk.injEq] at hi2
  refine app_list (P := Tryd.prog) w hgd s x 22 ho base 3 i0 (.int .i64 0) 1 8 Tryd.underlying22 hi hi2.1 hi2.2.1 hi2.2.2 rfl (by decide) v n (ic xs) hs hown (fun _ => True) A m c (ic ys) hx hr.rd ?_ (by unfold maxLen; omega) (by omega) hbase ?_
  · intro u hu
    simp only [List.mem_map] at hu
    obtain ⟨z, _, rfl⟩ := hu
    rfl
  · intro v' w' hown' hg _
    obtain ⟨A', c', rfl⟩ := own_slice' hown'
    rw [← List.map_append] at hown'
    exact h A' c' w' hown' fun w0 h0 hF => hF.then (Fr.grown hg) (fun i hi => .inr (Nat.le_trans h0 (own_low' hown i hi.symm)))
end Go.Proofs.YtafchncdolagdaaDoor
