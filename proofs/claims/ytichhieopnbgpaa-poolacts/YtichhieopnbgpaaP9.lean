/-
  Package pool: a worker's row at first. No condition.
-/
import Derived.Test.YtichhieopnbgpaaP8
namespace Go.Proofs.Ytichhieopnbgpaa
open Go.RowKit

/-- Blocks from b on, the lowest one last. -/
def rowL (b m : Nat) : List Nat := (List.range m).map fun j => b + (m - 1 - j)
theorem rowL_length (b m : Nat) : (rowL b m).length = m := by simp [rowL]
theorem rowL_at {b m j : Nat} (h : j < m) : (rowL b m)[j]? = some (b + (m - 1 - j)) := by
  rw [rowL, List.getElem?_map, List.getElem?_range h]; rfl
theorem rowL_take {b m j : Nat} (h : j < m) : (rowL b m).take (j + 1) = (rowL b m).take j ++ [b + (m - 1 - j)] := by
  rw [List.take_add_one, rowL_at h]; rfl

theorem make_cap (m : Nat) (hm : m ≤ 1000) (w : World) : (Instr.makeSlice 75 (.int .i64 0) (.int .i64 (m : Int))).run Try.prog w = .ok (.slice (some ⟨w.heap.size, 0, none⟩) 0 m) (w.alloc (.cells (nc (List.replicate m 0)).toArray 3)) := by
  have hr := run_make (P := Try.prog) w 75 3 _ (.int .i64 0) Try.underlying75 rfl rfl .i64 .i64 0 (m : Int) (by omega) (by omega) (by show (8 : Int) * _ ≤ _; omega) (by omega)
  rw [hr]
  simp only [Int.toNat_natCast]
  have e : (madeCells (Value.int .i64 0).cells (m * 1)) = (nc (List.replicate m 0)).toArray := by
    apply Array.ext'
    show (madeCells #[Value.int .i64 0] (m * 1)).toList = _
    rw [toList_madeCells_one]
    simp [nc]
  rw [← e]
  rfl

set_option maxHeartbeats 8000000 in
set_option maxRecDepth 100000 in
theorem rowof_ok (w : World) (x : Nat) (hx : x ≤ w.heap.size) (f a s m i : Nat) (hf : f ≤ 200000) (hm : m ≤ 1000) (hi : i < 64) :
    Calls Try.prog 37 #[.agg #[.int .i64 (f : Int), .int .i64 (a : Int), .int .i64 (s : Int), .int .i64 (m : Int)], .int .i64 (i : Int)] w fun e w' => ∃ v, e = .returned v ∧ w'.ownsRow x 3 1 v m (nc (rowL (f + i * m) m)) ∧ Fr F0 w w' ∧ ∀ k, v.ownBlock = some k → w.heap.size ≤ k := by
  obtain ⟨im, him⟩ : ∃ im, im = i * m := ⟨_, rfl⟩
  have him2 : im ≤ 64000 := by rw [him]; exact Nat.mul_le_mul (show i ≤ 64 by omega) hm
  have p1 : (i : Int) * (m : Int) = (im : Int) := by rw [him, Int.natCast_mul]
  have p2 : IntKind.i64.wrap ((i : Int) * (m : Int)) = (im : Int) := (IntWalk.i64_in _ (by omega)).trans p1
  rw [← him]
  clear him
  have hmk := make_cap m hm (w.alloc (.cells #[.int .i64 (f : Int), .int .i64 (a : Int), .int .i64 (s : Int), .int .i64 (m : Int)] 69))
  have HB : Hid (Blk ((w.alloc (.cells #[.int .i64 (f : Int), .int .i64 (a : Int), .int .i64 (s : Int), .int .i64 (m : Int)] 69)).alloc (.cells (nc (List.replicate m 0)).toArray 3)) w.heap.size 69 #[.int .i64 (f : Int), .int .i64 (a : Int), .int .i64 (s : Int), .int .i64 (m : Int)]) := (Blk.new _ _ _).alloc _
  have hc0 : ((w.alloc (.cells #[.int .i64 (f : Int), .int .i64 (a : Int), .int .i64 (s : Int), .int .i64 (m : Int)] 69)).alloc (.cells (nc (List.replicate m 0)).toArray 3)).cell? ⟨w.heap.size, 3, none⟩ = some (.int .i64 (m : Int)) := by rw [HB.out.cell]; rfl
  have HO : Hid (((w.alloc (.cells #[.int .i64 (f : Int), .int .i64 (a : Int), .int .i64 (s : Int), .int .i64 (m : Int)] 69)).alloc (.cells (nc (List.replicate m 0)).toArray 3)).ownsRow x 3 1 (.slice (some ⟨w.heap.size + 1, 0, none⟩) 0 m) 0 (nc ((rowL (f + im) m).take 0))) := Lib.hid (by
    refine ⟨by simp [nc], .inr ⟨w.heap.size + 1, m, (nc (List.replicate m 0)).toArray, rfl, by omega, ?_, by omega, by unfold maxLen; omega, by simp [nc], by simp [nc]⟩⟩
    have := Blk.new (w.alloc (.cells #[.int .i64 (f : Int), .int .i64 (a : Int), .int .i64 (s : Int), .int .i64 (m : Int)] 69)) 3 (nc (List.replicate m 0)).toArray
    unfold Blk at this
    simpa using this)
  have HF0 : Hid (Fr F0 w ((w.alloc (.cells #[.int .i64 (f : Int), .int .i64 (a : Int), .int .i64 (s : Int), .int .i64 (m : Int)] 69)).alloc (.cells (nc (List.replicate m 0)).toArray 3))) := ((Fr.refl _ _).alloc _).alloc _
  go_enter Try.func37, Try.ntmps37
  go_wp2_with fail
  clear hmk hc0 p2
  generalize (w.alloc (.cells #[.int .i64 (f : Int), .int .i64 (a : Int), .int .i64 (s : Int), .int .i64 (m : Int)] 69)).alloc (.cells (nc (List.replicate m 0)).toArray 3) = w1 at HB HO HF0 ⊢
  go_loopw [5, 6] (fun vv iv wx => ∃ j : Nat, j ≤ m ∧ iv = .int .i64 ((m : Int) - 1 - (j : Int)) ∧ Hid (wx.ownsRow x 3 1 vv j (nc ((rowL (f + im) m).take j))) ∧ Hid (∀ k, vv.ownBlock = some k → w.heap.size ≤ k) ∧ Hid (Blk wx w.heap.size 69 #[.int .i64 (f : Int), .int .i64 (a : Int), .int .i64 (s : Int), .int .i64 (m : Int)]) ∧ Hid (Fr F0 w wx)) (fun _ iv _ => (intOf iv + 1).toNat)
  case atStart =>
    refine ⟨0, by omega, ?_, HO, Lib.hid (fun k hk => ?_), HB, HF0⟩
    · first | rfl | go_num | (congr 1; omega) | simp
    · have : w.heap.size + 1 = k := by simpa [Value.ownBlock] using hk
      omega
  case round =>
    obtain ⟨j, hj, rfl, HO1, HOB, HB1, HF1⟩ := hrel
    obtain ⟨A, cp, rfl⟩ := own_slice HO1.out
    by_cases hjm : j < m
    · have g1 : (0 : Int) ≤ (m : Int) - 1 - (j : Int) := by omega
      obtain ⟨nn, hnn⟩ : ∃ nn, nn = m - 1 - j := ⟨_, rfl⟩
      have e1 : (m : Int) - 1 - (j : Int) = (nn : Int) := by omega
      have hnn2 : nn ≤ 1000 := by omega
      have c0 : wr.cell? ⟨w.heap.size, 0, none⟩ = some (.int .i64 (f : Int)) := by rw [HB1.out.cell]; rfl
      have c3 : wr.cell? ⟨w.heap.size, 3, none⟩ = some (.int .i64 (m : Int)) := by rw [HB1.out.cell]; rfl
      have p2 : IntKind.i64.wrap ((i : Int) * (m : Int)) = (im : Int) := (IntWalk.i64_in _ (by omega)).trans p1
      obtain ⟨xx, hxx⟩ : ∃ xx, xx = f + im + nn := ⟨_, rfl⟩
      have hf1 : Fr F0 wr (wr.alloc (.cells #[.int .i64 ((f : Int) + (im : Int) + (nn : Int))] 3)) := (Fr.refl _ _).alloc _
      have HNB : Hid (Blk (wr.alloc (.cells #[.int .i64 ((f : Int) + (im : Int) + (nn : Int))] 3)) wr.heap.size 3 #[.int .i64 (xx : Int)]) := Lib.hid (by
        have h1 := Blk.new wr 3 #[.int .i64 ((f : Int) + (im : Int) + (nn : Int))]
        rw [show (xx : Int) = (f : Int) + (im : Int) + (nn : Int) by omega]
        exact h1)
      have HT := Lib.hid (turn_more (wr.alloc (.cells #[.int .i64 ((f : Int) + (im : Int) + (nn : Int))] 3)) x A cp j xx ((rowL (f + im) m).take j) (own_fr HO1.out hf1 (fun _ _ h => h)) (by omega) (by have := HF1.out.size; have := hf1.size; omega) wr.heap.size HNB.out)
      have HRL : Hid ((rowL (f + im) m).take j ++ [xx] = (rowL (f + im) m).take (j + 1)) := Lib.hid (by rw [rowL_take hjm, hxx, hnn])
      rw [HRL.out] at HT
      have HE := Lib.hid e1
      have HF2 := Lib.hid (HF1.out.trans hf1)
      have HB2 := Lib.hid (HB1.out.fr hf1 (fun h => h))
      rw [e1] at g1 ⊢
      clear hnn hxx hf1 e1
      go_wp2_with fail
      refine HT.out.mono ?_
      rintro e w6 ⟨A', c', rfl, hO6, hF6, hor6⟩
      have HO6 := Lib.hid hO6
      have HF6 : Hid (Fr F0 w w6) := Lib.hid (HF2.out.then hF6 (fun k hk => .inr (HOB.out k hk)))
      have HB6 : Hid (Blk w6 w.heap.size 69 #[.int .i64 (f : Int), .int .i64 (a : Int), .int .i64 (s : Int), .int .i64 (m : Int)]) := Lib.hid (HB2.out.fr hF6 (fun e => own_ne HO1.out HB1.out (by decide) e))
      have HOB6 : Hid (∀ k, (Value.slice A' (j + 1) c').ownBlock = some k → w.heap.size ≤ k) := Lib.hid (fun k hk => by
        rcases hor6 k hk with h | h
        · exact HOB.out k h
        · have := HF2.out.size; omega)
      clear hO6 hF6 hor6 p2
      go_wp2_with fail
      refine ⟨⟨j + 1, by omega, ?_, HO6, HOB6, HB6, HF6⟩, ?_⟩
      · have := HE.out
        first | go_num | (congr 1; omega)
      · have := HE.out
        simp [intOf] <;> omega
    · have HJ := Lib.hid (show j = m by omega)
      have g1 : ¬ (0 : Int) ≤ (m : Int) - 1 - (j : Int) := by omega
      go_wp2_with fail
      go_ret
      refine ⟨_, rfl, ?_, HF1.out, HOB.out⟩
      have h1 := HO1.out
      rw [show (rowL (f + im) m).take j = rowL (f + im) m by rw [List.take_of_length_le (by rw [rowL_length, HJ.out]; exact Nat.le_refl _)]] at h1
      rw [HJ.out] at h1 ⊢
      exact h1
end Go.Proofs.Ytichhieopnbgpaa
