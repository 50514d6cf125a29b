/-
  awake returns true: the chapter's example.
-/
import Derived.Test.YtafchncdolagdaaDoorTxt
namespace Go.Proofs.YtafchncdolagdaaDoor
open Go.RowKit

abbrev None' : Nat → Prop := fun _ => False

theorem tells_small (w : World) (xs : List Int) (h : ∀ x ∈ xs, 0 ≤ x ∧ x < 100) : Tells w xs := by
  intro wx _ x hx
  obtain ⟨h0, h1⟩ := h x hx
  obtain ⟨i, rfl⟩ := Int.eq_ofNat_of_zero_le h0
  refine (Tryd.strconv_Itoa_small i (by omega) wx).mono ?_
  rintro e w' ⟨rfl, rfl⟩
  exact ⟨by rw [show Lib.itoa ((i : Nat) : Int) = Lib.decDigits i by unfold Lib.itoa; rw [if_neg (by omega)]; rfl], Fr.refl _ _⟩

theorem txt_ten : txt [0, 10] = [48, 46, 49, 48] := by decide +kernel

abbrev mk (w : World) (cs : Array Value) : World := w.alloc (.cells cs 3)
theorem ints2 (w : World) (xs ys : List Int) (cs ds : Array Value) (hc : cs = (xs.map fun x => Value.int .i64 x).toArray) (hd : ds = (ys.map fun x => Value.int .i64 x).toArray) (n m : Nat) (hn : xs.length = n) (hm : ys.length = m) :
    Ints (mk (mk w cs) ds) (some ⟨w.heap.size, 0, none⟩) n xs ∧ Ints (mk (mk w cs) ds) (some ⟨w.heap.size + 1, 0, none⟩) m ys ∧ Fr None' w (mk (mk w cs) ds) := by
  subst hc hd hn hm
  refine ⟨Ints.of_blk ((Blk.new w _ _).alloc _), ?_, ((Fr.refl _ w).alloc _).alloc _⟩
  have h := Ints.of_blk (Blk.new (mk w (xs.map fun x => Value.int .i64 x).toArray) 3 (ys.map fun x => Value.int .i64 x).toArray)
  rw [show (mk w (xs.map fun x => Value.int .i64 x).toArray).heap.size = w.heap.size + 1 by simp [mk]] at h
  exact h
theorem ints1 (w : World) (xs : List Int) (cs : Array Value) (hc : cs = (xs.map fun x => Value.int .i64 x).toArray) (n : Nat) (hn : xs.length = n) :
    Ints (mk w cs) (some ⟨w.heap.size, 0, none⟩) n xs ∧ Fr None' w (mk w cs) := by
  subst hc hn
  exact ⟨Ints.of_blk (Blk.new w _ _), (Fr.refl _ w).alloc _⟩

set_option maxHeartbeats 4000000 in
theorem awake_any (w : World) : Calls Tryd.prog 13 #[] w fun e w' => e = .returned (.bool true) ∧ Fr (fun _ => False) w w' := by
  go_enter Tryd.func13, Tryd.ntmps13
  go_wp2_with fail
  have hI := ints2 w [0, 2] [0, 2, 1] #[.int .i64 0, .int .i64 2] #[.int .i64 0, .int .i64 2, .int .i64 1] rfl rfl 2 3 rfl rfl
  unfold mk at hI
  generalize ((w.alloc (.cells #[.int .i64 0, .int .i64 2] 3)).alloc (.cells #[.int .i64 0, .int .i64 2, .int .i64 1] 3)) = w1 at hI ⊢
  refine (cmp_any _ _ _ [0, 2] 2 hI.1 _ _ [0, 2, 1] 3 hI.2.1 (by omega) (by omega)).mono ?_
  rintro e w1 ⟨rfl, rfl⟩
  have HFA := Lib.hid hI.2.2
  clear hI
  rw [show cmpL [0, 2] [0, 2, 1] = -1 by decide]
  go_wp2_with fail
  have hI := ints2 w1 [0, 2, 1] [0, 10] #[.int .i64 0, .int .i64 2, .int .i64 1] #[.int .i64 0, .int .i64 10] rfl rfl 3 2 rfl rfl
  unfold mk at hI
  generalize ((w1.alloc (.cells #[.int .i64 0, .int .i64 2, .int .i64 1] 3)).alloc (.cells #[.int .i64 0, .int .i64 10] 3)) = w2 at hI ⊢
  refine (cmp_any _ _ _ [0, 2, 1] 3 hI.1 _ _ [0, 10] 2 hI.2.1 (by omega) (by omega)).mono ?_
  rintro e w2 ⟨rfl, rfl⟩
  have HFB := Lib.hid (HFA.out.trans hI.2.2)
  clear hI HFA
  rw [show cmpL [0, 2, 1] [0, 10] = -1 by decide]
  go_wp2_with fail
  have hI := ints1 w2 [0, 10] #[.int .i64 0, .int .i64 10] rfl 2 rfl
  unfold mk at hI
  generalize (w2.alloc (.cells #[.int .i64 0, .int .i64 10] 3)) = w3 at hI ⊢
  refine (text_any _ _ _ [0, 10] 2 hI.1 (by omega) (tells_small _ _ (by decide)) (by rw [txt_ten]; decide)).mono ?_
  rintro e w4 ⟨rfl, hF3⟩
  rw [txt_ten]
  have HF3 := Lib.hid ((HFB.out.trans hI.2).trans hF3)
  clear hF3 hI HFB
  go_wp2_with fail
  go_ret
  exact ⟨rfl, HF3.out⟩
end Go.Proofs.YtafchncdolagdaaDoor
