/-
  Package epoch: New, Retire, Announce.
-/
import Derived.Test.YtjphmiemakmcbaaEp5
namespace Go.Proofs.Ytjphmiemakmcbaa
open Go.RowKit

theorem new_no (w : World) (z : Int) (h : z < 1 ∨ 64 < z) :
    Calls Try.prog 9 #[.int .i64 z] w fun e w' => e = .returned (.tuple #[.pointer none, .int .i64 1]) ∧ w' = w := by
  by_cases h1 : z < 1
  · have g1 : decide (z < 1) = true := decide_eq_true h1
    clear h
    go_enter Try.func9, Try.ntmps9
    go_wp2_with fail
    go_ret2
    exact ⟨rfl, rfl⟩
  · have g1 : decide (z < 1) = false := decide_eq_false h1
    have g2 : decide (64 < z) = true := decide_eq_true (by omega)
    clear h
    go_enter Try.func9, Try.ntmps9
    go_wp2_with fail
    go_ret2
    exact ⟨rfl, rfl⟩

/-- Workers that have not announced. -/
def fresh (n : Nat) : List Wk := List.replicate n ⟨-1, []⟩
def freshR (n : Nat) : List (Wk × Value) := List.replicate n (⟨-1, []⟩, .slice none 0 0)

set_option maxHeartbeats 4000000 in
theorem new_yes (w : World) (n : Nat) (h1 : 1 ≤ n) (h2 : n ≤ 64) :
    Calls Try.prog 9 #[.int .i64 (n : Int)] w fun e w' => e = .returned (.tuple #[.pointer (some ⟨w.heap.size, 0, none⟩), .int .i64 0]) ∧ EpAt w' w.heap.size w.heap.size 0 (fresh n) ∧ Fr F0 w w' := by
  obtain ⟨i0, hi0, hz0, hz1, hz2⟩ := info_parts info_worker
  have g1 : decide ((n : Int) < 1) = false := decide_eq_false (by omega)
  have g2 : decide (64 < (n : Int)) = false := decide_eq_false (by omega)
  have g3 : decide (n < 1) = false := decide_eq_false (by omega)
  have g4 : decide (64 < n) = false := decide_eq_false (by omega)
  have HB := Lib.hid (Blk.new w 55 #[.int .i64 0, .slice none 0 0])
  have HFA : Hid (Fr F0 w (w.alloc (.cells #[.int .i64 0, .slice none 0 0] 55))) := (Fr.refl F0 w).alloc _
  go_enter Try.func9, Try.ntmps9
  go_wp2_with fail
  go_loopw [14] (fun i wx => ∃ (k : Nat) (v : Value), k ≤ n ∧ i = .int .i64 (k : Int) ∧ Hid (Blk wx w.heap.size 55 #[.int .i64 0, v]) ∧ Hid (wx.ownsRow w.heap.size 58 2 v k (pc (wkC (freshR k)))) ∧ Hid (Fr F0 w wx)) (fun i _ => n - (intOf i).toNat)
  case atStart => exact ⟨0, _, by omega, rfl, HB, Lib.hid (World.ownsRow_nil _ _ _ _), HFA⟩
  case round =>
    obtain ⟨k, v, hkn, rfl, HB1, HR, HF⟩ := hrel
    by_cases hk : k < n
    · have e1 : (k : Int) < (n : Int) := by omega
      have c1 : wr.cell? ⟨w.heap.size, 1, none⟩ = some v := by rw [HB1.out.cell]; rfl
      obtain ⟨A, cp, rfl⟩ := own_slice HR.out
      have hxl : w.heap.size < wr.heap.size := HB1.out.lt
      have hnb : (wr.alloc (.cells #[.int .i64 (-1), .slice none 0 0] 58)).heap[wr.heap.size]? = some (.cells #[.int .i64 (-1), .slice none 0 0] 58) := heap_alloc_new _ _
      have HNB := Lib.hid hnb
      have HOW := Lib.hid (own_fr HR.out ((Fr.refl F0 wr).alloc (.cells #[.int .i64 (-1), .slice none 0 0] 58)) (fun _ _ h => h))
      clear hnb
      go_wp2_with (at_builtin; refine wpList_append_lies _ rfl (.tmp 20) (.tmp 22) 53 rfl w.heap.size 58 i0 (.agg #[.int .i64 0, .slice none 0 0]) 2 32 Try.underlying53 hi0 hz0 hz1 hz2 rfl (by decide) _ k _ rfl HOW.out ⟨wr.heap.size, 0, none⟩ 1 1 [.int .i64 (-1), .slice none 0 0] rfl rfl ?c1 ?c2 (by decide) ?c3 ?c4 ?c5 (wr.heap.size + 1) ?c6 ?_)
      case c1 => intro i u hi; exact World.news_of_block HNB.out i u hi
      case c2 => intro u hu; simp at hu; rcases hu with rfl | rfl <;> rfl
      case c3 => unfold maxLen; omega
      case c4 => omega
      case c5 => simp; omega
      case c6 => simp
      intro g cap w3 hown3 hg3 hor3 hlt3
      have hne : ¬ some w.heap.size = (Value.slice A k cp).ownBlock := fun he => own_ne HR.out HB1.out (by decide) he.symm
      have hb3 : Blk w3 w.heap.size 55 #[.int .i64 0, .slice A k cp] := (HB1.out.alloc (.cells #[.int .i64 (-1), .slice none 0 0] 58)).fr (Fr.grown hg3) hne
      have c3 : w3.cell? ⟨w.heap.size, 1, none⟩ = some (.slice A k cp) := by rw [hb3.cell]; rfl
      have f3 := hb3.frozen 1
      have hgx : g ≠ w.heap.size := by
        obtain ⟨cs, hcs⟩ := own_head hown3 g rfl
        exact head_ne hcs hb3 (by decide)
      have HF3 : Hid (Fr F0 w w3) := Fr.then (HF.out.alloc _) (Fr.grown hg3) (fun i hi => .inr (own_low HR.out i hi.symm))
      have HB3 := Lib.hid hb3
      have HW3 := Lib.hid hown3
      have HGX := Lib.hid hgx
      clear hown3 hg3 hor3 hlt3 hb3 hne hgx c1
      go_wp2_with fail
      refine ⟨⟨k + 1, .slice (some ⟨g, 0, none⟩) (k + 1) cap, by omega, by go_num, Lib.hid (by simpa using HB3.out.set_ 1 (.slice (some ⟨g, 0, none⟩) (k + 1) cap)), Lib.hid ?_, Lib.hid (HF3.out.setCell (p := ⟨w.heap.size, 1, none⟩) (.inr (Nat.le_refl _)) _)⟩, by simp [intOf]; omega⟩
      have h0 : w3.ownsRow w.heap.size 58 2 (.slice (some ⟨g, 0, none⟩) (k + 1) cap) (k + 1) (pc (wkC (freshR (k + 1)))) := by
        have : pc (wkC (freshR (k + 1))) = pc (wkC (freshR k)) ++ [.int .i64 (-1), .slice none 0 0] := by
          rw [show freshR (k + 1) = freshR k ++ [(⟨-1, []⟩, .slice none 0 0)] by unfold freshR; rw [List.replicate_succ']]
          simp [wkC, pc_append]
          rfl
        rw [this]
        exact HW3.out
      exact own_fr h0 ((Fr.refl (fun q => q = w.heap.size) w3).setCell (p := ⟨w.heap.size, 1, none⟩) (.inl rfl) _) (fun q hq he => HGX.out (by rw [← he]; simpa [Value.ownBlock] using hq))
    · obtain rfl : k = n := by omega
      go_wp2_with fail
      go_ret2
      refine ⟨rfl, ⟨v, freshR k, by simp [freshR, fresh], ⟨HB1.out, Nat.le_refl _, by simpa [freshR] using HR.out, ?_, ?_, ?_⟩⟩, HF.out⟩
      · intro r hr
        have := List.eq_of_mem_replicate hr
        subst this
        exact World.ownsRow_nil _ _ _ _
      · intro i j ri rj b hi hj hbi _
        have := List.eq_of_mem_replicate (List.mem_of_getElem? hi)
        subst this
        cases hbi
      · intro r hr t ht
        have := List.eq_of_mem_replicate hr
        subst this
        cases ht
end Go.Proofs.Ytjphmiemakmcbaa
