/-
  The chapter's example (awake) holds: the call returns true and turns nothing that was there.
-/
import Derived.Test.YtahojahplpcbiaaWr5
import Derived.Laws.BytesArg
namespace Go.Proofs.Ytahojahplpcbiaa
open Go.RowKit

theorem conv_bytes (w : World) (Q : Nat → Prop) (A : Option Addr) (n c : Nat) (bs : List Int) (h : Rd w Q 1 A n (by8 bs)) (hn : 0 < n) :
    (convert 24 9 (.slice A n c)).run Try.prog w = .ok (.string (strOfNums bs)) w := by
  obtain ⟨b, off, rfl, _, hc⟩ := h.at_ hn
  have hl : bs.length = n := by have := h.1; simp [by8] at this; exact this
  refine run_convert_bytes_arg (P := Try.prog) w 24 5 Try.underlying24 Try.underlying5 b off n c bs hl (fun i hi => ?_) 9 Try.underlying9
  have hlt : i < bs.length := by omega
  refine hc i _ ?_
  simp [by8, List.getD_eq_getElem?_getD, List.getElem?_eq_getElem hlt]

def awL (h : Nat) : List LFn := [⟨⟨0, [⟨17, 0, 0, 0, 0⟩]⟩, some ⟨h, 0, none⟩, 1⟩]
theorem aw_row (w : World) : FnRow ((w.alloc (.cells #[.int .i64 17, .int .i64 0, .int .i64 0, .int .i64 0, .int .i64 0] 44)).alloc (.cells #[.int .i64 0, .slice (some ⟨w.heap.size, 0, none⟩) 1 1] 47))
    (fun b => b < ((w.alloc (.cells #[.int .i64 17, .int .i64 0, .int .i64 0, .int .i64 0, .int .i64 0] 44)).alloc (.cells #[.int .i64 0, .slice (some ⟨w.heap.size, 0, none⟩) 1 1] 47)).heap.size) (some ⟨w.heap.size + 1, 0, none⟩) (awL w.heap.size) := by
  refine ⟨Rd.of_blk (t := 47) (cs := [.int .i64 0, .slice (some ⟨w.heap.size, 0, none⟩) 1 1]) ?_ rfl (by simp), fun x hx => ?_⟩
  · have := Blk.new (w.alloc (.cells #[.int .i64 17, .int .i64 0, .int .i64 0, .int .i64 0, .int .i64 0] 44)) 47 #[.int .i64 0, .slice (some ⟨w.heap.size, 0, none⟩) 1 1]
    simpa using this
  · rw [List.mem_singleton.1 hx]
    exact Rd.of_blk (t := 44) (cs := [.int .i64 17, .int .i64 0, .int .i64 0, .int .i64 0, .int .i64 0]) ((Blk.new w _ _).alloc _) rfl (by simp; omega)

set_option maxHeartbeats 2000000 in
theorem awake_any (w : World) : Calls Try.prog 13 #[] w fun e w' => e = .returned (.bool true) ∧ Fr (fun _ => False) w w' := by
  have HRow := Lib.hid (aw_row w)
  go_enter Try.func13, Try.ntmps13
  go_wp2_with fail
  refine (write_any _ _ 1 (awL w.heap.size) HRow.out (by simp [awL, room]) (by simp [awL])).mono ?_
  rintro e w1 (⟨hok, v, rfl, hown, hF⟩ | ⟨hno, _, _⟩)
  · obtain ⟨g, cap, rfl, _, _⟩ := hown.form (by omega)
    have hcv := conv_bytes w1 _ (some ⟨g, 0, none⟩) _ cap _ (Rd.of_own hown) (by omega)
    have e1 : 1 + (progBytes (fns (awL w.heap.size))).length = 12 := rfl
    have e2 : strOfNums (72 :: progBytes (fns (awL w.heap.size))) = ⟨#[72, 1, 0, 1, 17, 0, 0, 0, 0, 0, 0, 0]⟩ := rfl
    rw [e1, e2] at hcv
    rw [e1]
    clear hown hok e1 e2
    go_wp2_with fail
    go_ret
    exact ⟨rfl, (((Fr.refl _ _).alloc _).alloc _).trans hF⟩
  · exact absurd (show progOk [⟨0, [⟨17, 0, 0, 0, 0⟩]⟩] by decide) hno
end Go.Proofs.Ytahojahplpcbiaa
