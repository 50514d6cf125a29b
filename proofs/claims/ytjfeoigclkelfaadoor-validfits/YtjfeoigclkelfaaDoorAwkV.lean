/-
  The chapter's examples (awake) hold.
-/
import Derived.Test.YtjfeoigclkelfaaDoorVall
namespace Go.Proofs.YtjfeoigclkelfaaDoor
open Go.RowKit

/-- A row of one function, behind its code. -/
theorem fn_row {w : World} (ar : Int) (l : List Ins) (A : Option Addr) (c : Nat) (hI : InsRow w (fun b => b < w.heap.size) A l) :
    FnRow (w.alloc (.cells #[.int .i64 ar, .slice A l.length c] 41)) (fun b => b < (w.alloc (.cells #[.int .i64 ar, .slice A l.length c] 41)).heap.size) (some ⟨w.heap.size, 0, none⟩) [⟨⟨ar, l⟩, A, c⟩] := by
  refine ⟨Rd.of_blk (t := 41) (cs := [.int .i64 ar, .slice A l.length c]) (Blk.new w _ _) rfl (by simp), fun x hx => ?_⟩
  rw [List.mem_singleton.1 hx]
  exact (Rd.alloc hI _).mono (fun b hb => by simp at hb ⊢; omega)

/-- A row of one instruction. -/
theorem in_row (w : World) (x : Ins) : InsRow (w.alloc (.cells #[.int .i64 x.op, .int .i64 x.a, .int .i64 x.b, .int .i64 x.c, .int .i64 x.k] 38)) (fun b => b < (w.alloc (.cells #[.int .i64 x.op, .int .i64 x.a, .int .i64 x.b, .int .i64 x.c, .int .i64 x.k] 38)).heap.size) (some ⟨w.heap.size, 0, none⟩) [x] :=
  Rd.of_blk (t := 38) (cs := x.cells) (Blk.new w _ _) rfl (by simp)

/-- The world behind a literal of one function with one instruction. -/
abbrev litW (w : World) (ar : Int) (x : Ins) : World := (w.alloc (.cells #[.int .i64 x.op, .int .i64 x.a, .int .i64 x.b, .int .i64 x.c, .int .i64 x.k] 38)).alloc (.cells #[.int .i64 ar, .slice (some ⟨w.heap.size, 0, none⟩) 1 1] 41)

theorem check_lit (w : World) (hT : FieldsAt w) (ar : Int) (x : Ins) (q : Nat × Nat × Int) (hq : chk [⟨ar, [x]⟩] = q) :
    Calls Tryd.prog 10 #[.slice (some ⟨w.heap.size + 1, 0, none⟩) 1 1] (litW w ar x) (CkPost w q) := by
  have hF : Fr None' w (litW w ar x) := ((Fr.refl None' _).alloc _).alloc _
  have hr := fn_row ar [x] (some ⟨w.heap.size, 0, none⟩) 1 (in_row w x)
  have k := check_any (litW w ar x) (some ⟨w.heap.size + 1, 0, none⟩) 1 [⟨⟨ar, [x]⟩, some ⟨w.heap.size, 0, none⟩, 1⟩] (by simpa using hr) (hT.fr hF (fun h => h)) (by simp)
  refine k.mono ?_
  rintro e w' ⟨h1, h2⟩
  exact ⟨by rw [h1, ← hq]; rfl, hF.trans h2⟩

set_option maxHeartbeats 4000000 in
theorem awake_any (w : World) (hT : FieldsAt w) : Calls Tryd.prog 13 #[] w fun e w' => e = .returned (.bool true) ∧ Fr None' w w' := by
  have HT := Lib.hid hT
  clear hT
  go_enter Tryd.func13, Tryd.ntmps13
  go_wp2_with fail
  refine (check_lit w HT.out 0 ⟨17, 8, 0, 0, 0⟩ (0, 0, 6) rfl).mono ?_
  rintro e w1 ⟨rfl, hF1⟩
  go_wp2_with fail
  refine (check_lit w1 (HT.out.fr hF1 (fun h => h)) 0 ⟨1, 0, 0, 0, 5⟩ (0, 0, 11) rfl).mono ?_
  rintro e w2 ⟨rfl, hF2⟩
  go_wp2_with fail
  have hF12 := hF1.trans hF2
  refine (check_lit w2 (HT.out.fr hF12 (fun h => h)) 0 ⟨17, 0, 0, 0, 0⟩ (0, 0, 0) rfl).mono ?_
  rintro e w3 ⟨rfl, hF3⟩
  go_wp2_with fail
  go_ret
  exact ⟨rfl, hF12.trans hF3⟩
end Go.Proofs.YtjfeoigclkelfaaDoor
