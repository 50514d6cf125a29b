/-
  What the writer does with an instruction, and with a row of them.
-/
import Derived.Test.YtahojahplpcbiaaWri
namespace Go.Proofs.Ytahojahplpcbiaa
open Go.RowKit

/-- The panic with ErrRange. -/
abbrev bad : Ending := .panicked [{ v := .iface 25 (.int .i64 6), recovered := false }]

theorem wide_no (w : World) (p : Nat) (n : Int) (h : ¬ fitK n) :
    Calls Try.prog 32 #[.pointer (some ⟨p, 0, none⟩), .int .i64 n] w fun e w' => e = bad ∧ w = w' := by
  unfold fitK at h
  by_cases h1 : n < -2147483648
  · clear h
    go_enter Try.func32, Try.ntmps32
    go_wp2
    exact ⟨rfl, rfl, rfl⟩
  · have h2 : 2147483647 < n := by omega
    clear h
    go_enter Try.func32, Try.ntmps32
    go_wp2
    exact ⟨rfl, rfl, rfl⟩

theorem small_bad (w : World) (p : Nat) (n : Int) (h : ¬ fit8 n) :
    Calls Try.prog 27 #[.pointer (some ⟨p, 0, none⟩), .int .i64 n] w fun e w' => e = bad ∧ w = w' := small_no w p n (by unfold fit8 at h; omega)

/-- What a writer's call comes to: the bytes are put behind, or the panic. -/
def WPost (w : World) (base p : Nat) (v : Value) (bs : List Int) (ok : Prop) (add : List Int) (e : Ending) (w' : World) : Prop :=
  (ok ∧ e = .returned (.tuple #[]) ∧ ∃ v', WrIs w' base p v' (bs ++ add) ∧ WSt w w' p v v') ∨ (¬ ok ∧ e = bad ∧ ∃ v', WSt w w' p v v')

def Ins.cells (x : Ins) : List Value := [.int .i64 x.op, .int .i64 x.a, .int .i64 x.b, .int .i64 x.c, .int .i64 x.k]
def Ins.val (x : Ins) : Value := .agg x.cells.toArray
theorem Ins.cells_length (x : Ins) : x.cells.length = 5 := rfl

set_option maxHeartbeats 4000000 in
theorem ins_any (w : World) (base p : Nat) (v : Value) (bs : List Int) (hW : WrIs w base p v bs) (x : Ins) (hl : bs.length < 999900) :
    Calls Try.prog 29 #[.pointer (some ⟨p, 0, none⟩), .agg #[.int .i64 x.op, .int .i64 x.a, .int .i64 x.b, .int .i64 x.c, .int .i64 x.k]] w (WPost w base p v bs x.ok x.bytes) := by
  have hX := Blk.new w 44 #[.int .i64 x.op, .int .i64 x.a, .int .i64 x.b, .int .i64 x.c, .int .i64 x.k]
  have hW0 := hW.alloc (.cells #[.int .i64 x.op, .int .i64 x.a, .int .i64 x.b, .int .i64 x.c, .int .i64 x.k] 44)
  have hxb : ¬ (w.heap.size = p ∨ v.ownBlock = some w.heap.size) := by
    rintro (h | h)
    · have := hW.hp.lt; omega
    · have := (hW.own.lt _ h).2; omega
  have HX := Lib.hid hX
  have HB := Lib.hid hxb
  clear hX hxb
  have S0 : WSt (w.alloc (.cells #[.int .i64 x.op, .int .i64 x.a, .int .i64 x.b, .int .i64 x.c, .int .i64 x.k] 44)) (w.alloc (.cells #[.int .i64 x.op, .int .i64 x.a, .int .i64 x.b, .int .i64 x.c, .int .i64 x.k] 44)) p v v := WSt.refl
  go_enter Try.func29, Try.ntmps29
  go_wp2_with fail
  by_cases k0 : fit8 x.op
  · refine (small_ok _ base p _ _ hW0 x.op k0.1 k0.2 (by omega)).mono ?_
    rintro e w1 ⟨rfl, v1, hW1, hS1⟩
    have S1 := S0.trans hS1
    clear hS1
    have c1 : w1.cell? ⟨w.heap.size, 1, none⟩ = some (.int .i64 x.a) := by rw [(HX.out.fr S1.fr HB.out).cell]; rfl
    go_wp2_with fail
    by_cases k1 : fit8 x.a
    · refine (small_ok _ base p _ _ hW1 x.a k1.1 k1.2 (by simp only [List.length_append, List.length_cons, List.length_nil]; omega)).mono ?_
      rintro e w2 ⟨rfl, v2, hW2, hS2⟩
      have S2 := S1.trans hS2
      clear hS2
      have c2 : w2.cell? ⟨w.heap.size, 2, none⟩ = some (.int .i64 x.b) := by rw [(HX.out.fr S2.fr HB.out).cell]; rfl
      go_wp2_with fail
      by_cases k2 : fit8 x.b
      · refine (small_ok _ base p _ _ hW2 x.b k2.1 k2.2 (by simp only [List.length_append, List.length_cons, List.length_nil]; omega)).mono ?_
        rintro e w3 ⟨rfl, v3, hW3, hS3⟩
        have S3 := S2.trans hS3
        clear hS3
        have c3 : w3.cell? ⟨w.heap.size, 3, none⟩ = some (.int .i64 x.c) := by rw [(HX.out.fr S3.fr HB.out).cell]; rfl
        go_wp2_with fail
        by_cases k3 : fit8 x.c
        · refine (small_ok _ base p _ _ hW3 x.c k3.1 k3.2 (by simp only [List.length_append, List.length_cons, List.length_nil]; omega)).mono ?_
          rintro e w4 ⟨rfl, v4, hW4, hS4⟩
          have S4 := S3.trans hS4
          clear hS4
          have c4 : w4.cell? ⟨w.heap.size, 4, none⟩ = some (.int .i64 x.k) := by rw [(HX.out.fr S4.fr HB.out).cell]; rfl
          go_wp2_with fail
          by_cases k4 : fitK x.k
          · refine (wide_ok _ base p _ _ hW4 x.k k4.1 k4.2 (by simp only [List.length_append, List.length_cons, List.length_nil]; omega)).mono ?_
            rintro e w5 ⟨rfl, v5, hW5, hS5⟩
            have S5 := S4.trans hS5
            go_wp2_with fail
            go_end0
            refine .inl ⟨⟨k0, k1, k2, k3, k4⟩, rfl, v5, ?_, S5.pre _⟩
            simpa [Ins.bytes] using hW5
          · refine (wide_no _ p x.k k4).mono ?_
            rintro e w5 ⟨rfl, rfl⟩
            go_wp2_with fail
            exact ⟨rfl, .inr ⟨fun h => k4 h.2.2.2.2, rfl, v4, S4.pre _⟩⟩
        · refine (small_bad _ p x.c k3).mono ?_
          rintro e w4 ⟨rfl, rfl⟩
          go_wp2_with fail
          exact ⟨rfl, .inr ⟨fun h => k3 h.2.2.2.1, rfl, v3, S3.pre _⟩⟩
      · refine (small_bad _ p x.b k2).mono ?_
        rintro e w3 ⟨rfl, rfl⟩
        go_wp2_with fail
        exact ⟨rfl, .inr ⟨fun h => k2 h.2.2.1, rfl, v2, S2.pre _⟩⟩
    · refine (small_bad _ p x.a k1).mono ?_
      rintro e w2 ⟨rfl, rfl⟩
      go_wp2_with fail
      exact ⟨rfl, .inr ⟨fun h => k1 h.2.1, rfl, v1, S1.pre _⟩⟩
  · refine (small_bad _ p x.op k0).mono ?_
    rintro e w1 ⟨rfl, rfl⟩
    go_wp2_with fail
    exact ⟨rfl, .inr ⟨fun h => k0 h.1, rfl, v, S0.pre _⟩⟩
end Go.Proofs.Ytahojahplpcbiaa
