/-
  What the checker does with a field.
-/
import Derived.Test.YtadcenaafoemmaaDoorPu
namespace Go.Proofs.YtadcenaafoemmaaDoor
open Go.RowKit

theorem VPost.end_ {w w' : World} {p : Nat} {f i e : Int} {r : Ending} (h : VPost w p f i e r w') : VPost w p f i e r w' := h

set_option maxHeartbeats 4000000 in
set_option maxRecDepth 100000 in
theorem field_any (w : World) (p : Nat) (A : Option Addr) (n c : Nat) (f i e0 : Int) (hC : CkIs w p A n c f i e0) (kind : Nat) (hk : kind ≤ 6) (m : Int) (pl : Nat) :
    Calls Tryd.prog 87 #[.pointer (some ⟨p, 0, none⟩), .int .i64 kind, .int .i64 m, .int .i64 pl] w (VPost w p f i (fieldE n pl kind m)) := by
  have c0 : w.cell? ⟨p, 0, none⟩ = some (.slice A n c) := by rw [Blk.cell hC]; rfl
  have HC := Lib.hid hC
  clear hC
  obtain rfl | rfl | rfl | rfl | rfl | rfl | rfl : kind = 0 ∨ kind = 1 ∨ kind = 2 ∨ kind = 3 ∨ kind = 4 ∨ kind = 5 ∨ kind = 6 := by omega
  · rw [show ((0 : Nat) : Int) = 0 from rfl]
    go_enter Tryd.func87, Tryd.ntmps87
    go_wp2_with fail
    go_end0
    exact .inl ⟨rfl, rfl, Fr.refl _ _⟩
  · rw [show ((1 : Nat) : Int) = 1 from rfl, show fieldE n pl 1 m = rngE 0 8 6 m from rfl]
    go_enter Tryd.func87, Tryd.ntmps87
    go_wp2_with fail
    refine (within_any w p A n c f i e0 6 HC.out (by decide) m 0 8).mono ?_
    rintro r w1 (⟨h0, rfl, hF⟩ | ⟨h0, rfl, hF⟩)
    · have H0 := Lib.hid h0
      clear h0
      go_wp2_with fail
      go_end0
      exact .inl ⟨H0.out, rfl, hF⟩
    · have H0 := Lib.hid h0
      clear h0
      go_wp2_with fail
      exact ⟨rfl, .inr ⟨H0.out, rfl, hF⟩⟩
  · rw [show ((2 : Nat) : Int) = 2 from rfl, show fieldE n pl 2 m = rngE 0 4 6 m from rfl]
    go_enter Tryd.func87, Tryd.ntmps87
    go_wp2_with fail
    refine (within_any w p A n c f i e0 6 HC.out (by decide) m 0 4).mono ?_
    rintro r w1 (⟨h0, rfl, hF⟩ | ⟨h0, rfl, hF⟩)
    · have H0 := Lib.hid h0
      clear h0
      go_wp2_with fail
      go_end0
      exact .inl ⟨H0.out, rfl, hF⟩
    · have H0 := Lib.hid h0
      clear h0
      go_wp2_with fail
      exact ⟨rfl, .inr ⟨H0.out, rfl, hF⟩⟩
  · rw [show ((3 : Nat) : Int) = 3 from rfl, show fieldE n pl 3 m = rngE 0 n 5 m from rfl]
    go_enter Tryd.func87, Tryd.ntmps87
    go_wp2_with fail
    refine (within_any w p A n c f i e0 5 HC.out (by decide) m 0 n).mono ?_
    rintro r w1 (⟨h0, rfl, hF⟩ | ⟨h0, rfl, hF⟩)
    · have H0 := Lib.hid h0
      clear h0
      go_wp2_with fail
      go_end0
      exact .inl ⟨H0.out, rfl, hF⟩
    · have H0 := Lib.hid h0
      clear h0
      go_wp2_with fail
      exact ⟨rfl, .inr ⟨H0.out, rfl, hF⟩⟩
  · rw [show ((4 : Nat) : Int) = 4 from rfl, show fieldE n pl 4 m = rngE 0 pl 6 m from rfl]
    go_enter Tryd.func87, Tryd.ntmps87
    go_wp2_with fail
    refine (within_any w p A n c f i e0 6 HC.out (by decide) m 0 pl).mono ?_
    rintro r w1 (⟨h0, rfl, hF⟩ | ⟨h0, rfl, hF⟩)
    · have H0 := Lib.hid h0
      clear h0
      go_wp2_with fail
      go_end0
      exact .inl ⟨H0.out, rfl, hF⟩
    · have H0 := Lib.hid h0
      clear h0
      go_wp2_with fail
      exact ⟨rfl, .inr ⟨H0.out, rfl, hF⟩⟩
  · rw [show ((5 : Nat) : Int) = 5 from rfl, show fieldE n pl 5 m = rngE (16) 2147483648 6 m from rfl]
    by_cases h : 16 ≤ m ∧ m < 2147483648
    · rw [rngE_in h.1 h.2]
      obtain ⟨h1, h3⟩ := h
      have h2 : m ≤ 2147483647 := by omega
      clear h3
      go_enter Tryd.func87, Tryd.ntmps87
      go_wp2_with fail
      refine (must_ok w p 6).mono ?_
      rintro r _ ⟨rfl, rfl⟩
      go_wp2_with fail
      go_end0
      exact .inl ⟨rfl, rfl, Fr.refl _ _⟩
    · rw [rngE_out h]
      by_cases h1 : 16 ≤ m
      · have h2 : ¬ m ≤ 2147483647 := fun h2 => h ⟨h1, by omega⟩
        clear h
        go_enter Tryd.func87, Tryd.ntmps87
        go_wp2_with fail
        refine (must_no w p A n c f i e0 6 HC.out).mono ?_
        rintro r w1 ⟨rfl, hF⟩
        go_wp2_with fail
        exact ⟨rfl, .inr ⟨by decide, rfl, hF⟩⟩
      · clear h
        go_enter Tryd.func87, Tryd.ntmps87
        go_wp2_with fail
        refine (must_no w p A n c f i e0 6 HC.out).mono ?_
        rintro r w1 ⟨rfl, hF⟩
        go_wp2_with fail
        exact ⟨rfl, .inr ⟨by decide, rfl, hF⟩⟩
  · rw [show ((6 : Nat) : Int) = 6 from rfl, show fieldE n pl 6 m = rngE (-2147483648) 2147483648 6 m from rfl]
    by_cases h : -2147483648 ≤ m ∧ m < 2147483648
    · rw [rngE_in h.1 h.2]
      obtain ⟨h1, h3⟩ := h
      have h2 : m ≤ 2147483647 := by omega
      clear h3
      go_enter Tryd.func87, Tryd.ntmps87
      go_wp2_with fail
      refine (must_ok w p 6).mono ?_
      rintro r _ ⟨rfl, rfl⟩
      go_wp2_with fail
      go_end0
      exact .inl ⟨rfl, rfl, Fr.refl _ _⟩
    · rw [rngE_out h]
      by_cases h1 : -2147483648 ≤ m
      · have h2 : ¬ m ≤ 2147483647 := fun h2 => h ⟨h1, by omega⟩
        clear h
        go_enter Tryd.func87, Tryd.ntmps87
        go_wp2_with fail
        refine (must_no w p A n c f i e0 6 HC.out).mono ?_
        rintro r w1 ⟨rfl, hF⟩
        go_wp2_with fail
        exact ⟨rfl, .inr ⟨by decide, rfl, hF⟩⟩
      · clear h
        go_enter Tryd.func87, Tryd.ntmps87
        go_wp2_with fail
        refine (must_no w p A n c f i e0 6 HC.out).mono ?_
        rintro r w1 ⟨rfl, hF⟩
        go_wp2_with fail
        exact ⟨rfl, .inr ⟨by decide, rfl, hF⟩⟩
end Go.Proofs.YtadcenaafoemmaaDoor

/-
  What the table of the operations' fields tells.
-/
namespace Go.Proofs.YtadcenaafoemmaaDoor
open Go.RowKit

/-- The table lies as it was laid. -/
def FieldsAt (w : World) : Prop := ∀ k, k < 18 → ∀ j, j < 4 → w.cell? ⟨0, k * 4 + j, none⟩ = some (.int .i64 (kdAt k j : Nat))
theorem FieldsAt.fr {w w' : World} {B : Nat → Prop} (h : FieldsAt w) (hf : Fr B w w') (hB : ¬ B 0) : FieldsAt w' := fun k hk j hj => hf.held (h k hk j hj) hB
theorem FieldsAt.lt {w : World} (h : FieldsAt w) : 0 < w.heap.size := cell_lt (h 0 (by omega) 0 (by omega))

theorem known_in (w : World) (op : Int) (h1 : 1 ≤ op) (h2 : op ≤ 17) : Calls Tryd.prog 85 #[.int .i64 op] w fun e w' => e = .returned (.bool true) ∧ w = w' := by
  go_enter Tryd.func85, Tryd.ntmps85
  go_wp2
  go_ret
  exact ⟨rfl, rfl⟩
theorem known_no (w : World) (op : Int) (h : ¬ (1 ≤ op ∧ op ≤ 17)) : Calls Tryd.prog 85 #[.int .i64 op] w fun e w' => e = .returned (.bool false) ∧ w = w' := by
  by_cases h1 : 1 ≤ op
  · have h2 : ¬ op ≤ 17 := fun h2 => h ⟨h1, h2⟩
    clear h
    go_enter Tryd.func85, Tryd.ntmps85
    go_wp2
    go_ret
    exact ⟨rfl, rfl⟩
  · clear h
    go_enter Tryd.func85, Tryd.ntmps85
    go_wp2
    go_ret
    exact ⟨rfl, rfl⟩

set_option maxHeartbeats 1000000 in
theorem fields_in (w : World) (hT : FieldsAt w) (op : Nat) (h1 : 1 ≤ op) (h2 : op ≤ 17) :
    Calls Tryd.prog 86 #[.int .i64 op] w fun e w' => e = .returned (.agg #[.int .i64 (kdAt op 0 : Nat), .int .i64 (kdAt op 1 : Nat), .int .i64 (kdAt op 2 : Nat), .int .i64 (kdAt op 3 : Nat)]) ∧ Fr None' w w' := by
  have h0 := hT.lt
  have t0 := hT op (by omega) 0 (by omega)
  have t1 := hT op (by omega) 1 (by omega)
  have t2 := hT op (by omega) 2 (by omega)
  have t3 := hT op (by omega) 3 (by omega)
  rw [Nat.add_zero] at t0
  clear hT
  go_enter Tryd.func86, Tryd.ntmps86
  go_wp2_with fail
  refine (known_in _ op (by omega) (by omega)).mono ?_
  rintro e _ ⟨rfl, rfl⟩
  go_wp2_with fail
  exact bodyPost_ret (v := .agg #[.int .i64 (kdAt op 0 : Nat), .int .i64 (kdAt op 1 : Nat), .int .i64 (kdAt op 2 : Nat), .int .i64 (kdAt op 3 : Nat)]) (by simp [results, Tryd.results86, go_sem]) rfl ⟨rfl, (Fr.refl _ _).alloc _⟩
end Go.Proofs.YtadcenaafoemmaaDoor
