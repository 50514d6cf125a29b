/-
  What the checker does with a field.
-/
import Derived.Test.YtbhnnnpofindiaaDoorCk
namespace Go.Proofs.YtbhnnnpofindiaaDoor
open Go.RowKit

theorem VPost.end_ {w w' : World} {p : Nat} {f i e : Int} {r : Ending} (h : VPost w p f i e r w') : VPost w p f i e r w' := h

set_option maxHeartbeats 4000000 in
set_option maxRecDepth 100000 in
theorem field_any (w : World) (p : Nat) (A : Option Addr) (n c : Nat) (f i e0 : Int) (hC : CkIs w p A n c f i e0) (kind : Nat) (hk : kind ≤ 6) (m : Int) (pl : Nat) :
    Calls Tryd.prog 62 #[.pointer (some ⟨p, 0, none⟩), .int .i64 kind, .int .i64 m, .int .i64 pl] w (VPost w p f i (fieldE n pl kind m)) := by
  have c0 : w.cell? ⟨p, 0, none⟩ = some (.slice A n c) := by rw [Blk.cell hC]; rfl
  have HC := Lib.hid hC
  clear hC
  obtain rfl | rfl | rfl | rfl | rfl | rfl | rfl : kind = 0 ∨ kind = 1 ∨ kind = 2 ∨ kind = 3 ∨ kind = 4 ∨ kind = 5 ∨ kind = 6 := by omega
  · rw [show ((0 : Nat) : Int) = 0 from rfl]
    go_enter Tryd.func62, Tryd.ntmps62
    go_wp2_with fail
    go_end0
    exact .inl ⟨rfl, rfl, Fr.refl _ _⟩
  · rw [show ((1 : Nat) : Int) = 1 from rfl, show fieldE n pl 1 m = rngE 0 8 6 m from rfl]
    go_enter Tryd.func62, Tryd.ntmps62
    go_wp2_with fail
    refine (within_any w p A n c f i e0 6 HC.out (by decide) m 0 8).mono ?_
    rintro r w1 (⟨h0, rfl, hF⟩ | ⟨h0, rfl, hF⟩)
    · have H0 := Lib.hid h0
      clear h0
      go_wp2_with fail
      go_end0
      exact .inl ⟨H0.out, rfl, hF⟩
    · have H0 := Lib.hid h0
      clear h0
      go_wp2_with fail
      exact ⟨rfl, .inr ⟨H0.out, rfl, hF⟩⟩
  · rw [show ((2 : Nat) : Int) = 2 from rfl, show fieldE n pl 2 m = rngE 0 4 6 m from rfl]
    go_enter Tryd.func62, Tryd.ntmps62
    go_wp2_with fail
    refine (within_any w p A n c f i e0 6 HC.out (by decide) m 0 4).mono ?_
    rintro r w1 (⟨h0, rfl, hF⟩ | ⟨h0, rfl, hF⟩)
    · have H0 := Lib.hid h0
      clear h0
      go_wp2_with fail
      go_end0
      exact .inl ⟨H0.out, rfl, hF⟩
    · have H0 := Lib.hid h0
      clear h0
      go_wp2_with fail
      exact ⟨rfl, .inr ⟨H0.out, rfl, hF⟩⟩
  · rw [show ((3 : Nat) : Int) = 3 from rfl, show fieldE n pl 3 m = rngE 0 n 5 m from rfl]
    go_enter Tryd.func62, Tryd.ntmps62
    go_wp2_with fail
    refine (within_any w p A n c f i e0 5 HC.out (by decide) m 0 n).mono ?_
    rintro r w1 (⟨h0, rfl, hF⟩ | ⟨h0, rfl, hF⟩)
    · have H0 := Lib.hid h0
      clear h0
      go_wp2_with fail
      go_end0
      exact .inl ⟨H0.out, rfl, hF⟩
    · have H0 := Lib.hid h0
      clear h0
      go_wp2_with fail
      exact ⟨rfl, .inr ⟨H0.out, rfl, hF⟩⟩
  · rw [show ((4 : Nat) : Int) = 4 from rfl, show fieldE n pl 4 m = rngE 0 pl 6 m from rfl]
    go_enter Tryd.func62, Tryd.ntmps62
    go_wp2_with fail
    refine (within_any w p A n c f i e0 6 HC.out (by decide) m 0 pl).mono ?_
    rintro r w1 (⟨h0, rfl, hF⟩ | ⟨h0, rfl, hF⟩)
    · have H0 := Lib.hid h0
      clear h0
      go_wp2_with fail
      go_end0
      exact .inl ⟨H0.out, rfl, hF⟩
    · have H0 := Lib.hid h0
      clear h0
      go_wp2_with fail
      exact ⟨rfl, .inr ⟨H0.out, rfl, hF⟩⟩
  · rw [show ((5 : Nat) : Int) = 5 from rfl, show fieldE n pl 5 m = rngE (16) 2147483648 6 m from rfl]
    by_cases h : 16 ≤ m ∧ m < 2147483648
    · rw [rngE_in h.1 h.2]
      obtain ⟨h1, h3⟩ := h
      have h2 : m ≤ 2147483647 := by omega
      clear h3
      go_enter Tryd.func62, Tryd.ntmps62
      go_wp2_with fail
      refine (must_ok w p 6).mono ?_
      rintro r _ ⟨rfl, rfl⟩
      go_wp2_with fail
      go_end0
      exact .inl ⟨rfl, rfl, Fr.refl _ _⟩
    · rw [rngE_out h]
      by_cases h1 : 16 ≤ m
      · have h2 : ¬ m ≤ 2147483647 := fun h2 => h ⟨h1, by omega⟩
        clear h
        go_enter Tryd.func62, Tryd.ntmps62
        go_wp2_with fail
        refine (must_no w p A n c f i e0 6 HC.out).mono ?_
        rintro r w1 ⟨rfl, hF⟩
        go_wp2_with fail
        exact ⟨rfl, .inr ⟨by decide, rfl, hF⟩⟩
      · clear h
        go_enter Tryd.func62, Tryd.ntmps62
        go_wp2_with fail
        refine (must_no w p A n c f i e0 6 HC.out).mono ?_
        rintro r w1 ⟨rfl, hF⟩
        go_wp2_with fail
        exact ⟨rfl, .inr ⟨by decide, rfl, hF⟩⟩
  · rw [show ((6 : Nat) : Int) = 6 from rfl, show fieldE n pl 6 m = rngE (-2147483648) 2147483648 6 m from rfl]
    by_cases h : -2147483648 ≤ m ∧ m < 2147483648
    · rw [rngE_in h.1 h.2]
      obtain ⟨h1, h3⟩ := h
      have h2 : m ≤ 2147483647 := by omega
      clear h3
      go_enter Tryd.func62, Tryd.ntmps62
      go_wp2_with fail
      refine (must_ok w p 6).mono ?_
      rintro r _ ⟨rfl, rfl⟩
      go_wp2_with fail
      go_end0
      exact .inl ⟨rfl, rfl, Fr.refl _ _⟩
    · rw [rngE_out h]
      by_cases h1 : -2147483648 ≤ m
      · have h2 : ¬ m ≤ 2147483647 := fun h2 => h ⟨h1, by omega⟩
        clear h
        go_enter Tryd.func62, Tryd.ntmps62
        go_wp2_with fail
        refine (must_no w p A n c f i e0 6 HC.out).mono ?_
        rintro r w1 ⟨rfl, hF⟩
        go_wp2_with fail
        exact ⟨rfl, .inr ⟨by decide, rfl, hF⟩⟩
      · clear h
        go_enter Tryd.func62, Tryd.ntmps62
        go_wp2_with fail
        refine (must_no w p A n c f i e0 6 HC.out).mono ?_
        rintro r w1 ⟨rfl, hF⟩
        go_wp2_with fail
        exact ⟨rfl, .inr ⟨by decide, rfl, hF⟩⟩
end Go.Proofs.YtbhnnnpofindiaaDoor
