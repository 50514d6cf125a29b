/-
  frame.right. No condition.
-/
import Derived.Test.YtadcenaafoemmaaDoorF4
import Derived.Test.YtadcenaafoemmaaDoorRgt
namespace Go.Proofs.YtadcenaafoemmaaDoor
open Go.RowKit

/-- May the limits be, and the program as far as its first function's arity goes? -/
def frightB (L : List LFn) (bud dep : Int) : Bool := match L with
  | [] => false
  | y :: _ => decide (0 ≤ y.f.arity) && decide (y.f.arity ≤ 4) && rightB (fns L) y.f.arity.toNat bud dep

set_option maxHeartbeats 8000000 in
set_option maxRecDepth 100000 in
theorem fright_any (w : World) (PA : Option Addr) (pc : Nat) (L : List LFn) (hR : FnRow w (fun b => b < w.heap.size) PA L) (hT : FieldsAt w) (hL : L.length < 1000000) (bud dep : Int) :
    Calls Tryd.prog 25 #[.slice PA L.length pc, .agg #[.int .i64 bud, .int .i64 dep]] w fun e w' => e = .returned (.bool (frightB L bud dep)) ∧ Fr None' w w' := by
  have HRT : Hid (∀ w1 A n ac, Fr None' w w1 → n ≤ 1000000 → Calls Tryd.prog 33 #[.slice PA L.length pc, .slice A n ac, .agg #[.int .i64 bud, .int .i64 dep]] w1 fun e w' => e = .returned (.bool (rightB (fns L) n bud dep)) ∧ Fr None' w1 w') := Lib.hid (fun w1 A n ac hF hn => right_any w1 PA pc L ((hR.mono (fun b h => h)).fr hF (fun _ _ h => h) |>.mono (fun b h => Nat.lt_of_lt_of_le h hF.size)) (hT.fr hF (fun h => h)) hL A n ac hn bud dep)
  match L, hR, HRT with
  | [], _, _ =>
    clear hT hL HRT hR
    go_enter Tryd.func25, Tryd.ntmps25
    go_wp2_with fail
    go_ret
    exact ⟨rfl, ((Fr.refl _ _).alloc _).alloc _⟩
  | y :: L', hR, HRT =>
    obtain ⟨b, off, rfl, hb, hc, _⟩ := hR.at_ (k := 0) (x := y) rfl
    simp only [Nat.zero_mul, Nat.add_zero] at hc
    have HC := Lib.hid hc
    obtain ⟨rb, hrb⟩ : ∃ rb, frightB (y :: L') bud dep = rb := ⟨_, rfl⟩
    rw [hrb]
    have HRB := Lib.hid hrb
    obtain ⟨k, hk⟩ : ∃ k, y.f.arity = k := ⟨_, rfl⟩
    rw [hk] at HC
    have HK := Lib.hid hk
    obtain ⟨n, hn⟩ : ∃ n, (y :: L').length = n := ⟨_, rfl⟩
    rw [hn] at HRT ⊢
    have hn0 : ¬ n = 0 := by rw [← hn]; simp
    have hn1 : (0 : Int) < (n : Int) := by omega
    clear hR hT hL hc hrb hk hn
    go_enter Tryd.func25, Tryd.ntmps25
    go_upto_region 2 with (fail)
    generalize hW : (w.alloc (.cells _ 43)).alloc (.cells _ 103) = W
    have hF : Fr None' w W := by rw [← hW]; exact ((Fr.refl _ _).alloc _).alloc _
    have hI : Blk W w.heap.size 43 #[.int .i64 bud, .int .i64 dep] := by rw [← hW]; exact (Blk.new _ _ _).alloc _
    have HF := Lib.hid hF
    have HI := Lib.hid hI
    have c0 : W.cell? ⟨b, off, none⟩ = some (.int .i64 k) := hF.held HC.out (fun h => h)
    clear hF hI hW HC hb
    by_cases g1 : k < 0
    · go_wp2_with fail
      go_ret
      have e : rb = false := by rw [← HRB.out]; simp only [frightB, HK.out]; rw [decide_eq_false (by omega)]; rfl
      subst e
      exact ⟨rfl, HF.out⟩
    by_cases g2 : 4 < k
    · go_wp2_with fail
      go_ret
      have e : rb = false := by rw [← HRB.out]; simp only [frightB, HK.out]; rw [decide_eq_false (show ¬ k ≤ 4 by omega)]; simp
      subst e
      exact ⟨rfl, HF.out⟩
    · obtain ⟨m, rfl⟩ : ∃ m : Nat, k = (m : Int) := ⟨k.toNat, by omega⟩
      have g3 : m ≤ 4 := by omega
      have g4 : (m : Int) ≤ 4 := by omega
      have g5 : (0 : Int) ≤ (m : Int) := by omega
      have e : rb = rightB (fns (y :: L')) m bud dep := by rw [← HRB.out]; simp only [frightB, HK.out, Int.toNat_natCast]; rw [decide_eq_true g4, decide_eq_true g5]; rfl
      have HE := Lib.hid e
      clear e HRB HK
      have hq : ((n : Int) == 0) = false := by rw [beq_eq_false_iff_ne]; omega
      go_upto_region 4 with (fail)
      try simp only [hq]
      have hn2 : 0 < n := by omega
      have HS : (fun w' : World => w'.cell? ⟨b, off, none⟩ = some (.int .i64 (m : Int)) ∧ w'.cell? ⟨w.heap.size, 0, none⟩ = some (.int .i64 bud) ∧ w'.cell? ⟨w.heap.size, 1, none⟩ = some (.int .i64 dep)) W.drew := ⟨c0, by show W.cell? _ = _; rw [HI.out.cell]; rfl, by show W.cell? _ = _; rw [HI.out.cell]; rfl⟩
      refine region_K 8 (fun w' : World => w'.cell? ⟨b, off, none⟩ = some (.int .i64 (m : Int)) ∧ w'.cell? ⟨w.heap.size, 0, none⟩ = some (.int .i64 bud) ∧ w'.cell? ⟨w.heap.size, 1, none⟩ = some (.int .i64 dep)) (by kernel_rfl) ?_
      have HFD := Lib.hid HF.out.drew
      clear c0 HF HI
      generalize W.drew = V at *
      refine AnyK.take (i := 0) rfl (by decide) (by kernel_rfl) (by kernel_rfl) (by kernel_rfl) (fun _ _ _ _ h => h) HS (fun K hK => ?_)
      go_simp
      refine hK.out _ ⟨_, by rfl, Or.inl ⟨by rfl, by intro w' hSw; (try dsimp only at hSw); go_simp⟩, ?_⟩
      clear hK K
      refine AnyK.take (i := 1) rfl (by decide) (by kernel_rfl) (by kernel_rfl) (by kernel_rfl) (fun _ _ _ _ h => h) HS (fun K hK => ?_)
      go_simp
      refine hK.out _ ⟨_, by rfl, Or.inl ⟨by rfl, by intro w' hSw; (try dsimp only at hSw); go_simp⟩, ?_⟩
      clear hK K
      refine AnyK.take (i := 2) rfl (by decide) (by kernel_rfl) (by kernel_rfl) (by kernel_rfl) (fun _ _ _ _ h => h) HS (fun K hK => ?_)
      go_simp
      refine hK.out _ ⟨_, by rfl, Or.inl ⟨by rfl, by intro w' hSw; (try dsimp only at hSw); go_simp⟩, ?_⟩
      clear hK K
      refine AnyK.take (i := 3) rfl (by decide) (by kernel_rfl) (by kernel_rfl) (by kernel_rfl) (fun _ _ _ _ h => h) HS (fun K hK => ?_)
      go_simp
      refine hK.out _ ⟨_, by rfl, Or.inl ⟨by rfl, by intro w' hSw; (try dsimp only at hSw); go_simp⟩, ?_⟩
      clear hK K
      refine AnyK.take (i := 4) rfl (by decide) (by kernel_rfl) (by kernel_rfl) (by kernel_rfl) (fun _ _ _ _ h => h) HS (fun K hK => ?_)
      go_simp
      refine hK.out _ ⟨_, by rfl, Or.inl ⟨by rfl, by intro w' hSw; (try dsimp only at hSw); go_simp⟩, ?_⟩
      clear hK K
      refine AnyK.take (i := 5) rfl (by decide) (by kernel_rfl) (by kernel_rfl) (by kernel_rfl) (fun _ _ _ _ h => h) HS (fun K hK => ?_)
      go_simp
      refine hK.out _ ⟨_, by rfl, Or.inl ⟨by rfl, by intro w' hSw; (try dsimp only at hSw); go_simp⟩, ?_⟩
      clear hK K
      refine AnyK.take (i := 6) rfl (by decide) (by kernel_rfl) (by kernel_rfl) (by kernel_rfl) (fun _ _ _ _ h => h) HS (fun K hK => ?_)
      go_simp
      refine hK.out _ ⟨_, by rfl, Or.inl ⟨by rfl, by intro w' hSw; (try dsimp only at hSw); go_simp⟩, ?_⟩
      clear hK K
      refine AnyK.one (i := 7) rfl (by kernel_rfl) (fun K hK => ?_)
      go_simp
      refine (HRT.out V (some ⟨w.heap.size + 1, 0, none⟩) m _ HFD.out (by omega)).mono ?_
      rintro e w2 ⟨rfl, hF2⟩
      rw [← HE.out]
      have HS : (fun w' : World => w'.cell? ⟨b, off, none⟩ = some (.int .i64 (m : Int)) ∧ w'.cell? ⟨w.heap.size, 0, none⟩ = some (.int .i64 bud) ∧ w'.cell? ⟨w.heap.size, 1, none⟩ = some (.int .i64 dep)) w2 := ⟨hF2.held HS.1 (fun h => h), hF2.held HS.2.1 (fun h => h), hF2.held HS.2.2 (fun h => h)⟩
      have HF2 := Lib.hid (HFD.out.trans hF2)
      clear hF2
      refine hK.out _ _ (fun _ => HS) ?_
      clear hK K
      refine AnyK.one (i := 8) rfl (by kernel_rfl) (fun K hK => ?_)
      go_simp
      refine hK.out _ _ (fun _ => HS) ?_
      clear hK K HS
      refine AnyK.done (by kernel_rfl) ?_ _
      go_wp2_with fail
      go_ret
      exact ⟨rfl, HF2.out⟩
end Go.Proofs.YtadcenaafoemmaaDoor
