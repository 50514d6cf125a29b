/-
  The law's small shapes. No condition.
-/
import Derived.Test.YtichhieopnbgpaaP15
namespace Go.Proofs.Ytichhieopnbgpaa
open Go.RowKit

set_option maxHeartbeats 8000000 in
set_option maxRecDepth 100000 in
theorem small_any (w : World) (n : Int) (h0 : 0 ≤ n) (h1 : n < 4294967296) : Calls Try.prog 9 #[.int .u32 n] w fun e w' => ∃ S : Shp, e = .returned (.agg S.i.cells) ∧ S.Ok ∧ S.k ≤ 4 ∧ S.s0 ≤ 4 ∧ S.s1 ≤ 4 ∧ S.s2 ≤ 4 ∧ S.m0 ≤ 4 ∧ S.m1 ≤ 4 ∧ S.m2 ≤ 4 ∧ Fr F0 w w' := by
  have HF : Hid (Fr F0 w ((w.alloc (.cells #[.int .i64 0, .int .i64 0, .int .i64 0, .int .i64 0, .int .i64 0, .int .i64 0, .int .i64 0] 26)).alloc (.cells #[.int .i64 (1 + n % 4), .int .i64 0, .int .i64 0, .int .i64 0, .int .i64 0, .int .i64 0, .int .i64 0] 26))) := ((Fr.refl _ _).alloc _).alloc _
  have HR : Hid (Blk ((w.alloc (.cells #[.int .i64 0, .int .i64 0, .int .i64 0, .int .i64 0, .int .i64 0, .int .i64 0, .int .i64 0] 26)).alloc (.cells #[.int .i64 (1 + n % 4), .int .i64 0, .int .i64 0, .int .i64 0, .int .i64 0, .int .i64 0, .int .i64 0] 26)) w.heap.size 26 #[.int .i64 0, .int .i64 0, .int .i64 0, .int .i64 0, .int .i64 0, .int .i64 0, .int .i64 0]) := (Blk.new _ _ _).alloc _
  have HB : Hid (Blk ((w.alloc (.cells #[.int .i64 0, .int .i64 0, .int .i64 0, .int .i64 0, .int .i64 0, .int .i64 0, .int .i64 0] 26)).alloc (.cells #[.int .i64 (1 + n % 4), .int .i64 0, .int .i64 0, .int .i64 0, .int .i64 0, .int .i64 0, .int .i64 0] 26)) (w.heap.size + 1) 26 #[.int .i64 (1 + n % 4), .int .i64 0, .int .i64 0, .int .i64 0, .int .i64 0, .int .i64 0, .int .i64 0]) := Lib.hid (by
    have h := Blk.new (w.alloc (.cells #[.int .i64 0, .int .i64 0, .int .i64 0, .int .i64 0, .int .i64 0, .int .i64 0, .int .i64 0] 26)) 26 #[.int .i64 (1 + n % 4), .int .i64 0, .int .i64 0, .int .i64 0, .int .i64 0, .int .i64 0, .int .i64 0]
    simpa using h)
  have HK : Hid (1 ≤ 1 + n % 4 ∧ 1 + n % 4 ≤ 4) := Lib.hid (by omega)
  go_enter Try.func9, Try.ntmps9
  go_wp2_with fail
  go_loopw [4] (fun iv wx => ((iv = .int .i64 0 ∧ ∃ k : Int, Hid (Blk wx (w.heap.size + 1) 26 #[.int .i64 k, .int .i64 0, .int .i64 0, .int .i64 0, .int .i64 0, .int .i64 0, .int .i64 0]) ∧ Hid (1 ≤ k ∧ k ≤ 4)) ∨ (iv = .int .i64 1 ∧ ∃ k s0 m0 : Int, Hid (Blk wx (w.heap.size + 1) 26 #[.int .i64 k, .int .i64 s0, .int .i64 0, .int .i64 0, .int .i64 m0, .int .i64 0, .int .i64 0]) ∧ Hid (1 ≤ k ∧ k ≤ 4 ∧ 1 ≤ s0 ∧ s0 ≤ 4 ∧ 0 ≤ m0 ∧ m0 ≤ 4)) ∨ (iv = .int .i64 2 ∧ ∃ k s0 s1 m0 m1 : Int, Hid (Blk wx (w.heap.size + 1) 26 #[.int .i64 k, .int .i64 s0, .int .i64 s1, .int .i64 0, .int .i64 m0, .int .i64 m1, .int .i64 0]) ∧ Hid (1 ≤ k ∧ k ≤ 4 ∧ 1 ≤ s0 ∧ s0 ≤ 4 ∧ 1 ≤ s1 ∧ s1 ≤ 4 ∧ 0 ≤ m0 ∧ m0 ≤ 4 ∧ 0 ≤ m1 ∧ m1 ≤ 4)) ∨ (iv = .int .i64 3 ∧ ∃ k s0 s1 s2 m0 m1 m2 : Int, Hid (Blk wx (w.heap.size + 1) 26 #[.int .i64 k, .int .i64 s0, .int .i64 s1, .int .i64 s2, .int .i64 m0, .int .i64 m1, .int .i64 m2]) ∧ Hid (1 ≤ k ∧ k ≤ 4 ∧ 1 ≤ s0 ∧ s0 ≤ 4 ∧ 1 ≤ s1 ∧ s1 ≤ 4 ∧ 1 ≤ s2 ∧ s2 ≤ 4 ∧ 0 ≤ m0 ∧ m0 ≤ 4 ∧ 0 ≤ m1 ∧ m1 ≤ 4 ∧ 0 ≤ m2 ∧ m2 ≤ 4))) ∧ Hid (Fr F0 w wx) ∧ Hid (Blk wx w.heap.size 26 #[.int .i64 0, .int .i64 0, .int .i64 0, .int .i64 0, .int .i64 0, .int .i64 0, .int .i64 0])) (fun iv _ => 4 - (intOf iv).toNat)
  case atStart => exact ⟨.inl ⟨rfl, _, HB, HK⟩, HF, HR⟩
  case round =>
    obtain ⟨hi, HF1, HR1⟩ := hrel
    rcases hi with ⟨rfl, k, HB1, HK1⟩ | ⟨rfl, k, s0, m0, HB1, HK1⟩ | ⟨rfl, k, s0, s1, m0, m1, HB1, HK1⟩ | ⟨rfl, k, s0, s1, s2, m0, m1, m2, HB1, HK1⟩
    · have u0 : wr.cell? ⟨w.heap.size + 1, 1, none⟩ = some (.int .i64 0) := by rw [HB1.out.cell]; rfl
      have v0 : wr.cell? ⟨w.heap.size + 1, 4, none⟩ = some (.int .i64 0) := by rw [HB1.out.cell]; rfl
      have zu0 := HB1.out.frozen 1
      have zv0 := HB1.out.frozen 4
      go_wp2_with fail
      have HB2 : Hid (Blk ((wr.setCell ⟨w.heap.size + 1, 1, none⟩ (.int .i64 (1 + n / 16 % 4))).setCell ⟨w.heap.size + 1, 4, none⟩ (.int .i64 (n / 4096 % 5))) (w.heap.size + 1) 26 #[.int .i64 k, .int .i64 (1 + n / 16 % 4), .int .i64 0, .int .i64 0, .int .i64 (n / 4096 % 5), .int .i64 0, .int .i64 0]) := Lib.hid (by
        have h := (HB1.out.set_ 1 (.int .i64 (1 + n / 16 % 4))).set_ 4 (.int .i64 (n / 4096 % 5))
        simpa using h)
      have hfs : Fr (fun q => q = w.heap.size + 1) wr ((wr.setCell ⟨w.heap.size + 1, 1, none⟩ (.int .i64 (1 + n / 16 % 4))).setCell ⟨w.heap.size + 1, 4, none⟩ (.int .i64 (n / 4096 % 5))) := ((Fr.refl (fun q => q = w.heap.size + 1) wr).setCell (p := ⟨w.heap.size + 1, 1, none⟩) (.inl rfl) _).setCell (p := ⟨w.heap.size + 1, 4, none⟩) (.inl rfl) _
      have HF2 := Lib.hid (HF1.out.then hfs (fun k hk => .inr (by rw [hk]; omega)))
      have HR2 := Lib.hid (HR1.out.fr hfs (by omega))
      exact ⟨⟨.inr (.inl ⟨rfl, k, _, _, HB2, Lib.hid (by have := HK1.out; omega)⟩), HF2, HR2⟩, by simp [intOf]⟩
    · have u1 : wr.cell? ⟨w.heap.size + 1, 2, none⟩ = some (.int .i64 0) := by rw [HB1.out.cell]; rfl
      have v1 : wr.cell? ⟨w.heap.size + 1, 5, none⟩ = some (.int .i64 0) := by rw [HB1.out.cell]; rfl
      have zu1 := HB1.out.frozen 2
      have zv1 := HB1.out.frozen 5
      go_wp2_with fail
      have HB2 : Hid (Blk ((wr.setCell ⟨w.heap.size + 1, 2, none⟩ (.int .i64 (1 + n / 64 % 4))).setCell ⟨w.heap.size + 1, 5, none⟩ (.int .i64 (n / 32768 % 5))) (w.heap.size + 1) 26 #[.int .i64 k, .int .i64 s0, .int .i64 (1 + n / 64 % 4), .int .i64 0, .int .i64 m0, .int .i64 (n / 32768 % 5), .int .i64 0]) := Lib.hid (by
        have h := (HB1.out.set_ 2 (.int .i64 (1 + n / 64 % 4))).set_ 5 (.int .i64 (n / 32768 % 5))
        simpa using h)
      have hfs : Fr (fun q => q = w.heap.size + 1) wr ((wr.setCell ⟨w.heap.size + 1, 2, none⟩ (.int .i64 (1 + n / 64 % 4))).setCell ⟨w.heap.size + 1, 5, none⟩ (.int .i64 (n / 32768 % 5))) := ((Fr.refl (fun q => q = w.heap.size + 1) wr).setCell (p := ⟨w.heap.size + 1, 2, none⟩) (.inl rfl) _).setCell (p := ⟨w.heap.size + 1, 5, none⟩) (.inl rfl) _
      have HF2 := Lib.hid (HF1.out.then hfs (fun k hk => .inr (by rw [hk]; omega)))
      have HR2 := Lib.hid (HR1.out.fr hfs (by omega))
      exact ⟨⟨.inr (.inr (.inl ⟨rfl, k, s0, _, m0, _, HB2, Lib.hid (by have := HK1.out; omega)⟩)), HF2, HR2⟩, by simp [intOf]⟩
    · have u2 : wr.cell? ⟨w.heap.size + 1, 3, none⟩ = some (.int .i64 0) := by rw [HB1.out.cell]; rfl
      have v2 : wr.cell? ⟨w.heap.size + 1, 6, none⟩ = some (.int .i64 0) := by rw [HB1.out.cell]; rfl
      have zu2 := HB1.out.frozen 3
      have zv2 := HB1.out.frozen 6
      go_wp2_with fail
      have HB2 : Hid (Blk ((wr.setCell ⟨w.heap.size + 1, 3, none⟩ (.int .i64 (1 + n / 256 % 4))).setCell ⟨w.heap.size + 1, 6, none⟩ (.int .i64 (n / 262144 % 5))) (w.heap.size + 1) 26 #[.int .i64 k, .int .i64 s0, .int .i64 s1, .int .i64 (1 + n / 256 % 4), .int .i64 m0, .int .i64 m1, .int .i64 (n / 262144 % 5)]) := Lib.hid (by
        have h := (HB1.out.set_ 3 (.int .i64 (1 + n / 256 % 4))).set_ 6 (.int .i64 (n / 262144 % 5))
        simpa using h)
      have hfs : Fr (fun q => q = w.heap.size + 1) wr ((wr.setCell ⟨w.heap.size + 1, 3, none⟩ (.int .i64 (1 + n / 256 % 4))).setCell ⟨w.heap.size + 1, 6, none⟩ (.int .i64 (n / 262144 % 5))) := ((Fr.refl (fun q => q = w.heap.size + 1) wr).setCell (p := ⟨w.heap.size + 1, 3, none⟩) (.inl rfl) _).setCell (p := ⟨w.heap.size + 1, 6, none⟩) (.inl rfl) _
      have HF2 := Lib.hid (HF1.out.then hfs (fun k hk => .inr (by rw [hk]; omega)))
      have HR2 := Lib.hid (HR1.out.fr hfs (by omega))
      exact ⟨⟨.inr (.inr (.inr ⟨rfl, k, s0, s1, _, m0, m1, _, HB2, Lib.hid (by have := HK1.out; omega)⟩)), HF2, HR2⟩, by simp [intOf]⟩
    · have u0 : wr.cell? ⟨w.heap.size + 1, 0, none⟩ = some (.int .i64 k) := by rw [HB1.out.cell]; rfl
      have d0 : wr.cell? ⟨w.heap.size, 0, none⟩ = some (.int .i64 0) := by rw [HR1.out.cell]; rfl
      have z0 := HR1.out.frozen 0
      have u1 : wr.cell? ⟨w.heap.size + 1, 1, none⟩ = some (.int .i64 s0) := by rw [HB1.out.cell]; rfl
      have d1 : wr.cell? ⟨w.heap.size, 1, none⟩ = some (.int .i64 0) := by rw [HR1.out.cell]; rfl
      have z1 := HR1.out.frozen 1
      have u2 : wr.cell? ⟨w.heap.size + 1, 2, none⟩ = some (.int .i64 s1) := by rw [HB1.out.cell]; rfl
      have d2 : wr.cell? ⟨w.heap.size, 2, none⟩ = some (.int .i64 0) := by rw [HR1.out.cell]; rfl
      have z2 := HR1.out.frozen 2
      have u3 : wr.cell? ⟨w.heap.size + 1, 3, none⟩ = some (.int .i64 s2) := by rw [HB1.out.cell]; rfl
      have d3 : wr.cell? ⟨w.heap.size, 3, none⟩ = some (.int .i64 0) := by rw [HR1.out.cell]; rfl
      have z3 := HR1.out.frozen 3
      have u4 : wr.cell? ⟨w.heap.size + 1, 4, none⟩ = some (.int .i64 m0) := by rw [HB1.out.cell]; rfl
      have d4 : wr.cell? ⟨w.heap.size, 4, none⟩ = some (.int .i64 0) := by rw [HR1.out.cell]; rfl
      have z4 := HR1.out.frozen 4
      have u5 : wr.cell? ⟨w.heap.size + 1, 5, none⟩ = some (.int .i64 m1) := by rw [HB1.out.cell]; rfl
      have d5 : wr.cell? ⟨w.heap.size, 5, none⟩ = some (.int .i64 0) := by rw [HR1.out.cell]; rfl
      have z5 := HR1.out.frozen 5
      have u6 : wr.cell? ⟨w.heap.size + 1, 6, none⟩ = some (.int .i64 m2) := by rw [HB1.out.cell]; rfl
      have d6 : wr.cell? ⟨w.heap.size, 6, none⟩ = some (.int .i64 0) := by rw [HR1.out.cell]; rfl
      have z6 := HR1.out.frozen 6
      have hrow : wr.rangeAt (w.heap.size + 1) 0 [.int .i64 k, .int .i64 s0, .int .i64 s1, .int .i64 s2, .int .i64 m0, .int .i64 m1, .int .i64 m2] := by
        intro j v hv
        rw [HB1.out.cell]
        match j, hv with
        | 0, hv => simpa using hv
        | 1, hv => simpa using hv
        | 2, hv => simpa using hv
        | 3, hv => simpa using hv
        | 4, hv => simpa using hv
        | 5, hv => simpa using hv
        | 6, hv => simpa using hv
      go_wp2_with (refine wpList_load_mid rfl 26 _ rfl (w.heap.size + 1) 0 rfl _ _ hrow Try.underlying26 rfl (by kernel_rfl) ?_)
      have hfin : Blk (((((((wr.setCell ⟨w.heap.size, 0, none⟩ (.int .i64 k)).setCell ⟨w.heap.size, 1, none⟩ (.int .i64 s0)).setCell ⟨w.heap.size, 2, none⟩ (.int .i64 s1)).setCell ⟨w.heap.size, 3, none⟩ (.int .i64 s2)).setCell ⟨w.heap.size, 4, none⟩ (.int .i64 m0)).setCell ⟨w.heap.size, 5, none⟩ (.int .i64 m1)).setCell ⟨w.heap.size, 6, none⟩ (.int .i64 m2)) w.heap.size 26 #[.int .i64 k, .int .i64 s0, .int .i64 s1, .int .i64 s2, .int .i64 m0, .int .i64 m1, .int .i64 m2] := by
        have h1 := (((((((HR1.out.set_ 0 (.int .i64 k)).set_ 1 (.int .i64 s0)).set_ 2 (.int .i64 s1)).set_ 3 (.int .i64 s2)).set_ 4 (.int .i64 m0)).set_ 5 (.int .i64 m1)).set_ 6 (.int .i64 m2))
        simpa using h1
      have hff : Fr F0 w (((((((wr.setCell ⟨w.heap.size, 0, none⟩ (.int .i64 k)).setCell ⟨w.heap.size, 1, none⟩ (.int .i64 s0)).setCell ⟨w.heap.size, 2, none⟩ (.int .i64 s1)).setCell ⟨w.heap.size, 3, none⟩ (.int .i64 s2)).setCell ⟨w.heap.size, 4, none⟩ (.int .i64 m0)).setCell ⟨w.heap.size, 5, none⟩ (.int .i64 m1)).setCell ⟨w.heap.size, 6, none⟩ (.int .i64 m2)) := (((((((HF1.out.setCell (p := ⟨w.heap.size, 0, none⟩) (.inr (Nat.le_refl _)) (.int .i64 k)).setCell (p := ⟨w.heap.size, 1, none⟩) (.inr (Nat.le_refl _)) (.int .i64 s0)).setCell (p := ⟨w.heap.size, 2, none⟩) (.inr (Nat.le_refl _)) (.int .i64 s1)).setCell (p := ⟨w.heap.size, 3, none⟩) (.inr (Nat.le_refl _)) (.int .i64 s2)).setCell (p := ⟨w.heap.size, 4, none⟩) (.inr (Nat.le_refl _)) (.int .i64 m0)).setCell (p := ⟨w.heap.size, 5, none⟩) (.inr (Nat.le_refl _)) (.int .i64 m1)).setCell (p := ⟨w.heap.size, 6, none⟩) (.inr (Nat.le_refl _)) (.int .i64 m2))
      refine bodyPost_ret (results_cell_row rfl _ _ w.heap.size 26 #[.int .i64 k, .int .i64 s0, .int .i64 s1, .int .i64 s2, .int .i64 m0, .int .i64 m1, .int .i64 m2] (0, 0) _ rfl hfin Try.underlying26 rfl (by kernel_rfl)) rfl ?_
      have hk := HK1.out
      obtain ⟨kn, hkn⟩ : ∃ z : Nat, k = (z : Int) := ⟨k.toNat, by omega⟩
      obtain ⟨s0n, hs0n⟩ : ∃ z : Nat, s0 = (z : Int) := ⟨s0.toNat, by omega⟩
      obtain ⟨s1n, hs1n⟩ : ∃ z : Nat, s1 = (z : Int) := ⟨s1.toNat, by omega⟩
      obtain ⟨s2n, hs2n⟩ : ∃ z : Nat, s2 = (z : Int) := ⟨s2.toNat, by omega⟩
      obtain ⟨m0n, hm0n⟩ : ∃ z : Nat, m0 = (z : Int) := ⟨m0.toNat, by omega⟩
      obtain ⟨m1n, hm1n⟩ : ∃ z : Nat, m1 = (z : Int) := ⟨m1.toNat, by omega⟩
      obtain ⟨m2n, hm2n⟩ : ∃ z : Nat, m2 = (z : Int) := ⟨m2.toNat, by omega⟩
      subst hkn hs0n hs1n hs2n hm0n hm1n hm2n
      exact ⟨⟨kn, s0n, s1n, s2n, m0n, m1n, m2n⟩, rfl, ⟨by simp only; omega, by simp only; omega, by simp only; omega, by simp only; omega, by simp only; omega, by simp only; omega, by simp only; omega, by simp only; omega⟩, by simp only; omega, by simp only; omega, by simp only; omega, by simp only; omega, by simp only; omega, by simp only; omega, by simp only; omega, hff⟩
end Go.Proofs.Ytichhieopnbgpaa
