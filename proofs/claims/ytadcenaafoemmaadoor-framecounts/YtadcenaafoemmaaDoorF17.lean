/-
  What begin comes to where the task is not too deep: its function, its arguments and its path are told, and it counts among the kids. No condition.
-/
import Derived.Test.YtadcenaafoemmaaDoorF16
namespace Go.Proofs.YtadcenaafoemmaaDoor
open Go.RowKit

set_option maxHeartbeats 16000000 in
set_option maxRecDepth 100000 in
theorem fbegin_go (w : World) (t F base : Nat) (at_ : Int) (regs : List Int) (bud dep : Int) (h8 : regs.length = 8) (pb poff n pcp : Nat) (hT : Blk w t 115 (tnL at_ regs F (.slice (some ⟨pb, poff, none⟩) n pcp) bud dep).toArray)
    (fn at0 st kd : Int) (P : Option Addr) (path : List Int) (pc : Nat) (regs0 hands : List Int) (hB : Blk w F 95 (frL fn at0 st kd (.slice P path.length pc) regs0 hands).toArray) (KK R H : Int) (op a k : Int) (b cc : Nat) (hd : ¬ dep ≤ (path.length : Int)) (h1000 : path.length ≤ 1000) (ar : Nat) (hcc : cc < n) (hpb : w.cell? ⟨pb, poff + cc * 2, none⟩ = some (.int .i64 (ar : Int))) (hpF : pb ≠ F) (hab : ar + b ≤ 8) (hb8 : b < 8)
    (hpc : path.length ≤ pc) (hNn : P = none → pc = 0) (hP : IntsA w P path) (hbase : base ≤ w.heap.size) :
    Calls Tryd.prog 78 #[.pointer (some ⟨t, 0, none⟩), .agg #[.int .i64 op, .int .i64 a, .int .i64 (b : Int), .int .i64 (cc : Int), .int .i64 k], .agg #[.int .i64 KK, .int .i64 0, .int .i64 R, .int .i64 0, .int .i64 H, .int .i64 0, nilS, nilS]] w (DoPost w base t F fn at0 st (.slice P path.length pc) regs0 hands (.slice (some ⟨pb, poff, none⟩) n pcp) bud dep ⟨⟨KK, 0, R, cc, H, 0, ((regs.drop b).take ar), path ++ [kd]⟩, at_, regs, wrap64 (kd + 1)⟩) := by
  have hal : ((regs.drop b).take ar).length = ar := by simp; omega
  have HCL : Hid (∀ W, Blk W t 115 (tnL at_ regs F (.slice (some ⟨pb, poff, none⟩) n pcp) bud dep).toArray → Calls Tryd.prog 82 #[.slice (some ⟨t, 1 + b, none⟩) ar (8 - b)] W fun e w' => ∃ v, e = .returned v ∧ w'.ownsRow W.heap.size 2 1 v ar (ints ((regs.drop b).take ar)) ∧ Fr None' W w') := Lib.hid (fun W hW => by
    have h := clone64_any W (some ⟨t, 1 + b, none⟩) ((regs.drop b).take ar) (8 - b) (fun h => by cases h) (fun _ => ⟨t, 1 + b, rfl, fun j x hx => by
      rw [List.getElem?_take] at hx
      split at hx
      · rename_i hj
        rw [List.getElem?_drop] at hx
        rw [hW.cell, Nat.add_assoc]
        exact tn_reg h8 hx
      · cases hx⟩) (by omega)
    rw [hal] at h
    exact h)
  have HT := Lib.hid hT
  have HB := Lib.hid hB
  have HPB := Lib.hid hpb
  have HP := Lib.hid hP
  have HNn := Lib.hid hNn
  have hpl := cell_lt hpb
  have hpt : pb ≠ w.heap.size := by have h : pb < w.heap.size := hpl; omega
  clear hT hB hpb hP hNn
  go_enter Tryd.func78, Tryd.ntmps78
  go_upto_region 1 with (fail)
  generalize hW : (((w.alloc (.cells _ 98)).alloc (.cells _ 36)).alloc (.cells _ 36)) = W
  have hI : Blk W w.heap.size 98 #[.int .i64 op, .int .i64 a, .int .i64 (b : Int), .int .i64 (cc : Int), .int .i64 k] := by rw [← hW]; exact ((Blk.new _ _ _).alloc _).alloc _
  have hE : Blk W (w.heap.size + 1) 36 #[.int .i64 KK, .int .i64 0, .int .i64 R, .int .i64 0, .int .i64 H, .int .i64 0, nilS, nilS] := by
    have h := Blk.new (w.alloc (.cells #[.int .i64 op, .int .i64 a, .int .i64 (b : Int), .int .i64 (cc : Int), .int .i64 k] 98)) 36 #[.int .i64 KK, .int .i64 0, .int .i64 R, .int .i64 0, .int .i64 H, .int .i64 0, nilS, nilS]
    rw [show (w.alloc (.cells #[.int .i64 op, .int .i64 a, .int .i64 (b : Int), .int .i64 (cc : Int), .int .i64 k] 98)).heap.size = w.heap.size + 1 by simp] at h
    rw [← hW]; exact h.alloc _
  have hG : Blk W (w.heap.size + 1 + 1) 36 efZ := by
    have h := Blk.new ((w.alloc (.cells #[.int .i64 op, .int .i64 a, .int .i64 (b : Int), .int .i64 (cc : Int), .int .i64 k] 98)).alloc (.cells #[.int .i64 KK, .int .i64 0, .int .i64 R, .int .i64 0, .int .i64 H, .int .i64 0, nilS, nilS] 36)) 36 efZ
    rw [show ((w.alloc (.cells #[.int .i64 op, .int .i64 a, .int .i64 (b : Int), .int .i64 (cc : Int), .int .i64 k] 98)).alloc (.cells #[.int .i64 KK, .int .i64 0, .int .i64 R, .int .i64 0, .int .i64 H, .int .i64 0, nilS, nilS] 36)).heap.size = w.heap.size + 1 + 1 by simp] at h
    rw [← hW]; exact h
  have hF : Fr None' w W := by rw [← hW]; exact (((Fr.refl _ _).alloc _).alloc _).alloc _
  have hT1 := HT.out.fr hF (fun h => h)
  have hB1 := HB.out.fr hF (fun h => h)
  have q12 : W.cell? ⟨t, 12, none⟩ = some (.int .i64 dep) := by rw [hT1.cell]; exact (tn_rest h8).2.2.2.2
  have q4 : W.cell? ⟨F, 4, none⟩ = some (.slice P path.length pc) := by rw [hB1.cell]; rfl
  have htl := HT.out.lt
  have hFl := HB.out.lt
  have HT1 := Lib.hid hT1
  have HB1 := Lib.hid hB1
  have HI := Lib.hid hI
  have HE := Lib.hid hE
  have HG := Lib.hid hG
  have HF := Lib.hid hF
  have t9 : W.cell? ⟨t, 9, none⟩ = some (.pointer (some ⟨F, 0, none⟩)) := by rw [HT1.out.cell]; exact (tn_rest h8).2.1
  clear hI hE hG hF hT1 hB1 HT HB hW
  go_upto_region 2 with (fail)
  have hq : decide (dep ≤ (path.length : Int)) = false := decide_eq_false hd
  have hd' : (path.length : Int) < dep := by omega
  clear hd
  go_quiet (fail)
  generalize hV : W.drewN _ = V
  have HFV : Hid (Fr None' w V) := Lib.hid (by rw [← hV]; exact HF.out.drewN _)
  have HTV : Hid (Blk V t 115 _) := Lib.hid (by rw [← hV]; exact HT1.out.drewN _)
  have HBV : Hid (Blk V F 95 _) := Lib.hid (by rw [← hV]; exact HB1.out.drewN _)
  have HGV : Hid (Blk V (w.heap.size + 1 + 1) 36 efZ) := Lib.hid (by rw [← hV]; exact HG.out.drewN _)
  have HEV : Hid (Blk V (w.heap.size + 1) 36 _) := Lib.hid (by rw [← hV]; exact HE.out.drewN _)
  have HIV : Hid (Blk V w.heap.size 98 _) := Lib.hid (by rw [← hV]; exact HI.out.drewN _)
  have i3 : V.cell? ⟨w.heap.size, 3, none⟩ = some (.int .i64 (cc : Int)) := by rw [HIV.out.cell]; rfl
  have e3 : V.cell? ⟨w.heap.size + 1, 3, none⟩ = some (.int .i64 0) := by rw [HEV.out.cell]; rfl
  have y3 : V.frozen? ⟨w.heap.size + 1, 3, none⟩ = false := HEV.out.frozen _
  clear HF HT1 HB1 HG HE HI q12 q4 hV hq
  go_upto_region 5 with (fail)
  generalize hW2 : V.setCell ⟨w.heap.size + 1, 3, none⟩ _ = V2
  have hF2 : Fr (At (w.heap.size + 1)) V V2 := by rw [← hW2]; exact (Fr.refl (At (w.heap.size + 1)) V).setCell (p := ⟨w.heap.size + 1, 3, none⟩) (.inl rfl) _
  have HE2 : Hid (Blk V2 (w.heap.size + 1) 36 #[.int .i64 KK, .int .i64 0, .int .i64 R, .int .i64 (cc : Int), .int .i64 H, .int .i64 0, nilS, nilS]) := Lib.hid (by rw [← hW2]; exact HEV.out.set_ 3 _)
  have HT2 := Lib.hid (HTV.out.fr hF2 (by show ¬ t = _; omega))
  have HB2 := Lib.hid (HBV.out.fr hF2 (by show ¬ F = _; omega))
  have HG2 := Lib.hid (HGV.out.fr hF2 (by show ¬ _ = _; omega))
  have HI2 := Lib.hid (HIV.out.fr hF2 (by show ¬ _ = _; omega))
  have HF2 : Hid (Fr None' w V2) := Lib.hid (HFV.out.then hF2 (fun i hi => .inr (by have hi : i = w.heap.size + 1 := hi; omega)))
  clear HFV HTV HBV HGV HEV HIV i3 e3 y3 hW2 hF2
  have i1 : (0 : Int) ≤ (b : Int) := by omega
  have i2 : (0 : Int) ≤ (cc : Int) := by omega
  have i3 : (cc : Int) < (n : Int) := by omega
  have i4 : (0 : Int) ≤ (b : Int) + (ar : Int) := by omega
  have i5 : (b : Int) + (ar : Int) ≤ 8 := by omega
  have i6 : (b : Int) ≤ (b : Int) + (ar : Int) := by omega
  have w1 : IntKind.i64.wrap ((b : Int) + (ar : Int)) = (b : Int) + (ar : Int) := IntWalk.i64_in _ (by omega)
  have HS : (fun w' : World => w'.cell? ⟨t, 10, none⟩ = some (.slice (some ⟨pb, poff, none⟩) n pcp) ∧ w'.cell? ⟨w.heap.size, 2, none⟩ = some (.int .i64 (b : Int)) ∧ w'.cell? ⟨w.heap.size, 3, none⟩ = some (.int .i64 (cc : Int)) ∧ w'.cell? ⟨pb, poff + cc * 2, none⟩ = some (.int .i64 (ar : Int))) V2.drew := ⟨by show V2.cell? _ = _; rw [HT2.out.cell]; exact (tn_rest h8).2.2.1, by show V2.cell? _ = _; rw [HI2.out.cell]; rfl, by show V2.cell? _ = _; rw [HI2.out.cell]; rfl, HF2.out.held HPB.out (fun h => h)⟩
  refine region_K 22 (fun w' : World => w'.cell? ⟨t, 10, none⟩ = some (.slice (some ⟨pb, poff, none⟩) n pcp) ∧ w'.cell? ⟨w.heap.size, 2, none⟩ = some (.int .i64 (b : Int)) ∧ w'.cell? ⟨w.heap.size, 3, none⟩ = some (.int .i64 (cc : Int)) ∧ w'.cell? ⟨pb, poff + cc * 2, none⟩ = some (.int .i64 (ar : Int))) (by kernel_rfl) ?_
  have HT2 := Lib.hid HT2.out.drew
  have HB2 := Lib.hid HB2.out.drew
  have HG2 := Lib.hid HG2.out.drew
  have HE2 := Lib.hid HE2.out.drew
  have HI2 := Lib.hid HI2.out.drew
  have HF2 := Lib.hid HF2.out.drew
  generalize V2.drew = U at *
  refine AnyK.take (i := 0) rfl (by decide) (by kernel_rfl) (by kernel_rfl) (by kernel_rfl) (fun _ _ _ _ h => h) HS (fun K hK => ?_)
  go_simp
  refine hK.out _ ⟨_, by rfl, Or.inl ⟨by rfl, by intro w' hSw; (try dsimp only at hSw); go_simp⟩, ?_⟩
  clear hK K
  refine AnyK.take (i := 1) rfl (by decide) (by kernel_rfl) (by kernel_rfl) (by kernel_rfl) (fun _ _ _ _ h => h) HS (fun K hK => ?_)
  go_simp
  refine hK.out _ ⟨_, by rfl, Or.inl ⟨by rfl, by intro w' hSw; (try dsimp only at hSw); go_simp⟩, ?_⟩
  clear hK K
  refine AnyK.take (i := 2) rfl (by decide) (by kernel_rfl) (by kernel_rfl) (by kernel_rfl) (fun _ _ _ _ h => h) HS (fun K hK => ?_)
  go_simp
  refine hK.out _ ⟨_, by rfl, Or.inl ⟨by rfl, by intro w' hSw; (try dsimp only at hSw); go_simp⟩, ?_⟩
  clear hK K
  refine AnyK.take (i := 3) rfl (by decide) (by kernel_rfl) (by kernel_rfl) (by kernel_rfl) (fun _ _ _ _ h => h) HS (fun K hK => ?_)
  go_simp
  refine hK.out _ ⟨_, by rfl, Or.inl ⟨by rfl, by intro w' hSw; (try dsimp only at hSw); go_simp⟩, ?_⟩
  clear hK K
  refine AnyK.take (i := 4) rfl (by decide) (by kernel_rfl) (by kernel_rfl) (by kernel_rfl) (fun _ _ _ _ h => h) HS (fun K hK => ?_)
  go_simp
  refine hK.out _ ⟨_, by rfl, Or.inl ⟨by rfl, by intro w' hSw; (try dsimp only at hSw); go_simp⟩, ?_⟩
  clear hK K
  refine AnyK.take (i := 5) rfl (by decide) (by kernel_rfl) (by kernel_rfl) (by kernel_rfl) (fun _ _ _ _ h => h) HS (fun K hK => ?_)
  go_simp
  refine hK.out _ ⟨_, by rfl, Or.inl ⟨by rfl, by intro w' hSw; (try dsimp only at hSw); go_simp⟩, ?_⟩
  clear hK K
  refine AnyK.take (i := 6) rfl (by decide) (by kernel_rfl) (by kernel_rfl) (by kernel_rfl) (fun _ _ _ _ h => h) HS (fun K hK => ?_)
  go_simp
  refine hK.out _ ⟨_, by rfl, Or.inl ⟨by rfl, by intro w' hSw; (try dsimp only at hSw); go_simp⟩, ?_⟩
  clear hK K
  refine AnyK.take (i := 7) rfl (by decide) (by kernel_rfl) (by kernel_rfl) (by kernel_rfl) (fun _ _ _ _ h => h) HS (fun K hK => ?_)
  go_simp
  refine hK.out _ ⟨_, by rfl, Or.inl ⟨by rfl, by intro w' hSw; (try dsimp only at hSw); go_simp⟩, ?_⟩
  clear hK K
  refine AnyK.take (i := 8) rfl (by decide) (by kernel_rfl) (by kernel_rfl) (by kernel_rfl) (fun _ _ _ _ h => h) HS (fun K hK => ?_)
  go_simp
  refine hK.out _ ⟨_, by rfl, Or.inl ⟨by rfl, by intro w' hSw; (try dsimp only at hSw); go_simp⟩, ?_⟩
  clear hK K
  refine AnyK.take (i := 9) rfl (by decide) (by kernel_rfl) (by kernel_rfl) (by kernel_rfl) (fun _ _ _ _ h => h) HS (fun K hK => ?_)
  go_simp
  refine hK.out _ ⟨_, by rfl, Or.inl ⟨by rfl, by intro w' hSw; (try dsimp only at hSw); go_simp⟩, ?_⟩
  clear hK K
  refine AnyK.take (i := 10) rfl (by decide) (by kernel_rfl) (by kernel_rfl) (by kernel_rfl) (fun _ _ _ _ h => h) HS (fun K hK => ?_)
  go_simp
  refine hK.out _ ⟨_, by rfl, Or.inl ⟨by rfl, by intro w' hSw; (try dsimp only at hSw); go_simp⟩, ?_⟩
  clear hK K
  refine AnyK.take (i := 11) rfl (by decide) (by kernel_rfl) (by kernel_rfl) (by kernel_rfl) (fun _ _ _ _ h => h) HS (fun K hK => ?_)
  go_simp
  refine hK.out _ ⟨_, by rfl, Or.inl ⟨by rfl, by intro w' hSw; (try dsimp only at hSw); go_simp⟩, ?_⟩
  clear hK K
  refine AnyK.take (i := 12) rfl (by decide) (by kernel_rfl) (by kernel_rfl) (by kernel_rfl) (fun _ _ _ _ h => h) HS (fun K hK => ?_)
  go_simp
  refine hK.out _ ⟨_, by rfl, Or.inl ⟨by rfl, by intro w' hSw; (try dsimp only at hSw); go_simp⟩, ?_⟩
  clear hK K
  refine AnyK.take (i := 13) rfl (by decide) (by kernel_rfl) (by kernel_rfl) (by kernel_rfl) (fun _ _ _ _ h => h) HS (fun K hK => ?_)
  go_simp
  refine hK.out _ ⟨_, by rfl, Or.inl ⟨by rfl, by intro w' hSw; (try dsimp only at hSw); go_simp⟩, ?_⟩
  clear hK K
  refine AnyK.take (i := 14) rfl (by decide) (by kernel_rfl) (by kernel_rfl) (by kernel_rfl) (fun _ _ _ _ h => h) HS (fun K hK => ?_)
  go_simp
  refine hK.out _ ⟨_, by rfl, Or.inl ⟨by rfl, by intro w' hSw; (try dsimp only at hSw); go_simp⟩, ?_⟩
  clear hK K
  refine AnyK.take (i := 15) rfl (by decide) (by kernel_rfl) (by kernel_rfl) (by kernel_rfl) (fun _ _ _ _ h => h) HS (fun K hK => ?_)
  go_simp
  refine hK.out _ ⟨_, by rfl, Or.inl ⟨by rfl, by intro w' hSw; (try dsimp only at hSw); go_simp⟩, ?_⟩
  clear hK K
  refine AnyK.take (i := 16) rfl (by decide) (by kernel_rfl) (by kernel_rfl) (by kernel_rfl) (fun _ _ _ _ h => h) HS (fun K hK => ?_)
  go_simp
  refine hK.out _ ⟨_, by rfl, Or.inl ⟨by rfl, by intro w' hSw; (try dsimp only at hSw); go_simp⟩, ?_⟩
  clear hK K
  refine AnyK.take (i := 17) rfl (by decide) (by kernel_rfl) (by kernel_rfl) (by kernel_rfl) (fun _ _ _ _ h => h) HS (fun K hK => ?_)
  go_simp
  refine hK.out _ ⟨_, by rfl, Or.inl ⟨by rfl, by intro w' hSw; (try dsimp only at hSw); go_simp⟩, ?_⟩
  clear hK K
  refine AnyK.take (i := 18) rfl (by decide) (by kernel_rfl) (by kernel_rfl) (by kernel_rfl) (fun _ _ _ _ h => h) HS (fun K hK => ?_)
  go_simp
  refine hK.out _ ⟨_, by rfl, Or.inl ⟨by rfl, by intro w' hSw; (try dsimp only at hSw); go_simp⟩, ?_⟩
  clear hK K
  refine AnyK.one (i := 19) rfl (by kernel_rfl) (fun K hK => ?_)
  go_simp
  rw [if_neg (show ¬ 8 = b by omega), show ((b : Int) + (ar : Int)).toNat - b = ar by omega]
  refine (HCL.out U HT2.out).mono ?_
  rintro e w2 ⟨va, rfl, hoa, hFa⟩
  obtain ⟨Aa, ca, rfl⟩ := own_slice hoa
  have hle : w.heap.size ≤ U.heap.size := HF2.out.size
  have HA3 := Lib.hid (own_down (base' := base) hoa (by omega))
  have HS : (fun w' : World => w'.cell? ⟨t, 10, none⟩ = some (.slice (some ⟨pb, poff, none⟩) n pcp) ∧ w'.cell? ⟨w.heap.size, 2, none⟩ = some (.int .i64 (b : Int)) ∧ w'.cell? ⟨w.heap.size, 3, none⟩ = some (.int .i64 (cc : Int)) ∧ w'.cell? ⟨pb, poff + cc * 2, none⟩ = some (.int .i64 (ar : Int))) w2 := ⟨hFa.held HS.1 (fun h => h), hFa.held HS.2.1 (fun h => h), hFa.held HS.2.2.1 (fun h => h), hFa.held HS.2.2.2 (fun h => h)⟩
  have HT3 := Lib.hid (HT2.out.fr hFa (fun h => h))
  have HB3 := Lib.hid (HB2.out.fr hFa (fun h => h))
  have HG3 := Lib.hid (HG2.out.fr hFa (fun h => h))
  have HE3 := Lib.hid (HE2.out.fr hFa (fun h => h))
  have HI3 := Lib.hid (HI2.out.fr hFa (fun h => h))
  have HF3 := Lib.hid (HF2.out.trans hFa)
  clear HT2 HB2 HG2 HE2 HI2 HF2 hoa hFa HCL w1
  refine hK.out _ _ (fun _ => HS) ?_
  clear hK K
  refine AnyK.one (i := 20) rfl (by kernel_rfl) (fun K hK => ?_)
  go_simp
  refine hK.out _ _ (fun _ => HS) ?_
  clear hK K
  have x6 : w2.cell? ⟨w.heap.size + 1, 6, none⟩ = some nilS := by rw [HE3.out.cell]; rfl
  have z6 : w2.frozen? ⟨w.heap.size + 1, 6, none⟩ = false := HE3.out.frozen _
  refine AnyK.one (i := 21) rfl (by kernel_rfl) (fun K hK => ?_)
  go_simp
  generalize hW3 : w2.setCell ⟨w.heap.size + 1, 6, none⟩ _ = V3'
  have hF3 : Fr (At (w.heap.size + 1)) w2 V3' := by rw [← hW3]; exact (Fr.refl (At (w.heap.size + 1)) w2).setCell (p := ⟨w.heap.size + 1, 6, none⟩) (.inl rfl) _
  have HE4 : Hid (Blk V3' (w.heap.size + 1) 36 #[.int .i64 KK, .int .i64 0, .int .i64 R, .int .i64 (cc : Int), .int .i64 H, .int .i64 0, .slice Aa ar ca, nilS]) := Lib.hid (by rw [← hW3]; exact HE3.out.set_ 6 _)
  have HT4 := Lib.hid (HT3.out.fr hF3 (by show ¬ t = _; omega))
  have HB4 := Lib.hid (HB3.out.fr hF3 (by show ¬ F = _; omega))
  have HG4 := Lib.hid (HG3.out.fr hF3 (by show ¬ _ = _; omega))
  have HA4 := Lib.hid (own_fr HA3.out hF3 (fun g hg hg' => own_ne HA3.out HE3.out (by decide) (by rw [hg]; exact congrArg some hg')))
  have HF4 : Hid (Fr None' w V3') := Lib.hid (HF3.out.then hF3 (fun i hi => .inr (by have hi : i = w.heap.size + 1 := hi; omega)))
  have HS : (fun w' : World => w'.cell? ⟨t, 10, none⟩ = some (.slice (some ⟨pb, poff, none⟩) n pcp) ∧ w'.cell? ⟨w.heap.size, 2, none⟩ = some (.int .i64 (b : Int)) ∧ w'.cell? ⟨w.heap.size, 3, none⟩ = some (.int .i64 (cc : Int)) ∧ w'.cell? ⟨pb, poff + cc * 2, none⟩ = some (.int .i64 (ar : Int))) V3' := ⟨hF3.held HS.1 (by show ¬ t = _; omega), hF3.held HS.2.1 (by show ¬ w.heap.size = w.heap.size + 1; omega), hF3.held HS.2.2.1 (by show ¬ w.heap.size = w.heap.size + 1; omega), hF3.held HS.2.2.2 (by show ¬ pb = _; have h : pb < w.heap.size := hpl; omega)⟩
  clear hF3 hW3 x6 z6 HE3 HT3 HB3 HG3 HA3 HI3 HF3
  refine hK.out _ _ (fun _ => HS) ?_
  clear hK K HS
  refine AnyK.done (by kernel_rfl) ?_ _
  go_upto_region 6 with (fail)
  have HS : (fun w' : World => w'.cell? ⟨F, 4, none⟩ = some (.slice P path.length pc) ∧ w'.cell? ⟨F, 3, none⟩ = some (.int .i64 kd)) V3'.drew := ⟨by show V3'.cell? _ = _; rw [HB4.out.cell]; rfl, by show V3'.cell? _ = _; rw [HB4.out.cell]; rfl⟩
  refine region_K 9 (fun w' : World => w'.cell? ⟨F, 4, none⟩ = some (.slice P path.length pc) ∧ w'.cell? ⟨F, 3, none⟩ = some (.int .i64 kd)) (by kernel_rfl) ?_
  have HT3 := Lib.hid HT4.out.drew
  have HB3 := Lib.hid HB4.out.drew
  have HG3 := Lib.hid HG4.out.drew
  have HE3 := Lib.hid HE4.out.drew
  have HF3 := Lib.hid HF4.out.drew
  have HA3 : Hid (V3'.drew.ownsRow base 2 1 (.slice Aa ar ca) ar (ints ((regs.drop b).take ar))) := Lib.hid (own_fr HA4.out (Fr.refl None' V3').drew (fun _ _ h => h))
  clear HT4 HB4 HG4 HE4 HF4 HA4
  generalize V3'.drew = V3 at *
  refine AnyK.take (i := 0) rfl (by decide) (by kernel_rfl) (by kernel_rfl) (by kernel_rfl) (fun _ _ _ _ h => h) HS (fun K hK => ?_)
  go_simp
  refine hK.out _ ⟨_, by rfl, Or.inl ⟨by rfl, by intro w' hSw; (try dsimp only at hSw); go_simp⟩, ?_⟩
  clear hK K
  refine AnyK.take (i := 1) rfl (by decide) (by kernel_rfl) (by kernel_rfl) (by kernel_rfl) (fun _ _ _ _ h => h) HS (fun K hK => ?_)
  go_simp
  refine hK.out _ ⟨_, by rfl, Or.inl ⟨by rfl, by intro w' hSw; (try dsimp only at hSw); go_simp⟩, ?_⟩
  clear hK K
  refine AnyK.take (i := 2) rfl (by decide) (by kernel_rfl) (by kernel_rfl) (by kernel_rfl) (fun _ _ _ _ h => h) HS (fun K hK => ?_)
  go_simp
  refine hK.out _ ⟨_, by rfl, Or.inl ⟨by rfl, by intro w' hSw; (try dsimp only at hSw); go_simp⟩, ?_⟩
  clear hK K
  refine AnyK.take (i := 3) rfl (by decide) (by kernel_rfl) (by kernel_rfl) (by kernel_rfl) (fun _ _ _ _ h => h) HS (fun K hK => ?_)
  go_simp
  refine hK.out _ ⟨_, by rfl, Or.inl ⟨by rfl, by intro w' hSw; (try dsimp only at hSw); go_simp⟩, ?_⟩
  clear hK K
  refine AnyK.take (i := 5) rfl (by decide) (by kernel_rfl) (by kernel_rfl) (by kernel_rfl) (fun _ _ _ _ h => h) HS (fun K hK => ?_)
  go_simp
  refine hK.out _ ⟨_, by rfl, Or.inl ⟨by rfl, by intro w' hSw; (try dsimp only at hSw); go_simp⟩, ?_⟩
  clear hK K
  refine AnyK.take (i := 6) rfl (by decide) (by kernel_rfl) (by kernel_rfl) (by kernel_rfl) (fun _ _ _ _ h => h) HS (fun K hK => ?_)
  go_simp
  refine hK.out _ ⟨_, by rfl, Or.inl ⟨by rfl, by intro w' hSw; (try dsimp only at hSw); go_simp⟩, ?_⟩
  clear hK K
  refine AnyK.take (i := 7) rfl (by decide) (by kernel_rfl) (by kernel_rfl) (by kernel_rfl) (fun _ _ _ _ h => h) HS (fun K hK => ?_)
  go_simp
  refine hK.out _ ⟨_, by rfl, Or.inl ⟨by rfl, by intro w' hSw; (try dsimp only at hSw); go_simp⟩, ?_⟩
  clear hK K
  refine AnyK.take (i := 8) rfl (by decide) (by kernel_rfl) (by kernel_rfl) (by kernel_rfl) (fun _ _ _ _ h => h) HS (fun K hK => ?_)
  go_simp
  refine hK.out _ ⟨_, by rfl, Or.inl ⟨by rfl, by intro w' hSw; (try dsimp only at hSw); go_simp⟩, ?_⟩
  clear hK K
  obtain ⟨i0, hi0, hz0, hz1, hz2⟩ := info3 info_int
  have hle3 : base ≤ V3.heap.size := by have := HF3.out.size; omega
  have HNO : Hid (P = none → path.length = 0 ∧ path.length = 0) := Lib.hid (fun h => by have := HNn.out h; omega)
  have HOLD : Hid (∀ b', P = some b' → ∀ (j : Nat) (u : Value), (ints path)[j]? = some u → (V3.alloc (.cells #[.int .i64 kd] 3)).cell? (b'.add j) = some u) := Lib.hid (by
    intro b' hb' j u hu
    rw [ints, List.getElem?_map] at hu
    obtain ⟨x, hx, rfl⟩ := Option.map_eq_some_iff.1 hu
    have hj := (List.getElem?_eq_some_iff.1 hx).1
    obtain ⟨bb, boff, hpa, hcs⟩ := HP.out (by omega)
    rw [hpa] at hb'
    injection hb' with hb'
    subst hb'
    have hadd : (⟨bb, boff, none⟩ : Addr).add j = ⟨bb, boff + j, none⟩ := by unfold Addr.add; split <;> simp_all
    rw [hadd]
    exact ((HF3.out).alloc _).held (hcs j x hx) (fun h => h))
  refine AnyK.two (i := 4) (j := 9) rfl rfl (by kernel_rfl) (fun K hK => ?_) (fun K hK => ?_)
  · go_simp
    refine (fclip_any _ P path.length pc hpc (by omega)).mono ?_
    rintro e w' ⟨rfl, hw⟩
    have hw := hw.symm
    subst hw
    refine hK.out _ _ (fun _ => HS) ?_
    clear hK K
    refine AnyK.one (i := 9) rfl (by kernel_rfl) (fun K hK => ?_)
    go_simp
    have HSA : (fun w' : World => w'.cell? ⟨F, 4, none⟩ = some (.slice P path.length pc) ∧ w'.cell? ⟨F, 3, none⟩ = some (.int .i64 kd)) (V3.alloc (.cells #[.int .i64 kd] 3)) := ⟨((Fr.refl None' V3).alloc _).held HS.1 (fun h => h), ((Fr.refl None' V3).alloc _).held HS.2 (fun h => h)⟩
    refine hK.out _ _ (fun _ => HSA) ?_
    clear hK K HS
    have HS := HSA
    clear HSA
    refine AnyK.one (i := 10) rfl (by kernel_rfl) (fun K hK => ?_)
    refine step_append_grows (by rfl) _ _ _ (by rfl) 3 i0 _ 1 8 Tryd.underlying23 hi0 hz0 hz1 hz2 rfl (by omega) P path.length path.length (ints path) (by rfl) HNO.out (by simp [ints]) HOLD.out ⟨V3.heap.size, 0, none⟩ 1 1 [.int .i64 kd] (by rfl) (by rfl) (World.news_of_block (cs := #[.int .i64 kd]) (t := 3) (fr := (0, 0)) (heap_alloc_new V3 _)) (by simp [Value.oneCell']) (by omega) (by unfold maxLen; omega) (by omega) ?_
    intro v4 w4 hown4 hg4
    have hFa : Fr None' (V3.alloc (.cells #[.int .i64 kd] 3)) w4 := (Fr.grown hg4).mono (fun _ h => by cases h)
    have hF34 : Fr None' V3 w4 := ((Fr.refl None' V3).alloc _).trans hFa
    obtain ⟨Ap, cp, rfl⟩ := own_slice hown4
    have HO4 : Hid (w4.ownsRow base 3 1 (.slice Ap (path.length + 1) cp) (path.length + 1) (ints (path ++ [kd]))) := Lib.hid (by
      have h := own_down (base' := base) hown4 (by have := hle3; simp; omega)
      rw [show ints (path ++ [kd]) = ints path ++ [.int .i64 kd] by simp [ints]]
      exact h)
    have HS : (fun w' : World => w'.cell? ⟨F, 4, none⟩ = some (.slice P path.length pc) ∧ w'.cell? ⟨F, 3, none⟩ = some (.int .i64 kd)) w4 := ⟨hFa.held HS.1 (fun h => h), hFa.held HS.2 (fun h => h)⟩
    have HE4 := Lib.hid (HE3.out.fr hF34 (fun h => h))
    have HG4 := Lib.hid (HG3.out.fr hF34 (fun h => h))
    have HT4 := Lib.hid (HT3.out.fr hF34 (fun h => h))
    have HB4 := Lib.hid (HB3.out.fr hF34 (fun h => h))
    have HA4 := Lib.hid (own_fr HA3.out hF34 (fun _ _ h => h))
    have HF4 := Lib.hid (HF3.out.trans hF34)
    clear hown4 hg4 hFa hF34 HE3 HG3 HT3 HB3 HA3 HF3 HOLD HNO hle3
    refine hK.out _ _ (fun _ => HS) ?_
    clear hK K
    refine AnyK.one (i := 11) rfl (by kernel_rfl) (fun K hK => ?_)
    go_simp
    refine hK.out _ _ (fun _ => HS) ?_
    clear hK K
    have x7 : w4.cell? ⟨w.heap.size + 1, 7, none⟩ = some nilS := by rw [HE4.out.cell]; rfl
    have z7 : w4.frozen? ⟨w.heap.size + 1, 7, none⟩ = false := HE4.out.frozen _
    refine AnyK.one (i := 12) rfl (by kernel_rfl) (fun K hK => ?_)
    go_simp
    generalize hW5 : w4.setCell ⟨w.heap.size + 1, 7, none⟩ _ = V5
    have hF5 : Fr (At (w.heap.size + 1)) w4 V5 := by rw [← hW5]; exact (Fr.refl (At (w.heap.size + 1)) w4).setCell (p := ⟨w.heap.size + 1, 7, none⟩) (.inl rfl) _
    have hE5 : Blk V5 (w.heap.size + 1) 36 #[.int .i64 KK, .int .i64 0, .int .i64 R, .int .i64 (cc : Int), .int .i64 H, .int .i64 0, .slice Aa ar ca, .slice Ap (path.length + 1) cp] := by rw [← hW5]; exact HE4.out.set_ 7 _
    have HT5 := Lib.hid (HT4.out.fr hF5 (by show ¬ t = _; omega))
    have HB5 := Lib.hid (HB4.out.fr hF5 (by show ¬ F = _; omega))
    have HG5 := Lib.hid (HG4.out.fr hF5 (by show ¬ _ = _; omega))
    have HE5 := Lib.hid hE5
    have hnt : ∀ k t' cs, Blk w4 k t' cs → (t' = 2 ∨ t' = 3) → ¬ At (w.heap.size + 1) k := fun k t' cs hk ht' hg' => by
      have hg' : k = w.heap.size + 1 := hg'
      subst hg'
      rcases ht' with rfl | rfl
      · exact Blk.ne_ hk HE4.out (by decide) rfl
      · exact Blk.ne_ hk HE4.out (by decide) rfl
    have hEA4 : EfAt w4 base ⟨KK, 0, R, cc, H, 0, ((regs.drop b).take ar), path ++ [kd]⟩ (.slice Aa ar ca) (.slice Ap (path.length + 1) cp) := ⟨by show w4.ownsRow base _ 1 _ ((regs.drop b).take ar).length _; rw [hal]; exact HA4.out, by show w4.ownsRow base _ 1 _ (path ++ [kd]).length _; rw [show (path ++ [kd]).length = path.length + 1 by simp]; exact HO4.out⟩
    have HEA5 := Lib.hid (hEA4.fr hF5 hnt)
    have HF5 : Hid (Fr None' w V5) := Lib.hid (HF4.out.then hF5 (fun i hi => .inr (by have hi : i = w.heap.size + 1 := hi; omega)))
    have HS : (fun w' : World => w'.cell? ⟨F, 4, none⟩ = some (.slice P path.length pc) ∧ w'.cell? ⟨F, 3, none⟩ = some (.int .i64 kd)) V5 := ⟨hF5.held HS.1 (by show ¬ F = _; omega), hF5.held HS.2 (by show ¬ F = _; omega)⟩
    clear hF5 hE5 hnt hEA4 hW5 x7 z7 HE4 HG4 HT4 HB4 HA4 HF4 HO4
    refine hK.out _ _ (fun _ => HS) ?_
    clear hK K HS
    refine AnyK.done (by kernel_rfl) ?_ _
    have f3 : V5.cell? ⟨F, 3, none⟩ = some (.int .i64 kd) := by rw [HB5.out.cell]; rfl
    have z3 : V5.frozen? ⟨F, 3, none⟩ = false := HB5.out.frozen _
    go_upto_region 8 with (fail)
    generalize hW6 : V5.setCell ⟨F, 3, none⟩ _ = V6
    have hF6 : Fr (At F) V5 V6 := by rw [← hW6]; exact (Fr.refl (At F) V5).setCell (p := ⟨F, 3, none⟩) (.inl rfl) _
    have HB6 : Hid (Blk V6 F 95 (frL fn at0 st (wrap64 (kd + 1)) (.slice P path.length pc) regs0 hands).toArray) := Lib.hid (by
      have h := HB5.out.set_ 3 (.int .i64 (wrap64 (kd + 1)))
      rw [fr_set.2.2] at h
      rw [← hW6]; exact h)
    have HE6 := Lib.hid (HE5.out.fr hF6 (by show ¬ _ = F; omega))
    have HG6 := Lib.hid (HG5.out.fr hF6 (by show ¬ _ = F; omega))
    have HT6 := Lib.hid (HT5.out.fr hF6 (fun h => Blk.ne_ HT5.out HB5.out (by decide) h))
    have HEA6 := Lib.hid (HEA5.out.fr hF6 (fun k t' cs hk ht' hg' => by
      have hg' : k = F := hg'
      subst hg'
      rcases ht' with rfl | rfl
      · exact Blk.ne_ hk HB5.out (by decide) rfl
      · exact Blk.ne_ hk HB5.out (by decide) rfl))
    have HF6 : Hid (Fr (At F) w V6) := Lib.hid ((HF5.out.mono (fun _ h => h.elim)).trans hF6)
    clear hF6 hW6 f3 z3 HB5 HE5 HG5 HT5 HEA5 HF5
    have hE := HE6.out
    have hG := HG6.out
    have x0 : V6.cell? ⟨w.heap.size + 1, 0, none⟩ = some (.int .i64 KK) := by rw [hE.cell]; rfl
    have x1 : V6.cell? ⟨w.heap.size + 1, 1, none⟩ = some (.int .i64 0) := by rw [hE.cell]; rfl
    have x2 : V6.cell? ⟨w.heap.size + 1, 2, none⟩ = some (.int .i64 R) := by rw [hE.cell]; rfl
    have x3 : V6.cell? ⟨w.heap.size + 1, 3, none⟩ = some (.int .i64 (cc : Int)) := by rw [hE.cell]; rfl
    have x4 : V6.cell? ⟨w.heap.size + 1, 4, none⟩ = some (.int .i64 H) := by rw [hE.cell]; rfl
    have x5 : V6.cell? ⟨w.heap.size + 1, 5, none⟩ = some (.int .i64 0) := by rw [hE.cell]; rfl
    have x6 : V6.cell? ⟨w.heap.size + 1, 6, none⟩ = some (.slice Aa ar ca) := by rw [hE.cell]; rfl
    have x7 : V6.cell? ⟨w.heap.size + 1, 7, none⟩ = some (.slice Ap (path.length + 1) cp) := by rw [hE.cell]; rfl
    have e0 : V6.cell? ⟨(w.heap.size + 1 + 1), 0, none⟩ = some (.int .i64 0) := by rw [hG.cell]; rfl
    have y0 : V6.frozen? ⟨(w.heap.size + 1 + 1), 0, none⟩ = false := hG.frozen _
    have e1 : V6.cell? ⟨(w.heap.size + 1 + 1), 1, none⟩ = some (.int .i64 0) := by rw [hG.cell]; rfl
    have y1 : V6.frozen? ⟨(w.heap.size + 1 + 1), 1, none⟩ = false := hG.frozen _
    have e2 : V6.cell? ⟨(w.heap.size + 1 + 1), 2, none⟩ = some (.int .i64 0) := by rw [hG.cell]; rfl
    have y2 : V6.frozen? ⟨(w.heap.size + 1 + 1), 2, none⟩ = false := hG.frozen _
    have e3 : V6.cell? ⟨(w.heap.size + 1 + 1), 3, none⟩ = some (.int .i64 0) := by rw [hG.cell]; rfl
    have y3 : V6.frozen? ⟨(w.heap.size + 1 + 1), 3, none⟩ = false := hG.frozen _
    have e4 : V6.cell? ⟨(w.heap.size + 1 + 1), 4, none⟩ = some (.int .i64 0) := by rw [hG.cell]; rfl
    have y4 : V6.frozen? ⟨(w.heap.size + 1 + 1), 4, none⟩ = false := hG.frozen _
    have e5 : V6.cell? ⟨(w.heap.size + 1 + 1), 5, none⟩ = some (.int .i64 0) := by rw [hG.cell]; rfl
    have y5 : V6.frozen? ⟨(w.heap.size + 1 + 1), 5, none⟩ = false := hG.frozen _
    have e6 : V6.cell? ⟨(w.heap.size + 1 + 1), 6, none⟩ = some (nilS) := by rw [hG.cell]; rfl
    have y6 : V6.frozen? ⟨(w.heap.size + 1 + 1), 6, none⟩ = false := hG.frozen _
    have e7 : V6.cell? ⟨(w.heap.size + 1 + 1), 7, none⟩ = some (nilS) := by rw [hG.cell]; rfl
    have y7 : V6.frozen? ⟨(w.heap.size + 1 + 1), 7, none⟩ = false := hG.frozen _
    clear hE hG
    go_wp2_with fail
    refine bodyPost_ret (results_cell_row rfl _ _ (w.heap.size + 1 + 1) 36 (efC KK 0 R cc H 0 (.slice Aa ar ca) (.slice Ap (path.length + 1) cp)) (0, 0) _ rfl (ef_stored (HG6.out) _ _ _ _ _ _ _ _) Tryd.underlying36 rfl (by kernel_rfl)) rfl ?_
    refine ⟨_, _, rfl, HEA6.out.fr (ef_frame (Fr.refl (At (w.heap.size + 1 + 1)) _) (.inl rfl) _ _ _ _ _ _ _ _) (fun k t' cs hk ht' hg' => ?_), HT6.out.fr (ef_frame (Fr.refl (At (w.heap.size + 1 + 1)) _) (.inl rfl) _ _ _ _ _ _ _ _) (by show ¬ t = _; omega), HB6.out.fr (ef_frame (Fr.refl (At (w.heap.size + 1 + 1)) _) (.inl rfl) _ _ _ _ _ _ _ _) (by show ¬ F = _; omega), (ef_frame HF6.out (.inr (by omega)) _ _ _ _ _ _ _ _).mono (fun k h => .inr h)⟩
    have hg' : k = w.heap.size + 1 + 1 := hg'
    subst hg'
    rcases ht' with rfl | rfl
    · exact Blk.ne_ hk HG6.out (by decide) rfl
    · exact Blk.ne_ hk HG6.out (by decide) rfl
  · go_simp
    have HSA : (fun w' : World => w'.cell? ⟨F, 4, none⟩ = some (.slice P path.length pc) ∧ w'.cell? ⟨F, 3, none⟩ = some (.int .i64 kd)) (V3.alloc (.cells #[.int .i64 kd] 3)) := ⟨((Fr.refl None' V3).alloc _).held HS.1 (fun h => h), ((Fr.refl None' V3).alloc _).held HS.2 (fun h => h)⟩
    refine hK.out _ _ (fun _ => HSA) ?_
    clear hK K HS
    have HS := HSA
    clear HSA
    refine AnyK.one (i := 4) rfl (by kernel_rfl) (fun K hK => ?_)
    go_simp
    refine (fclip_any _ P path.length pc hpc (by omega)).mono ?_
    rintro e w' ⟨rfl, hw⟩
    have hw := hw.symm
    subst hw
    refine hK.out _ _ (fun _ => HS) ?_
    clear hK K
    refine AnyK.one (i := 10) rfl (by kernel_rfl) (fun K hK => ?_)
    refine step_append_grows (by rfl) _ _ _ (by rfl) 3 i0 _ 1 8 Tryd.underlying23 hi0 hz0 hz1 hz2 rfl (by omega) P path.length path.length (ints path) (by rfl) HNO.out (by simp [ints]) HOLD.out ⟨V3.heap.size, 0, none⟩ 1 1 [.int .i64 kd] (by rfl) (by rfl) (World.news_of_block (cs := #[.int .i64 kd]) (t := 3) (fr := (0, 0)) (heap_alloc_new V3 _)) (by simp [Value.oneCell']) (by omega) (by unfold maxLen; omega) (by omega) ?_
    intro v4 w4 hown4 hg4
    have hFa : Fr None' (V3.alloc (.cells #[.int .i64 kd] 3)) w4 := (Fr.grown hg4).mono (fun _ h => by cases h)
    have hF34 : Fr None' V3 w4 := ((Fr.refl None' V3).alloc _).trans hFa
    obtain ⟨Ap, cp, rfl⟩ := own_slice hown4
    have HO4 : Hid (w4.ownsRow base 3 1 (.slice Ap (path.length + 1) cp) (path.length + 1) (ints (path ++ [kd]))) := Lib.hid (by
      have h := own_down (base' := base) hown4 (by have := hle3; simp; omega)
      rw [show ints (path ++ [kd]) = ints path ++ [.int .i64 kd] by simp [ints]]
      exact h)
    have HS : (fun w' : World => w'.cell? ⟨F, 4, none⟩ = some (.slice P path.length pc) ∧ w'.cell? ⟨F, 3, none⟩ = some (.int .i64 kd)) w4 := ⟨hFa.held HS.1 (fun h => h), hFa.held HS.2 (fun h => h)⟩
    have HE4 := Lib.hid (HE3.out.fr hF34 (fun h => h))
    have HG4 := Lib.hid (HG3.out.fr hF34 (fun h => h))
    have HT4 := Lib.hid (HT3.out.fr hF34 (fun h => h))
    have HB4 := Lib.hid (HB3.out.fr hF34 (fun h => h))
    have HA4 := Lib.hid (own_fr HA3.out hF34 (fun _ _ h => h))
    have HF4 := Lib.hid (HF3.out.trans hF34)
    clear hown4 hg4 hFa hF34 HE3 HG3 HT3 HB3 HA3 HF3 HOLD HNO hle3
    refine hK.out _ _ (fun _ => HS) ?_
    clear hK K
    refine AnyK.one (i := 11) rfl (by kernel_rfl) (fun K hK => ?_)
    go_simp
    refine hK.out _ _ (fun _ => HS) ?_
    clear hK K
    have x7 : w4.cell? ⟨w.heap.size + 1, 7, none⟩ = some nilS := by rw [HE4.out.cell]; rfl
    have z7 : w4.frozen? ⟨w.heap.size + 1, 7, none⟩ = false := HE4.out.frozen _
    refine AnyK.one (i := 12) rfl (by kernel_rfl) (fun K hK => ?_)
    go_simp
    generalize hW5 : w4.setCell ⟨w.heap.size + 1, 7, none⟩ _ = V5
    have hF5 : Fr (At (w.heap.size + 1)) w4 V5 := by rw [← hW5]; exact (Fr.refl (At (w.heap.size + 1)) w4).setCell (p := ⟨w.heap.size + 1, 7, none⟩) (.inl rfl) _
    have hE5 : Blk V5 (w.heap.size + 1) 36 #[.int .i64 KK, .int .i64 0, .int .i64 R, .int .i64 (cc : Int), .int .i64 H, .int .i64 0, .slice Aa ar ca, .slice Ap (path.length + 1) cp] := by rw [← hW5]; exact HE4.out.set_ 7 _
    have HT5 := Lib.hid (HT4.out.fr hF5 (by show ¬ t = _; omega))
    have HB5 := Lib.hid (HB4.out.fr hF5 (by show ¬ F = _; omega))
    have HG5 := Lib.hid (HG4.out.fr hF5 (by show ¬ _ = _; omega))
    have HE5 := Lib.hid hE5
    have hnt : ∀ k t' cs, Blk w4 k t' cs → (t' = 2 ∨ t' = 3) → ¬ At (w.heap.size + 1) k := fun k t' cs hk ht' hg' => by
      have hg' : k = w.heap.size + 1 := hg'
      subst hg'
      rcases ht' with rfl | rfl
      · exact Blk.ne_ hk HE4.out (by decide) rfl
      · exact Blk.ne_ hk HE4.out (by decide) rfl
    have hEA4 : EfAt w4 base ⟨KK, 0, R, cc, H, 0, ((regs.drop b).take ar), path ++ [kd]⟩ (.slice Aa ar ca) (.slice Ap (path.length + 1) cp) := ⟨by show w4.ownsRow base _ 1 _ ((regs.drop b).take ar).length _; rw [hal]; exact HA4.out, by show w4.ownsRow base _ 1 _ (path ++ [kd]).length _; rw [show (path ++ [kd]).length = path.length + 1 by simp]; exact HO4.out⟩
    have HEA5 := Lib.hid (hEA4.fr hF5 hnt)
    have HF5 : Hid (Fr None' w V5) := Lib.hid (HF4.out.then hF5 (fun i hi => .inr (by have hi : i = w.heap.size + 1 := hi; omega)))
    have HS : (fun w' : World => w'.cell? ⟨F, 4, none⟩ = some (.slice P path.length pc) ∧ w'.cell? ⟨F, 3, none⟩ = some (.int .i64 kd)) V5 := ⟨hF5.held HS.1 (by show ¬ F = _; omega), hF5.held HS.2 (by show ¬ F = _; omega)⟩
    clear hF5 hE5 hnt hEA4 hW5 x7 z7 HE4 HG4 HT4 HB4 HA4 HF4 HO4
    refine hK.out _ _ (fun _ => HS) ?_
    clear hK K HS
    refine AnyK.done (by kernel_rfl) ?_ _
    have f3 : V5.cell? ⟨F, 3, none⟩ = some (.int .i64 kd) := by rw [HB5.out.cell]; rfl
    have z3 : V5.frozen? ⟨F, 3, none⟩ = false := HB5.out.frozen _
    go_upto_region 8 with (fail)
    generalize hW6 : V5.setCell ⟨F, 3, none⟩ _ = V6
    have hF6 : Fr (At F) V5 V6 := by rw [← hW6]; exact (Fr.refl (At F) V5).setCell (p := ⟨F, 3, none⟩) (.inl rfl) _
    have HB6 : Hid (Blk V6 F 95 (frL fn at0 st (wrap64 (kd + 1)) (.slice P path.length pc) regs0 hands).toArray) := Lib.hid (by
      have h := HB5.out.set_ 3 (.int .i64 (wrap64 (kd + 1)))
      rw [fr_set.2.2] at h
      rw [← hW6]; exact h)
    have HE6 := Lib.hid (HE5.out.fr hF6 (by show ¬ _ = F; omega))
    have HG6 := Lib.hid (HG5.out.fr hF6 (by show ¬ _ = F; omega))
    have HT6 := Lib.hid (HT5.out.fr hF6 (fun h => Blk.ne_ HT5.out HB5.out (by decide) h))
    have HEA6 := Lib.hid (HEA5.out.fr hF6 (fun k t' cs hk ht' hg' => by
      have hg' : k = F := hg'
      subst hg'
      rcases ht' with rfl | rfl
      · exact Blk.ne_ hk HB5.out (by decide) rfl
      · exact Blk.ne_ hk HB5.out (by decide) rfl))
    have HF6 : Hid (Fr (At F) w V6) := Lib.hid ((HF5.out.mono (fun _ h => h.elim)).trans hF6)
    clear hF6 hW6 f3 z3 HB5 HE5 HG5 HT5 HEA5 HF5
    have hE := HE6.out
    have hG := HG6.out
    have x0 : V6.cell? ⟨w.heap.size + 1, 0, none⟩ = some (.int .i64 KK) := by rw [hE.cell]; rfl
    have x1 : V6.cell? ⟨w.heap.size + 1, 1, none⟩ = some (.int .i64 0) := by rw [hE.cell]; rfl
    have x2 : V6.cell? ⟨w.heap.size + 1, 2, none⟩ = some (.int .i64 R) := by rw [hE.cell]; rfl
    have x3 : V6.cell? ⟨w.heap.size + 1, 3, none⟩ = some (.int .i64 (cc : Int)) := by rw [hE.cell]; rfl
    have x4 : V6.cell? ⟨w.heap.size + 1, 4, none⟩ = some (.int .i64 H) := by rw [hE.cell]; rfl
    have x5 : V6.cell? ⟨w.heap.size + 1, 5, none⟩ = some (.int .i64 0) := by rw [hE.cell]; rfl
    have x6 : V6.cell? ⟨w.heap.size + 1, 6, none⟩ = some (.slice Aa ar ca) := by rw [hE.cell]; rfl
    have x7 : V6.cell? ⟨w.heap.size + 1, 7, none⟩ = some (.slice Ap (path.length + 1) cp) := by rw [hE.cell]; rfl
    have e0 : V6.cell? ⟨(w.heap.size + 1 + 1), 0, none⟩ = some (.int .i64 0) := by rw [hG.cell]; rfl
    have y0 : V6.frozen? ⟨(w.heap.size + 1 + 1), 0, none⟩ = false := hG.frozen _
    have e1 : V6.cell? ⟨(w.heap.size + 1 + 1), 1, none⟩ = some (.int .i64 0) := by rw [hG.cell]; rfl
    have y1 : V6.frozen? ⟨(w.heap.size + 1 + 1), 1, none⟩ = false := hG.frozen _
    have e2 : V6.cell? ⟨(w.heap.size + 1 + 1), 2, none⟩ = some (.int .i64 0) := by rw [hG.cell]; rfl
    have y2 : V6.frozen? ⟨(w.heap.size + 1 + 1), 2, none⟩ = false := hG.frozen _
    have e3 : V6.cell? ⟨(w.heap.size + 1 + 1), 3, none⟩ = some (.int .i64 0) := by rw [hG.cell]; rfl
    have y3 : V6.frozen? ⟨(w.heap.size + 1 + 1), 3, none⟩ = false := hG.frozen _
    have e4 : V6.cell? ⟨(w.heap.size + 1 + 1), 4, none⟩ = some (.int .i64 0) := by rw [hG.cell]; rfl
    have y4 : V6.frozen? ⟨(w.heap.size + 1 + 1), 4, none⟩ = false := hG.frozen _
    have e5 : V6.cell? ⟨(w.heap.size + 1 + 1), 5, none⟩ = some (.int .i64 0) := by rw [hG.cell]; rfl
    have y5 : V6.frozen? ⟨(w.heap.size + 1 + 1), 5, none⟩ = false := hG.frozen _
    have e6 : V6.cell? ⟨(w.heap.size + 1 + 1), 6, none⟩ = some (nilS) := by rw [hG.cell]; rfl
    have y6 : V6.frozen? ⟨(w.heap.size + 1 + 1), 6, none⟩ = false := hG.frozen _
    have e7 : V6.cell? ⟨(w.heap.size + 1 + 1), 7, none⟩ = some (nilS) := by rw [hG.cell]; rfl
    have y7 : V6.frozen? ⟨(w.heap.size + 1 + 1), 7, none⟩ = false := hG.frozen _
    clear hE hG
    go_wp2_with fail
    refine bodyPost_ret (results_cell_row rfl _ _ (w.heap.size + 1 + 1) 36 (efC KK 0 R cc H 0 (.slice Aa ar ca) (.slice Ap (path.length + 1) cp)) (0, 0) _ rfl (ef_stored (HG6.out) _ _ _ _ _ _ _ _) Tryd.underlying36 rfl (by kernel_rfl)) rfl ?_
    refine ⟨_, _, rfl, HEA6.out.fr (ef_frame (Fr.refl (At (w.heap.size + 1 + 1)) _) (.inl rfl) _ _ _ _ _ _ _ _) (fun k t' cs hk ht' hg' => ?_), HT6.out.fr (ef_frame (Fr.refl (At (w.heap.size + 1 + 1)) _) (.inl rfl) _ _ _ _ _ _ _ _) (by show ¬ t = _; omega), HB6.out.fr (ef_frame (Fr.refl (At (w.heap.size + 1 + 1)) _) (.inl rfl) _ _ _ _ _ _ _ _) (by show ¬ F = _; omega), (ef_frame HF6.out (.inr (by omega)) _ _ _ _ _ _ _ _).mono (fun k h => .inr h)⟩
    have hg' : k = w.heap.size + 1 + 1 := hg'
    subst hg'
    rcases ht' with rfl | rfl
    · exact Blk.ne_ hk HG6.out (by decide) rfl
    · exact Blk.ne_ hk HG6.out (by decide) rfl
end Go.Proofs.YtadcenaafoemmaaDoor
