/-
  The statement PoolKeeps holds: no block is taken twice, or lost. No condition.
-/
import Derived.Test.YtichhieopnbgpaaP25
import Derived.Test.YtichhieopnbgpaaPa
import Derived.Test.YtichhieopnbgpaaRows
import Derived.Laws.Rows
import Derived.ProofKit
import Derived.OpenShut
import Derived.ShutString
import Derived.ChangeOld
namespace Go.Proofs.Ytichhieopnbgpaa.poolKeeps
open Go.ChangeShapes Go.WideShapes Go.ChangeAt Go.RowKit
open Go.ChangeMaps (open_string shut_string)

theorem make_more (M : Nat) (hM : M ≤ 50) (W : World) : (Instr.makeSlice 61 (.int .i64 ((M : Int) + 1)) (.int .i64 ((M : Int) + 1))).run Try.prog W = .ok (.slice (some ⟨W.heap.size, 0, none⟩) (M + 1) (M + 1)) (W.alloc (.cells (bc (List.replicate (M + 1) false)).toArray 4)) := by
  have := make_flags (M + 1) (by omega) W
  rwa [show ((M + 1 : Nat) : Int) = (M : Int) + 1 by omega] at this

set_option maxHeartbeats 8000000 in
set_option maxRecDepth 100000 in
theorem few (n : Int) (h0 : 0 ≤ n) (h1 : n < 4294967296) (a : Option Addr) (len cap : Nat) (hl : len ≤ 100) (f : Nat → Int × Int × Int) (w : World) (hA : IsActs w a len f) :
    Calls Try.prog 6 #[.int .u32 n, .slice a len cap] w fun e w' => e = .returned (.bool true) ∧ Fr F0 w w' := by
  have g1 : decide (100 < (len : Int)) = false := decide_eq_false (by omega)
  have HSM := Lib.hid (small_any w n h0 h1)
  have HA := Lib.hid hA
  clear hA h0 h1
  go_enter Try.func6, Try.ntmps6
  go_wp2_with fail
  refine HSM.out.mono ?_
  rintro e w1 ⟨S, rfl, hS, hk, hs0, hs1, hs2, hm0, hm1, hm2, hF1⟩
  simp only [ShI.cells, Shp.i]
  have HSK := Lib.hid (small_facts hk hs0 hs1 hs2 hm0 hm1 hm2)
  have HS := Lib.hid hS
  have HF1 := Lib.hid hF1
  obtain ⟨MX, hMX⟩ : ∃ MX, MX = S.words := ⟨_, rfl⟩
  have hMX2 : MX ≤ 200 := by rw [hMX]; exact HSK.out.w
  have HMX := Lib.hid hMX
  have HDW : Hid (∀ w, Calls Try.prog 11 #[.agg #[.int .i64 (S.k : Int), .int .i64 (S.s0 : Int), .int .i64 (S.s1 : Int), .int .i64 (S.s2 : Int), .int .i64 (S.m0 : Int), .int .i64 (S.m1 : Int), .int .i64 (S.m2 : Int)]] w fun e w' => e = .returned (.int .i64 (MX : Int)) ∧ Fr F0 w w') := Lib.hid (fun w => by rw [hMX]; exact dwords_ok w S hS)
  clear hF1 HSM hS hk hs0 hs1 hs2 hm0 hm1 hm2 hMX
  go_wp2_with fail
  generalize hW : (w1.alloc (Obj.cells #[.int .i64 (S.k : Int), .int .i64 (S.s0 : Int), .int .i64 (S.s1 : Int), .int .i64 (S.s2 : Int), .int .i64 (S.m0 : Int), .int .i64 (S.m1 : Int), .int .i64 (S.m2 : Int)] 26)) = w2
  have HB : Hid (Blk w2 w1.heap.size 26 #[.int .i64 (S.k : Int), .int .i64 (S.s0 : Int), .int .i64 (S.s1 : Int), .int .i64 (S.s2 : Int), .int .i64 (S.m0 : Int), .int .i64 (S.m1 : Int), .int .i64 (S.m2 : Int)]) := Lib.hid (by rw [← hW]; exact Blk.new _ _ _)
  have hF2' : Fr F0 w1 w2 := by rw [← hW]; exact (Fr.refl _ _).alloc _
  have HF2 := Lib.hid (HF1.out.trans hF2')
  clear hW hF2' HF1
  go_wp2_with (refine wpList_load_row rfl 26 _ rfl w1.heap.size rfl 26 #[.int .i64 (S.k : Int), .int .i64 (S.s0 : Int), .int .i64 (S.s1 : Int), .int .i64 (S.s2 : Int), .int .i64 (S.m0 : Int), .int .i64 (S.m1 : Int), .int .i64 (S.m2 : Int)] (0, 0) _ HB.out Try.underlying26 rfl (by show _ = some 7; kernel_rfl) ?_)
  refine (HDW.out w2).mono ?_
  rintro e w3 ⟨rfl, hF3⟩
  have HF3 := Lib.hid (HF2.out.trans hF3)
  have HB3 := Lib.hid (HB.out.fr hF3 (fun h => h))
  have HSZ : Hid (w.heap.size ≤ w3.heap.size) := HF3.out.size
  have HSZ1 : Hid (w1.heap.size < w3.heap.size) := HB3.out.lt
  have HM := Lib.hid (new_yes (MX) (by omega) w3)
  clear hF3 HF2 HB
  go_wp2_with fail
  refine HM.out.mono ?_
  rintro e w4 ⟨rfl, hM4, hF4⟩
  have HF4 := Lib.hid (HF3.out.trans hF4)
  have HB4 := Lib.hid (HB3.out.fr hF4 (fun h => h))
  have HM4 := Lib.hid hM4
  clear hF4 hM4 HF3 HB3 HM
  go_wp2_with (refine wpList_load_row rfl 26 _ rfl w1.heap.size rfl 26 #[.int .i64 (S.k : Int), .int .i64 (S.s0 : Int), .int .i64 (S.s1 : Int), .int .i64 (S.s2 : Int), .int .i64 (S.m0 : Int), .int .i64 (S.m1 : Int), .int .i64 (S.m2 : Int)] (0, 0) _ HB4.out Try.underlying26 rfl (by show _ = some 7; kernel_rfl) ?_)
  have HOF : Hid (∀ w, Calls Try.prog 13 #[.agg #[.int .i64 (S.k : Int), .int .i64 (S.s0 : Int), .int .i64 (S.s1 : Int), .int .i64 (S.s2 : Int), .int .i64 (S.m0 : Int), .int .i64 (S.m1 : Int), .int .i64 (S.m2 : Int)]] w fun e w' => e = .returned (.agg #[.int .i64 (S.k : Int), .int .i64 (S.s0 : Int), .int .i64 (S.s1 : Int), .int .i64 (S.s2 : Int), .int .i64 (S.m0 : Int), .int .i64 (S.m1 : Int), .int .i64 (S.m2 : Int)]) ∧ Fr F0 w w') := Lib.hid (fun w => of_any w S.i)
  refine (HOF.out w4).mono ?_
  rintro e w5 ⟨rfl, hF5⟩
  have HF5 := Lib.hid (HF4.out.trans hF5)
  have HB5 := Lib.hid (HB4.out.fr hF5 (fun h => h))
  have HM5 := Lib.hid (HM4.out.fr hF5 (fun h => h) (fun h => h))
  have HNP : Hid (Calls Try.prog 12 #[.pointer (some ⟨w3.heap.size + 1, 0, none⟩), .int .i64 0, .agg #[.int .i64 (S.k : Int), .int .i64 (S.s0 : Int), .int .i64 (S.s1 : Int), .int .i64 (S.s2 : Int), .int .i64 (S.m0 : Int), .int .i64 (S.m1 : Int), .int .i64 (S.m2 : Int)]] w5 fun e w' => ∃ P, e = .returned (.tuple #[.pointer (some ⟨P, 0, none⟩), .int .i64 0]) ∧ Pl w (fun k => k = w1.heap.size) w' P (w3.heap.size + 1) S 0 0 (initSt S (List.replicate (MX) (false, 0))) ∧ Fr F0 w5 w') :=
    Lib.hid (new_plg (fun k => k = w1.heap.size) w w5 HF5.out S HS.out (by have := HSK.out.n; omega) 0 (w3.heap.size + 1) w3.heap.size (by decide) _ 0 HM5.out (by have := HSZ.out; omega) (HSZ.out) (by simp; omega) (by rw [List.length_replicate, HMX.out]; omega) (fun j hj => free_at (by rw [HMX.out]; omega)) (fun _ e => by subst e; exact ⟨HB5.out.lt, by have := HSZ1.out; omega, by have := HSZ1.out; omega⟩))
  have hk4 := HSK.out.k
  have hm4 := HSK.out.m0
  have hm5 := HSK.out.m1
  have hm6 := HSK.out.m2
  obtain ⟨M, hM⟩ : ∃ M, M = S.many := ⟨_, rfl⟩
  have hM50 : M ≤ 50 := by rw [hM]; exact HSK.out.n
  have hmul := HSK.out.eq
  rw [← hM] at hmul
  have HMK := Lib.hid (make_more M hM50)
  have HMM := Lib.hid hM
  clear hF5 HOF HF4 HB4 HM4 HM5 HDW hM
  go_wp2_with fail
  refine HNP.out.mono ?_
  rintro e w6 ⟨P, rfl, hP6, hF6⟩
  have HB6 := Lib.hid (HB5.out.fr hF6 (fun h => h))
  have HF6 := Lib.hid (HF5.out.trans hF6)
  have hmk6 := HMK.out w6
  obtain ⟨w7, hw7⟩ : ∃ w7, w7 = w6.alloc (.cells (bc (List.replicate (M + 1) false)).toArray 4) := ⟨_, rfl⟩
  rw [← hw7] at hmk6
  have hF67 : Fr F0 w6 w7 := by rw [hw7]; exact (Fr.refl _ _).alloc _
  obtain ⟨g, hg⟩ : ∃ g, g = w6.heap.size := ⟨_, rfl⟩
  have HG7 : Hid (Blk w7 g 4 (bc (List.replicate (M + 1) false)).toArray) := Lib.hid (by rw [hw7, hg]; exact Blk.new _ _ _)
  have HP7 := Lib.hid (hP6.guard (g := g) (by omega) hF67 HG7.out.lt)
  have HF7 := Lib.hid (HF6.out.trans hF67)
  have HB7 := Lib.hid (HB6.out.fr hF67 (fun h => h))
  have HGW : Hid (w.heap.size ≤ g) := Lib.hid (by rw [hg]; exact HF6.out.size)
  rw [← hg] at hmk6
  have HSZG : Hid (w1.heap.size < g) := Lib.hid (by rw [hg]; exact HB6.out.lt)
  have c0 : w6.cell? ⟨w1.heap.size, 0, none⟩ = some (.int .i64 (S.k : Int)) := by rw [HB6.out.cell]; rfl
  have c4 : w6.cell? ⟨w1.heap.size, 4, none⟩ = some (.int .i64 (S.m0 : Int)) := by rw [HB6.out.cell]; rfl
  have c5 : w6.cell? ⟨w1.heap.size, 5, none⟩ = some (.int .i64 (S.m1 : Int)) := by rw [HB6.out.cell]; rfl
  have c6 : w6.cell? ⟨w1.heap.size, 6, none⟩ = some (.int .i64 (S.m2 : Int)) := by rw [HB6.out.cell]; rfl
  clear hP6 hF6 hF67 hw7 hg HNP HMK HF5 HB5 HF6
  go_wp2_with fail
  clear hmk6 c0 c4 c5 c6
  go_loopw [12] (fun iv wx => ∃ (j : Nat) (σ : St), j ≤ len ∧ iv = .int .i64 (j : Int) ∧ Hid (Pl w (fun k => k = w1.heap.size ∨ k = g) wx P (w3.heap.size + 1) S 0 0 σ) ∧ Hid (Blk wx g 4 (bc σ.tk).toArray) ∧ Hid (Blk wx w1.heap.size 26 #[.int .i64 (S.k : Int), .int .i64 (S.s0 : Int), .int .i64 (S.s1 : Int), .int .i64 (S.s2 : Int), .int .i64 (S.m0 : Int), .int .i64 (S.m1 : Int), .int .i64 (S.m2 : Int)]) ∧ Hid (Fr F0 w wx)) (fun iv _ => len - (intOf iv).toNat)
  case atStart => exact ⟨0, _, by omega, rfl, HP7, by rw [HMM.out] at HG7; exact HG7, HB7, HF7⟩
  case round =>
    obtain ⟨j, σ, hj, rfl, HP, HG, HB, HF⟩ := hrel
    by_cases hjl : j < len
    · have g2 : (j : Int) < (len : Int) := by omega
      obtain ⟨b, off, rfl, ca0, ca1, ca2, hf0, hf1, hf2⟩ := HA.out.2 j hjl
      have d0 := HF.out.held ca0 (fun h => h)
      have d1 := HF.out.held ca1 (fun h => h)
      have d2 := HF.out.held ca2 (fun h => h)
      clear ca0 ca1 ca2
      obtain ⟨x0, hx0⟩ : ∃ x, x = (f j).1 := ⟨_, rfl⟩
      obtain ⟨x1, hx1⟩ : ∃ x, x = (f j).2.1 := ⟨_, rfl⟩
      obtain ⟨x2, hx2⟩ : ∃ x, x = (f j).2.2 := ⟨_, rfl⟩
      rw [← hx0] at d0
      rw [← hx1] at d1 hf1
      rw [← hx2] at d2 hf2
      have HX2 : Hid (x2 ≤ 9223372036854775807) := hf2.2
      clear hx0 hx1 hx2 hf0 hf1 hf2
      obtain ⟨wA, hwA⟩ : ∃ wA, wA = wr.alloc (.cells #[.int .i64 x0, .int .i64 x1, .int .i64 x2] 41) := ⟨_, rfl⟩
      have hFA : Fr F0 wr wA := by rw [hwA]; exact (Fr.refl _ _).alloc _
      have HXA : Hid (Blk wA wr.heap.size 41 #[.int .i64 x0, .int .i64 x1, .int .i64 x2]) := Lib.hid (by rw [hwA]; exact Blk.new _ _ _)
      have HPA := Lib.hid (HP.out.guard (g := wr.heap.size) (Nat.le_refl _) hFA HXA.out.lt)
      have HGA := Lib.hid (HG.out.fr hFA (fun h => h))
      have HBA := Lib.hid (HB.out.fr hFA (fun h => h))
      have HFA := Lib.hid (HF.out.trans hFA)
      clear hFA
      obtain ⟨t0, ht0⟩ : ∃ t, ((wrap64 (x0.tmod 3 + 3)).tmod 3 == 0) = t := ⟨_, rfl⟩
      cases t0 with
      | true =>
        have HT := Lib.hid (take_pl HPA.out x1 x2)
        rcases takeP_cases HPA.out.inv x1 x2 with ⟨e, he, hr⟩ | ⟨n, σ', a', z', o', d', hr, hn1, hn2, htk, htk', -, -, -, -⟩
        · rw [hr] at HT
          have he2 : ((e : Int) == 0) = false := beq_eq_false_iff_ne.2 (by omega)
          have he3 : decide ((e : Int) = 0) = false := decide_eq_false (by omega)
          clear hr
          go_wp2_with fail
          rw [← hwA]
          refine HT.out.mono ?_
          rintro e' wd ⟨rfl, hPd, hFd⟩
          have HGd := Lib.hid (FrG.blk HGA.out hFd (.inl (.inr rfl)))
          have HBd := Lib.hid (FrG.blk HBA.out hFd (.inl (.inl rfl)))
          have HFd := Lib.hid (HFA.out.g hFd)
          have HPd := Lib.hid (hPd.less (fun k hk => .inl hk))
          clear hFd hPd HT
          go_wp2_with fail
          exact ⟨⟨j + 1, σ, by omega, by go_num, HPd, HGd, HBd, HFd⟩, by simp [intOf]; omega⟩
        · rw [hr] at HT
          rw [← HMM.out] at hn2
          have hnM : n < M + 1 := by omega
          have hnM2 : (n : Int) ≤ (M : Int) := by omega
          have hn1' : (1 : Int) ≤ (n : Int) := by omega
          have HTK := Lib.hid htk
          have HTK' := Lib.hid htk'
          clear hr htk htk'
          go_wp2_with fail
          rw [← hwA]
          refine HT.out.mono ?_
          rintro e' wd ⟨rfl, hPd, hFd⟩
          have HGd := Lib.hid (FrG.blk HGA.out hFd (.inl (.inr rfl)))
          have HBd := Lib.hid (FrG.blk HBA.out hFd (.inl (.inl rfl)))
          have HFd := Lib.hid (HFA.out.g hFd)
          have HPd := Lib.hid (hPd.less (fun k hk => .inl hk))
          have hcn := bc_cell HGd.out HTK.out
          have hfn := HGd.out.frozen n
          have hfs : Fr (fun q => q = g) wd (wd.setCell ⟨g, n, none⟩ (.bool true)) := (Fr.refl (fun q => q = g) wd).setCell (p := ⟨g, n, none⟩) (.inl rfl) _
          have HGe := Lib.hid (HGd.out.set_ n (.bool true))
          rw [bc_set, ← HTK'.out] at HGe
          have HBe := Lib.hid (HBd.out.fr hfs (fun e => by have := HSZG.out; omega))
          have HPe := Lib.hid (HPd.out.fr hfs (fun _ e => .inr e))
          have HFe := Lib.hid (HFd.out.g2 hfs (fun q e => by rw [e]; exact HGW.out))
          clear hFd hPd HT hfs
          go_wp2_with fail
          exact ⟨⟨j + 1, σ', by omega, by go_num, HPe, HGe, HBe, HFe⟩, by simp [intOf]; omega⟩
      | false =>
        have c0 : wA.cell? ⟨w1.heap.size, 0, none⟩ = some (.int .i64 (S.k : Int)) := by rw [HBA.out.cell]; rfl
        rw [hwA] at c0
        by_cases q1 : 1 ≤ x2
        · by_cases q2 : x2 ≤ (M : Int)
          · by_cases q3 : 0 ≤ x1
            · by_cases q4 : x1 < (S.k : Int)
              · obtain ⟨m, rfl⟩ : ∃ m : Nat, x2 = m := ⟨x2.toNat, by omega⟩
                obtain ⟨i, rfl⟩ : ∃ i : Nat, x1 = i := ⟨x1.toNat, by omega⟩
                have hi : i < S.k := by omega
                have hmM : m < M + 1 := by omega
                obtain ⟨ff, hff⟩ := of_lt (show m < σ.tk.length by rw [HP.out.inv.htl, ← HMM.out]; omega)
                have hcm := bc_cell HGA.out hff
                rw [hwA] at hcm
                cases ff with
                | true =>
                  obtain ⟨σ', hr, htk', _⟩ := giveP_taken HP.out.inv hi (by omega) (by rw [← HMM.out]; omega) hff
                  have HV := Lib.hid (give_pl HPA.out (i : Int) (m : Int) HX2.out)
                  rw [hr] at HV
                  have HTK' := Lib.hid htk'
                  have HFF := Lib.hid hff
                  clear hr htk' hff
                  go_wp2_with fail
                  rw [← hwA]
                  refine HV.out.mono ?_
                  rintro e' wb ⟨rfl, hPb, hFb⟩
                  have HXb := Lib.hid (FrG.blk HXA.out hFb (.inr rfl))
                  have HGb := Lib.hid (FrG.blk HGA.out hFb (.inl (.inr rfl)))
                  have HBb := Lib.hid (FrG.blk HBA.out hFb (.inl (.inl rfl)))
                  have HFb := Lib.hid (HFA.out.g hFb)
                  have hcn := bc_cell HGb.out HFF.out
                  have hfn := HGb.out.frozen m
                  have hfs : Fr (fun q => q = g) wb (wb.setCell ⟨g, m, none⟩ (.bool false)) := (Fr.refl (fun q => q = g) wb).setCell (p := ⟨g, m, none⟩) (.inl rfl) _
                  have HGe := Lib.hid (HGb.out.set_ m (.bool false))
                  rw [bc_set, ← HTK'.out] at HGe
                  have HBe := Lib.hid (HBb.out.fr hfs (fun e => by have := HSZG.out; omega))
                  have HXe := Lib.hid (HXb.out.fr hfs (fun e => by have := HG.out.lt; omega))
                  have HPe := Lib.hid (hPb.fr hfs (fun _ e => .inl (.inr e)))
                  have HFe := Lib.hid (HFb.out.g2 hfs (fun q e => by rw [e]; exact HGW.out))
                  have k1 := HXb.out.cell 1
                  have k2 := HXb.out.cell 2
                  have k1' : wb.cell? ⟨wr.heap.size, 1, none⟩ = some (.int .i64 (i : Int)) := k1
                  have k2' : wb.cell? ⟨wr.heap.size, 2, none⟩ = some (.int .i64 (m : Int)) := k2
                  have l1 : (wb.setCell ⟨g, m, none⟩ (.bool false)).cell? ⟨wr.heap.size, 1, none⟩ = some (.int .i64 (i : Int)) := by rw [HXe.out.cell]; rfl
                  clear k1 k2 hFb hPb HV hfs hcm c0
                  obtain ⟨rd, hrd⟩ : ∃ rd, rd = drainP S σ' (i : Int) := ⟨_, rfl⟩
                  have HTK := Lib.hid (drainP_tk (S := S) (σ := σ') (i : Int)).1
                  have HD := Lib.hid (drain_pl HPe.out (i : Int))
                  rw [← hrd] at HD HTK
                  clear hrd
                  go_wp2_with fail
                  refine HD.out.mono ?_
                  rintro e wd ⟨rfl, hPd, hFd⟩
                  have HGd := Lib.hid (FrG.blk HGe.out hFd (.inl (.inr rfl)))
                  have HBd := Lib.hid (FrG.blk HBe.out hFd (.inl (.inl rfl)))
                  have HFd := Lib.hid (HFe.out.g hFd)
                  have HPd := Lib.hid (hPd.less (fun k hk => .inl hk))
                  rw [← HTK.out] at HGd
                  clear hFd hPd HD
                  go_wp2_with fail
                  exact ⟨⟨j + 1, rd.2, by omega, by go_num, HPd, HGd, HBd, HFd⟩, by simp [intOf]; omega⟩
                | false =>
                  have HNF := Lib.hid hff
                  clear hff
                  obtain ⟨rd, hrd⟩ : ∃ rd, rd = drainP S σ (i : Int) := ⟨_, rfl⟩
                  have HTK := Lib.hid (drainP_tk (S := S) (σ := σ) (i : Int)).1
                  have HD := Lib.hid (drain_pl HPA.out (i : Int))
                  rw [← hrd] at HD HTK
                  clear hrd
                  go_wp2_with fail
                  rw [← hwA]
                  refine HD.out.mono ?_
                  rintro e wd ⟨rfl, hPd, hFd⟩
                  have HGd := Lib.hid (FrG.blk HGA.out hFd (.inl (.inr rfl)))
                  have HBd := Lib.hid (FrG.blk HBA.out hFd (.inl (.inl rfl)))
                  have HFd := Lib.hid (HFA.out.g hFd)
                  have HPd := Lib.hid (hPd.less (fun k hk => .inl hk))
                  rw [← HTK.out] at HGd
                  clear hFd hPd HD
                  go_wp2_with fail
                  exact ⟨⟨j + 1, rd.2, by omega, by go_num, HPd, HGd, HBd, HFd⟩, by simp [intOf]; omega⟩
              · have q4' : decide (x1 < (S.k : Int)) = false := decide_eq_false q4
                obtain ⟨rd, hrd⟩ : ∃ rd, rd = drainP S σ x1 := ⟨_, rfl⟩
                have HTK := Lib.hid (drainP_tk (S := S) (σ := σ) x1).1
                have HD := Lib.hid (drain_pl HPA.out x1)
                rw [← hrd] at HD HTK
                clear hrd
                go_wp2_with fail
                rw [← hwA]
                refine HD.out.mono ?_
                rintro e wd ⟨rfl, hPd, hFd⟩
                have HGd := Lib.hid (FrG.blk HGA.out hFd (.inl (.inr rfl)))
                have HBd := Lib.hid (FrG.blk HBA.out hFd (.inl (.inl rfl)))
                have HFd := Lib.hid (HFA.out.g hFd)
                have HPd := Lib.hid (hPd.less (fun k hk => .inl hk))
                rw [← HTK.out] at HGd
                clear hFd hPd HD
                go_wp2_with fail
                exact ⟨⟨j + 1, rd.2, by omega, by go_num, HPd, HGd, HBd, HFd⟩, by simp [intOf]; omega⟩
            · have q3' : decide (0 ≤ x1) = false := decide_eq_false q3
              obtain ⟨rd, hrd⟩ : ∃ rd, rd = drainP S σ x1 := ⟨_, rfl⟩
              have HTK := Lib.hid (drainP_tk (S := S) (σ := σ) x1).1
              have HD := Lib.hid (drain_pl HPA.out x1)
              rw [← hrd] at HD HTK
              clear hrd
              go_wp2_with fail
              rw [← hwA]
              refine HD.out.mono ?_
              rintro e wd ⟨rfl, hPd, hFd⟩
              have HGd := Lib.hid (FrG.blk HGA.out hFd (.inl (.inr rfl)))
              have HBd := Lib.hid (FrG.blk HBA.out hFd (.inl (.inl rfl)))
              have HFd := Lib.hid (HFA.out.g hFd)
              have HPd := Lib.hid (hPd.less (fun k hk => .inl hk))
              rw [← HTK.out] at HGd
              clear hFd hPd HD
              go_wp2_with fail
              exact ⟨⟨j + 1, rd.2, by omega, by go_num, HPd, HGd, HBd, HFd⟩, by simp [intOf]; omega⟩
          · have q2' : decide (x2 ≤ (M : Int)) = false := decide_eq_false q2
            obtain ⟨rd, hrd⟩ : ∃ rd, rd = drainP S σ x1 := ⟨_, rfl⟩
            have HTK := Lib.hid (drainP_tk (S := S) (σ := σ) x1).1
            have HD := Lib.hid (drain_pl HPA.out x1)
            rw [← hrd] at HD HTK
            clear hrd
            go_wp2_with fail
            rw [← hwA]
            refine HD.out.mono ?_
            rintro e wd ⟨rfl, hPd, hFd⟩
            have HGd := Lib.hid (FrG.blk HGA.out hFd (.inl (.inr rfl)))
            have HBd := Lib.hid (FrG.blk HBA.out hFd (.inl (.inl rfl)))
            have HFd := Lib.hid (HFA.out.g hFd)
            have HPd := Lib.hid (hPd.less (fun k hk => .inl hk))
            rw [← HTK.out] at HGd
            clear hFd hPd HD
            go_wp2_with fail
            exact ⟨⟨j + 1, rd.2, by omega, by go_num, HPd, HGd, HBd, HFd⟩, by simp [intOf]; omega⟩
        · have q1' : decide (1 ≤ x2) = false := decide_eq_false q1
          obtain ⟨rd, hrd⟩ : ∃ rd, rd = drainP S σ x1 := ⟨_, rfl⟩
          have HTK := Lib.hid (drainP_tk (S := S) (σ := σ) x1).1
          have HD := Lib.hid (drain_pl HPA.out x1)
          rw [← hrd] at HD HTK
          clear hrd
          go_wp2_with fail
          rw [← hwA]
          refine HD.out.mono ?_
          rintro e wd ⟨rfl, hPd, hFd⟩
          have HGd := Lib.hid (FrG.blk HGA.out hFd (.inl (.inr rfl)))
          have HBd := Lib.hid (FrG.blk HBA.out hFd (.inl (.inl rfl)))
          have HFd := Lib.hid (HFA.out.g hFd)
          have HPd := Lib.hid (hPd.less (fun k hk => .inl hk))
          rw [← HTK.out] at HGd
          clear hFd hPd HD
          go_wp2_with fail
          exact ⟨⟨j + 1, rd.2, by omega, by go_num, HPd, HGd, HBd, HFd⟩, by simp [intOf]; omega⟩
    · obtain rfl : j = len := by omega
      clear HA
      have HGL := Lib.hid HP.out.inv.htl
      have HT0 : Hid (∀ q, 1 ≤ q → σ.tk[q]? = σ.tk[q]?) := Lib.hid (fun _ _ => rfl)
      go_wp2_with fail
      go_loopw [16] (fun mv wx => ∃ (m : Nat) (σ2 : St), 1 ≤ m ∧ m ≤ M + 1 ∧ mv = .int .i64 (m : Int) ∧ Hid (Pl w (fun k => k = w1.heap.size ∨ k = g) wx P (w3.heap.size + 1) S 0 0 σ2) ∧ Hid (Blk wx g 4 (bc σ.tk).toArray) ∧ Hid (∀ q : Nat, m ≤ q → σ2.tk[q]? = σ.tk[q]?) ∧ Hid (∀ q : Nat, 1 ≤ q → q < m → σ2.tk[q]? = some false) ∧ Hid (Blk wx w1.heap.size 26 #[.int .i64 (S.k : Int), .int .i64 (S.s0 : Int), .int .i64 (S.s1 : Int), .int .i64 (S.s2 : Int), .int .i64 (S.m0 : Int), .int .i64 (S.m1 : Int), .int .i64 (S.m2 : Int)]) ∧ Hid (Fr F0 w wx)) (fun mv _ => M + 1 - (intOf mv).toNat)
      case atStart => exact ⟨1, σ, by omega, by omega, rfl, HP, HG, Lib.hid (fun _ _ => rfl), Lib.hid (fun _ _ _ => by omega), HB, HF⟩
      case round =>
        obtain ⟨m, σ2, hm1, hm2, rfl, HP, HG, HGE, HLT, HB, HF⟩ := hrel
        by_cases hmM : m ≤ M
        · have g2 : (m : Int) ≤ (M : Int) := by omega
          obtain ⟨ff, hff⟩ := of_lt (show m < σ.tk.length by rw [HGL.out, ← HMM.out]; omega)
          have hff2 := HGE.out m (Nat.le_refl _)
          rw [hff] at hff2
          have hcm := bc_cell HG.out hff
          have hd : Fr F0 wr wr.drew := (Fr.refl _ _).drew
          have HPr := Lib.hid (HP.out.f0 hd)
          have HGr := Lib.hid (HG.out.fr hd (fun h => h))
          have HBr := Lib.hid (HB.out.fr hd (fun h => h))
          have HFr := Lib.hid (HF.out.trans hd)
          have HFF := Lib.hid hff
          have hSk := HS.out.k1
          have HGP : Hid (∃ (ev : Nat) (σ' : St), giveP S 0 σ2 ((0 : Nat) : Int) (m : Int) = (ev, σ') ∧ (ff != ((ev : Int) == 0)) = false ∧ (ff == ((ev : Int) == 0)) = true ∧ (∀ q : Nat, m + 1 ≤ q → σ'.tk[q]? = σ.tk[q]?) ∧ (∀ q : Nat, 1 ≤ q → q < m + 1 → σ'.tk[q]? = some false)) := by
            cases ff with
            | true =>
              obtain ⟨σ', hr, htk', _⟩ := giveP_taken (i := 0) HP.out.inv (by omega) hm1 (by rw [← HMM.out]; omega) hff2
              refine ⟨0, σ', hr, rfl, rfl, fun q hq => ?_, fun q h1 h2 => ?_⟩
              · rw [htk', List.getElem?_set_ne (by omega)]; exact HGE.out q (by omega)
              · rw [htk']
                by_cases e : m = q
                · subst e; exact List.getElem?_set_self (lt_of hff2)
                · rw [List.getElem?_set_ne e]; exact HLT.out q h1 (by omega)
            | false =>
              refine ⟨11, σ2, giveP_state (by omega) hm1 (by rw [← HMM.out]; omega) hff2, rfl, rfl, fun q hq => HGE.out q (by omega), fun q h1 h2 => ?_⟩
              by_cases e : q = m
              · subst e; exact hff2
              · exact HLT.out q h1 (by omega)
          obtain ⟨ev, σ', hr, hb1, hb2, hge', hlt'⟩ := HGP.out
          have HV := Lib.hid (give_pl HPr.out ((0 : Nat) : Int) (m : Int) (by omega))
          rw [hr] at HV
          have HV : Hid (Calls Try.prog 17 #[.pointer (some ⟨P, 0, none⟩), .int .i64 0, .int .i64 (m : Int)] wr.drew fun e w' => e = .returned (.int .i64 (ev : Int)) ∧ Pl w (fun k => k = w1.heap.size ∨ k = g) w' P (w3.heap.size + 1) S 0 0 σ' ∧ FrG w (fun k => k = w1.heap.size ∨ k = g) wr.drew w') := HV
          clear hr hff hff2 HGP hd
          have HGE' := Lib.hid hge'
          have HLT' := Lib.hid hlt'
          clear hge' hlt'
          have g3 : (m : Int) < (M : Int) + 1 := by omega
          go_wp2_with fail
          refine region_K 6 (fun w' : World => w'.cell? ⟨g, m, none⟩ = some (.bool ff)) (by kernel_rfl) ?_
          have HS0 : (fun w' : World => w'.cell? ⟨g, m, none⟩ = some (.bool ff)) wr.drew := hcm
          refine AnyK.take (i := 0) rfl (by decide) (by kernel_rfl) (by kernel_rfl) (by kernel_rfl) (fun _ _ _ _ h => h) HS0 (fun K hK => ?_)
          go_simp
          refine hK.out _ ⟨_, by rfl, Or.inl ⟨by rfl, by intro w hSw; (try dsimp only at hSw); go_simp⟩, ?_⟩
          clear hK K
          refine AnyK.take (i := 1) rfl (by decide) (by kernel_rfl) (by kernel_rfl) (by kernel_rfl) (fun _ _ _ _ h => h) HS0 (fun K hK => ?_)
          go_simp
          refine hK.out _ ⟨_, by rfl, Or.inl ⟨by rfl, by intro w hSw; (try dsimp only at hSw); go_simp⟩, ?_⟩
          clear hK K
          refine AnyK.take (i := 2) rfl (by decide) (by kernel_rfl) (by kernel_rfl) (by kernel_rfl) (fun _ _ _ _ h => h) HS0 (fun K hK => ?_)
          go_simp
          refine hK.out _ ⟨_, by rfl, Or.inl ⟨by rfl, by intro w hSw; (try dsimp only at hSw); go_simp⟩, ?_⟩
          clear hK K
          refine AnyK.take (i := 3) rfl (by decide) (by kernel_rfl) (by kernel_rfl) (by kernel_rfl) (fun _ _ _ _ h => h) HS0 (fun K hK => ?_)
          go_simp
          refine hK.out _ ⟨_, by rfl, Or.inl ⟨by rfl, by intro w hSw; (try dsimp only at hSw); go_simp⟩, ?_⟩
          clear hK K
          refine AnyK.take (i := 4) rfl (by decide) (by kernel_rfl) (by kernel_rfl) (by kernel_rfl) (fun _ _ _ _ h => h) HS0 (fun K hK => ?_)
          go_simp
          refine hK.out _ ⟨_, by rfl, Or.inl ⟨by rfl, by intro w hSw; (try dsimp only at hSw); go_simp⟩, ?_⟩
          clear hK K
          refine AnyK.take (i := 5) rfl (by decide) (by kernel_rfl) (by kernel_rfl) (by kernel_rfl) (fun _ _ _ _ h => h) HS0 (fun K hK => ?_)
          go_simp
          refine hK.out _ ⟨_, by rfl, Or.inl ⟨by rfl, by intro w hSw; (try dsimp only at hSw); go_simp⟩, ?_⟩
          clear hK K
          refine AnyK.one (i := 6) rfl (by kernel_rfl) (fun K hK => ?_)
          go_simp
          refine HV.out.mono ?_
          rintro e' wb ⟨rfl, hPb, hFb⟩
          have HGb := Lib.hid (FrG.blk HGr.out hFb (.inr rfl))
          have HBb := Lib.hid (FrG.blk HBr.out hFb (.inl rfl))
          have HFb := Lib.hid (HFr.out.g hFb)
          have HPb := Lib.hid hPb
          have HS1 : (fun w' : World => w'.cell? ⟨g, m, none⟩ = some (.bool ff)) wb := bc_cell HGb.out HFF.out
          clear hFb hPb HV
          refine hK.out _ _ (fun _ => HS1) ?_
          clear hK K
          refine AnyK.one (i := 7) rfl (by kernel_rfl) (fun K hK => ?_)
          go_simp
          refine hK.out _ _ (fun _ => HS1) ?_
          clear hK K
          refine AnyK.one (i := 8) rfl (by kernel_rfl) (fun K hK => ?_)
          go_simp
          refine hK.out _ _ (fun _ => HS1) ?_
          clear hK K
          refine AnyK.done (by kernel_rfl) ?_ _
          go_wp2_with fail
          exact ⟨⟨m + 1, σ', by omega, by omega, by go_num, HPb, HGb, HGE', HLT', HBb, HFb⟩, by simp [intOf]; omega⟩
        · have HME : Hid (m = M + 1) := Lib.hid (by omega)
          have g2 : ¬ (m : Int) ≤ (M : Int) := by omega
          have HALL : Hid (∀ q : Nat, 1 ≤ q → q ≤ S.many → σ2.tk[q]? = some false) := Lib.hid (fun q h1 h2 => HLT.out q h1 (by rw [HME.out, HMM.out]; omega))
          have HSK1 := HS.out.k1
          clear HGE HLT HG HGL HT0
          go_wp2_with fail
          go_loopw [17] (fun iv wx => ∃ (i : Nat) (σ3 : St), i ≤ S.k ∧ iv = .int .i64 (i : Int) ∧ Hid (Pl w (fun k => k = w1.heap.size ∨ k = g) wx P (w3.heap.size + 1) S 0 0 σ3) ∧ Hid (∀ q : Nat, 1 ≤ q → q ≤ S.many → σ3.tk[q]? = some false) ∧ Hid (∀ q : Nat, q < i → σ3.ls[q * 4 + 3]? = some []) ∧ Hid (Blk wx w1.heap.size 26 #[.int .i64 (S.k : Int), .int .i64 (S.s0 : Int), .int .i64 (S.s1 : Int), .int .i64 (S.s2 : Int), .int .i64 (S.m0 : Int), .int .i64 (S.m1 : Int), .int .i64 (S.m2 : Int)]) ∧ Hid (Fr F0 w wx)) (fun iv _ => S.k - (intOf iv).toNat)
          case atStart => exact ⟨0, σ2, by omega, rfl, HP, HALL, Lib.hid (fun q h => by omega), HB, HF⟩
          case round =>
            obtain ⟨i, σ3, hi, rfl, HP, HALL3, HBK, HB, HF⟩ := hrel
            have c0 : wr.cell? ⟨w1.heap.size, 0, none⟩ = some (.int .i64 (S.k : Int)) := by rw [HB.out.cell]; rfl
            have hi5 : i ≤ 5 := by omega
            by_cases hik : i < S.k
            · have g2 : (i : Int) < (S.k : Int) := by omega
              obtain ⟨rd, hrd⟩ : ∃ rd, rd = drainP S σ3 (i : Int) := ⟨_, rfl⟩
              have HTK := Lib.hid (drainP_tk (S := S) (σ := σ3) (i : Int)).1
              have HDB := Lib.hid (fun j => drainP_back (j := j) HP.out.inv hik)
              have HD := Lib.hid (drain_pl HP.out (i : Int))
              rw [← hrd] at HD HTK HDB
              have HALL4 : Hid (∀ q : Nat, 1 ≤ q → q ≤ S.many → rd.2.tk[q]? = some false) := Lib.hid (fun q h1 h2 => by rw [HTK.out]; exact HALL3.out q h1 h2)
              have HBK4 : Hid (∀ q : Nat, q < i + 1 → rd.2.ls[q * 4 + 3]? = some []) := Lib.hid (fun q h => by
                rw [HDB.out q]
                by_cases e : q = i
                · rw [if_pos e]
                · rw [if_neg e]; exact HBK.out q (by omega))
              clear hrd HTK HDB
              go_wp2_with fail
              refine HD.out.mono ?_
              rintro e wd ⟨rfl, hPd, hFd⟩
              have HBd := Lib.hid (FrG.blk HB.out hFd (.inl rfl))
              have HFd := Lib.hid (HF.out.g hFd)
              have HPd := Lib.hid hPd
              clear hFd hPd HD c0
              go_wp2_with fail
              exact ⟨⟨i + 1, rd.2, by omega, by go_num, HPd, HALL4, HBK4, HBd, HFd⟩, by simp [intOf]; omega⟩
            · obtain rfl : i = S.k := by omega
              have hhome := (home_iff HP.out.inv).2 ⟨HALL3.out, fun q hq => HBK.out q hq⟩
              have HHM := Lib.hid (home_pl HP.out)
              rw [hhome] at HHM
              have HROWS : Hid (∀ (q : Nat) (l : List Nat), q % 4 < 3 → 0 ≤ q → σ3.ls[q]? = some l → l.length = mny S (q % 4)) := Lib.hid (fun q l h1 _ h2 => by
                have hlt := lt_of h2
                rw [HP.out.inv.hl] at hlt
                have := HP.out.inv.whole HALL3.out (i := q / 4) (c := q % 4) (by omega) h1 (HBK.out (q / 4) (by omega)) (l := l) (by rw [show q / 4 * 4 + q % 4 = q by omega]; exact h2)
                exact this)
              clear hhome HALL3 HBK HALL HSK1
              go_wp2_with fail
              refine HHM.out.mono ?_
              rintro e wh ⟨rfl, hFh⟩
              have HPh := Lib.hid (HP.out.f0 hFh)
              have HBh := Lib.hid (HB.out.fr hFh (fun h => h))
              have HFh := Lib.hid (HF.out.trans hFh)
              clear hFh HHM c0
              go_wp2_with fail
              go_loopw [18] (fun iv wx => ∃ (i : Nat) (σ4 : St), i ≤ S.k ∧ iv = .int .i64 (i : Int) ∧ Hid (Pl w (fun k => k = w1.heap.size ∨ k = g) wx P (w3.heap.size + 1) S 0 0 σ4) ∧ Hid (∀ (q : Nat) (l : List Nat), q % 4 < 3 → i * 4 ≤ q → σ4.ls[q]? = some l → l.length = mny S (q % 4)) ∧ Hid (Blk wx w1.heap.size 26 #[.int .i64 (S.k : Int), .int .i64 (S.s0 : Int), .int .i64 (S.s1 : Int), .int .i64 (S.s2 : Int), .int .i64 (S.m0 : Int), .int .i64 (S.m1 : Int), .int .i64 (S.m2 : Int)]) ∧ Hid (Fr F0 w wx)) (fun iv _ => S.k - (intOf iv).toNat)
              case atStart => exact ⟨0, σ3, by omega, rfl, HPh, Lib.hid (fun q l h1 _ h2 => HROWS.out q l h1 (by omega) h2), HBh, HFh⟩
              case round =>
                obtain ⟨i, σ4, hi, rfl, HP, HRW, HB, HF⟩ := hrel
                have c0 : wr.cell? ⟨w1.heap.size, 0, none⟩ = some (.int .i64 (S.k : Int)) := by rw [HB.out.cell]; rfl
                have hi5 : i ≤ 5 := by omega
                by_cases hik : i < S.k
                · have g2 : (i : Int) < (S.k : Int) := by omega
                  go_wp2_with fail
                  clear c0
                  go_loopw [19] (fun cv wx => ∃ (c : Nat) (σ5 : St), c ≤ 3 ∧ cv = .int .i64 (c : Int) ∧ Hid (Pl w (fun k => k = w1.heap.size ∨ k = g) wx P (w3.heap.size + 1) S 0 0 σ5) ∧ Hid (∀ (q : Nat) (l : List Nat), q % 4 < 3 → i * 4 + c ≤ q → σ5.ls[q]? = some l → l.length = mny S (q % 4)) ∧ Hid (Blk wx w1.heap.size 26 #[.int .i64 (S.k : Int), .int .i64 (S.s0 : Int), .int .i64 (S.s1 : Int), .int .i64 (S.s2 : Int), .int .i64 (S.m0 : Int), .int .i64 (S.m1 : Int), .int .i64 (S.m2 : Int)]) ∧ Hid (Fr F0 w wx)) (fun cv _ => 3 - (intOf cv).toNat)
                  case atStart => exact ⟨0, σ4, by omega, rfl, HP, Lib.hid (fun q l h1 h3 h2 => HRW.out q l h1 (by omega) h2), HB, HF⟩
                  case round =>
                    obtain ⟨c, σ5, hc, rfl, HP, HRW, HB, HF⟩ := hrel
                    by_cases hc3 : c < 3
                    · have g3 : (c : Int) < 3 := by omega
                      obtain ⟨mc, hmc⟩ : ∃ mc, mc = mny S c := ⟨_, rfl⟩
                      have hmc4 : mc ≤ 4 := by rw [hmc]; unfold mny; split <;> (try split) <;> omega
                      have HMC : Hid (∀ wx : World, Blk wx w1.heap.size 26 #[.int .i64 (S.k : Int), .int .i64 (S.s0 : Int), .int .i64 (S.s1 : Int), .int .i64 (S.s2 : Int), .int .i64 (S.m0 : Int), .int .i64 (S.m1 : Int), .int .i64 (S.m2 : Int)] → wx.cell? ⟨w1.heap.size, 4 + c, none⟩ = some (.int .i64 (mc : Int))) := Lib.hid (fun wx h => by
                        rw [h.cell, hmc]
                        have : c = 0 ∨ c = 1 ∨ c = 2 := by omega
                        rcases this with rfl | rfl | rfl <;> rfl)
                      have HMCE := Lib.hid hmc
                      clear hmc
                      go_wp2_with fail
                      go_loopw [20] (fun uv wx => ∃ (u : Nat) (σ6 : St), u ≤ mc ∧ uv = .int .i64 (u : Int) ∧ Hid (Pl w (fun k => k = w1.heap.size ∨ k = g) wx P (w3.heap.size + 1) S 0 0 σ6) ∧ Hid (∃ l, σ6.ls[i * 4 + c]? = some l ∧ l.length + u = mc) ∧ Hid (∀ (q : Nat) (l : List Nat), q % 4 < 3 → i * 4 + c < q → σ6.ls[q]? = some l → l.length = mny S (q % 4)) ∧ Hid (Blk wx w1.heap.size 26 #[.int .i64 (S.k : Int), .int .i64 (S.s0 : Int), .int .i64 (S.s1 : Int), .int .i64 (S.s2 : Int), .int .i64 (S.m0 : Int), .int .i64 (S.m1 : Int), .int .i64 (S.m2 : Int)]) ∧ Hid (Fr F0 w wx)) (fun uv _ => mc - (intOf uv).toNat)
                      case atStart =>
                        have hhl := HP.out.inv.hl
                        obtain ⟨l, hl⟩ := of_lt (show i * 4 + c < σ5.ls.length by omega)
                        have := HRW.out _ l (by omega) (Nat.le_refl _) hl
                        exact ⟨0, σ5, by omega, rfl, HP, Lib.hid ⟨l, hl, by rw [this, HMCE.out, Nat.add_zero, show (i * 4 + c) % 4 = c by omega]⟩, Lib.hid (fun q l h1 h3 h2 => HRW.out q l h1 (by omega) h2), HB, HF⟩
                      case round =>
                        obtain ⟨u, σ6, hu, rfl, HP, HL, HRW, HB, HF⟩ := hrel
                        have cm := HMC.out wr HB.out
                        obtain ⟨l, hl, hlu⟩ := HL.out
                        have hu5 : u ≤ 5 := by omega
                        by_cases hum : u < mc
                        · have g4 : (u : Int) < (mc : Int) := by omega
                          obtain ⟨n, σ', a', z', hr, hw, hl', hoth⟩ := takeP_row HP.out.inv hik hc3 hl (by omega)
                          have HT := Lib.hid (take_pl HP.out (i : Int) (c : Int))
                          rw [hr] at HT
                          have HWH := Lib.hid hw
                          have HL' : Hid (∃ l, σ'.ls[i * 4 + c]? = some l ∧ l.length + (u + 1) = mc) := Lib.hid (by
                            obtain ⟨l', h1, h2⟩ := hl'
                            exact ⟨l', h1, by omega⟩)
                          have HRW' : Hid (∀ (q : Nat) (l : List Nat), q % 4 < 3 → i * 4 + c < q → σ'.ls[q]? = some l → l.length = mny S (q % 4)) := Lib.hid (fun q l h1 h3 h2 => by
                            rw [hoth q (by omega)] at h2
                            exact HRW.out q l h1 h3 h2)
                          clear hr hw hl' hoth hl hlu HL HRW
                          go_wp2_with fail
                          refine HT.out.mono ?_
                          rintro e wd ⟨rfl, hPd, hFd⟩
                          have HBd := Lib.hid (FrG.blk HB.out hFd (.inl rfl))
                          have HFd := Lib.hid (HF.out.g hFd)
                          have HWW := Lib.hid (where_pl hPd n a' z' i c HWH.out)
                          have HPd := Lib.hid hPd
                          clear hFd hPd HT cm
                          go_wp2_with fail
                          refine HWW.out.mono ?_
                          rintro e we ⟨rfl, hFe⟩
                          have HPe := Lib.hid (HPd.out.f0 hFe)
                          have HBe := Lib.hid (HBd.out.fr hFe (fun h => h))
                          have HFe := Lib.hid (HFd.out.trans hFe)
                          clear hFe HWW
                          go_wp2_with fail
                          exact ⟨⟨u + 1, σ', by omega, by go_num, HPe, HL', HRW', HBe, HFe⟩, by simp [intOf]; omega⟩
                        · have hr := takeP_none (base := 0) hik hc3 hl (by omega)
                          have HT := Lib.hid (take_pl HP.out (i : Int) (c : Int))
                          rw [hr] at HT
                          have g4 : ¬ (u : Int) < (mc : Int) := by omega
                          clear hr hl hlu HL
                          go_wp2_with fail
                          refine HT.out.mono ?_
                          rintro e wd ⟨rfl, hPd, hFd⟩
                          have HBd := Lib.hid (FrG.blk HB.out hFd (.inl rfl))
                          have HFd := Lib.hid (HF.out.g hFd)
                          have HPd := Lib.hid hPd
                          clear hFd hPd HT cm
                          go_wp2_with fail
                          exact ⟨⟨c + 1, σ6, by omega, by go_num, HPd, Lib.hid (fun q l h1 h3 h2 => HRW.out q l h1 (by omega) h2), HBd, HFd⟩, by simp [intOf]; omega⟩
                    · obtain rfl : c = 3 := by omega
                      go_wp2_with fail
                      exact ⟨⟨i + 1, σ5, by omega, by go_num, HP, Lib.hid (fun q l h1 h3 h2 => HRW.out q l h1 (by omega) h2), HB, HF⟩, by simp [intOf]; omega⟩
                · have g2 : ¬ (i : Int) < (S.k : Int) := by omega
                  go_wp2_with fail
                  refine (awake_any wr).mono ?_
                  rintro e wz ⟨rfl, hFz⟩
                  have HFz := Lib.hid (HF.out.trans hFz)
                  clear hFz
                  go_wp2_with fail
                  go_ret
                  exact ⟨rfl, HFz.out⟩
set_option maxRecDepth 100000 in
theorem long (n : Int) (a : Option Addr) (len cap : Nat) (hl : 100 < len) (w : World) :
    Calls Try.prog 6 #[.int .u32 n, .slice a len cap] w fun e w' => e = .returned (.bool true) ∧ Fr F0 w w' := by
  have g1 : decide (100 < (len : Int)) = true := decide_eq_true (by omega)
  have g2 : decide (100 < len) = true := decide_eq_true hl
  go_enter Try.func6, Try.ntmps6
  go_wp2_with fail
  go_ret
  exact ⟨rfl, Fr.refl _ _⟩
theorem walk (n : Int) (hn : (Lit.int .u32 n).wf = true) (a : Option Addr) (len cap : Nat) (f : Nat → Int × Int × Int) (w : World) (hA : IsActs w a len f) :
    Calls Try.prog 6 #[.int .u32 n, .slice a len cap] w fun e w' => e = .returned (.bool true) ∧ Below w.heap.size w w' := by
  have hm : IntKind.u32.min = 0 := rfl
  have hM : IntKind.u32.max = 4294967295 := rfl
  simp [Lit.wf, hm, hM] at hn
  have key : Calls Try.prog 6 #[.int .u32 n, .slice a len cap] w fun e w' => e = .returned (.bool true) ∧ Fr F0 w w' := by
    by_cases h : len ≤ 100
    · exact few n hn.1 (by omega) a len cap h f w hA
    · exact long n a len cap (by omega) w
  exact key.mono fun _ _ ⟨he, hF⟩ => ⟨he, hF.below (Nat.le_refl _) (fun _ h => h.elim)⟩

/-! ### The row's step -/
theorem own : ownKnob Try.prog.godebug = none := by kernel_rfl
theorem laidOut : laidOutB Try.prog = true := by kernel_rfl

set_option maxRecDepth 100000 in
theorem lifted (os : Os) (started : os.Started) (H : Type) (enc : TypeId × Value → H) :
    ReturnsInHanded {} Try.checked os 6 .any (Rows.poolKeepsSpec.pre6 enc Try.prog Try.f6 Rows.poolKeepsRow.domain false) (Rows.poolKeepsSpec.post enc Try.prog Try.f6 false true false false) := by
  refine returnsInHanded_of_change (C := Try.checked) own started (by kernel_rfl) Try.func6
    (ChangeSpec.witness6 (enc := enc) (C := Try.checked) false ⟨#[], #[.int .u32 0, .slice none 0 0], []⟩ 8 (by kernel_rfl) (by kernel_rfl) (by kernel_rfl) (by kernel_rfl)) ?_
  intro W base args ds gs before hval0 hW hcnd _
  have hval : ∀ (j : Nat) t v, Try.f6.params[j]? = some t → args[j]? = some v → Value.okWide Try.prog W .any base t v := hval0
  have hW' := hW
  obtain ⟨p, q, hA0, hV, rfl, hfz, hnd⟩ := hW
  have hA : DataW.TrodAll enc Try.prog W 0 (fun _ => true) true Try.f6.params.toList args.toList ds p := hA0
  rw [Try.params6] at hA hval
  obtain ⟨v0, vs0, d0, ds0, p0, q0, hargs, rfl, rfl, h0, r0⟩ := trodAll_cons hA
  obtain ⟨v1, vs1, d1, ds1, p1, q1, rfl, rfl, rfl, h1, r1⟩ := trodAll_cons r0
  obtain ⟨rfl, rfl, rfl⟩ := trodAll_nil r1
  obtain rfl : args = #[v0, v1] := by cases args; simp_all
  obtain ⟨rfl, rfl⟩ := trodVars_none hV
  obtain ⟨a0, rfl, rfl, rfl, w0⟩ := open_int Try.underlying22 (hval 0 22 v0 rfl rfl) h0
  obtain ⟨a1, len1, cap1, rfl⟩ := okWide_slice Try.underlying23 (hval 1 23 v1 rfl rfl)
  have k1 := h1
  have lt1 : ∀ x ∈ p1, x.block < W.heap.size := by obtain ⟨m, hm⟩ := k1; exact DataW.trod_lt m _ _ _ hm
  obtain ⟨z1, w1⟩ := open_acts h1
  clear hA0 hval0
  refine (walk a0 w0 a1 len1 cap1 z1 W w1).mono fun e W' ⟨he, bel⟩ => ?_
  subst he
  exact ⟨_, rfl, _, _, _, [], _, [], hW', trodAll_mk1 (shut_bool Try.underlying4 _), (trodAll_cons_mk (shut_int Try.underlying22 w0) (trodAll_cons_mk (Below.trod laidOut (by kernel_rfl) (of_decide_eq_true (by kernel_rfl)) k1 bel lt1) trodAll_mk0)), rfl, bel.frame _, fun h => by cases h⟩

theorem over : Rows.poolKeepsRow.holds Try.pinned (OpenSpec.ofChange Rows.poolKeepsSpec) :=
  OpenClaim.holds_of_wide 6 Try.f6 rfl rfl rfl rfl rfl rfl rfl ⟨rfl, rfl, rfl, rfl, rfl⟩ rfl rfl rfl rfl rfl (by kernel_rfl) Try.func6 (by kernel_rfl)
    (of_decide_eq_true (by kernel_rfl)) (by unfold Func.isWrapper; first | (rw [if_pos (by decide +kernel)]; kernel_rfl) | (rw [if_neg (by decide +kernel)]; exact ⟨rfl, rfl⟩))
    (fun os started H enc _ => lifted os started H enc)

/-- The statement. -/
theorem proved : Rows.PoolKeepsSaid := over
#print axioms proved
end Go.Proofs.Ytichhieopnbgpaa.poolKeeps
