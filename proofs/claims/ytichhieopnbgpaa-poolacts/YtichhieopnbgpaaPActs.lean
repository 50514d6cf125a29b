/-
  The statement PoolActs holds: what any acts do to a pool, one by one. No condition.
-/
import Derived.Test.YtichhieopnbgpaaD13
import Derived.Test.YtichhieopnbgpaaPa
import Derived.Test.YtichhieopnbgpaaRows
import Derived.Laws.Rows
import Derived.ProofKit
import Derived.OpenShut
import Derived.ShutString
import Derived.ChangeOld
namespace Go.Proofs.Ytichhieopnbgpaa.poolActs
open Go.ChangeShapes Go.WideShapes Go.ChangeAt Go.RowKit
open Go.ChangeMaps (open_string shut_string)

theorem dl_g {w0 w w' : World} {G G' : Nat → Prop} {D : Nat} {S : Shp} {fl rl : List (List Nat)} {tk : List Bool} (h : Dl w0 G w D S fl rl tk) (hf : FrG w0 G' w w') (hG : ∀ k, G k → G' k) : Dl w0 G w' D S fl rl tk := h.fr hf (fun k hk e => e.2 (hG k hk))
/-- Behind the document's step. -/
theorem pl_after {w0 w w' : World} {G G' : Nat → Prop} {P mp : Nat} {S : Shp} {base : Nat} {st : Int} {σ : St} (h : Pl w0 G' w P mp S base st σ) (hf : Fr G w w') (hG : ∀ k, G k → G' k) : Pl w0 (Gn G w w') w' P mp S base st σ :=
  (h.guardAll (hf.mono hG)).less (fun _ hk => hk.imp (hG _) id)

set_option maxHeartbeats 8000000 in
set_option maxRecDepth 100000 in
theorem few (n : Int) (h0 : 0 ≤ n) (h1 : n < 4294967296) (a : Option Addr) (len cap : Nat) (hl : len ≤ 100) (f : Nat → Int × Int × Int) (w : World) (hA : IsActs w a len f) :
    Calls Try.prog 3 #[.int .u32 n, .slice a len cap] w fun e w' => e = .returned (.bool true) ∧ Fr F0 w w' := by
  have g1 : decide (100 < (len : Int)) = false := decide_eq_false (by omega)
  have HSM := Lib.hid (small_any w n h0 h1)
  have HA := Lib.hid hA
  clear hA h0 h1
  go_enter Try.func3, Try.ntmps3
  go_wp2_with fail
  refine HSM.out.mono ?_
  rintro e w1 ⟨S, rfl, hS, hk, hs0, hs1, hs2, hm0, hm1, hm2, hF1⟩
  simp only [ShI.cells, Shp.i]
  have HSK := Lib.hid (small_facts hk hs0 hs1 hs2 hm0 hm1 hm2)
  have HS := Lib.hid hS
  have HF1 := Lib.hid hF1
  obtain ⟨MX, hMX⟩ : ∃ MX, MX = S.words := ⟨_, rfl⟩
  have hMX2 : MX ≤ 200 := by rw [hMX]; exact HSK.out.w
  have HMX := Lib.hid hMX
  have HDW : Hid (∀ w, Calls Try.prog 11 #[.agg #[.int .i64 (S.k : Int), .int .i64 (S.s0 : Int), .int .i64 (S.s1 : Int), .int .i64 (S.s2 : Int), .int .i64 (S.m0 : Int), .int .i64 (S.m1 : Int), .int .i64 (S.m2 : Int)]] w fun e w' => e = .returned (.int .i64 (MX : Int)) ∧ Fr F0 w w') := Lib.hid (fun w => by rw [hMX]; exact dwords_ok w S hS)
  clear hF1 HSM hS hk hs0 hs1 hs2 hm0 hm1 hm2 hMX
  go_wp2_with fail
  generalize hW : (w1.alloc (Obj.cells #[.int .i64 (S.k : Int), .int .i64 (S.s0 : Int), .int .i64 (S.s1 : Int), .int .i64 (S.s2 : Int), .int .i64 (S.m0 : Int), .int .i64 (S.m1 : Int), .int .i64 (S.m2 : Int)] 26)) = w2
  have HB : Hid (Blk w2 w1.heap.size 26 #[.int .i64 (S.k : Int), .int .i64 (S.s0 : Int), .int .i64 (S.s1 : Int), .int .i64 (S.s2 : Int), .int .i64 (S.m0 : Int), .int .i64 (S.m1 : Int), .int .i64 (S.m2 : Int)]) := Lib.hid (by rw [← hW]; exact Blk.new _ _ _)
  have hF2' : Fr F0 w1 w2 := by rw [← hW]; exact (Fr.refl _ _).alloc _
  have HF2 := Lib.hid (HF1.out.trans hF2')
  clear hW hF2' HF1
  go_wp2_with (refine wpList_load_row rfl 26 _ rfl w1.heap.size rfl 26 #[.int .i64 (S.k : Int), .int .i64 (S.s0 : Int), .int .i64 (S.s1 : Int), .int .i64 (S.s2 : Int), .int .i64 (S.m0 : Int), .int .i64 (S.m1 : Int), .int .i64 (S.m2 : Int)] (0, 0) _ HB.out Try.underlying26 rfl (by show _ = some 7; kernel_rfl) ?_)
  refine (HDW.out w2).mono ?_
  rintro e w3 ⟨rfl, hF3⟩
  have HF3 := Lib.hid (HF2.out.trans hF3)
  have HB3 := Lib.hid (HB.out.fr hF3 (fun h => h))
  have HSZ : Hid (w.heap.size ≤ w3.heap.size) := HF3.out.size
  have HSZ1 : Hid (w1.heap.size < w3.heap.size) := HB3.out.lt
  have HM := Lib.hid (new_yes (MX + 7) (by omega) w3)
  rw [show ((MX + 7 : Nat) : Int) = (MX : Int) + 7 by omega] at HM
  clear hF3 HF2 HB
  go_wp2_with fail
  refine HM.out.mono ?_
  rintro e w4 ⟨rfl, hM4, hF4⟩
  have HF4 := Lib.hid (HF3.out.trans hF4)
  have HB4 := Lib.hid (HB3.out.fr hF4 (fun h => h))
  have HM4 := Lib.hid hM4
  clear hF4 hM4 HF3 HB3 HM
  go_wp2_with (refine wpList_load_row rfl 26 _ rfl w1.heap.size rfl 26 #[.int .i64 (S.k : Int), .int .i64 (S.s0 : Int), .int .i64 (S.s1 : Int), .int .i64 (S.s2 : Int), .int .i64 (S.m0 : Int), .int .i64 (S.m1 : Int), .int .i64 (S.m2 : Int)] (0, 0) _ HB4.out Try.underlying26 rfl (by show _ = some 7; kernel_rfl) ?_)
  have HOF : Hid (∀ w, Calls Try.prog 13 #[.agg #[.int .i64 (S.k : Int), .int .i64 (S.s0 : Int), .int .i64 (S.s1 : Int), .int .i64 (S.s2 : Int), .int .i64 (S.m0 : Int), .int .i64 (S.m1 : Int), .int .i64 (S.m2 : Int)]] w fun e w' => e = .returned (.agg #[.int .i64 (S.k : Int), .int .i64 (S.s0 : Int), .int .i64 (S.s1 : Int), .int .i64 (S.s2 : Int), .int .i64 (S.m0 : Int), .int .i64 (S.m1 : Int), .int .i64 (S.m2 : Int)]) ∧ Fr F0 w w') := Lib.hid (fun w => of_any w S.i)
  refine (HOF.out w4).mono ?_
  rintro e w5 ⟨rfl, hF5⟩
  have HF5 := Lib.hid (HF4.out.trans hF5)
  have HB5 := Lib.hid (HB4.out.fr hF5 (fun h => h))
  have HM5 := Lib.hid (HM4.out.fr hF5 (fun h => h) (fun h => h))
  have HNP : Hid (Calls Try.prog 12 #[.pointer (some ⟨w3.heap.size + 1, 0, none⟩), .int .i64 7, .agg #[.int .i64 (S.k : Int), .int .i64 (S.s0 : Int), .int .i64 (S.s1 : Int), .int .i64 (S.s2 : Int), .int .i64 (S.m0 : Int), .int .i64 (S.m1 : Int), .int .i64 (S.m2 : Int)]] w5 fun e w' => ∃ P, e = .returned (.tuple #[.pointer (some ⟨P, 0, none⟩), .int .i64 0]) ∧ Pl w (fun k => k = w1.heap.size) w' P (w3.heap.size + 1) S 7 0 (initSt S (List.replicate (MX + 7) (false, 0))) ∧ Fr F0 w5 w') :=
    Lib.hid (new_plg (fun k => k = w1.heap.size) w w5 HF5.out S HS.out (by have := HSK.out.n; omega) 7 (w3.heap.size + 1) w3.heap.size (by decide) _ 0 HM5.out (by have := HSZ.out; omega) (HSZ.out) (by simp; omega) (by rw [List.length_replicate, HMX.out]; omega) (fun j hj => free_at (by rw [HMX.out]; omega)) (fun _ e => by subst e; exact ⟨HB5.out.lt, by have := HSZ1.out; omega, by have := HSZ1.out; omega⟩))
  have hk4 := HSK.out.k
  clear hF5 HF4 HB4 HM4 HM5 HOF HDW
  go_wp2_with fail
  refine HNP.out.mono ?_
  rintro e w6 ⟨P, rfl, hP6, hF6⟩
  have HB6 := Lib.hid (HB5.out.fr hF6 (fun h => h))
  have HF6 := Lib.hid (HF5.out.trans hF6)
  have HP6 := Lib.hid hP6
  have HDN := Lib.hid (dnew_any w6 S HSK.out HS.out.k1)
  clear hP6 hF6 HNP HF5 HB5
  go_wp2_with (refine wpList_load_row rfl 26 _ rfl w1.heap.size rfl 26 #[.int .i64 (S.k : Int), .int .i64 (S.s0 : Int), .int .i64 (S.s1 : Int), .int .i64 (S.s2 : Int), .int .i64 (S.m0 : Int), .int .i64 (S.m1 : Int), .int .i64 (S.m2 : Int)] (0, 0) _ HB6.out Try.underlying26 rfl (by show _ = some 7; kernel_rfl) ?_)
  refine HDN.out.mono ?_
  rintro e w7 ⟨D, rfl, fb, rb, Q, gv, gl, tv, hDR, hgl, hnew, hF7⟩
  have HR7 := Lib.hid (Rel.init S (List.replicate (MX + 7) (false, 0)) hgl)
  have HG7 : Hid (∀ k, Gn F0 w6 w7 k → w.heap.size ≤ k) := Lib.hid (fun k hk => by
    rcases hk with hk | ⟨hk, _⟩
    · exact hk.elim
    · have := HF6.out.size; omega)
  have HD7 : Hid (Dl w (Gn F0 w6 w7) w7 D S gl (List.replicate S.k []) (List.replicate (S.many + 1) false)) := Lib.hid ⟨Q, fb, rb, gv, _, tv, hDR.lower HF6.out.size, fun k hk => ⟨.inr ⟨hnew k hk, hDR.lt hk⟩, by have := hnew k hk; have := HF6.out.size; omega⟩⟩
  have HP7 := Lib.hid (pl_after (G := F0) (HP6.out) hF7 (fun _ e => e.elim))
  have HF7 := Lib.hid (HF6.out.trans hF7)
  clear hDR hgl hnew hF7 HDN HB6 HP6 HF6
  go_wp2_with fail
  go_loopw [11] (fun iv wx => ∃ (j : Nat) (G : Nat → Prop) (σ : St) (fl rl : List (List Nat)) (tk : List Bool), j ≤ len ∧ iv = .int .i64 (j : Int) ∧ Hid (Pl w G wx P (w3.heap.size + 1) S 7 0 σ) ∧ Hid (Dl w G wx D S fl rl tk) ∧ Hid (Rel S σ fl rl tk) ∧ Hid (∀ k, G k → w.heap.size ≤ k) ∧ Hid (Fr F0 w wx)) (fun iv _ => len - (intOf iv).toNat)
  case atStart => exact ⟨0, _, _, _, _, _, by omega, rfl, HP7, HD7, HR7, HG7, HF7⟩
  case round =>
    obtain ⟨j, G, σ, fl, rl, tk, hj, rfl, HP, HD, HR, HGW, HF⟩ := hrel
    by_cases hjl : j < len
    · have g2 : (j : Int) < (len : Int) := by omega
      obtain ⟨b, off, rfl, ca0, ca1, ca2, hf0, hf1, hf2⟩ := HA.out.2 j hjl
      have d0 := HF.out.held ca0 (fun h => h)
      have d1 := HF.out.held ca1 (fun h => h)
      have d2 := HF.out.held ca2 (fun h => h)
      clear ca0 ca1 ca2
      obtain ⟨x0, hx0⟩ : ∃ x, x = (f j).1 := ⟨_, rfl⟩
      obtain ⟨x1, hx1⟩ : ∃ x, x = (f j).2.1 := ⟨_, rfl⟩
      obtain ⟨x2, hx2⟩ : ∃ x, x = (f j).2.2 := ⟨_, rfl⟩
      rw [← hx0] at d0
      rw [← hx1] at d1 hf1
      rw [← hx2] at d2 hf2
      have HX2 : Hid (x2 ≤ 9223372036854775807) := hf2.2
      clear hx0 hx1 hx2 hf0 hf1 hf2
      obtain ⟨wA, hwA⟩ : ∃ wA, wA = wr.alloc (.cells #[.int .i64 x0, .int .i64 x1, .int .i64 x2] 41) := ⟨_, rfl⟩
      have hFA : Fr F0 wr wA := by rw [hwA]; exact (Fr.refl _ _).alloc _
      have HXA : Hid (Blk wA wr.heap.size 41 #[.int .i64 x0, .int .i64 x1, .int .i64 x2]) := Lib.hid (by rw [hwA]; exact Blk.new _ _ _)
      have HNX : Hid (¬ G wr.heap.size) := Lib.hid (fun e => by
        obtain ⟨_, _, _, _, _, hh⟩ := HP.out
        have := hh.gl _ e
        omega)
      have HPA := Lib.hid (HP.out.guard (g := wr.heap.size) (Nat.le_refl _) hFA HXA.out.lt)
      have HDA := Lib.hid (HD.out.f0 hFA)
      have HFA := Lib.hid (HF.out.trans hFA)
      clear hFA
      obtain ⟨t0, ht0⟩ : ∃ t, ((wrap64 (x0.tmod 3 + 3)).tmod 3 == 0) = t := ⟨_, rfl⟩
      obtain ⟨t1, ht1⟩ : ∃ t, ((wrap64 (x0.tmod 3 + 3)).tmod 3 == 1) = t := ⟨_, rfl⟩
      obtain ⟨t2, ht2⟩ : ∃ t, ((wrap64 (x0.tmod 3 + 3)).tmod 3 == 2) = t := ⟨_, rfl⟩
      cases t0 with
      | true =>
        have HT := Lib.hid (take_pl HPA.out x1 x2)
        have HDT := Lib.hid (fun wx (hsz : w.heap.size ≤ wx.heap.size) (h : Dl w G wx D S fl rl tk) => dtake_dl HSK.out hsz HP.out.inv h HR.out x1 x2)
        obtain ⟨rt, hrt⟩ : ∃ rt, rt = takeP S 7 σ x1 x2 := ⟨_, rfl⟩
        rw [← hrt] at HT HDT
        obtain ⟨u1, u2, σ'⟩ := rt
        clear hrt
        go_wp2_with fail
        rw [← hwA]
        clear hwA
        refine HT.out.mono ?_
        rintro e' wB ⟨rfl, hPB, hFB⟩
        have HPB := Lib.hid hPB
        have HXB := Lib.hid (FrG.blk HXA.out hFB (.inr rfl))
        have k1 : wB.cell? ⟨wr.heap.size, 1, none⟩ = some (.int .i64 x1) := by rw [HXB.out.cell]; rfl
        have k2 : wB.cell? ⟨wr.heap.size, 2, none⟩ = some (.int .i64 x2) := by rw [HXB.out.cell]; rfl
        have hDB := dl_g HDA.out hFB (fun _ e => .inl e)
        have HFB := Lib.hid (HFA.out.g hFB)
        have HDT2 := Lib.hid (HDT.out wB HFB.out.size hDB)
        clear hPB hFB hDB HT HDT
        go_wp2_with fail
        refine HDT2.out.mono ?_
        rintro e' wC ⟨rfl, hS⟩
        clear k1 k2 HDT2
        obtain ⟨fl', rl', tk', hR', hD', hFC⟩ := hS
        have HRC := Lib.hid hR'
        have HDC := Lib.hid hD'
        have HPC := Lib.hid (pl_after HPB.out hFC (fun _ e => .inl e))
        have HFC := Lib.hid (HFB.out.g2 hFC HGW.out)
        have HGC : Hid (∀ k, Gn G wB wC k → w.heap.size ≤ k) := Lib.hid (fun k hk => by
          rcases hk with hk | ⟨hk, _⟩
          · exact HGW.out k hk
          · have := HFB.out.size; omega)
        clear hR' hD' hFC
        have HSM2 := Lib.hid (same_any HSK.out HPC.out HDC.out HRC.out)
        go_wp2_with fail
        refine HSM2.out.mono ?_
        rintro e wz ⟨rfl, hFz⟩
        have HPz := Lib.hid (HPC.out.f0 hFz)
        have HDz := Lib.hid (HDC.out.f0 hFz)
        have HFz := Lib.hid (HFC.out.trans hFz)
        clear hFz HSM2
        go_wp2_with fail
        exact ⟨⟨j + 1, _, _, _, _, _, by omega, by go_num, HPz, HDz, HRC, HGC, HFz⟩, by simp [intOf]; omega⟩
      | false =>
        cases t1 with
        | true =>
          have HT0 : Hid (∀ wx : World, Fr F0 wA wx → ∃ rt, rt = giveP S 7 σ x1 x2 ∧ True) := Lib.hid (fun _ _ => ⟨_, rfl, trivial⟩)
          obtain ⟨rt, hrt⟩ : ∃ rt, rt = giveP S 7 σ x1 x2 := ⟨_, rfl⟩
          have HDT := Lib.hid (fun wx (hsz : w.heap.size ≤ wx.heap.size) (h : Dl w G wx D S fl rl tk) => dgive_dl HSK.out hsz HP.out.inv h HR.out x1 x2)
          rw [← hrt] at HDT
          obtain ⟨u1, σ'⟩ := rt
          have HT : Hid (∀ wx : World, Fr F0 wA wx → Calls Try.prog 17 #[.pointer (some ⟨P, 0, none⟩), .int .i64 x1, .int .i64 x2] wx fun e w' => e = .returned (.int .i64 (u1 : Int)) ∧ Pl w (fun k => G k ∨ k = wr.heap.size) w' P (w3.heap.size + 1) S 7 0 σ' ∧ FrG w (fun k => G k ∨ k = wr.heap.size) wx w') := Lib.hid (fun wx hf => by
            have h := give_pl (HPA.out.f0 hf) x1 x2 HX2.out
            rw [← hrt] at h
            exact h)
          have k1 : wA.cell? ⟨wr.heap.size, 1, none⟩ = some (.int .i64 x1) := by rw [HXA.out.cell]; rfl
          have k2 : wA.cell? ⟨wr.heap.size, 2, none⟩ = some (.int .i64 x2) := by rw [HXA.out.cell]; rfl
          clear hrt HT0
          go_wp2_with fail
          rw [← hwA]
          clear hwA
          refine region_K 11 (fun w' : World => w'.cell? ⟨wr.heap.size, 1, none⟩ = some (.int .i64 x1) ∧ w'.cell? ⟨wr.heap.size, 2, none⟩ = some (.int .i64 x2)) (by kernel_rfl) ?_
          have HS0 : (fun w' : World => w'.cell? ⟨wr.heap.size, 1, none⟩ = some (.int .i64 x1) ∧ w'.cell? ⟨wr.heap.size, 2, none⟩ = some (.int .i64 x2)) wA.drew := ⟨k1, k2⟩
          refine AnyK.take (i := 0) rfl (by decide) (by kernel_rfl) (by kernel_rfl) (by kernel_rfl) (fun _ _ _ _ h => h) HS0 (fun K hK => ?_)
          go_simp
          refine hK.out _ ⟨_, by rfl, Or.inl ⟨by rfl, by intro w hSw; (try dsimp only at hSw); obtain ⟨hS1, hS2⟩ := hSw; go_simp⟩, ?_⟩
          clear hK K
          refine AnyK.take (i := 1) rfl (by decide) (by kernel_rfl) (by kernel_rfl) (by kernel_rfl) (fun _ _ _ _ h => h) HS0 (fun K hK => ?_)
          go_simp
          refine hK.out _ ⟨_, by rfl, Or.inl ⟨by rfl, by intro w hSw; (try dsimp only at hSw); obtain ⟨hS1, hS2⟩ := hSw; go_simp⟩, ?_⟩
          clear hK K
          refine AnyK.take (i := 2) rfl (by decide) (by kernel_rfl) (by kernel_rfl) (by kernel_rfl) (fun _ _ _ _ h => h) HS0 (fun K hK => ?_)
          go_simp
          refine hK.out _ ⟨_, by rfl, Or.inl ⟨by rfl, by intro w hSw; (try dsimp only at hSw); obtain ⟨hS1, hS2⟩ := hSw; go_simp⟩, ?_⟩
          clear hK K
          refine AnyK.take (i := 3) rfl (by decide) (by kernel_rfl) (by kernel_rfl) (by kernel_rfl) (fun _ _ _ _ h => h) HS0 (fun K hK => ?_)
          go_simp
          refine hK.out _ ⟨_, by rfl, Or.inl ⟨by rfl, by intro w hSw; (try dsimp only at hSw); obtain ⟨hS1, hS2⟩ := hSw; go_simp⟩, ?_⟩
          clear hK K
          refine AnyK.take (i := 4) rfl (by decide) (by kernel_rfl) (by kernel_rfl) (by kernel_rfl) (fun _ _ _ _ h => h) HS0 (fun K hK => ?_)
          go_simp
          refine hK.out _ ⟨_, by rfl, Or.inl ⟨by rfl, by intro w hSw; (try dsimp only at hSw); obtain ⟨hS1, hS2⟩ := hSw; go_simp⟩, ?_⟩
          clear hK K
          refine AnyK.take (i := 6) rfl (by decide) (by kernel_rfl) (by kernel_rfl) (by kernel_rfl) (fun _ _ _ _ h => h) HS0 (fun K hK => ?_)
          go_simp
          refine hK.out _ ⟨_, by rfl, Or.inl ⟨by rfl, by intro w hSw; (try dsimp only at hSw); obtain ⟨hS1, hS2⟩ := hSw; go_simp⟩, ?_⟩
          clear hK K
          refine AnyK.take (i := 7) rfl (by decide) (by kernel_rfl) (by kernel_rfl) (by kernel_rfl) (fun _ _ _ _ h => h) HS0 (fun K hK => ?_)
          go_simp
          refine hK.out _ ⟨_, by rfl, Or.inl ⟨by rfl, by intro w hSw; (try dsimp only at hSw); obtain ⟨hS1, hS2⟩ := hSw; go_simp⟩, ?_⟩
          clear hK K
          refine AnyK.take (i := 8) rfl (by decide) (by kernel_rfl) (by kernel_rfl) (by kernel_rfl) (fun _ _ _ _ h => h) HS0 (fun K hK => ?_)
          go_simp
          refine hK.out _ ⟨_, by rfl, Or.inl ⟨by rfl, by intro w hSw; (try dsimp only at hSw); obtain ⟨hS1, hS2⟩ := hSw; go_simp⟩, ?_⟩
          clear hK K
          refine AnyK.take (i := 9) rfl (by decide) (by kernel_rfl) (by kernel_rfl) (by kernel_rfl) (fun _ _ _ _ h => h) HS0 (fun K hK => ?_)
          go_simp
          refine hK.out _ ⟨_, by rfl, Or.inl ⟨by rfl, by intro w hSw; (try dsimp only at hSw); obtain ⟨hS1, hS2⟩ := hSw; go_simp⟩, ?_⟩
          clear hK K
          refine AnyK.take (i := 10) rfl (by decide) (by kernel_rfl) (by kernel_rfl) (by kernel_rfl) (fun _ _ _ _ h => h) HS0 (fun K hK => ?_)
          go_simp
          refine hK.out _ ⟨_, by rfl, Or.inl ⟨by rfl, by intro w hSw; (try dsimp only at hSw); obtain ⟨hS1, hS2⟩ := hSw; go_simp⟩, ?_⟩
          clear hK K
          refine AnyK.one (i := 5) rfl (by kernel_rfl) (fun K hK => ?_)
          go_simp
          refine (HT.out wA.drew ((Fr.refl F0 wA).drew)).mono ?_
          rintro e' wB ⟨rfl, hPB, hFB⟩
          have HPB := Lib.hid hPB
          have HXB := Lib.hid (FrG.blk (HXA.out.drew) hFB (.inr rfl))
          have HSB : (fun w' : World => w'.cell? ⟨wr.heap.size, 1, none⟩ = some (.int .i64 x1) ∧ w'.cell? ⟨wr.heap.size, 2, none⟩ = some (.int .i64 x2)) wB := ⟨by rw [HXB.out.cell]; rfl, by rw [HXB.out.cell]; rfl⟩
          have hDB := dl_g (HDA.out.f0 ((Fr.refl F0 wA).drew)) hFB (fun _ e => .inl e)
          have HFB := Lib.hid ((HFA.out.drew).g hFB)
          have HDT2 := Lib.hid (HDT.out wB HFB.out.size hDB)
          clear hPB hFB hDB HT HDT
          refine hK.out _ _ (fun _ => HSB) ?_
          clear hK K
          refine AnyK.one (i := 11) rfl (by kernel_rfl) (fun K hK => ?_)
          go_simp
          refine HDT2.out.mono ?_
          rintro e' wC ⟨rfl, hS⟩
          obtain ⟨fl', rl', tk', hR', hD', hFC⟩ := hS
          have HRC := Lib.hid hR'
          have HDC := Lib.hid hD'
          have HPC := Lib.hid (pl_after HPB.out hFC (fun _ e => .inl e))
          have HFC := Lib.hid (HFB.out.g2 hFC HGW.out)
          have HGC : Hid (∀ k, Gn G wB wC k → w.heap.size ≤ k) := Lib.hid (fun k hk => by
            rcases hk with hk | ⟨hk, _⟩
            · exact HGW.out k hk
            · have := HFB.out.size; omega)
          have HXC := Lib.hid (HXB.out.fr hFC HNX.out)
          have HSC : (fun w' : World => w'.cell? ⟨wr.heap.size, 1, none⟩ = some (.int .i64 x1) ∧ w'.cell? ⟨wr.heap.size, 2, none⟩ = some (.int .i64 x2)) wC := ⟨by rw [HXC.out.cell]; rfl, by rw [HXC.out.cell]; rfl⟩
          clear hR' hD' hFC
          refine hK.out _ _ (fun _ => HSC) ?_
          clear hK K HDT2
          refine AnyK.one (i := 12) rfl (by kernel_rfl) (fun K hK => ?_)
          go_simp
          refine hK.out _ _ (fun _ => HSC) ?_
          clear hK K
          refine AnyK.done (by kernel_rfl) ?_ _
          clear HS0 HSB HSC k1 k2
          have HSM2 := Lib.hid (same_any HSK.out HPC.out HDC.out HRC.out)
          go_wp2_with fail
          refine HSM2.out.mono ?_
          rintro e wz ⟨rfl, hFz⟩
          have HPz := Lib.hid (HPC.out.f0 hFz)
          have HDz := Lib.hid (HDC.out.f0 hFz)
          have HFz := Lib.hid (HFC.out.trans hFz)
          clear hFz HSM2
          go_wp2_with fail
          exact ⟨⟨j + 1, _, _, _, _, _, by omega, by go_num, HPz, HDz, HRC, HGC, HFz⟩, by simp [intOf]; omega⟩
        | false =>
          cases t2 with
          | true =>
            have HT0 : Hid (∀ wx : World, Fr F0 wA wx → ∃ rt, rt = drainP S σ x1 ∧ True) := Lib.hid (fun _ _ => ⟨_, rfl, trivial⟩)
            obtain ⟨rt, hrt⟩ : ∃ rt, rt = drainP S σ x1 := ⟨_, rfl⟩
            have HDT := Lib.hid (fun wx (hsz : w.heap.size ≤ wx.heap.size) (h : Dl w G wx D S fl rl tk) => ddrain_dl HSK.out hsz HP.out.inv h HR.out x1)
            rw [← hrt] at HDT
            obtain ⟨u1, σ'⟩ := rt
            have HT : Hid (∀ wx : World, Fr F0 wA wx → Calls Try.prog 19 #[.pointer (some ⟨P, 0, none⟩), .int .i64 x1] wx fun e w' => e = .returned (.int .i64 (u1 : Int)) ∧ Pl w (fun k => G k ∨ k = wr.heap.size) w' P (w3.heap.size + 1) S 7 0 σ' ∧ FrG w (fun k => G k ∨ k = wr.heap.size) wx w') := Lib.hid (fun wx hf => by
              have h := drain_pl (HPA.out.f0 hf) x1
              rw [← hrt] at h
              exact h)
            have k1 : wA.cell? ⟨wr.heap.size, 1, none⟩ = some (.int .i64 x1) := by rw [HXA.out.cell]; rfl
            have k2 : wA.cell? ⟨wr.heap.size, 2, none⟩ = some (.int .i64 x2) := by rw [HXA.out.cell]; rfl
            clear hrt HT0
            go_wp2_with fail
            rw [← hwA]
            clear hwA
            refine region_K 7 (fun w' : World => w'.cell? ⟨wr.heap.size, 1, none⟩ = some (.int .i64 x1) ∧ w'.cell? ⟨wr.heap.size, 2, none⟩ = some (.int .i64 x2)) (by kernel_rfl) ?_
            have HS0 : (fun w' : World => w'.cell? ⟨wr.heap.size, 1, none⟩ = some (.int .i64 x1) ∧ w'.cell? ⟨wr.heap.size, 2, none⟩ = some (.int .i64 x2)) wA.drew := ⟨k1, k2⟩
            refine AnyK.take (i := 0) rfl (by decide) (by kernel_rfl) (by kernel_rfl) (by kernel_rfl) (fun _ _ _ _ h => h) HS0 (fun K hK => ?_)
            go_simp
            refine hK.out _ ⟨_, by rfl, Or.inl ⟨by rfl, by intro w hSw; (try dsimp only at hSw); obtain ⟨hS1, hS2⟩ := hSw; go_simp⟩, ?_⟩
            clear hK K
            refine AnyK.take (i := 1) rfl (by decide) (by kernel_rfl) (by kernel_rfl) (by kernel_rfl) (fun _ _ _ _ h => h) HS0 (fun K hK => ?_)
            go_simp
            refine hK.out _ ⟨_, by rfl, Or.inl ⟨by rfl, by intro w hSw; (try dsimp only at hSw); obtain ⟨hS1, hS2⟩ := hSw; go_simp⟩, ?_⟩
            clear hK K
            refine AnyK.take (i := 2) rfl (by decide) (by kernel_rfl) (by kernel_rfl) (by kernel_rfl) (fun _ _ _ _ h => h) HS0 (fun K hK => ?_)
            go_simp
            refine hK.out _ ⟨_, by rfl, Or.inl ⟨by rfl, by intro w hSw; (try dsimp only at hSw); obtain ⟨hS1, hS2⟩ := hSw; go_simp⟩, ?_⟩
            clear hK K
            refine AnyK.take (i := 4) rfl (by decide) (by kernel_rfl) (by kernel_rfl) (by kernel_rfl) (fun _ _ _ _ h => h) HS0 (fun K hK => ?_)
            go_simp
            refine hK.out _ ⟨_, by rfl, Or.inl ⟨by rfl, by intro w hSw; (try dsimp only at hSw); obtain ⟨hS1, hS2⟩ := hSw; go_simp⟩, ?_⟩
            clear hK K
            refine AnyK.take (i := 5) rfl (by decide) (by kernel_rfl) (by kernel_rfl) (by kernel_rfl) (fun _ _ _ _ h => h) HS0 (fun K hK => ?_)
            go_simp
            refine hK.out _ ⟨_, by rfl, Or.inl ⟨by rfl, by intro w hSw; (try dsimp only at hSw); obtain ⟨hS1, hS2⟩ := hSw; go_simp⟩, ?_⟩
            clear hK K
            refine AnyK.take (i := 6) rfl (by decide) (by kernel_rfl) (by kernel_rfl) (by kernel_rfl) (fun _ _ _ _ h => h) HS0 (fun K hK => ?_)
            go_simp
            refine hK.out _ ⟨_, by rfl, Or.inl ⟨by rfl, by intro w hSw; (try dsimp only at hSw); obtain ⟨hS1, hS2⟩ := hSw; go_simp⟩, ?_⟩
            clear hK K
            refine AnyK.one (i := 3) rfl (by kernel_rfl) (fun K hK => ?_)
            go_simp
            refine (HT.out wA.drew ((Fr.refl F0 wA).drew)).mono ?_
            rintro e' wB ⟨rfl, hPB, hFB⟩
            have HPB := Lib.hid hPB
            have HXB := Lib.hid (FrG.blk (HXA.out.drew) hFB (.inr rfl))
            have HSB : (fun w' : World => w'.cell? ⟨wr.heap.size, 1, none⟩ = some (.int .i64 x1) ∧ w'.cell? ⟨wr.heap.size, 2, none⟩ = some (.int .i64 x2)) wB := ⟨by rw [HXB.out.cell]; rfl, by rw [HXB.out.cell]; rfl⟩
            have hDB := dl_g (HDA.out.f0 ((Fr.refl F0 wA).drew)) hFB (fun _ e => .inl e)
            have HFB := Lib.hid ((HFA.out.drew).g hFB)
            have HDT2 := Lib.hid (HDT.out wB HFB.out.size hDB)
            clear hPB hFB hDB HT HDT
            refine hK.out _ _ (fun _ => HSB) ?_
            clear hK K
            refine AnyK.one (i := 7) rfl (by kernel_rfl) (fun K hK => ?_)
            go_simp
            refine HDT2.out.mono ?_
            rintro e' wC ⟨rfl, hS⟩
            obtain ⟨fl', rl', tk', hR', hD', hFC⟩ := hS
            have HRC := Lib.hid hR'
            have HDC := Lib.hid hD'
            have HPC := Lib.hid (pl_after HPB.out hFC (fun _ e => .inl e))
            have HFC := Lib.hid (HFB.out.g2 hFC HGW.out)
            have HGC : Hid (∀ k, Gn G wB wC k → w.heap.size ≤ k) := Lib.hid (fun k hk => by
              rcases hk with hk | ⟨hk, _⟩
              · exact HGW.out k hk
              · have := HFB.out.size; omega)
            have HXC := Lib.hid (HXB.out.fr hFC HNX.out)
            have HSC : (fun w' : World => w'.cell? ⟨wr.heap.size, 1, none⟩ = some (.int .i64 x1) ∧ w'.cell? ⟨wr.heap.size, 2, none⟩ = some (.int .i64 x2)) wC := ⟨by rw [HXC.out.cell]; rfl, by rw [HXC.out.cell]; rfl⟩
            clear hR' hD' hFC
            refine hK.out _ _ (fun _ => HSC) ?_
            clear hK K HDT2
            refine AnyK.one (i := 8) rfl (by kernel_rfl) (fun K hK => ?_)
            go_simp
            refine hK.out _ _ (fun _ => HSC) ?_
            clear hK K
            refine AnyK.done (by kernel_rfl) ?_ _
            clear HS0 HSB HSC k1 k2
            have HSM2 := Lib.hid (same_any HSK.out HPC.out HDC.out HRC.out)
            go_wp2_with fail
            refine HSM2.out.mono ?_
            rintro e wz ⟨rfl, hFz⟩
            have HPz := Lib.hid (HPC.out.f0 hFz)
            have HDz := Lib.hid (HDC.out.f0 hFz)
            have HFz := Lib.hid (HFC.out.trans hFz)
            clear hFz HSM2
            go_wp2_with fail
            exact ⟨⟨j + 1, _, _, _, _, _, by omega, by go_num, HPz, HDz, HRC, HGC, HFz⟩, by simp [intOf]; omega⟩
          | false =>
            have HPC := Lib.hid (HPA.out.less (G' := G) (fun k hk => .inl hk))
            have HDC := HDA
            have HRC := HR
            have HFC := HFA
            have HGC := HGW
            have HSM2 := Lib.hid (same_any HSK.out HPC.out HDC.out HRC.out)
            go_wp2_with fail
            rw [← hwA]
            refine HSM2.out.mono ?_
            rintro e wz ⟨rfl, hFz⟩
            have HPz := Lib.hid (HPC.out.f0 hFz)
            have HDz := Lib.hid (HDC.out.f0 hFz)
            have HFz := Lib.hid (HFC.out.trans hFz)
            clear hFz HSM2
            go_wp2_with fail
            exact ⟨⟨j + 1, _, _, _, _, _, by omega, by go_num, HPz, HDz, HRC, HGC, HFz⟩, by simp [intOf]; omega⟩
    · obtain rfl : j = len := by omega
      clear HA
      go_wp2_with fail
      refine (awake_any wr).mono ?_
      rintro e wz ⟨rfl, hFz⟩
      have HFz := Lib.hid (HF.out.trans hFz)
      clear hFz
      go_wp2_with fail
      go_ret
      exact ⟨rfl, HFz.out⟩
set_option maxRecDepth 100000 in
theorem long (n : Int) (a : Option Addr) (len cap : Nat) (hl : 100 < len) (w : World) :
    Calls Try.prog 3 #[.int .u32 n, .slice a len cap] w fun e w' => e = .returned (.bool true) ∧ Fr F0 w w' := by
  have g1 : decide (100 < (len : Int)) = true := decide_eq_true (by omega)
  have g2 : decide (100 < len) = true := decide_eq_true hl
  go_enter Try.func3, Try.ntmps3
  go_wp2_with fail
  go_ret
  exact ⟨rfl, Fr.refl _ _⟩
theorem walk (n : Int) (hn : (Lit.int .u32 n).wf = true) (a : Option Addr) (len cap : Nat) (f : Nat → Int × Int × Int) (w : World) (hA : IsActs w a len f) :
    Calls Try.prog 3 #[.int .u32 n, .slice a len cap] w fun e w' => e = .returned (.bool true) ∧ Below w.heap.size w w' := by
  have hm : IntKind.u32.min = 0 := rfl
  have hM : IntKind.u32.max = 4294967295 := rfl
  simp [Lit.wf, hm, hM] at hn
  have key : Calls Try.prog 3 #[.int .u32 n, .slice a len cap] w fun e w' => e = .returned (.bool true) ∧ Fr F0 w w' := by
    by_cases h : len ≤ 100
    · exact few n hn.1 (by omega) a len cap h f w hA
    · exact long n a len cap (by omega) w
  exact key.mono fun _ _ ⟨he, hF⟩ => ⟨he, hF.below (Nat.le_refl _) (fun _ h => h.elim)⟩

/-! ### The row's step -/
theorem own : ownKnob Try.prog.godebug = none := by kernel_rfl
theorem laidOut : laidOutB Try.prog = true := by kernel_rfl

set_option maxRecDepth 100000 in
theorem lifted (os : Os) (started : os.Started) (H : Type) (enc : TypeId × Value → H) :
    ReturnsInHanded {} Try.checked os 3 .any (Rows.poolActsSpec.pre6 enc Try.prog Try.f3 Rows.poolActsRow.domain false) (Rows.poolActsSpec.post enc Try.prog Try.f3 false true false false) := by
  refine returnsInHanded_of_change (C := Try.checked) own started (by kernel_rfl) Try.func3
    (ChangeSpec.witness6 (enc := enc) (C := Try.checked) false ⟨#[], #[.int .u32 0, .slice none 0 0], []⟩ 8 (by kernel_rfl) (by kernel_rfl) (by kernel_rfl) (by kernel_rfl)) ?_
  intro W base args ds gs before hval0 hW hcnd _
  have hval : ∀ (j : Nat) t v, Try.f3.params[j]? = some t → args[j]? = some v → Value.okWide Try.prog W .any base t v := hval0
  have hW' := hW
  obtain ⟨p, q, hA0, hV, rfl, hfz, hnd⟩ := hW
  have hA : DataW.TrodAll enc Try.prog W 0 (fun _ => true) true Try.f3.params.toList args.toList ds p := hA0
  rw [Try.params3] at hA hval
  obtain ⟨v0, vs0, d0, ds0, p0, q0, hargs, rfl, rfl, h0, r0⟩ := trodAll_cons hA
  obtain ⟨v1, vs1, d1, ds1, p1, q1, rfl, rfl, rfl, h1, r1⟩ := trodAll_cons r0
  obtain ⟨rfl, rfl, rfl⟩ := trodAll_nil r1
  obtain rfl : args = #[v0, v1] := by cases args; simp_all
  obtain ⟨rfl, rfl⟩ := trodVars_none hV
  obtain ⟨a0, rfl, rfl, rfl, w0⟩ := open_int Try.underlying22 (hval 0 22 v0 rfl rfl) h0
  obtain ⟨a1, len1, cap1, rfl⟩ := okWide_slice Try.underlying23 (hval 1 23 v1 rfl rfl)
  have k1 := h1
  have lt1 : ∀ x ∈ p1, x.block < W.heap.size := by obtain ⟨m, hm⟩ := k1; exact DataW.trod_lt m _ _ _ hm
  obtain ⟨z1, w1⟩ := open_acts h1
  clear hA0 hval0
  refine (walk a0 w0 a1 len1 cap1 z1 W w1).mono fun e W' ⟨he, bel⟩ => ?_
  subst he
  exact ⟨_, rfl, _, _, _, [], _, [], hW', trodAll_mk1 (shut_bool Try.underlying4 _), (trodAll_cons_mk (shut_int Try.underlying22 w0) (trodAll_cons_mk (Below.trod laidOut (by kernel_rfl) (of_decide_eq_true (by kernel_rfl)) k1 bel lt1) trodAll_mk0)), rfl, bel.frame _, fun h => by cases h⟩

theorem over : Rows.poolActsRow.holds Try.pinned (OpenSpec.ofChange Rows.poolActsSpec) :=
  OpenClaim.holds_of_wide 3 Try.f3 rfl rfl rfl rfl rfl rfl rfl ⟨rfl, rfl, rfl, rfl, rfl⟩ rfl rfl rfl rfl rfl (by kernel_rfl) Try.func3 (by kernel_rfl)
    (of_decide_eq_true (by kernel_rfl)) (by unfold Func.isWrapper; first | (rw [if_pos (by decide +kernel)]; kernel_rfl) | (rw [if_neg (by decide +kernel)]; exact ⟨rfl, rfl⟩))
    (fun os started H enc _ => lifted os started H enc)

/-- The statement. -/
theorem proved : Rows.PoolActsSaid := over
#print axioms proved
end Go.Proofs.Ytichhieopnbgpaa.poolActs
