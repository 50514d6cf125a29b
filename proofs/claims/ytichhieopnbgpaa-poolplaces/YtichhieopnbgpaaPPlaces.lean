/-
  The statement PoolPlaces holds: where any block stands, whose it is, and that its words are live just while it is taken. No condition.
-/
import Derived.Test.YtichhieopnbgpaaD12
import Derived.Test.YtichhieopnbgpaaRows
import Derived.Laws.Rows
import Derived.ProofKit
import Derived.OpenShut
import Derived.ShutString
import Derived.ChangeOld
namespace Go.Proofs.Ytichhieopnbgpaa.poolPlaces
open Go.ChangeShapes Go.WideShapes Go.ChangeAt Go.RowKit
open Go.ChangeMaps (open_string shut_string)

theorem whr_siz {S : Shp} {n a z o c : Nat} (hS : S.Ok) (h : whr S n = some (a, z, o, c)) : 1 ≤ z := by
  have h0 := hS.a0.1
  have h1 := hS.a1.1
  have h2 := hS.a2.1
  unfold whr at h
  split at h
  · cases h
  · split at h
    · simp only [Option.some.injEq, Prod.mk.injEq] at h; omega
    · split at h
      · simp only [Option.some.injEq, Prod.mk.injEq] at h; omega
      · split at h
        · simp only [Option.some.injEq, Prod.mk.injEq] at h; omega
        · cases h

set_option maxHeartbeats 8000000 in
set_option maxRecDepth 100000 in
theorem walk_f (n : Int) (h0 : 0 ≤ n) (h1 : n < 4294967296) (b : Int) (hbm : b ≤ 9223372036854775807) (w : World) :
    Calls Try.prog 4 #[.int .u32 n, .int .i64 b] w fun e w' => e = .returned (.bool true) ∧ Fr F0 w w' := by
  have HSM := Lib.hid (small_any w n h0 h1)
  clear h0 h1
  go_enter Try.func4, Try.ntmps4
  go_wp2_with fail
  refine HSM.out.mono ?_
  rintro e w1 ⟨S, rfl, hS, hk, hs0, hs1, hs2, hm0, hm1, hm2, hF1⟩
  simp only [ShI.cells, Shp.i]
  have HSK := Lib.hid (small_facts hk hs0 hs1 hs2 hm0 hm1 hm2)
  have HS := Lib.hid hS
  have HF1 := Lib.hid hF1
  obtain ⟨MX, hMX⟩ : ∃ MX, MX = S.words := ⟨_, rfl⟩
  have hMX2 : MX ≤ 200 := by rw [hMX]; exact HSK.out.w
  have HMX := Lib.hid hMX
  have HDW : Hid (∀ w, Calls Try.prog 11 #[.agg #[.int .i64 (S.k : Int), .int .i64 (S.s0 : Int), .int .i64 (S.s1 : Int), .int .i64 (S.s2 : Int), .int .i64 (S.m0 : Int), .int .i64 (S.m1 : Int), .int .i64 (S.m2 : Int)]] w fun e w' => e = .returned (.int .i64 (MX : Int)) ∧ Fr F0 w w') := Lib.hid (fun w => by rw [hMX]; exact dwords_ok w S hS)
  clear hF1 HSM hS hk hs0 hs1 hs2 hm0 hm1 hm2 hMX
  go_wp2_with fail
  generalize hW : (w1.alloc (Obj.cells #[.int .i64 (S.k : Int), .int .i64 (S.s0 : Int), .int .i64 (S.s1 : Int), .int .i64 (S.s2 : Int), .int .i64 (S.m0 : Int), .int .i64 (S.m1 : Int), .int .i64 (S.m2 : Int)] 26)) = w2
  have HB : Hid (Blk w2 w1.heap.size 26 #[.int .i64 (S.k : Int), .int .i64 (S.s0 : Int), .int .i64 (S.s1 : Int), .int .i64 (S.s2 : Int), .int .i64 (S.m0 : Int), .int .i64 (S.m1 : Int), .int .i64 (S.m2 : Int)]) := Lib.hid (by rw [← hW]; exact Blk.new _ _ _)
  have hF2' : Fr F0 w1 w2 := by rw [← hW]; exact (Fr.refl _ _).alloc _
  have HF2 := Lib.hid (HF1.out.trans hF2')
  clear hW hF2' HF1
  go_wp2_with (refine wpList_load_row rfl 26 _ rfl w1.heap.size rfl 26 #[.int .i64 (S.k : Int), .int .i64 (S.s0 : Int), .int .i64 (S.s1 : Int), .int .i64 (S.s2 : Int), .int .i64 (S.m0 : Int), .int .i64 (S.m1 : Int), .int .i64 (S.m2 : Int)] (0, 0) _ HB.out Try.underlying26 rfl (by show _ = some 7; kernel_rfl) ?_)
  refine (HDW.out w2).mono ?_
  rintro e w3 ⟨rfl, hF3⟩
  have HF3 := Lib.hid (HF2.out.trans hF3)
  have HB3 := Lib.hid (HB.out.fr hF3 (fun h => h))
  have HSZ : Hid (w.heap.size ≤ w3.heap.size) := HF3.out.size
  have HSZ1 : Hid (w1.heap.size < w3.heap.size) := HB3.out.lt
  have HM := Lib.hid (new_yes (MX + 7) (by omega) w3)
  rw [show ((MX + 7 : Nat) : Int) = (MX : Int) + 7 by omega] at HM
  clear hF3 HF2 HB
  go_wp2_with fail
  refine HM.out.mono ?_
  rintro e w4 ⟨rfl, hM4, hF4⟩
  have HF4 := Lib.hid (HF3.out.trans hF4)
  have HB4 := Lib.hid (HB3.out.fr hF4 (fun h => h))
  have HM4 := Lib.hid hM4
  clear hF4 hM4 HF3 HB3 HM
  go_wp2_with (refine wpList_load_row rfl 26 _ rfl w1.heap.size rfl 26 #[.int .i64 (S.k : Int), .int .i64 (S.s0 : Int), .int .i64 (S.s1 : Int), .int .i64 (S.s2 : Int), .int .i64 (S.m0 : Int), .int .i64 (S.m1 : Int), .int .i64 (S.m2 : Int)] (0, 0) _ HB4.out Try.underlying26 rfl (by show _ = some 7; kernel_rfl) ?_)
  have HOF : Hid (∀ w, Calls Try.prog 13 #[.agg #[.int .i64 (S.k : Int), .int .i64 (S.s0 : Int), .int .i64 (S.s1 : Int), .int .i64 (S.s2 : Int), .int .i64 (S.m0 : Int), .int .i64 (S.m1 : Int), .int .i64 (S.m2 : Int)]] w fun e w' => e = .returned (.agg #[.int .i64 (S.k : Int), .int .i64 (S.s0 : Int), .int .i64 (S.s1 : Int), .int .i64 (S.s2 : Int), .int .i64 (S.m0 : Int), .int .i64 (S.m1 : Int), .int .i64 (S.m2 : Int)]) ∧ Fr F0 w w') := Lib.hid (fun w => of_any w S.i)
  refine (HOF.out w4).mono ?_
  rintro e w5 ⟨rfl, hF5⟩
  have HF5 := Lib.hid (HF4.out.trans hF5)
  have HB5 := Lib.hid (HB4.out.fr hF5 (fun h => h))
  have HM5 := Lib.hid (HM4.out.fr hF5 (fun h => h) (fun h => h))
  have HNP : Hid (Calls Try.prog 12 #[.pointer (some ⟨w3.heap.size + 1, 0, none⟩), .int .i64 7, .agg #[.int .i64 (S.k : Int), .int .i64 (S.s0 : Int), .int .i64 (S.s1 : Int), .int .i64 (S.s2 : Int), .int .i64 (S.m0 : Int), .int .i64 (S.m1 : Int), .int .i64 (S.m2 : Int)]] w5 fun e w' => ∃ P, e = .returned (.tuple #[.pointer (some ⟨P, 0, none⟩), .int .i64 0]) ∧ Pl w (fun k => k = w1.heap.size) w' P (w3.heap.size + 1) S 7 0 (initSt S (List.replicate (MX + 7) (false, 0))) ∧ Fr F0 w5 w') :=
    Lib.hid (new_plg (fun k => k = w1.heap.size) w w5 HF5.out S HS.out (by have := HSK.out.n; omega) 7 (w3.heap.size + 1) w3.heap.size (by decide) _ 0 HM5.out (by have := HSZ.out; omega) (HSZ.out) (by simp; omega) (by rw [List.length_replicate, HMX.out]; omega) (fun j hj => free_at (by rw [HMX.out]; omega)) (fun _ e => by subst e; exact ⟨HB5.out.lt, by have := HSZ1.out; omega, by have := HSZ1.out; omega⟩))
  have hk4 := HSK.out.k
  clear hF5 HF4 HB4 HM4 HM5
  go_wp2_with fail
  refine HNP.out.mono ?_
  rintro e w6 ⟨P, rfl, hP6, hF6⟩
  have HB6 := Lib.hid (HB5.out.fr hF6 (fun h => h))
  have HF6 := Lib.hid (HF5.out.trans hF6)
  have HP6 := Lib.hid hP6
  have HDN := Lib.hid (dnew_any w6 S HSK.out HS.out.k1)
  clear hP6 hF6 HNP HF5 HB5
  go_wp2_with (refine wpList_load_row rfl 26 _ rfl w1.heap.size rfl 26 #[.int .i64 (S.k : Int), .int .i64 (S.s0 : Int), .int .i64 (S.s1 : Int), .int .i64 (S.s2 : Int), .int .i64 (S.m0 : Int), .int .i64 (S.m1 : Int), .int .i64 (S.m2 : Int)] (0, 0) _ HB6.out Try.underlying26 rfl (by show _ = some 7; kernel_rfl) ?_)
  refine HDN.out.mono ?_
  rintro e w7 ⟨D, rfl, fb, rb, Q, gv, gl, tv, hDR, -, -, hF7⟩
  have HD7 := Lib.hid hDR
  have HB7 := Lib.hid (HB6.out.fr hF7 (fun h => h))
  have HP7 := Lib.hid (HP6.out.f0 hF7)
  have HF7 := Lib.hid (HF6.out.trans hF7)
  have hS7 := Sp7.of (S := S) HB7.out
  obtain ⟨c0, c1, c2, c3, c4, c5, c6⟩ := hS7
  have HPW : Hid (∀ w, Calls Try.prog 23 #[.agg #[.int .i64 (S.k : Int), .int .i64 (S.s0 : Int), .int .i64 (S.s1 : Int), .int .i64 (S.s2 : Int), .int .i64 (S.m0 : Int), .int .i64 (S.m1 : Int), .int .i64 (S.m2 : Int)]] w fun e w' => e = .returned (.int .i64 (MX : Int)) ∧ Fr F0 w w') := Lib.hid (fun w => by
    have h := pwords_ok w S HS.out
    rw [if_neg (by have := HSK.out.w; omega), ← HMX.out] at h
    exact h)
  clear hDR hF7 HDN HB6 HP6 HF6
  go_wp2_with fail
  refine region_K 14 (Sp7 S w1.heap.size) (by kernel_rfl) ?_
  have HS0 : (Sp7 S w1.heap.size) w7.drew := ⟨c0, c1, c2, c3, c4, c5, c6⟩
  refine AnyK.take (i := 0) rfl (by decide) (by kernel_rfl) (by kernel_rfl) (by kernel_rfl) (fun _ _ _ _ h => h) HS0 (fun K hK => ?_)
  go_simp
  refine hK.out _ ⟨_, by rfl, Or.inl ⟨by rfl, by intro w hSw; (try dsimp only at hSw); obtain ⟨hS0, hS1, hS2, hS3, hS4, hS5, hS6⟩ := hSw; go_simp⟩, ?_⟩
  clear hK K
  refine AnyK.take (i := 1) rfl (by decide) (by kernel_rfl) (by kernel_rfl) (by kernel_rfl) (fun _ _ _ _ h => h) HS0 (fun K hK => ?_)
  go_simp
  refine hK.out _ ⟨_, by rfl, Or.inl ⟨by rfl, by intro w hSw; (try dsimp only at hSw); obtain ⟨hS0, hS1, hS2, hS3, hS4, hS5, hS6⟩ := hSw; go_simp⟩, ?_⟩
  clear hK K
  refine AnyK.take (i := 2) rfl (by decide) (by kernel_rfl) (by kernel_rfl) (by kernel_rfl) (fun _ _ _ _ h => h) HS0 (fun K hK => ?_)
  go_simp
  refine hK.out _ ⟨_, by rfl, Or.inl ⟨by rfl, by intro w hSw; (try dsimp only at hSw); obtain ⟨hS0, hS1, hS2, hS3, hS4, hS5, hS6⟩ := hSw; go_simp⟩, ?_⟩
  clear hK K
  refine AnyK.take (i := 3) rfl (by decide) (by kernel_rfl) (by kernel_rfl) (by kernel_rfl) (fun _ _ _ _ h => h) HS0 (fun K hK => ?_)
  go_simp
  refine hK.out _ ⟨_, by rfl, Or.inl ⟨by rfl, by intro w hSw; (try dsimp only at hSw); obtain ⟨hS0, hS1, hS2, hS3, hS4, hS5, hS6⟩ := hSw; go_simp⟩, ?_⟩
  clear hK K
  refine AnyK.take (i := 4) rfl (by decide) (by kernel_rfl) (by kernel_rfl) (by kernel_rfl) (fun _ _ _ _ h => h) HS0 (fun K hK => ?_)
  go_simp
  refine hK.out _ ⟨_, by rfl, Or.inl ⟨by rfl, by intro w hSw; (try dsimp only at hSw); obtain ⟨hS0, hS1, hS2, hS3, hS4, hS5, hS6⟩ := hSw; go_simp⟩, ?_⟩
  clear hK K
  refine AnyK.take (i := 5) rfl (by decide) (by kernel_rfl) (by kernel_rfl) (by kernel_rfl) (fun _ _ _ _ h => h) HS0 (fun K hK => ?_)
  go_simp
  refine hK.out _ ⟨_, by rfl, Or.inl ⟨by rfl, by intro w hSw; (try dsimp only at hSw); obtain ⟨hS0, hS1, hS2, hS3, hS4, hS5, hS6⟩ := hSw; go_simp⟩, ?_⟩
  clear hK K
  refine AnyK.take (i := 6) rfl (by decide) (by kernel_rfl) (by kernel_rfl) (by kernel_rfl) (fun _ _ _ _ h => h) HS0 (fun K hK => ?_)
  go_simp
  refine hK.out _ ⟨_, by rfl, Or.inl ⟨by rfl, by intro w hSw; (try dsimp only at hSw); obtain ⟨hS0, hS1, hS2, hS3, hS4, hS5, hS6⟩ := hSw; go_simp⟩, ?_⟩
  clear hK K
  refine AnyK.take (i := 7) rfl (by decide) (by kernel_rfl) (by kernel_rfl) (by kernel_rfl) (fun _ _ _ _ h => h) HS0 (fun K hK => ?_)
  go_simp
  refine hK.out _ ⟨_, by rfl, Or.inl ⟨by rfl, by intro w hSw; (try dsimp only at hSw); obtain ⟨hS0, hS1, hS2, hS3, hS4, hS5, hS6⟩ := hSw; go_simp⟩, ?_⟩
  clear hK K
  refine AnyK.take (i := 10) rfl (by decide) (by kernel_rfl) (by kernel_rfl) (by kernel_rfl) (fun _ _ _ _ h => h) HS0 (fun K hK => ?_)
  go_simp
  refine hK.out _ ⟨_, by rfl, Or.inl ⟨by rfl, by intro w hSw; (try dsimp only at hSw); obtain ⟨hS0, hS1, hS2, hS3, hS4, hS5, hS6⟩ := hSw; go_simp⟩, ?_⟩
  clear hK K
  refine AnyK.one (i := 8) rfl (by kernel_rfl) (fun K hK => ?_)
  go_simp
  refine (HOF.out w7.drew).mono ?_
  rintro e w8 ⟨rfl, hF8⟩
  have HS8 : (Sp7 S w1.heap.size) w8 := Sp7.of (S := S) ((HB7.out.fr ((Fr.refl F0 w7).drew) (fun h => h)).fr hF8 (fun h => h))
  have HF8 := Lib.hid (((Fr.refl F0 w7).drew).trans hF8)
  refine hK.out _ _ (fun _ => HS8) ?_
  clear hK K hF8
  refine AnyK.one (i := 9) rfl (by kernel_rfl) (fun K hK => ?_)
  go_simp
  refine (HPW.out w8).mono ?_
  rintro e w9 ⟨rfl, hF9⟩
  have HF9 := Lib.hid (HF8.out.trans hF9)
  have HS9 : (Sp7 S w1.heap.size) w9 := Sp7.of (S := S) (HB7.out.fr HF9.out (fun h => h))
  refine hK.out _ _ (fun _ => HS9) ?_
  clear hK K hF9
  refine AnyK.one (i := 11) rfl (by kernel_rfl) (fun K hK => ?_)
  go_simp
  refine (HDW.out w9).mono ?_
  rintro e wa ⟨rfl, hFa⟩
  have HFa := Lib.hid (HF9.out.trans hFa)
  have HSa : (Sp7 S w1.heap.size) wa := Sp7.of (S := S) (HB7.out.fr HFa.out (fun h => h))
  refine hK.out _ _ (fun _ => HSa) ?_
  clear hK K hFa
  refine AnyK.one (i := 12) rfl (by kernel_rfl) (fun K hK => ?_)
  go_simp
  refine hK.out _ _ (fun _ => HSa) ?_
  clear hK K
  refine AnyK.one (i := 13) rfl (by kernel_rfl) (fun K hK => ?_)
  go_simp
  refine hK.out _ _ (fun _ => HSa) ?_
  clear hK K
  refine AnyK.done (by kernel_rfl) ?_ _
  have HBa := Lib.hid (HB7.out.fr HFa.out (fun h => h))
  have HPa := Lib.hid (HP7.out.f0 HFa.out)
  have HDa := Lib.hid (HD7.out.f0 HFa.out)
  have HFA := Lib.hid (HF7.out.trans HFa.out)
  clear HS0 HS8 HS9 HSa HF8 HF9 HFa HB7 HP7 HD7 HF7 c0 c1 c2 c3 c4 c5 c6 HPW HOF HDW
  by_cases hout : b < 1 ∨ (S.many : Int) < b
  · have HWH := Lib.hid (where_plout HPa.out b hbm hout)
    have HWD := Lib.hid (fun wx (h : Fr F0 wa wx) => dwhere_out (HDa.out.f0 h) b hout)
    clear hout hbm
    go_wp2_with fail
    refine HWH.out.mono ?_
    rintro e wb ⟨rfl, hFb⟩
    have HWD2 := Lib.hid (HWD.out wb hFb)
    have HBb := Lib.hid (HBa.out.fr hFb (fun h => h))
    have HPb := Lib.hid (HPa.out.f0 hFb)
    have HFb := Lib.hid (HFA.out.trans hFb)
    clear hFb HWD HWH HDa HBa HPa HFA
    go_wp2_with fail
    refine HWD2.out.mono ?_
    rintro e wb' ⟨rfl, rfl⟩
    go_wp2_with fail
    go_loopw [21] (fun iv wx => ∃ (i st : Nat) (σ : St), i ≤ S.k ∧ st ≤ 3 * i ∧ iv = .int .i64 (i : Int) ∧ Hid (Pl w (fun k => k = w1.heap.size) wx P (w3.heap.size + 1) S 7 (st : Int) σ) ∧ Hid (Blk wx w1.heap.size 26 #[.int .i64 (S.k : Int), .int .i64 (S.s0 : Int), .int .i64 (S.s1 : Int), .int .i64 (S.s2 : Int), .int .i64 (S.m0 : Int), .int .i64 (S.m1 : Int), .int .i64 (S.m2 : Int)]) ∧ Hid (Fr F0 w wx)) (fun iv _ => S.k - (intOf iv).toNat)
    case atStart => exact ⟨0, 0, _, by omega, by omega, rfl, HPb, HBb, HFb⟩
    case round =>
      obtain ⟨i, st, σ, hi, hst, rfl, HP, HB, HF⟩ := hrel
      have c0 : wr.cell? ⟨w1.heap.size, 0, none⟩ = some (.int .i64 (S.k : Int)) := by rw [HB.out.cell]; rfl
      have hi5 : i ≤ 5 := by omega
      by_cases hik : i < S.k
      · have g2 : (i : Int) < (S.k : Int) := by omega
        go_wp2_with fail
        clear c0
        go_loopw [22] (fun cv wx => ∃ (c st : Nat) (σ : St), c ≤ 3 ∧ st ≤ 3 * i + c ∧ cv = .int .i64 (c : Int) ∧ Hid (Pl w (fun k => k = w1.heap.size) wx P (w3.heap.size + 1) S 7 (st : Int) σ) ∧ Hid (Blk wx w1.heap.size 26 #[.int .i64 (S.k : Int), .int .i64 (S.s0 : Int), .int .i64 (S.s1 : Int), .int .i64 (S.s2 : Int), .int .i64 (S.m0 : Int), .int .i64 (S.m1 : Int), .int .i64 (S.m2 : Int)]) ∧ Hid (Fr F0 w wx)) (fun cv _ => 3 - (intOf cv).toNat)
        case atStart => exact ⟨0, st, σ, by omega, by omega, rfl, HP, HB, HF⟩
        case round =>
          obtain ⟨c, st, σ, hc, hst, rfl, HP, HB, HF⟩ := hrel
          by_cases hc3 : c < 3
          · have g3 : (c : Int) < 3 := by omega
            have HT := Lib.hid (take_pl HP.out (i : Int) (c : Int))
            rcases takeP_cases HP.out.inv (i : Int) (c : Int) with ⟨e, he, hr⟩ | ⟨n', σ', a', z', o', d', hr, hn1, hn2, htk, htk', hw', -, -, hs'⟩
            · rw [hr] at HT
              have he2 : ((e : Int) != 0) = true := bne_iff_ne.2 (by omega)
              clear hr
              go_wp2_with fail
              refine HT.out.mono ?_
              rintro e' wd ⟨rfl, hPd, hFd⟩
              have HBd := Lib.hid (FrG.blk HB.out hFd rfl)
              have HFd := Lib.hid (HF.out.g hFd)
              have HPd := Lib.hid hPd
              clear hFd hPd HT
              go_wp2_with fail
              exact ⟨⟨c + 1, st, σ, by omega, by omega, by go_num, HPd, HBd, HFd⟩, by simp [intOf]; omega⟩
            · rw [hr] at HT
              have hz1 := whr_siz HS.out hw'
              have hfit' : a' + z' ≤ 200 := by
                have := (whr_at hw').fits
                have := HSK.out.w
                omega
              have hkk : 0 < S.k := by omega
              have htn : σ'.tk[n']? = some true := by rw [htk']; exact List.getElem?_set_self (lt_of htk)
              have HW' := Lib.hid hw'
              have HTN := Lib.hid htn
              have HFITS := Lib.hid (whr_at hw').fits
              have HN1 := Lib.hid hn1
              have HN2 := Lib.hid hn2
              clear hr htk htk' hw' hs' hn1 hn2 htn
              go_wp2_with fail
              refine HT.out.mono ?_
              rintro e' wd ⟨rfl, hPd, hFd⟩
              have HBd := Lib.hid (FrG.blk HB.out hFd rfl)
              have HFd := Lib.hid (HF.out.g hFd)
              have HWH := Lib.hid (where_pl hPd n' a' z' o' d' HW'.out)
              have HPd := Lib.hid hPd
              obtain ⟨A, hA⟩ : ∃ A, A = 7 + a' := ⟨_, rfl⟩
              rw [← hA] at HWH
              have HA := Lib.hid hA
              clear hFd hPd HT hA
              go_wp2_with fail
              refine HWH.out.mono ?_
              rintro e' we ⟨rfl, hFe⟩
              have HBe := Lib.hid (HBd.out.fr hFe (fun h => h))
              have HFe := Lib.hid (HFd.out.trans hFe)
              have hPe := HPd.out.f0 hFe
              obtain ⟨m0, hm0⟩ := hPe.inv.live HW'.out HTN.out 0 (by omega)
              rw [Nat.add_zero, ← HA.out] at hm0
              have HLV := Lib.hid (live_pl hPe A z' (by omega) (by have h1 := hPe.inv.wl; have h2 := HFITS.out; have h3 := HA.out; omega) m0 hm0)
              have HM0 := Lib.hid hm0
              clear hFe HWH HPd hPe hm0
              go_wp2_with fail
              refine HLV.out.mono ?_
              rintro e' wf ⟨rfl, hPf, hFf⟩
              have HBf := Lib.hid (FrG.blk HBe.out hFf rfl)
              have HFf := Lib.hid (HFe.out.g hFf)
              have HST := Lib.hid (store_pl hPf (by omega) (by omega) A m0 5 HM0.out)
              rw [show (st : Int) + 1 = ((st + 1 : Nat) : Int) by omega] at HST
              clear hFf hPf HLV
              go_wp2_with fail
              refine HST.out.mono ?_
              rintro e' wg ⟨rfl, hPg, hFg⟩
              have HBg := Lib.hid (FrG.blk HBf.out hFg rfl)
              have HFg := Lib.hid (HFf.out.g hFg)
              obtain ⟨σ3, hr3, htk3, _⟩ := giveP_taken (i := 0) (n := n') hPg.inv hkk HN1.out HN2.out HTN.out
              have hGV := give_pl hPg ((0 : Nat) : Int) (n' : Int) (by have := HN2.out; have := HSK.out.n; omega)
              rw [hr3] at hGV
              have HGV : Hid (Calls Try.prog 17 #[.pointer (some ⟨P, 0, none⟩), .int .i64 0, .int .i64 (n' : Int)] wg fun e w' => e = .returned (.int .i64 0) ∧ Pl w (fun k => k = w1.heap.size) w' P (w3.heap.size + 1) S 7 ((st + 1 : Nat) : Int) σ3 ∧ FrG w (fun k => k = w1.heap.size) wg w') := hGV
              have HTK3 : Hid (σ3.tk[n']? = some false) := Lib.hid (by rw [htk3]; exact List.getElem?_set_self (lt_of HTN.out))
              clear hFg hPg HST hr3 htk3 hGV
              go_wp2_with fail
              refine HGV.out.mono ?_
              rintro e' wh ⟨rfl, hPh, hFh⟩
              have HBh := Lib.hid (FrG.blk HBg.out hFh rfl)
              have HFh := Lib.hid (HFg.out.g hFh)
              obtain ⟨m1, hm1⟩ := hPh.inv.free HW'.out HTK3.out 0 (by omega)
              rw [Nat.add_zero, ← HA.out] at hm1
              have HLF := Lib.hid (loadf_pl hPh A m1 hm1)
              clear hFh hPh HGV hm1
              go_wp2_with fail
              refine HLF.out.mono ?_
              rintro e' wi ⟨rfl, hPi, hFi⟩
              have HBi := Lib.hid (FrG.blk HBh.out hFi rfl)
              have HFi := Lib.hid (HFh.out.g hFi)
              have HPi := Lib.hid hPi
              clear hFi hPi HLF
              go_wp2_with fail
              exact ⟨⟨c + 1, st + 1, σ3, by omega, by omega, by go_num, HPi, HBi, HFi⟩, by simp [intOf]; omega⟩
          · have g3 : ¬ (c : Int) < 3 := by omega
            go_wp2_with fail
            exact ⟨⟨i + 1, st, σ, by omega, by omega, by go_num, HP, HB, HF⟩, by simp [intOf]; omega⟩
      · have g2 : ¬ (i : Int) < (S.k : Int) := by omega
        go_wp2_with fail
        refine (awake_any wr).mono ?_
        rintro e wz ⟨rfl, hFz⟩
        have HFz := Lib.hid (HF.out.trans hFz)
        clear hFz
        go_wp2_with fail
        go_ret
        exact ⟨rfl, HFz.out⟩
  · obtain ⟨m, rfl⟩ : ∃ m : Nat, b = m := ⟨b.toNat, by omega⟩
    obtain ⟨a, z, o, c, hw⟩ := whr_some (S := S) (n := m) (by omega) (by omega)
    have hm50 : m ≤ 50 := by have := HSK.out.n; omega
    have hafit : a ≤ 200 := by have := (whr_at hw).fits; have := HSK.out.w; omega
    have HWH := Lib.hid (where_pl HPa.out m a z o c hw)
    have HWD := Lib.hid (fun wx (h : Fr F0 wa wx) => dwhere_in (HDa.out.f0 h) HSK.out m (by omega) (by omega))
    rw [hw] at HWD
    simp only [whrV] at HWD
    rw [show ((7 + a : Nat) : Int) = (a : Int) + 7 by omega] at HWH
    clear hout hbm hw
    go_wp2_with fail
    refine HWH.out.mono ?_
    rintro e wb ⟨rfl, hFb⟩
    have HWD2 := Lib.hid (HWD.out wb hFb)
    have HPb := Lib.hid (HPa.out.f0 hFb)
    have HBb' := Lib.hid (HBa.out.fr hFb (fun h => h))
    have HFb' := Lib.hid (HFA.out.trans hFb)
    clear hFb HWD HWH HDa HBa HPa HFA
    go_wp2_with fail
    refine HWD2.out.mono ?_
    rintro e wc ⟨rfl, hFc⟩
    have HPb := Lib.hid (HPb.out.f0 hFc)
    have HBb := Lib.hid (HBb'.out.fr hFc (fun h => h))
    have HFb := Lib.hid (HFb'.out.trans hFc)
    clear hFc HBb' HFb'
    go_wp2_with fail
    go_loopw [21] (fun iv wx => ∃ (i st : Nat) (σ : St), i ≤ S.k ∧ st ≤ 3 * i ∧ iv = .int .i64 (i : Int) ∧ Hid (Pl w (fun k => k = w1.heap.size) wx P (w3.heap.size + 1) S 7 (st : Int) σ) ∧ Hid (Blk wx w1.heap.size 26 #[.int .i64 (S.k : Int), .int .i64 (S.s0 : Int), .int .i64 (S.s1 : Int), .int .i64 (S.s2 : Int), .int .i64 (S.m0 : Int), .int .i64 (S.m1 : Int), .int .i64 (S.m2 : Int)]) ∧ Hid (Fr F0 w wx)) (fun iv _ => S.k - (intOf iv).toNat)
    case atStart => exact ⟨0, 0, _, by omega, by omega, rfl, HPb, HBb, HFb⟩
    case round =>
      obtain ⟨i, st, σ, hi, hst, rfl, HP, HB, HF⟩ := hrel
      have c0 : wr.cell? ⟨w1.heap.size, 0, none⟩ = some (.int .i64 (S.k : Int)) := by rw [HB.out.cell]; rfl
      have hi5 : i ≤ 5 := by omega
      by_cases hik : i < S.k
      · have g2 : (i : Int) < (S.k : Int) := by omega
        go_wp2_with fail
        clear c0
        go_loopw [22] (fun cv wx => ∃ (c st : Nat) (σ : St), c ≤ 3 ∧ st ≤ 3 * i + c ∧ cv = .int .i64 (c : Int) ∧ Hid (Pl w (fun k => k = w1.heap.size) wx P (w3.heap.size + 1) S 7 (st : Int) σ) ∧ Hid (Blk wx w1.heap.size 26 #[.int .i64 (S.k : Int), .int .i64 (S.s0 : Int), .int .i64 (S.s1 : Int), .int .i64 (S.s2 : Int), .int .i64 (S.m0 : Int), .int .i64 (S.m1 : Int), .int .i64 (S.m2 : Int)]) ∧ Hid (Fr F0 w wx)) (fun cv _ => 3 - (intOf cv).toNat)
        case atStart => exact ⟨0, st, σ, by omega, by omega, rfl, HP, HB, HF⟩
        case round =>
          obtain ⟨c, st, σ, hc, hst, rfl, HP, HB, HF⟩ := hrel
          by_cases hc3 : c < 3
          · have g3 : (c : Int) < 3 := by omega
            have HT := Lib.hid (take_pl HP.out (i : Int) (c : Int))
            rcases takeP_cases HP.out.inv (i : Int) (c : Int) with ⟨e, he, hr⟩ | ⟨n', σ', a', z', o', d', hr, hn1, hn2, htk, htk', hw', -, -, hs'⟩
            · rw [hr] at HT
              have he2 : ((e : Int) != 0) = true := bne_iff_ne.2 (by omega)
              clear hr
              go_wp2_with fail
              refine HT.out.mono ?_
              rintro e' wd ⟨rfl, hPd, hFd⟩
              have HBd := Lib.hid (FrG.blk HB.out hFd rfl)
              have HFd := Lib.hid (HF.out.g hFd)
              have HPd := Lib.hid hPd
              clear hFd hPd HT
              go_wp2_with fail
              exact ⟨⟨c + 1, st, σ, by omega, by omega, by go_num, HPd, HBd, HFd⟩, by simp [intOf]; omega⟩
            · rw [hr] at HT
              have hz1 := whr_siz HS.out hw'
              have hfit' : a' + z' ≤ 200 := by
                have := (whr_at hw').fits
                have := HSK.out.w
                omega
              have hkk : 0 < S.k := by omega
              have htn : σ'.tk[n']? = some true := by rw [htk']; exact List.getElem?_set_self (lt_of htk)
              have HW' := Lib.hid hw'
              have HTN := Lib.hid htn
              have HFITS := Lib.hid (whr_at hw').fits
              have HN1 := Lib.hid hn1
              have HN2 := Lib.hid hn2
              clear hr htk htk' hw' hs' hn1 hn2 htn
              go_wp2_with fail
              refine HT.out.mono ?_
              rintro e' wd ⟨rfl, hPd, hFd⟩
              have HBd := Lib.hid (FrG.blk HB.out hFd rfl)
              have HFd := Lib.hid (HF.out.g hFd)
              have HWH := Lib.hid (where_pl hPd n' a' z' o' d' HW'.out)
              have HPd := Lib.hid hPd
              obtain ⟨A, hA⟩ : ∃ A, A = 7 + a' := ⟨_, rfl⟩
              rw [← hA] at HWH
              have HA := Lib.hid hA
              clear hFd hPd HT hA
              go_wp2_with fail
              refine HWH.out.mono ?_
              rintro e' we ⟨rfl, hFe⟩
              have HBe := Lib.hid (HBd.out.fr hFe (fun h => h))
              have HFe := Lib.hid (HFd.out.trans hFe)
              have hPe := HPd.out.f0 hFe
              obtain ⟨m0, hm0⟩ := hPe.inv.live HW'.out HTN.out 0 (by omega)
              rw [Nat.add_zero, ← HA.out] at hm0
              have HLV := Lib.hid (live_pl hPe A z' (by omega) (by have h1 := hPe.inv.wl; have h2 := HFITS.out; have h3 := HA.out; omega) m0 hm0)
              have HM0 := Lib.hid hm0
              clear hFe HWH HPd hPe hm0
              go_wp2_with fail
              refine HLV.out.mono ?_
              rintro e' wf ⟨rfl, hPf, hFf⟩
              have HBf := Lib.hid (FrG.blk HBe.out hFf rfl)
              have HFf := Lib.hid (HFe.out.g hFf)
              have HST := Lib.hid (store_pl hPf (by omega) (by omega) A m0 5 HM0.out)
              rw [show (st : Int) + 1 = ((st + 1 : Nat) : Int) by omega] at HST
              clear hFf hPf HLV
              go_wp2_with fail
              refine HST.out.mono ?_
              rintro e' wg ⟨rfl, hPg, hFg⟩
              have HBg := Lib.hid (FrG.blk HBf.out hFg rfl)
              have HFg := Lib.hid (HFf.out.g hFg)
              obtain ⟨σ3, hr3, htk3, _⟩ := giveP_taken (i := 0) (n := n') hPg.inv hkk HN1.out HN2.out HTN.out
              have hGV := give_pl hPg ((0 : Nat) : Int) (n' : Int) (by have := HN2.out; have := HSK.out.n; omega)
              rw [hr3] at hGV
              have HGV : Hid (Calls Try.prog 17 #[.pointer (some ⟨P, 0, none⟩), .int .i64 0, .int .i64 (n' : Int)] wg fun e w' => e = .returned (.int .i64 0) ∧ Pl w (fun k => k = w1.heap.size) w' P (w3.heap.size + 1) S 7 ((st + 1 : Nat) : Int) σ3 ∧ FrG w (fun k => k = w1.heap.size) wg w') := hGV
              have HTK3 : Hid (σ3.tk[n']? = some false) := Lib.hid (by rw [htk3]; exact List.getElem?_set_self (lt_of HTN.out))
              clear hFg hPg HST hr3 htk3 hGV
              go_wp2_with fail
              refine HGV.out.mono ?_
              rintro e' wh ⟨rfl, hPh, hFh⟩
              have HBh := Lib.hid (FrG.blk HBg.out hFh rfl)
              have HFh := Lib.hid (HFg.out.g hFh)
              obtain ⟨m1, hm1⟩ := hPh.inv.free HW'.out HTK3.out 0 (by omega)
              rw [Nat.add_zero, ← HA.out] at hm1
              have HLF := Lib.hid (loadf_pl hPh A m1 hm1)
              clear hFh hPh HGV hm1
              go_wp2_with fail
              refine HLF.out.mono ?_
              rintro e' wi ⟨rfl, hPi, hFi⟩
              have HBi := Lib.hid (FrG.blk HBh.out hFi rfl)
              have HFi := Lib.hid (HFh.out.g hFi)
              have HPi := Lib.hid hPi
              clear hFi hPi HLF
              go_wp2_with fail
              exact ⟨⟨c + 1, st + 1, σ3, by omega, by omega, by go_num, HPi, HBi, HFi⟩, by simp [intOf]; omega⟩
          · have g3 : ¬ (c : Int) < 3 := by omega
            go_wp2_with fail
            exact ⟨⟨i + 1, st, σ, by omega, by omega, by go_num, HP, HB, HF⟩, by simp [intOf]; omega⟩
      · have g2 : ¬ (i : Int) < (S.k : Int) := by omega
        go_wp2_with fail
        refine (awake_any wr).mono ?_
        rintro e wz ⟨rfl, hFz⟩
        have HFz := Lib.hid (HF.out.trans hFz)
        clear hFz
        go_wp2_with fail
        go_ret
        exact ⟨rfl, HFz.out⟩
theorem walk (n : Int) (hn : (Lit.int .u32 n).wf = true) (b : Int) (hb : (Lit.int .i64 b).wf = true) (w : World) :
    Calls Try.prog 4 #[.int .u32 n, .int .i64 b] w fun e w' => e = .returned (.bool true) ∧ Below w.heap.size w w' := by
  have hm : IntKind.u32.min = 0 := rfl
  have hM : IntKind.u32.max = 4294967295 := rfl
  simp [Lit.wf, hm, hM] at hn
  have hm2 : IntKind.i64.min = -9223372036854775808 := rfl
  have hM2 : IntKind.i64.max = 9223372036854775807 := rfl
  simp [Lit.wf, hm2, hM2] at hb
  exact (walk_f n hn.1 (by omega) b hb.2 w).mono fun _ _ ⟨he, hF⟩ => ⟨he, hF.below (Nat.le_refl _) (fun _ h => h.elim)⟩

/-! ### The row's step -/
theorem own : ownKnob Try.prog.godebug = none := by kernel_rfl
theorem laidOut : laidOutB Try.prog = true := by kernel_rfl

set_option maxRecDepth 100000 in
theorem lifted (os : Os) (started : os.Started) (H : Type) (enc : TypeId × Value → H) :
    ReturnsInHanded {} Try.checked os 4 .any (Rows.poolPlacesSpec.pre6 enc Try.prog Try.f4 Rows.poolPlacesRow.domain false) (Rows.poolPlacesSpec.post enc Try.prog Try.f4 false true false false) := by
  refine returnsInHanded_of_change (C := Try.checked) own started (by kernel_rfl) Try.func4
    (ChangeSpec.witness6 (enc := enc) (C := Try.checked) false ⟨#[], #[.int .u32 0, .int .i64 0], []⟩ 8 (by kernel_rfl) (by kernel_rfl) (by kernel_rfl) (by kernel_rfl)) ?_
  intro W base args ds gs before hval0 hW hcnd _
  have hval : ∀ (j : Nat) t v, Try.f4.params[j]? = some t → args[j]? = some v → Value.okWide Try.prog W .any base t v := hval0
  have hW' := hW
  obtain ⟨p, q, hA0, hV, rfl, hfz, hnd⟩ := hW
  have hA : DataW.TrodAll enc Try.prog W 0 (fun _ => true) true Try.f4.params.toList args.toList ds p := hA0
  rw [Try.params4] at hA hval
  obtain ⟨v0, vs0, d0, ds0, p0, q0, hargs, rfl, rfl, h0, r0⟩ := trodAll_cons hA
  obtain ⟨v1, vs1, d1, ds1, p1, q1, rfl, rfl, rfl, h1, r1⟩ := trodAll_cons r0
  obtain ⟨rfl, rfl, rfl⟩ := trodAll_nil r1
  obtain rfl : args = #[v0, v1] := by cases args; simp_all
  obtain ⟨rfl, rfl⟩ := trodVars_none hV
  obtain ⟨a0, rfl, rfl, rfl, w0⟩ := open_int Try.underlying22 (hval 0 22 v0 rfl rfl) h0
  obtain ⟨a1, rfl, rfl, rfl, w1⟩ := open_int Try.underlying3 (hval 1 3 v1 rfl rfl) h1
  clear hA0 hval0
  refine (walk a0 w0 a1 w1 W).mono fun e W' ⟨he, bel⟩ => ?_
  subst he
  exact ⟨_, rfl, _, _, _, [], _, [], hW', trodAll_mk1 (shut_bool Try.underlying4 _), (trodAll_cons_mk (shut_int Try.underlying22 w0) (trodAll_cons_mk (shut_int Try.underlying3 w1) trodAll_mk0)), rfl, bel.frame _, fun h => by cases h⟩

theorem over : Rows.poolPlacesRow.holds Try.pinned (OpenSpec.ofChange Rows.poolPlacesSpec) :=
  OpenClaim.holds_of_wide 4 Try.f4 rfl rfl rfl rfl rfl rfl rfl ⟨rfl, rfl, rfl, rfl, rfl⟩ rfl rfl rfl rfl rfl (by kernel_rfl) Try.func4 (by kernel_rfl)
    (of_decide_eq_true (by kernel_rfl)) (by unfold Func.isWrapper; first | (rw [if_pos (by decide +kernel)]; kernel_rfl) | (rw [if_neg (by decide +kernel)]; exact ⟨rfl, rfl⟩))
    (fun os started H enc _ => lifted os started H enc)

/-- The statement. -/
theorem proved : Rows.PoolPlacesSaid := over
#print axioms proved
end Go.Proofs.Ytichhieopnbgpaa.poolPlaces
