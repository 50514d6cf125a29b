/-
  The statement PoolApart holds: what is stored in a block that is taken stays, whatever is taken and given back besides. No condition.
-/
import Derived.Test.YtichhieopnbgpaaP26
import Derived.Test.YtichhieopnbgpaaPa
import Derived.Test.YtichhieopnbgpaaRows
import Derived.Laws.Rows
import Derived.ProofKit
import Derived.OpenShut
import Derived.ShutString
import Derived.ChangeOld
namespace Go.Proofs.Ytichhieopnbgpaa.poolApart
open Go.ChangeShapes Go.WideShapes Go.ChangeAt Go.RowKit
open Go.ChangeMaps (open_string shut_string)

set_option maxHeartbeats 8000000 in
set_option maxRecDepth 100000 in
theorem few (n : Int) (h0 : 0 ≤ n) (h1 : n < 4294967296) (a : Option Addr) (len cap : Nat) (hl : len ≤ 60) (f : Nat → Int × Int × Int) (mark : Int) (w : World) (hA : IsActs w a len f) :
    Calls Try.prog 7 #[.int .u32 n, .slice a len cap, .int .i64 mark] w fun e w' => e = .returned (.bool true) ∧ Fr F0 w w' := by
  have g1 : decide (60 < (len : Int)) = false := decide_eq_false (by omega)
  have HSM := Lib.hid (small_any w n h0 h1)
  have HA := Lib.hid hA
  clear hA h0 h1
  go_enter Try.func7, Try.ntmps7
  go_wp2_with fail
  refine HSM.out.mono ?_
  rintro e w1 ⟨S, rfl, hS, hk, hs0, hs1, hs2, hm0, hm1, hm2, hF1⟩
  simp only [ShI.cells, Shp.i]
  have HSK := Lib.hid (small_facts hk hs0 hs1 hs2 hm0 hm1 hm2)
  have HS := Lib.hid hS
  have HF1 := Lib.hid hF1
  obtain ⟨MX, hMX⟩ : ∃ MX, MX = S.words := ⟨_, rfl⟩
  have hMX2 : MX ≤ 200 := by rw [hMX]; exact HSK.out.w
  have HMX := Lib.hid hMX
  have HDW : Hid (∀ w, Calls Try.prog 11 #[.agg #[.int .i64 (S.k : Int), .int .i64 (S.s0 : Int), .int .i64 (S.s1 : Int), .int .i64 (S.s2 : Int), .int .i64 (S.m0 : Int), .int .i64 (S.m1 : Int), .int .i64 (S.m2 : Int)]] w fun e w' => e = .returned (.int .i64 (MX : Int)) ∧ Fr F0 w w') := Lib.hid (fun w => by rw [hMX]; exact dwords_ok w S hS)
  clear hF1 HSM hS hk hs0 hs1 hs2 hm0 hm1 hm2 hMX
  go_wp2_with fail
  generalize hW : (w1.alloc (Obj.cells #[.int .i64 (S.k : Int), .int .i64 (S.s0 : Int), .int .i64 (S.s1 : Int), .int .i64 (S.s2 : Int), .int .i64 (S.m0 : Int), .int .i64 (S.m1 : Int), .int .i64 (S.m2 : Int)] 26)) = w2
  have HB : Hid (Blk w2 w1.heap.size 26 #[.int .i64 (S.k : Int), .int .i64 (S.s0 : Int), .int .i64 (S.s1 : Int), .int .i64 (S.s2 : Int), .int .i64 (S.m0 : Int), .int .i64 (S.m1 : Int), .int .i64 (S.m2 : Int)]) := Lib.hid (by rw [← hW]; exact Blk.new _ _ _)
  have hF2' : Fr F0 w1 w2 := by rw [← hW]; exact (Fr.refl _ _).alloc _
  have HF2 := Lib.hid (HF1.out.trans hF2')
  clear hW hF2' HF1
  go_wp2_with (refine wpList_load_row rfl 26 _ rfl w1.heap.size rfl 26 #[.int .i64 (S.k : Int), .int .i64 (S.s0 : Int), .int .i64 (S.s1 : Int), .int .i64 (S.s2 : Int), .int .i64 (S.m0 : Int), .int .i64 (S.m1 : Int), .int .i64 (S.m2 : Int)] (0, 0) _ HB.out Try.underlying26 rfl (by show _ = some 7; kernel_rfl) ?_)
  refine (HDW.out w2).mono ?_
  rintro e w3 ⟨rfl, hF3⟩
  have HF3 := Lib.hid (HF2.out.trans hF3)
  have HB3 := Lib.hid (HB.out.fr hF3 (fun h => h))
  have HSZ : Hid (w.heap.size ≤ w3.heap.size) := HF3.out.size
  have HSZ1 : Hid (w1.heap.size < w3.heap.size) := HB3.out.lt
  have HM := Lib.hid (new_yes (MX) (by omega) w3)
  clear hF3 HF2 HB
  go_wp2_with fail
  refine HM.out.mono ?_
  rintro e w4 ⟨rfl, hM4, hF4⟩
  have HF4 := Lib.hid (HF3.out.trans hF4)
  have HB4 := Lib.hid (HB3.out.fr hF4 (fun h => h))
  have HM4 := Lib.hid hM4
  clear hF4 hM4 HF3 HB3 HM
  go_wp2_with (refine wpList_load_row rfl 26 _ rfl w1.heap.size rfl 26 #[.int .i64 (S.k : Int), .int .i64 (S.s0 : Int), .int .i64 (S.s1 : Int), .int .i64 (S.s2 : Int), .int .i64 (S.m0 : Int), .int .i64 (S.m1 : Int), .int .i64 (S.m2 : Int)] (0, 0) _ HB4.out Try.underlying26 rfl (by show _ = some 7; kernel_rfl) ?_)
  have HOF : Hid (∀ w, Calls Try.prog 13 #[.agg #[.int .i64 (S.k : Int), .int .i64 (S.s0 : Int), .int .i64 (S.s1 : Int), .int .i64 (S.s2 : Int), .int .i64 (S.m0 : Int), .int .i64 (S.m1 : Int), .int .i64 (S.m2 : Int)]] w fun e w' => e = .returned (.agg #[.int .i64 (S.k : Int), .int .i64 (S.s0 : Int), .int .i64 (S.s1 : Int), .int .i64 (S.s2 : Int), .int .i64 (S.m0 : Int), .int .i64 (S.m1 : Int), .int .i64 (S.m2 : Int)]) ∧ Fr F0 w w') := Lib.hid (fun w => of_any w S.i)
  refine (HOF.out w4).mono ?_
  rintro e w5 ⟨rfl, hF5⟩
  have HF5 := Lib.hid (HF4.out.trans hF5)
  have HB5 := Lib.hid (HB4.out.fr hF5 (fun h => h))
  have HM5 := Lib.hid (HM4.out.fr hF5 (fun h => h) (fun h => h))
  have HNP : Hid (Calls Try.prog 12 #[.pointer (some ⟨w3.heap.size + 1, 0, none⟩), .int .i64 0, .agg #[.int .i64 (S.k : Int), .int .i64 (S.s0 : Int), .int .i64 (S.s1 : Int), .int .i64 (S.s2 : Int), .int .i64 (S.m0 : Int), .int .i64 (S.m1 : Int), .int .i64 (S.m2 : Int)]] w5 fun e w' => ∃ P, e = .returned (.tuple #[.pointer (some ⟨P, 0, none⟩), .int .i64 0]) ∧ Pl w (fun k => k = w1.heap.size) w' P (w3.heap.size + 1) S 0 0 (initSt S (List.replicate (MX) (false, 0))) ∧ Fr F0 w5 w') :=
    Lib.hid (new_plg (fun k => k = w1.heap.size) w w5 HF5.out S HS.out (by have := HSK.out.n; omega) 0 (w3.heap.size + 1) w3.heap.size (by decide) _ 0 HM5.out (by have := HSZ.out; omega) (HSZ.out) (by simp; omega) (by rw [List.length_replicate, HMX.out]; omega) (fun j hj => free_at (by rw [HMX.out]; omega)) (fun _ e => by subst e; exact ⟨HB5.out.lt, by have := HSZ1.out; omega, by have := HSZ1.out; omega⟩))
  have hm4 := HSK.out.m0
  clear hF5 HOF HF4 HB4 HM4 HM5 HDW
  go_wp2_with fail
  refine HNP.out.mono ?_
  rintro e w6 ⟨P, rfl, hP6, hF6⟩
  have HB6 := Lib.hid (HB5.out.fr hF6 (fun h => h))
  have HF6 := Lib.hid (HF5.out.trans hF6)
  have HT := Lib.hid (take_pl hP6 0 0)
  have hft := first_take hP6.inv HS.out.k1 (show (initL S)[0]? = some (rowAt S 0) by
    unfold initL
    rw [List.getElem?_map, List.getElem?_range (by have := HS.out.k1; omega)]
    rfl)
  clear hP6 hF6 HNP HF5 HB5
  rcases hft with ⟨hz, hr⟩ | ⟨hz, own, σ1, at_, z, hr, hw, htk⟩
  · rw [hr] at HT
    clear hr
    go_wp2_with fail
    refine HT.out.mono ?_
    rintro e w7 ⟨rfl, hP7, hF7⟩
    have HB7 := Lib.hid (FrG.blk HB6.out hF7 rfl)
    have HF7 := Lib.hid (HF6.out.g hF7)
    have c4 : w7.cell? ⟨w1.heap.size, 4, none⟩ = some (.int .i64 0) := by rw [HB7.out.cell, hz]; rfl
    clear hP7 hF7 HT HB6 HF6 hz
    go_wp2_with fail
    refine (awake_any w7).mono ?_
    rintro e w8 ⟨rfl, hF8⟩
    have HF8 := Lib.hid (HF7.out.trans hF8)
    clear hF8
    go_wp2_with fail
    go_ret
    exact ⟨rfl, HF8.out⟩
  · rw [hr] at HT
    have HW := Lib.hid hw
    have HTK := Lib.hid htk
    have hz12 : z ≤ 12 := by
      have := (whr_at hw).size
      have := HSK.out.s0
      have := HSK.out.s1
      have := HSK.out.s2
      omega
    have hfit : at_ + z ≤ 200 := by
      have := (whr_at hw).fits
      have := HSK.out.w
      omega
    clear hr hw htk hz
    go_wp2_with fail
    refine HT.out.mono ?_
    rintro e w7 ⟨rfl, hP7, hF7⟩
    have HF7 := Lib.hid (HF6.out.g hF7)
    have HWH := Lib.hid (where_pl hP7 own at_ z 0 0 HW.out)
    rw [Nat.zero_add] at HWH
    have HP7 := Lib.hid hP7
    clear hP7 hF7 HT HB6 HF6
    go_wp2_with fail
    refine HWH.out.mono ?_
    rintro e w8 ⟨rfl, hF8⟩
    have HF8 := Lib.hid (HF7.out.trans hF8)
    have HP8 := Lib.hid (HP7.out.f0 hF8)
    clear hF8 HWH HP7 HF7
    go_wp2_with fail
    go_loopw [19] (fun kv wx => ∃ (k : Nat) (σ : St), k ≤ z ∧ kv = .int .i64 (k : Int) ∧ Hid (Pl w (fun k => k = w1.heap.size) wx P (w3.heap.size + 1) S 0 (k : Int) σ) ∧ Hid (σ.tk[own]? = some true) ∧ Hid (∀ q, q < k → σ.ws[at_ + q]? = some (true, mark)) ∧ Hid (Fr F0 w wx)) (fun kv _ => z - (intOf kv).toNat)
    case atStart => exact ⟨0, σ1, by omega, rfl, HP8, HTK, Lib.hid (fun q h => by omega), HF8⟩
    case round =>
      obtain ⟨k, σ, hk, rfl, HP, HTK, HMK, HF⟩ := hrel
      by_cases hkz : k < z
      · have g2 : (k : Int) < (z : Int) := by omega
        obtain ⟨m0, hm0⟩ := HP.out.inv.live HW.out HTK.out k hkz
        rw [Nat.zero_add] at hm0
        have HST := Lib.hid (store_pl HP.out (by omega) (by omega) (at_ + k) m0 mark hm0)
        rw [show ((at_ + k : Nat) : Int) = (at_ : Int) + (k : Int) by omega, show (k : Int) + 1 = ((k + 1 : Nat) : Int) by omega] at HST
        have HMK' : Hid (∀ q, q < k + 1 → (σ.ws.set (at_ + k) (true, mark))[at_ + q]? = some (true, mark)) := Lib.hid (fun q h => by
          by_cases e : k = q
          · subst e; exact List.getElem?_set_self (lt_of hm0)
          · rw [List.getElem?_set_ne (by omega)]; exact HMK.out q (by omega))
        clear hm0
        go_wp2_with fail
        refine HST.out.mono ?_
        rintro e wd ⟨rfl, hPd, hFd⟩
        have HFd := Lib.hid (HF.out.g hFd)
        have HPd := Lib.hid hPd
        clear hPd hFd HST
        go_wp2_with fail
        exact ⟨⟨k + 1, _, by omega, by go_num, HPd, HTK, HMK', HFd⟩, by simp [intOf]; omega⟩
      · obtain rfl : k = z := by omega
        have HAP : Hid (Apt own at_ k mark σ) := Lib.hid ⟨HTK.out, HMK.out⟩
        clear HTK HMK
        go_wp2_with fail
        go_loopw [20] (fun iv wx => ∃ (j st : Nat) (σ : St), j ≤ len ∧ st ≤ 20 + 20 * j ∧ iv = .int .i64 (j : Int) ∧ Hid (Pl w (fun k => k = w1.heap.size) wx P (w3.heap.size + 1) S 0 (st : Int) σ) ∧ Hid (Apt own at_ k mark σ) ∧ Hid (Fr F0 w wx)) (fun iv _ => len - (intOf iv).toNat)
        case atStart => exact ⟨0, k, σ, by omega, by omega, rfl, HP, HAP, HF⟩
        case round =>
          obtain ⟨j, st, σ, hj, hst, rfl, HP, HAP, HF⟩ := hrel
          by_cases hjl : j < len
          · have g2 : (j : Int) < (len : Int) := by omega
            obtain ⟨b, off, rfl, ca0, ca1, ca2, hf0, hf1, hf2⟩ := HA.out.2 j hjl
            have d0 := HF.out.held ca0 (fun h => h)
            have d1 := HF.out.held ca1 (fun h => h)
            have d2 := HF.out.held ca2 (fun h => h)
            clear ca0 ca1 ca2
            obtain ⟨x0, hx0⟩ : ∃ x, x = (f j).1 := ⟨_, rfl⟩
            obtain ⟨x1, hx1⟩ : ∃ x, x = (f j).2.1 := ⟨_, rfl⟩
            obtain ⟨x2, hx2⟩ : ∃ x, x = (f j).2.2 := ⟨_, rfl⟩
            rw [← hx0] at d0
            rw [← hx1] at d1 hf1
            rw [← hx2] at d2 hf2
            have HX2 : Hid (x2 ≤ 9223372036854775807) := hf2.2
            clear hx0 hx1 hx2 hf0 hf1 hf2
            obtain ⟨wA, hwA⟩ : ∃ wA, wA = wr.alloc (.cells #[.int .i64 x0, .int .i64 x1, .int .i64 x2] 41) := ⟨_, rfl⟩
            have hFA : Fr F0 wr wA := by rw [hwA]; exact (Fr.refl _ _).alloc _
            have HXA : Hid (Blk wA wr.heap.size 41 #[.int .i64 x0, .int .i64 x1, .int .i64 x2]) := Lib.hid (by rw [hwA]; exact Blk.new _ _ _)
            have HPA := Lib.hid (HP.out.guard (g := wr.heap.size) (Nat.le_refl _) hFA HXA.out.lt)
            have HFA := Lib.hid (HF.out.trans hFA)
            clear hFA
            obtain ⟨t0, ht0⟩ : ∃ t, ((wrap64 (x0.tmod 3 + 3)).tmod 3 == 0) = t := ⟨_, rfl⟩
            cases t0 with
            | true =>
              have HT := Lib.hid (take_pl HPA.out x1 x2)
              rcases takeP_cases HPA.out.inv x1 x2 with ⟨e, he, hr⟩ | ⟨n', σ', a', z', o', d', hr, hn1, hn2, htk, htk', hw', -, -, hs'⟩
              · rw [hr] at HT
                have he2 : ((e : Int) == 0) = false := beq_eq_false_iff_ne.2 (by omega)
                have he3 : decide ((e : Int) = 0) = false := decide_eq_false (by omega)
                clear hr
                go_wp2_with fail
                rw [← hwA]
                refine HT.out.mono ?_
                rintro e' wd ⟨rfl, hPd, hFd⟩
                have HFd := Lib.hid (HFA.out.g hFd)
                have HPd := Lib.hid (hPd.less (fun k hk => .inl hk))
                clear hFd hPd HT
                go_wp2_with fail
                exact ⟨⟨j + 1, st, σ, by omega, by omega, by go_num, HPd, HAP, HFd⟩, by simp [intOf]; omega⟩
              · rw [hr] at HT
                have hne : own ≠ n' := by
                  rintro rfl
                  have := HAP.out.tk
                  rw [htk] at this
                  cases this
                have HNE := Lib.hid hne
                have HW' := Lib.hid hw'
                have HTN : Hid (σ'.tk[n']? = some true) := Lib.hid (by rw [htk']; exact List.getElem?_set_self (lt_of htk))
                have HAP' : Hid (Apt own at_ k mark σ') := Lib.hid (by
                  have h := HAP.out.turned (ls := σ'.ls) (f := true) (x := (true, 0)) HPA.out.inv HW.out hw' hne
                  rw [← hs', ← htk'] at h
                  exact h)
                have hz' : z' ≤ 12 := by
                  have := (whr_at hw').size
                  have := HSK.out.s0
                  have := HSK.out.s1
                  have := HSK.out.s2
                  omega
                have hfit' : a' + z' ≤ 200 := by
                  have := (whr_at hw').fits
                  have := HSK.out.w
                  omega
                clear hr htk htk' hw' hs' hne
                go_wp2_with fail
                rw [← hwA]
                refine HT.out.mono ?_
                rintro e' wd ⟨rfl, hPd, hFd⟩
                have HFd := Lib.hid (HFA.out.g hFd)
                have HPd := Lib.hid (hPd.less (G' := fun k => k = w1.heap.size) (fun k hk => .inl hk))
                have HWH := Lib.hid (where_pl HPd.out n' a' z' o' d' HW'.out)
                rw [Nat.zero_add] at HWH
                clear hFd hPd HT
                go_wp2_with fail
                refine HWH.out.mono ?_
                rintro e' we ⟨rfl, hFe⟩
                have HFe := Lib.hid (HFd.out.trans hFe)
                have HPe := Lib.hid (HPd.out.f0 hFe)
                clear hFe HWH
                go_wp2_with fail
                go_loopw [29] (fun uv wx => ∃ (u : Nat) (σ : St), u ≤ z' ∧ uv = .int .i64 (u : Int) ∧ Hid (Pl w (fun k => k = w1.heap.size) wx P (w3.heap.size + 1) S 0 ((st + u : Nat) : Int) σ) ∧ Hid (σ.tk[n']? = some true) ∧ Hid (Apt own at_ k mark σ) ∧ Hid (Fr F0 w wx)) (fun uv _ => z' - (intOf uv).toNat)
                case atStart => exact ⟨0, σ', by omega, rfl, HPe, HTN, HAP', HFe⟩
                case round =>
                  obtain ⟨u, σ2, hu, rfl, HP, HTN, HAP, HF⟩ := hrel
                  by_cases huz : u < z'
                  · have g3 : (u : Int) < (z' : Int) := by omega
                    obtain ⟨m0, hm0⟩ := HP.out.inv.live HW'.out HTN.out u huz
                    rw [Nat.zero_add] at hm0
                    have HST := Lib.hid (fun m => store_pl HP.out (by omega) (by omega) (a' + u) m0 m hm0)
                    rw [show ((a' + u : Nat) : Int) = (a' : Int) + (u : Int) by omega, show ((st + u : Nat) : Int) + 1 = ((st + (u + 1) : Nat) : Int) by omega] at HST
                    have HAP2 : Hid (∀ m, Apt own at_ k mark ⟨σ2.ls, σ2.tk, σ2.ws.set (a' + u) (true, m)⟩) := Lib.hid (fun m => HAP.out.put HW.out HW'.out HNE.out huz)
                    clear hm0
                    go_wp2_with fail
                    refine (HST.out _).mono ?_
                    rintro e' wd ⟨rfl, hPd, hFd⟩
                    have HFd := Lib.hid (HF.out.g hFd)
                    have HPd := Lib.hid hPd
                    clear hPd hFd HST
                    go_wp2_with fail
                    exact ⟨⟨u + 1, _, by omega, by go_num, HPd, HTN, Lib.hid (HAP2.out _), HFd⟩, by simp [intOf]; omega⟩
                  · have g3 : ¬ (u : Int) < (z' : Int) := by omega
                    go_wp2_with fail
                    exact ⟨⟨j + 1, st + u, σ2, by omega, by omega, by go_num, HP, HAP, HF⟩, by simp [intOf]; omega⟩
            | false =>
              by_cases hxo : x2 = (own : Int)
              · subst hxo
                have hb : ((own : Int) != (own : Int)) = false := by simp
                go_wp2_with fail
                have HFA' := HFA
                have HPA' := Lib.hid (HPA.out.less (G' := fun k => k = w1.heap.size) (fun k hk => .inl hk))
                rw [hwA] at HFA' HPA'
                exact ⟨⟨j + 1, st, σ, by omega, by omega, by go_num, HPA', HAP, HFA'⟩, by simp [intOf]; omega⟩
              · have hb : (x2 != (own : Int)) = true := bne_iff_ne.2 hxo
                have HG := Lib.hid (give_pl HPA.out x1 x2 HX2.out)
                have HAP2 := Lib.hid (HAP.out.give HPA.out.inv HW.out x1 x2 hxo)
                obtain ⟨rg, hrg⟩ : ∃ rg, rg = giveP S 0 σ x1 x2 := ⟨_, rfl⟩
                rw [← hrg] at HG HAP2
                clear hrg hxo
                go_wp2_with fail
                rw [← hwA]
                refine HG.out.mono ?_
                rintro e' wd ⟨rfl, hPd, hFd⟩
                have HXd := Lib.hid (FrG.blk HXA.out hFd (.inr rfl))
                have HFd := Lib.hid (HFA.out.g hFd)
                have HPd := Lib.hid hPd
                have HD := Lib.hid (drain_pl HPd.out x1)
                have HAP3 := Lib.hid (HAP2.out.drain (S := S) x1)
                obtain ⟨rd, hrd⟩ : ∃ rd, rd = drainP S rg.2 x1 := ⟨_, rfl⟩
                rw [← hrd] at HD HAP3
                have k1 : wd.cell? ⟨wr.heap.size, 1, none⟩ = some (.int .i64 x1) := by rw [HXd.out.cell]; rfl
                clear hFd hPd HG hrd
                go_wp2_with fail
                refine HD.out.mono ?_
                rintro e' we ⟨rfl, hPe, hFe⟩
                have HFe := Lib.hid (HFd.out.g hFe)
                have HPe := Lib.hid (hPe.less (fun k hk => .inl hk))
                clear hFe hPe HD k1
                go_wp2_with fail
                exact ⟨⟨j + 1, st, rd.2, by omega, by omega, by go_num, HPe, HAP3, HFe⟩, by simp [intOf]; omega⟩
          · obtain rfl : j = len := by omega
            clear HA
            go_wp2_with fail
            go_loopw [30] (fun qv wx => ∃ (q : Nat), q ≤ k ∧ qv = .int .i64 (q : Int) ∧ Hid (Pl w (fun k => k = w1.heap.size) wx P (w3.heap.size + 1) S 0 ((st + q : Nat) : Int) σ) ∧ Hid (Fr F0 w wx)) (fun qv _ => k - (intOf qv).toNat)
            case atStart => exact ⟨0, by omega, rfl, HP, HF⟩
            case round =>
              obtain ⟨q, hq, rfl, HP, HF⟩ := hrel
              by_cases hqk : q < k
              · have g2 : (q : Int) < (k : Int) := by omega
                have HLD := Lib.hid (load_pl HP.out (by omega) (by omega) (at_ + q) mark (HAP.out.ws q hqk))
                rw [show ((at_ + q : Nat) : Int) = (at_ : Int) + (q : Int) by omega, show ((st + q : Nat) : Int) + 1 = ((st + (q + 1) : Nat) : Int) by omega] at HLD
                go_wp2_with fail
                refine HLD.out.mono ?_
                rintro e wd ⟨rfl, hPd, hFd⟩
                have HFd := Lib.hid (HF.out.g hFd)
                have HPd := Lib.hid hPd
                clear hPd hFd HLD
                go_wp2_with fail
                exact ⟨⟨q + 1, by omega, by go_num, HPd, HFd⟩, by simp [intOf]; omega⟩
              · have g2 : ¬ (q : Int) < (k : Int) := by omega
                go_wp2_with fail
                refine (awake_any wr).mono ?_
                rintro e wz ⟨rfl, hFz⟩
                have HFz := Lib.hid (HF.out.trans hFz)
                clear hFz
                go_wp2_with fail
                go_ret
                exact ⟨rfl, HFz.out⟩
set_option maxRecDepth 100000 in
theorem long (n : Int) (a : Option Addr) (len cap : Nat) (mark : Int) (hl : 60 < len) (w : World) :
    Calls Try.prog 7 #[.int .u32 n, .slice a len cap, .int .i64 mark] w fun e w' => e = .returned (.bool true) ∧ Fr F0 w w' := by
  have g1 : decide (60 < (len : Int)) = true := decide_eq_true (by omega)
  have g2 : decide (60 < len) = true := decide_eq_true hl
  go_enter Try.func7, Try.ntmps7
  go_wp2_with fail
  go_ret
  exact ⟨rfl, Fr.refl _ _⟩
theorem walk (n : Int) (hn : (Lit.int .u32 n).wf = true) (a : Option Addr) (len cap : Nat) (f : Nat → Int × Int × Int) (mark : Int) (w : World) (hA : IsActs w a len f) :
    Calls Try.prog 7 #[.int .u32 n, .slice a len cap, .int .i64 mark] w fun e w' => e = .returned (.bool true) ∧ Below w.heap.size w w' := by
  have hm : IntKind.u32.min = 0 := rfl
  have hM : IntKind.u32.max = 4294967295 := rfl
  simp [Lit.wf, hm, hM] at hn
  have key : Calls Try.prog 7 #[.int .u32 n, .slice a len cap, .int .i64 mark] w fun e w' => e = .returned (.bool true) ∧ Fr F0 w w' := by
    by_cases h : len ≤ 60
    · exact few n hn.1 (by omega) a len cap h f mark w hA
    · exact long n a len cap mark (by omega) w
  exact key.mono fun _ _ ⟨he, hF⟩ => ⟨he, hF.below (Nat.le_refl _) (fun _ h => h.elim)⟩

/-! ### The row's step -/
theorem own : ownKnob Try.prog.godebug = none := by kernel_rfl
theorem laidOut : laidOutB Try.prog = true := by kernel_rfl

set_option maxRecDepth 100000 in
theorem lifted (os : Os) (started : os.Started) (H : Type) (enc : TypeId × Value → H) :
    ReturnsInHanded {} Try.checked os 7 .any (Rows.poolApartSpec.pre6 enc Try.prog Try.f7 Rows.poolApartRow.domain false) (Rows.poolApartSpec.post enc Try.prog Try.f7 false true false false) := by
  refine returnsInHanded_of_change (C := Try.checked) own started (by kernel_rfl) Try.func7
    (ChangeSpec.witness6 (enc := enc) (C := Try.checked) false ⟨#[], #[.int .u32 0, .slice none 0 0, .int .i64 0], []⟩ 8 (by kernel_rfl) (by kernel_rfl) (by kernel_rfl) (by kernel_rfl)) ?_
  intro W base args ds gs before hval0 hW hcnd _
  have hval : ∀ (j : Nat) t v, Try.f7.params[j]? = some t → args[j]? = some v → Value.okWide Try.prog W .any base t v := hval0
  have hW' := hW
  obtain ⟨p, q, hA0, hV, rfl, hfz, hnd⟩ := hW
  have hA : DataW.TrodAll enc Try.prog W 0 (fun _ => true) true Try.f7.params.toList args.toList ds p := hA0
  rw [Try.params7] at hA hval
  obtain ⟨v0, vs0, d0, ds0, p0, q0, hargs, rfl, rfl, h0, r0⟩ := trodAll_cons hA
  obtain ⟨v1, vs1, d1, ds1, p1, q1, rfl, rfl, rfl, h1, r1⟩ := trodAll_cons r0
  obtain ⟨v2, vs2, d2, ds2, p2, q2, rfl, rfl, rfl, h2, r2⟩ := trodAll_cons r1
  obtain ⟨rfl, rfl, rfl⟩ := trodAll_nil r2
  obtain rfl : args = #[v0, v1, v2] := by cases args; simp_all
  obtain ⟨rfl, rfl⟩ := trodVars_none hV
  obtain ⟨a0, rfl, rfl, rfl, w0⟩ := open_int Try.underlying22 (hval 0 22 v0 rfl rfl) h0
  obtain ⟨a1, len1, cap1, rfl⟩ := okWide_slice Try.underlying23 (hval 1 23 v1 rfl rfl)
  have k1 := h1
  have lt1 : ∀ x ∈ p1, x.block < W.heap.size := by obtain ⟨m, hm⟩ := k1; exact DataW.trod_lt m _ _ _ hm
  obtain ⟨z1, w1⟩ := open_acts h1
  obtain ⟨a2, rfl, rfl, rfl, w2⟩ := open_int Try.underlying2 (hval 2 2 v2 rfl rfl) h2
  clear hA0 hval0
  refine (walk a0 w0 a1 len1 cap1 z1 a2 W w1).mono fun e W' ⟨he, bel⟩ => ?_
  subst he
  exact ⟨_, rfl, _, _, _, [], _, [], hW', trodAll_mk1 (shut_bool Try.underlying4 _), (trodAll_cons_mk (shut_int Try.underlying22 w0) (trodAll_cons_mk (Below.trod laidOut (by kernel_rfl) (of_decide_eq_true (by kernel_rfl)) k1 bel lt1) (trodAll_cons_mk (shut_int Try.underlying2 w2) trodAll_mk0))), rfl, bel.frame _, fun h => by cases h⟩

theorem over : Rows.poolApartRow.holds Try.pinned (OpenSpec.ofChange Rows.poolApartSpec) :=
  OpenClaim.holds_of_wide 7 Try.f7 rfl rfl rfl rfl rfl rfl rfl ⟨rfl, rfl, rfl, rfl, rfl⟩ rfl rfl rfl rfl rfl (by kernel_rfl) Try.func7 (by kernel_rfl)
    (of_decide_eq_true (by kernel_rfl)) (by unfold Func.isWrapper; first | (rw [if_pos (by decide +kernel)]; kernel_rfl) | (rw [if_neg (by decide +kernel)]; exact ⟨rfl, rfl⟩))
    (fun os started H enc _ => lifted os started H enc)

/-- The statement. -/
theorem proved : Rows.PoolApartSaid := over
#print axioms proved
end Go.Proofs.Ytichhieopnbgpaa.poolApart
