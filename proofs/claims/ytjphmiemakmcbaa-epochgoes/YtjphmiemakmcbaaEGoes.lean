/-
  The statement EpochGoes holds: where all announce in turn all goes behind three rounds, each thing once. No condition.
-/
import Derived.Test.YtjphmiemakmcbaaEa
import Derived.Test.YtjphmiemakmcbaaPureG
import Derived.Test.YtjphmiemakmcbaaRows
import Derived.ProofKit
import Derived.OpenShut
import Derived.ShutString
import Derived.ChangeOld
namespace Go.Proofs.Ytjphmiemakmcbaa.epochGoes
open Go.ChangeShapes Go.WideShapes Go.ChangeAt Go.RowKit
open Go.ChangeMaps (open_string shut_string)

set_option maxHeartbeats 2000000 in
set_option maxRecDepth 100000 in
theorem long (c : Nat) (a1 : Option Addr) (len1 cap1 : Nat) (hl : 200 < len1) (w : World) :
    Calls Try.prog 6 #[.int .u8 (c : Int), .slice a1 len1 cap1] w fun e w' => e = .returned (.bool true) ∧ Fr F0 w w' := by
  have g1 : decide (200 < (len1 : Int)) = true := decide_eq_true (by omega)
  have g2 : decide (200 < len1) = true := decide_eq_true hl
  go_enter Try.func6, Try.ntmps6
  go_wp2_with fail
  go_ret
  exact ⟨rfl, Fr.refl _ _⟩

theorem wmod (z : Int) (n : Nat) (h1 : 1 ≤ n) (h6 : n ≤ 6) : ∃ u : Nat, u < n ∧ (wrap64 (z.tmod (n : Int) + (n : Int))).tmod (n : Int) = (u : Int) := by
  have ha : z.tmod (n : Int) < (n : Int) := Int.tmod_lt_of_pos z (by omega)
  have hb : -(n : Int) < z.tmod (n : Int) := by have := Int.tmod_lt_of_pos (-z) (b := (n : Int)) (by omega); rw [Int.neg_tmod] at this; omega
  obtain ⟨r, hr⟩ : ∃ r, r = z.tmod (n : Int) := ⟨_, rfl⟩
  rw [← hr] at ha hb ⊢
  have hw : wrap64 (r + (n : Int)) = r + (n : Int) := by unfold wrap64; omega
  rw [hw]
  obtain ⟨t, ht⟩ : ∃ t : Nat, r + (n : Int) = t := ⟨(r + (n : Int)).toNat, by omega⟩
  rw [ht]
  refine ⟨t % n, Nat.mod_lt _ (by omega), ?_⟩
  rw [Int.tmod_eq_emod_of_nonneg (by omega)]
  rfl
theorem ic_set (l : List Int) (i : Nat) (z : Int) : (ic l).toArray.setIfInBounds i (.int .i64 z) = (ic (l.set i z)).toArray := by
  simp [ic, List.map_set]
theorem ne_three : 48 ≠ 55 ∧ 48 ≠ 58 ∧ 48 ≠ 60 := by decide
theorem info_200 : (Try.prog.info? 48).map (fun i => i.zero) = some (some (.agg (ic (List.replicate 200 0)).toArray)) := by kernel_rfl
theorem ne_int : 3 ≠ 55 ∧ 3 ≠ 58 ∧ 3 ≠ 60 := by decide

set_option maxHeartbeats 8000000 in
set_option maxRecDepth 100000 in
theorem few (c : Nat) (hc : c < 256) (a1 : Option Addr) (len1 cap1 : Nat) (hl : len1 ≤ 200) (f : Nat → Bool × Int × Int) (w : World) (hA : IsActs w a1 len1 f) :
    Calls Try.prog 6 #[.int .u8 (c : Int), .slice a1 len1 cap1] w fun e w' => e = .returned (.bool true) ∧ Fr F0 w w' := by
  obtain ⟨i0, hi0, hz0, hz1, hz2⟩ := info_parts info_int
  obtain ⟨n, hn⟩ : ∃ n, n = c % 6 + 1 := ⟨_, rfl⟩
  have hn2 : 1 ≤ n := by omega
  have hn6 : n ≤ 6 := by omega
  have e1 : (c : Int) % 6 + 1 = (n : Int) := by omega
  have g1 : decide (200 < (len1 : Int)) = false := decide_eq_false (by omega)
  have g2 : decide (200 < len1) = false := decide_eq_false (by omega)
  have HNEW := Lib.hid (new_yes w n (by omega) (by omega))
  have HA := Lib.hid hA
  clear hn hA
  go_enter Try.func6, Try.ntmps6
  go_wp2_with fail
  refine HNEW.out.mono ?_
  rintro e w1 ⟨rfl, hE1, hF1⟩
  obtain ⟨x, hx⟩ : ∃ x, x = w.heap.size := ⟨_, rfl⟩
  rw [← hx] at hE1 ⊢
  have HE1 := Lib.hid hE1
  have HF1 := Lib.hid hF1
  have HX := Lib.hid hx
  obtain ⟨C0, hC0⟩ : ∃ C0, C0 = (ic (List.replicate 200 0)).toArray := ⟨_, rfl⟩
  have hzv : (zeroValue 48).run Try.prog w1 = .ok (.agg C0) w1 := by
    obtain ⟨j, hj, hj2⟩ := Option.map_eq_some_iff.1 info_200
    rw [hC0]
    simp [zeroValue, typeInfo, hj, hj2]
  have hfA : Fr F0 w1 (w1.alloc (.cells C0 48)) := (Fr.refl _ _).alloc _
  have HE2 := Lib.hid (hE1.f0 hfA)
  have HF2 := Lib.hid (hF1.trans hfA)
  have hB2 := Blk.new w1 48 C0
  rw [hC0] at hB2
  rw [← hC0] at hB2
  have HB2 := Lib.hid hB2
  have HC0 := Lib.hid hC0
  have HSX : Hid (x ≤ w1.heap.size) := by rw [hx]; exact hF1.size
  clear hE1 hF1 HNEW hx e1 hfA hC0 hB2
  go_wp2_with fail
  clear hzv
  obtain ⟨L, hL⟩ : ∃ L, L = w1.heap.size := ⟨_, rfl⟩
  rw [← hL] at HB2 HSX ⊢
  clear hL
  go_loopw [10, 9] (fun i m9 wx => ∃ (k now : Nat) (ws : List Wk) (times : List Int) (many : Nat), k ≤ len1 + 3 * n ∧ many ≤ len1 ∧ i = .int .i64 (k : Int) ∧ m9 = .int .i64 (many : Int) ∧ Hid (JG n k now ws times many) ∧ Hid (len1 ≤ k → ∃ N, QG n N (k - len1) now ws) ∧ Hid (EpAt wx x x now ws) ∧ Hid (Blk wx L 48 (ic times).toArray) ∧ Hid (Fr F0 w wx)) (fun i _ _ => len1 + 3 * n - (intOf i).toNat)
  case atStart => exact ⟨0, 0, _, _, 0, by omega, by omega, rfl, rfl, Lib.hid (JG.start n hn2), Lib.hid (fun h => ⟨0, by rw [show 0 - len1 = 0 by omega]; exact QG.start (JG.start n hn2) hn2⟩), HE2, Lib.hid (by rw [← HC0.out]; exact HB2.out), HF2⟩
  case round =>
    obtain ⟨k, now, ws, times, many, hkn, hml, rfl, rfl, HJ, HP, HE, HB, HF⟩ := hrel
    have hwx : w.heap.size ≤ x := by rw [HX.out]; exact Nat.le_refl _
    have hk6 := HJ.out.nk
    by_cases hk : k < len1 + 3 * n
    · have g3 : (k : Int) < (len1 : Int) + 3 * (n : Int) := by omega
      by_cases hkl : k < len1
      · have g4 : (k : Int) < (len1 : Int) := by omega
        obtain ⟨b, off, rfl, ca0, ca1, ca2, hf1, hf2⟩ := HA.out.2 k hkl
        have d0 := HF.out.held ca0 (fun h => h)
        have d1 := HF.out.held ca1 (fun h => h)
        clear ca0 ca1 ca2 hf1 hf2
        obtain ⟨p, hp⟩ : ∃ p, p = f k := ⟨_, rfl⟩
        rw [← hp] at d0 d1
        clear hp
        obtain ⟨ret, wz, tz⟩ := p
        have d0' : wr.cell? ⟨b, off + k * 3, none⟩ = some (.bool ret) := d0
        have d1' : wr.cell? ⟨b, off + k * 3 + 1, none⟩ = some (.int .i64 wz) := d1
        clear d0 d1
        obtain ⟨u, hun, hu⟩ := wmod wz n hn2 hn6
        cases ret with
        | true =>
          obtain ⟨q, hq⟩ := get_lt (l := ws) (i := u) (by rw [HJ.out.len]; exact hun)
          have HRT := Lib.hid (retire_yes wr x x now ws HE.out u q hq (by have := HJ.out.lim u q hq; omega) (by rw [HX.out]; exact HF.out.size) (many : Int))
          have HJ2 := Lib.hid (HJ.out.retire (by have := HJ.out.mle; omega) hq)
          clear hq
          go_wp2_with fail
          refine HRT.out.mono ?_
          rintro e w2 ⟨rfl, hE2, hF2⟩
          have HE2 := Lib.hid hE2
          have HF2 := Lib.hid (HF.out.thenE hF2 hwx)
          have HB2 := Lib.hid (HB.out.frE hF2 ne_three)
          clear hE2 hF2 HRT d0' d1' hu
          go_wp2_with fail
          exact ⟨⟨k + 1, now, _, times, many + 1, by omega, by have := HJ.out.mle; omega, by go_num, by go_num, HJ2, Lib.hid (fun h => ⟨now, by rw [show k + 1 - len1 = 0 by omega]; exact QG.start HJ2.out hn2⟩), HE2, HB2, HF2⟩, by simp [intOf]; omega⟩
        | false =>
          obtain ⟨q, hq⟩ := get_lt (l := ws) (i := u) (by rw [HJ.out.len]; exact hun)
          have HAN := Lib.hid (announce_yes wr x x now ws HE.out u q hq (by have := HJ.out.lim u q hq; omega) (by rw [HJ.out.len]; omega) (by omega))
          have hJA := HJ.out.announce hq
          have hlq := HJ.out.lim u q hq
          have HPA : Hid (len1 ≤ k + 1 → ∃ N, QG n N (k + 1 - len1) (annN now ws u q) (annW (annN now ws u q) now ws u q)) := fun h => ⟨_, by rw [show k + 1 - len1 = 0 by omega]; exact QG.start hJA.1 hn2⟩
          obtain ⟨n1, hn1⟩ : ∃ n1, n1 = annN now ws u q := ⟨_, rfl⟩
          rw [← hn1] at HAN hJA HPA
          obtain ⟨gone, hgone⟩ : ∃ gone, gone = annG n1 q := ⟨_, rfl⟩
          rw [← hgone] at hJA
          have hgl2 : gone.length ≤ 200 := by
            rw [hgone]
            unfold annG
            rw [List.length_map]
            have h1 := (List.takeWhile_prefix (rdy n1) (l := q.limbo)).length_le
            omega
          have HJA := Lib.hid hJA.1
          have HGA := Lib.hid hJA.2
          have HGONE := Lib.hid hgone
          clear hJA hn1 hgone hq hlq
          go_wp2_with fail
          refine HAN.out.mono ?_
          rintro e w2 ⟨v, rfl, hO2, hE2, hF2⟩
          rw [← HGONE.out] at hO2
          obtain ⟨gl, hgl⟩ : ∃ gl, gl = gone.length := ⟨_, rfl⟩
          rw [← hgl] at hO2 hgl2
          obtain ⟨vA, vc, rfl⟩ := own_slice hO2
          have HO2 := Lib.hid hO2
          have HE2 := Lib.hid hE2
          have HB2 := Lib.hid (HB.out.frE hF2 ne_three)
          have HF2 := Lib.hid (HF.out.thenE hF2 hwx)
          have HGL := Lib.hid hgl
          clear hO2 hE2 hF2 HAN hgl d0' d1'
          go_wp2_with fail
          clear hu
          go_loopw [14] (fun mv wx => ∃ m : Nat, m ≤ gl ∧ mv = .int .i64 (m : Int) ∧ Hid (Blk wx L 48 (ic (bump times (gone.take m))).toArray) ∧ Hid (Fr (fun q => q = L) w2 wx)) (fun mv _ => gl - (intOf mv).toNat)
          case atStart => exact ⟨0, by omega, rfl, HB2, Lib.hid (Fr.refl _ _)⟩
          case round =>
            obtain ⟨m, hmg, rfl, HBI, HFI⟩ := hrel
            have hoL : ¬ (Value.slice vA gl vc).ownBlock = some L := fun he => own_ne HO2.out HB2.out (by decide) he
            by_cases hm : m < gl
            · have g9 : (m : Int) < (gl : Int) := by omega
              obtain ⟨gz, hgz⟩ := get_lt (l := gone) (i := m) (by have := HGL.out; omega)
              have hgz0 : Hid (gone[m]? = some gz) := hgz
              obtain ⟨i, rfl, him⟩ := HGA.out gz (List.mem_of_getElem? hgz)
              obtain ⟨gb, gc, hgv, _, _, _, gcell⟩ := own_at (own_fr HO2.out HFI.out (fun q hq he => hoL (he ▸ hq))) (ic_at hgz)
              injection hgv with hgv1 _ hgv3
              subst hgv1; subst hgv3
              have hgL : gb ≠ L := fun he => hoL (by rw [he]; rfl)
              have g10 : decide ((i : Int) < 0) = false := decide_eq_false (by omega)
              have g11 : decide ((many : Int) ≤ (i : Int)) = false := decide_eq_false (by omega)
              have g11n : decide (many ≤ i) = false := decide_eq_false (by omega)
              have g12 : (i : Int) < 200 := by omega
              have g13 : i < 200 := by omega
              obtain ⟨z, hz, hz0, hz1⟩ := HJ.out.one i him
              have hbz := bump_get (gone.take m) times i z (fun y hy => by obtain ⟨j, e, _⟩ := HGA.out y (List.mem_of_mem_take hy); omega) hz
              have hcl : (gone.take m).count (i : Int) ≤ 200 := by
                have h1 := List.count_le_length (a := (i : Int)) (l := gone.take m)
                rw [List.length_take] at h1
                omega
              obtain ⟨zz, hzz⟩ : ∃ zz, zz = z + ((gone.take m).count (i : Int) : Nat) := ⟨_, rfl⟩
              rw [← hzz] at hbz
              have hb1 : 0 ≤ zz := by omega
              have hb2 : zz ≤ 300 := by omega
              have cell : wr.cell? ⟨L, i, none⟩ = some (.int .i64 zz) := by rw [HBI.out.cell, List.getElem?_toArray, ic_at hbz]
              have fzL := HBI.out.frozen i
              have HBZ := Lib.hid hbz
              clear hgz hz hz0 hz1 hbz hcl hzz
              go_wp2_with fail
              refine ⟨⟨m + 1, by omega, by go_num, Lib.hid ?_, Lib.hid (HFI.out.setCell (p := ⟨L, i, none⟩) (.inl rfl) _)⟩, by simp [intOf]; omega⟩
              rw [List.take_add_one, hgz0.out]
              show Blk _ L 48 (ic (bump times (gone.take m ++ [(i : Int)]))).toArray
              rw [bump_snoc, Int.toNat_natCast, List.getD_eq_getElem?_getD, HBZ.out, ← ic_set]
              exact HBI.out.set_ i _
            · obtain rfl : m = gl := by omega
              go_wp2_with fail
              have hfin : bump times gone = bump times (gone.take m) := by rw [List.take_of_length_le (by have := HGL.out; omega)]
              exact ⟨⟨k + 1, n1, _, bump times gone, many, by omega, by omega, by go_num, rfl, HJA, HPA, Lib.hid (HE2.out.fr HFI.out (fun q hq he => blk_mine HB2.out ne_three (he ▸ hq))), Lib.hid (by rw [hfin]; exact HBI.out), Lib.hid (Fr.then HF2.out HFI.out (fun i hi => .inr (by rw [hi]; exact Nat.le_trans hwx HSX.out)))⟩, by simp [intOf]; omega⟩
      · have g4 : ¬ (k : Int) < (len1 : Int) := by omega
        have g4b : decide ((k : Int) < (len1 : Int)) = false := decide_eq_false g4
        obtain ⟨u, hu0⟩ : ∃ u, u = (k - len1) % n := ⟨_, rfl⟩
        have hun : u < n := by rw [hu0]; exact Nat.mod_lt _ (by omega)
        have hu : ((k - len1 : Nat) : Int) % (n : Int) = (u : Int) := by rw [hu0]; exact (Int.natCast_emod _ n).symm
        have HU2 : Hid (((k : Int) - (len1 : Int)) % (n : Int) = (u : Int)) := by rw [show (k : Int) - (len1 : Int) = ((k - len1 : Nat) : Int) by omega]; exact hu
        have HU1 := Lib.hid hu
        obtain ⟨q, hq⟩ := get_lt (l := ws) (i := u) (by rw [HJ.out.len]; exact hun)
        have HAN := Lib.hid (announce_yes wr x x now ws HE.out u q hq (by have := HJ.out.lim u q hq; omega) (by rw [HJ.out.len]; omega) (by omega))
        have hJA := HJ.out.announce hq
        have hlq := HJ.out.lim u q hq
        have HPA : Hid (len1 ≤ k + 1 → ∃ N, QG n N (k + 1 - len1) (annN now ws u q) (annW (annN now ws u q) now ws u q)) := fun _ => by
          obtain ⟨N, hN⟩ := HP.out (by omega)
          exact ⟨N, by rw [show k + 1 - len1 = k - len1 + 1 by omega]; exact hN.next hn2 (by omega) hu0 hq hJA.1⟩
        obtain ⟨n1, hn1⟩ : ∃ n1, n1 = annN now ws u q := ⟨_, rfl⟩
        rw [← hn1] at HAN hJA HPA
        obtain ⟨gone, hgone⟩ : ∃ gone, gone = annG n1 q := ⟨_, rfl⟩
        rw [← hgone] at hJA
        have hgl2 : gone.length ≤ 200 := by
          rw [hgone]
          unfold annG
          rw [List.length_map]
          have h1 := (List.takeWhile_prefix (rdy n1) (l := q.limbo)).length_le
          omega
        have HJA := Lib.hid hJA.1
        have HGA := Lib.hid hJA.2
        have HGONE := Lib.hid hgone
        clear hJA hn1 hgone hq hlq
        clear hu
        go_wp2_with fail
        first | rw [HU2.out] | rw [HU1.out]
        refine HAN.out.mono ?_
        rintro e w2 ⟨v, rfl, hO2, hE2, hF2⟩
        rw [← HGONE.out] at hO2
        obtain ⟨gl, hgl⟩ : ∃ gl, gl = gone.length := ⟨_, rfl⟩
        rw [← hgl] at hO2 hgl2
        obtain ⟨vA, vc, rfl⟩ := own_slice hO2
        have HO2 := Lib.hid hO2
        have HE2 := Lib.hid hE2
        have HB2 := Lib.hid (HB.out.frE hF2 ne_three)
        have HF2 := Lib.hid (HF.out.thenE hF2 hwx)
        have HGL := Lib.hid hgl
        clear hO2 hE2 hF2 HAN hgl hu0
        go_wp2_with fail
        go_loopw [14] (fun mv wx => ∃ m : Nat, m ≤ gl ∧ mv = .int .i64 (m : Int) ∧ Hid (Blk wx L 48 (ic (bump times (gone.take m))).toArray) ∧ Hid (Fr (fun q => q = L) w2 wx)) (fun mv _ => gl - (intOf mv).toNat)
        case atStart => exact ⟨0, by omega, rfl, HB2, Lib.hid (Fr.refl _ _)⟩
        case round =>
          obtain ⟨m, hmg, rfl, HBI, HFI⟩ := hrel
          have hoL : ¬ (Value.slice vA gl vc).ownBlock = some L := fun he => own_ne HO2.out HB2.out (by decide) he
          by_cases hm : m < gl
          · have g9 : (m : Int) < (gl : Int) := by omega
            obtain ⟨gz, hgz⟩ := get_lt (l := gone) (i := m) (by have := HGL.out; omega)
            have hgz0 : Hid (gone[m]? = some gz) := hgz
            obtain ⟨i, rfl, him⟩ := HGA.out gz (List.mem_of_getElem? hgz)
            obtain ⟨gb, gc, hgv, _, _, _, gcell⟩ := own_at (own_fr HO2.out HFI.out (fun q hq he => hoL (he ▸ hq))) (ic_at hgz)
            injection hgv with hgv1 _ hgv3
            subst hgv1; subst hgv3
            have hgL : gb ≠ L := fun he => hoL (by rw [he]; rfl)
            have g10 : decide ((i : Int) < 0) = false := decide_eq_false (by omega)
            have g11 : decide ((many : Int) ≤ (i : Int)) = false := decide_eq_false (by omega)
            have g11n : decide (many ≤ i) = false := decide_eq_false (by omega)
            have g12 : (i : Int) < 200 := by omega
            have g13 : i < 200 := by omega
            obtain ⟨z, hz, hz0, hz1⟩ := HJ.out.one i him
            have hbz := bump_get (gone.take m) times i z (fun y hy => by obtain ⟨j, e, _⟩ := HGA.out y (List.mem_of_mem_take hy); omega) hz
            have hcl : (gone.take m).count (i : Int) ≤ 200 := by
              have h1 := List.count_le_length (a := (i : Int)) (l := gone.take m)
              rw [List.length_take] at h1
              omega
            obtain ⟨zz, hzz⟩ : ∃ zz, zz = z + ((gone.take m).count (i : Int) : Nat) := ⟨_, rfl⟩
            rw [← hzz] at hbz
            have hb1 : 0 ≤ zz := by omega
            have hb2 : zz ≤ 300 := by omega
            have cell : wr.cell? ⟨L, i, none⟩ = some (.int .i64 zz) := by rw [HBI.out.cell, List.getElem?_toArray, ic_at hbz]
            have fzL := HBI.out.frozen i
            have HBZ := Lib.hid hbz
            clear hgz hz hz0 hz1 hbz hcl hzz
            go_wp2_with fail
            refine ⟨⟨m + 1, by omega, by go_num, Lib.hid ?_, Lib.hid (HFI.out.setCell (p := ⟨L, i, none⟩) (.inl rfl) _)⟩, by simp [intOf]; omega⟩
            rw [List.take_add_one, hgz0.out]
            show Blk _ L 48 (ic (bump times (gone.take m ++ [(i : Int)]))).toArray
            rw [bump_snoc, Int.toNat_natCast, List.getD_eq_getElem?_getD, HBZ.out, ← ic_set]
            exact HBI.out.set_ i _
          · obtain rfl : m = gl := by omega
            go_wp2_with fail
            have hfin : bump times gone = bump times (gone.take m) := by rw [List.take_of_length_le (by have := HGL.out; omega)]
            exact ⟨⟨k + 1, n1, _, bump times gone, many, by omega, by omega, by go_num, rfl, HJA, HPA, Lib.hid (HE2.out.fr HFI.out (fun q hq he => blk_mine HB2.out ne_three (he ▸ hq))), Lib.hid (by rw [hfin]; exact HBI.out), Lib.hid (Fr.then HF2.out HFI.out (fun i hi => .inr (by rw [hi]; exact Nat.le_trans hwx HSX.out)))⟩, by simp [intOf]; omega⟩
    · have g3 : ¬ (k : Int) < (len1 : Int) + 3 * (n : Int) := by omega
      have g3b : decide ((k : Int) < (len1 : Int) + 3 * (n : Int)) = false := decide_eq_false g3
      obtain ⟨N, hN⟩ := HP.out (by omega)
      rw [show k - len1 = 3 * n by omega] at hN
      have hdone := hN.done HJ.out
      have HD1 := Lib.hid hdone.1
      have HD2 := Lib.hid hdone.2
      clear hN hdone
      go_wp2_with fail
      go_loopw [15] (fun iv wx => ∃ i : Nat, i ≤ many ∧ iv = .int .i64 (i : Int) ∧ Hid (Fr F0 wr wx)) (fun iv _ => many - (intOf iv).toNat)
      case atStart => exact ⟨0, by omega, rfl, Lib.hid (Fr.refl _ _)⟩
      case round =>
        obtain ⟨i, him, rfl, HFI⟩ := hrel
        by_cases hi : i < many
        · have g5 : (i : Int) < (many : Int) := by omega
          have g12 : (i : Int) < 200 := by omega
          have g13 : i < 200 := by omega
          have cell := (HB.out.fr HFI.out (fun h => h)).cell i
          rw [List.getElem?_toArray, ic_at (HD2.out i hi)] at cell
          go_wp2_with fail
          exact ⟨⟨i + 1, by omega, by go_num, HFI⟩, by simp [intOf]; omega⟩
        · obtain rfl : i = many := by omega
          have HEI := Lib.hid (HE.out.f0 HFI.out)
          have HFF := Lib.hid (HF.out.trans HFI.out)
          go_wp2_with fail
          go_loopw [16] (fun uv wx => ∃ u : Nat, u ≤ n ∧ uv = .int .i64 (u : Int) ∧ Hid (EpAt wx x x now ws) ∧ Hid (Fr F0 w wx)) (fun uv _ => n - (intOf uv).toNat)
          case atStart => exact ⟨0, by omega, rfl, HEI, HFF⟩
          case round =>
            obtain ⟨u, hun, rfl, HEJ, HFJ⟩ := hrel
            by_cases hu : u < n
            · have g5 : (u : Int) < (n : Int) := by omega
              obtain ⟨q, hq⟩ := get_lt (l := ws) (i := u) (by rw [HJ.out.len]; exact hu)
              have hlb := limbo_at wr x x now ws HEJ.out u q hq
              rw [HD1.out u q hq] at hlb
              have HLB : Hid (Calls Try.prog 16 #[.pointer (some ⟨x, 0, none⟩), .int .i64 (u : Int)] wr fun e w' => e = .returned (.int .i64 0) ∧ w' = wr) := hlb
              clear hlb hq
              go_wp2_with fail
              refine HLB.out.mono ?_
              rintro e w2 ⟨rfl, rfl⟩
              go_wp2_with fail
              exact ⟨⟨u + 1, by omega, by go_num, HEJ, HFJ⟩, by simp [intOf]; omega⟩
            · obtain rfl : u = n := by omega
              go_wp2_with fail
              refine (awake_any _).mono ?_
              rintro e w5 ⟨rfl, hF5⟩
              have HF5 := Lib.hid (HFJ.out.trans hF5)
              clear hF5
              go_wp2_with fail
              go_ret
              exact ⟨rfl, HF5.out⟩
theorem walk (x : Int) (hx : (Lit.int .u8 x).wf = true) (a1 : Option Addr) (len1 cap1 : Nat) (f : Nat → Bool × Int × Int) {v : World} (hA : IsActs v a1 len1 f) (w : World) (hv : v = w := by rfl) :
    Calls Try.prog 6 #[.int .u8 x, .slice a1 len1 cap1] w fun e w' => e = .returned (.bool true) ∧ Below w.heap.size w w' := by
  subst hv
  obtain ⟨c, rfl, hc⟩ : ∃ c : Nat, x = c ∧ c < 256 := bounds8 hx
  have key : Calls Try.prog 6 #[.int .u8 (c : Int), .slice a1 len1 cap1] v fun e w' => e = .returned (.bool true) ∧ Fr F0 v w' := by
    by_cases h : 200 < len1
    · exact long c a1 len1 cap1 h v
    · exact few c hc a1 len1 cap1 (by omega) f v hA
  exact key.mono fun _ _ ⟨he, hF⟩ => ⟨he, hF.below (Nat.le_refl _) (fun _ h => h.elim)⟩

/-! ### The row's step -/
theorem own : ownKnob Try.prog.godebug = none := by kernel_rfl
theorem laidOut : laidOutB Try.prog = true := by kernel_rfl

set_option maxRecDepth 100000 in
theorem lifted (os : Os) (started : os.Started) (H : Type) (enc : TypeId × Value → H) :
    ReturnsInHanded {} Try.checked os 6 .any (Rows.epochGoesSpec.pre6 enc Try.prog Try.f6 Rows.epochGoesRow.domain false) (Rows.epochGoesSpec.post enc Try.prog Try.f6 false true false false) := by
  refine returnsInHanded_of_change (C := Try.checked) own started (by kernel_rfl) Try.func6
    (ChangeSpec.witness6 (enc := enc) (C := Try.checked) false ⟨#[], #[.int .u8 0, .slice none 0 0], []⟩ 8 (by kernel_rfl) (by kernel_rfl) (by kernel_rfl) (by kernel_rfl)) ?_
  intro W base args ds gs before hval0 hW hcnd _
  have hval : ∀ (j : Nat) t v, Try.f6.params[j]? = some t → args[j]? = some v → Value.okWide Try.prog W .any base t v := hval0
  have hW' := hW
  obtain ⟨p, q, hA0, hV, rfl, hfz, hnd⟩ := hW
  have hA : DataW.TrodAll enc Try.prog W 0 (fun _ => true) true Try.f6.params.toList args.toList ds p := hA0
  rw [Try.params6] at hA hval
  obtain ⟨v0, vs0, d0, ds0, p0, q0, hargs, rfl, rfl, h0, r0⟩ := trodAll_cons hA
  obtain ⟨v1, vs1, d1, ds1, p1, q1, rfl, rfl, rfl, h1, r1⟩ := trodAll_cons r0
  obtain ⟨rfl, rfl, rfl⟩ := trodAll_nil r1
  obtain rfl : args = #[v0, v1] := by cases args; simp_all
  obtain ⟨rfl, rfl⟩ := trodVars_none hV
  obtain ⟨a0, rfl, rfl, rfl, w0⟩ := open_int Try.underlying5 (hval 0 5 v0 rfl rfl) h0
  obtain ⟨a1, len1, cap1, rfl⟩ := okWide_slice Try.underlying22 (hval 1 22 v1 rfl rfl)
  have k1 := h1
  have lt1 : ∀ x ∈ p1, x.block < W.heap.size := by obtain ⟨m, hm⟩ := k1; exact DataW.trod_lt m _ _ _ hm
  obtain ⟨z1, w1⟩ := open_acts h1
  clear hA0 hval0
  refine (walk a0 w0 a1 len1 cap1 z1 w1 W).mono fun e W' ⟨he, bel⟩ => ?_
  subst he
  exact ⟨_, rfl, _, _, _, [], _, [], hW', trodAll_mk1 (shut_bool Try.underlying4 _), (trodAll_cons_mk (shut_int Try.underlying5 w0) (trodAll_cons_mk (Below.trod laidOut (by kernel_rfl) (of_decide_eq_true (by kernel_rfl)) k1 bel lt1) trodAll_mk0)), rfl, bel.frame _, fun h => by cases h⟩

theorem over : Rows.epochGoesRow.holds Try.pinned (OpenSpec.ofChange Rows.epochGoesSpec) :=
  OpenClaim.holds_of_wide 6 Try.f6 rfl rfl rfl rfl rfl rfl rfl ⟨rfl, rfl, rfl, rfl, rfl⟩ rfl rfl rfl rfl rfl (by kernel_rfl) Try.func6 (by kernel_rfl)
    (of_decide_eq_true (by kernel_rfl)) (by unfold Func.isWrapper; first | (rw [if_pos (by decide +kernel)]; kernel_rfl) | (rw [if_neg (by decide +kernel)]; exact ⟨rfl, rfl⟩))
    (fun os started H enc _ => lifted os started H enc)

/-- The statement. -/
theorem proved : Rows.EpochGoesSaid := over
#print axioms proved
end Go.Proofs.Ytjphmiemakmcbaa.epochGoes
