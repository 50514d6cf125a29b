/-
  The document's Announce.
-/
import Derived.Test.YtjphmiemakmcbaaEr1
namespace Go.Proofs.Ytjphmiemakmcbaa
open Go.RowKit

/-- The document's epoch behind an announcing. -/
def rN (now : Nat) (anns : List Int) (i : Nat) : Nat := if (anns.set i (now : Int)).all (fun a => a == (now : Int)) = true then now + 1 else now
/-- Does a thing go? -/
def rp (n1 : Nat) (i : Int) (t : Th) : Bool := t.1 == i && decide (t.2.2 + 2 ≤ n1)
def rOut (n1 : Nat) (i : Int) (L : List Th) : List Int := (L.filter (rp n1 i)).map fun t => t.2.1
def rLeft (n1 : Nat) (i : Int) (L : List Th) : List Th := L.filter fun t => !rp n1 i t
/-- What it comes to. -/
def RAnnP (w : World) (base lim r now : Nat) (anns : List Int) (L : List Th) (i n1 : Nat) (e : Ending) (w' : World) : Prop :=
  ∃ v, e = .returned v ∧ w'.ownsRow w.heap.size 3 1 v (rOut n1 (i : Int) L).length (ic (rOut n1 (i : Int) L)) ∧ RfAt w' base lim r n1 (anns.set i (now : Int)) (rLeft n1 (i : Int) L) ∧ FrR base lim w w'
theorem ob_lt {g n c q lim : Nat} (h : (Value.slice (some ⟨g, 0, none⟩) n c).ownBlock = some q) (hg : g < lim) : q < lim := by
  have : g = q := by simpa [Value.ownBlock] using h
  omega
theorem info_thing : (Try.prog.info? 37).map (fun i => (i.zero, i.size, i.bytes)) = some (some (.agg #[.int .i64 0, .int .i64 0, .int .i64 0]), 3, 24) := by kernel_rfl
theorem ic_setL (l : List Int) (i : Nat) (z : Int) : (ic l).set i (.int .i64 z) = ic (l.set i z) := by simp [ic, List.map_set]

set_option maxHeartbeats 8000000 in
set_option maxRecDepth 100000 in
theorem rann_any (w : World) (base lim r now : Nat) (anns : List Int) (L : List Th) (hR : RfAt w base lim r now anns L) (i : Nat) (hi : i < anns.length) (hal : anns.length ≤ 64) (hl : L.length ≤ 1000) (hnow : now ≤ 1000000) (hat : ∀ t ∈ L, t.2.2 ≤ now) (hbase : base ≤ w.heap.size) :
    Calls Try.prog 13 #[.pointer (some ⟨r, 0, none⟩), .int .i64 (i : Int)] w (RAnnP w base lim r now anns L i (rN now anns i)) := by
  obtain ⟨i0, hi0, hz0, hz1, hz2⟩ := info_parts info_int
  obtain ⟨i3, hi3, hz30, hz31, hz32⟩ := info_parts info_thing
  obtain ⟨v1, v2, hR⟩ := hR
  obtain ⟨a0, ha0⟩ := get_lt hi
  obtain ⟨g, cap, rfl, hgb, _, hnc, hca⟩ := own_at hR.ha (ic_at ha0)
  obtain ⟨n, hn⟩ : ∃ n, n = anns.length := ⟨_, rfl⟩
  obtain ⟨m, hm⟩ : ∃ m, m = L.length := ⟨_, rfl⟩
  obtain ⟨LA, lc, rfl⟩ := own_slice hR.hl
  have hgf : w.frozen? ⟨g, i, none⟩ = false := by
    obtain ⟨cs, hcs⟩ := own_head hR.ha g rfl
    exact Blk.frozen (t := 3) hcs i
  rw [← hn] at hR hi hal
  rw [← hm] at hR hl
  have c1 : w.cell? ⟨r, 1, none⟩ = some (.slice (some ⟨g, 0, none⟩) n cap) := by rw [hR.hr.cell]; rfl
  have c0 : w.cell? ⟨r, 0, none⟩ = some (.int .i64 (now : Int)) := by rw [hR.hr.cell]; rfl
  have hgr : g ≠ r := by
    obtain ⟨cs, hcs⟩ := own_head hR.ha g rfl
    exact head_ne hcs hR.hr (by decide)
  have hgl : ∀ q, (Value.slice LA m lc).ownBlock = some q → q ≠ g := by
    intro q hq he
    obtain ⟨cs, hcs⟩ := own_head hR.ha g rfl
    obtain ⟨cs2, hcs2⟩ := own_head hR.hl q hq
    exact head_ne hcs hcs2 (by decide) he.symm
  have g3 : (i : Int) < (n : Int) := by omega
  -- behind the first store
  have hf1 : Fr (fun k => k = g) w ((w.setCell ⟨g, i, none⟩ (.int .i64 (now : Int))).drew) := ((Fr.refl (fun k => k = g) w).setCell (p := ⟨g, i, none⟩) (.inl rfl) _).drew
  have HBR := Lib.hid (hR.hr.fr hf1 (fun he => hgr he.symm))
  have hrow : w.ownsRow base 3 1 (.slice (some ⟨g, 0, none⟩) n cap) n (ic anns) := by have := hR.ha; rw [← hn] at this; exact this
  have hrow2 : (w.setCell ⟨g, i, none⟩ (.int .i64 (now : Int))).ownsRow base 3 1 (.slice (some ⟨g, 0, none⟩) n cap) n (ic (anns.set i (now : Int))) := by
    have := own_set (j := i) (u := .int .i64 (now : Int)) hrow
    rw [ic_setL] at this
    exact this
  have HROW : Hid (((w.setCell ⟨g, i, none⟩ (.int .i64 (now : Int))).drew).ownsRow base 3 1 (.slice (some ⟨g, 0, none⟩) n cap) n (ic (anns.set i (now : Int)))) := hrow2
  have hlw : w.ownsRow base 37 3 (.slice LA m lc) m (tc L) := by have := hR.hl; rw [← hm] at this; exact this
  have HLR := Lib.hid (own_fr hlw hf1 (fun q hq he => hgl q hq he))
  have HF1 : Hid (FrR base lim w ((w.setCell ⟨g, i, none⟩ (.int .i64 (now : Int))).drew)) := hf1.mono (fun k hk => by
    obtain ⟨cs, hcs⟩ := own_head hR.ha g rfl
    rw [hk]
    exact ⟨hgb, _, _, _, hcs, .inr (.inl ⟨rfl, hR.al g rfl⟩)⟩)
  obtain ⟨an, han⟩ : ∃ an, an = anns.set i (now : Int) := ⟨_, rfl⟩
  have hanl : an.length = n := by rw [han, List.length_set, hn]
  obtain ⟨n1, hn1⟩ : ∃ n1, n1 = rN now anns i := ⟨_, rfl⟩
  have hn1' : n1 = if an.all (fun a => a == (now : Int)) = true then now + 1 else now := by rw [hn1, han]; rfl
  rw [← hn1]
  rw [← han] at HROW
  have HAN := Lib.hid han
  have HANL := Lib.hid hanl
  have HN1 := Lib.hid hn1'
  have HMM := Lib.hid hm
  have HAT := Lib.hid hat
  have HBASE := Lib.hid (show base ≤ ((w.setCell ⟨g, i, none⟩ (.int .i64 (now : Int))).drew).heap.size from Nat.le_trans hbase HF1.out.size)
  have HBR2 := Lib.hid hR.br
  have HGA := Lib.hid (hR.al g rfl)
  clear hR ha0 hnc hn hm hf1 hrow hrow2 hlw han hanl hn1 hn1' hat hgb hgl
  go_enter Try.func13, Try.ntmps13
  go_wp2_with fail
  refine region_K 9 (fun w' : World => w'.cell? ⟨r, 1, none⟩ = some (.slice (some ⟨g, 0, none⟩) n cap) ∧ w'.cell? ⟨r, 0, none⟩ = some (.int .i64 (now : Int))) (by kernel_rfl) ?_
  have HS : (fun w' : World => w'.cell? ⟨r, 1, none⟩ = some (.slice (some ⟨g, 0, none⟩) n cap) ∧ w'.cell? ⟨r, 0, none⟩ = some (.int .i64 (now : Int))) (w).drew := ⟨c1, c0⟩
  refine AnyK.take (i := 0) rfl (by decide) (by kernel_rfl) (by kernel_rfl) (by kernel_rfl) (fun _ _ _ _ h => h) HS (fun K hK => ?_)
  go_simp
  refine hK.out _ ⟨_, by rfl, Or.inl ⟨by rfl, by intro w hSw; (try dsimp only at hSw); go_simp⟩, ?_⟩
  clear hK K
  refine AnyK.take (i := 1) rfl (by decide) (by kernel_rfl) (by kernel_rfl) (by kernel_rfl) (fun _ _ _ _ h => h) HS (fun K hK => ?_)
  go_simp
  refine hK.out _ ⟨_, by rfl, Or.inl ⟨by rfl, by intro w hSw; (try dsimp only at hSw); go_simp⟩, ?_⟩
  clear hK K
  refine AnyK.take (i := 2) rfl (by decide) (by kernel_rfl) (by kernel_rfl) (by kernel_rfl) (fun _ _ _ _ h => h) HS (fun K hK => ?_)
  go_simp
  refine hK.out _ ⟨_, by rfl, Or.inl ⟨by rfl, by intro w hSw; (try dsimp only at hSw); go_simp⟩, ?_⟩
  clear hK K
  refine AnyK.take (i := 3) rfl (by decide) (by kernel_rfl) (by kernel_rfl) (by kernel_rfl) (fun _ _ _ _ h => h) HS (fun K hK => ?_)
  go_simp
  refine hK.out _ ⟨_, by rfl, Or.inl ⟨by rfl, by intro w hSw; (try dsimp only at hSw); go_simp⟩, ?_⟩
  clear hK K
  refine AnyK.take (i := 4) rfl (by decide) (by kernel_rfl) (by kernel_rfl) (by kernel_rfl) (fun _ _ _ _ h => h) HS (fun K hK => ?_)
  go_simp
  refine hK.out _ ⟨_, by rfl, Or.inl ⟨by rfl, by intro w hSw; (try dsimp only at hSw); go_simp⟩, ?_⟩
  clear hK K
  refine AnyK.take (i := 5) rfl (by decide) (by kernel_rfl) (by kernel_rfl) (by kernel_rfl) (fun _ _ _ _ h => h) HS (fun K hK => ?_)
  go_simp
  refine hK.out _ ⟨_, by rfl, Or.inl ⟨by rfl, by intro w hSw; (try dsimp only at hSw); go_simp⟩, ?_⟩
  clear hK K
  refine AnyK.take (i := 6) rfl (by decide) (by kernel_rfl) (by kernel_rfl) (by kernel_rfl) (fun _ _ _ _ h => h) HS (fun K hK => ?_)
  go_simp
  refine hK.out _ ⟨_, by rfl, Or.inl ⟨by rfl, by intro w hSw; (try dsimp only at hSw); go_simp⟩, ?_⟩
  clear hK K
  refine AnyK.take (i := 7) rfl (by decide) (by kernel_rfl) (by kernel_rfl) (by kernel_rfl) (fun _ _ _ _ h => h) HS (fun K hK => ?_)
  go_simp
  refine hK.out _ ⟨_, by rfl, Or.inl ⟨by rfl, by intro w hSw; (try dsimp only at hSw); go_simp⟩, ?_⟩
  clear hK K
  refine AnyK.take (i := 8) rfl (by decide) (by kernel_rfl) (by kernel_rfl) (by kernel_rfl) (fun _ _ _ _ h => h) HS (fun K hK => ?_)
  go_simp
  refine hK.out _ ⟨_, by rfl, Or.inl ⟨by rfl, by intro w hSw; (try dsimp only at hSw); go_simp⟩, ?_⟩
  clear hK K
  refine AnyK.one (i := 9) rfl (by kernel_rfl) (fun K hK => ?_)
  go_simp
  refine hK.out _ _ (fun _ => HS) ?_
  clear hK K
  refine AnyK.one (i := 10) rfl (by kernel_rfl) (fun K hK => ?_)
  go_simp
  refine hK.out _ _ (fun h => absurd (h.symm.trans (by kernel_rfl : _ = true)) (by decide)) ?_
  clear hK K
  refine AnyK.done (by kernel_rfl) ?_ _
  clear HS hca hgf c1 c0
  generalize ((w.setCell ⟨g, i, none⟩ (.int .i64 (now : Int))).drew) = W1 at *
  go_wp2_with fail
  go_loopw [6, 5] (fun iv av wx => ∃ (k : Nat) (b : Bool), k ≤ n ∧ iv = .int .i64 (k : Int) ∧ av = .bool b ∧ Hid (b = (an.take k).all (fun a => a == (now : Int))) ∧ Hid (Fr F0 W1 wx)) (fun iv _ _ => n - (intOf iv).toNat)
  case atStart => exact ⟨0, true, by omega, rfl, rfl, Lib.hid (by simp), Lib.hid (Fr.refl _ _)⟩
  case round =>
    obtain ⟨k, b, hkn, rfl, rfl, HB, HF⟩ := hrel
    have hBR := HBR.out.fr HF.out (fun h => h)
    have d1 : wr.cell? ⟨r, 1, none⟩ = some (.slice (some ⟨g, 0, none⟩) n cap) := by rw [hBR.cell]; rfl
    have d0 : wr.cell? ⟨r, 0, none⟩ = some (.int .i64 (now : Int)) := by rw [hBR.cell]; rfl
    have d2 : wr.cell? ⟨r, 2, none⟩ = some (.slice LA m lc) := by rw [hBR.cell]; rfl
    by_cases hk : k < n
    · have e1 : (k : Int) < (n : Int) := by omega
      obtain ⟨a, ha⟩ := get_lt (l := an) (i := k) (by rw [HANL.out]; exact hk)
      obtain ⟨g', cap', hv, _, _, _, d3⟩ := own_at (own_fr HROW.out HF.out (fun _ _ h => h)) (ic_at ha)
      injection hv with hv1 _ hv3
      injection hv1 with hv1
      injection hv1 with hv1
      subst hv1; subst hv3
      have hsp : an.take (k + 1) = an.take k ++ [a] := by rw [List.take_add_one, ha]; rfl
      have HSP := Lib.hid hsp
      clear ha hsp hBR d2
      cases b with
      | true =>
        by_cases hab : a = (now : Int)
        · subst hab
          go_wp2_with fail
          go_quiet (fail)
          go_wp2_with fail
          refine ⟨⟨k + 1, true, by omega, by go_num, rfl, Lib.hid ?_, Lib.hid (HF.out.drewN _)⟩, by simp [intOf]; omega⟩
          rw [HSP.out, List.all_append, ← HB.out]
          simp
        · have heb : (a == (now : Int)) = false := by simp [hab]
          have HEB := Lib.hid heb
          clear hab
          go_wp2_with fail
          go_quiet (fail)
          go_wp2_with fail
          refine ⟨⟨k + 1, false, by omega, by go_num, rfl, Lib.hid ?_, Lib.hid (HF.out.drewN _)⟩, by simp [intOf]; omega⟩
          rw [HSP.out, List.all_append, ← HB.out]
          simp [HEB.out]
      | false =>
        go_wp2_with fail
        go_quiet (fail)
        go_wp2_with fail
        refine ⟨⟨k + 1, false, by omega, by go_num, rfl, Lib.hid ?_, Lib.hid (HF.out.drewN _)⟩, by simp [intOf]; omega⟩
        rw [HSP.out, List.all_append, ← HB.out]
        rfl
    · obtain rfl : k = n := by omega
      have hb : b = an.all (fun a => a == (now : Int)) := by
        have := HB.out
        rw [List.take_of_length_le (by rw [HANL.out]; exact Nat.le_refl _)] at this
        exact this
      have hn1 := HN1.out
      rw [← hb] at hn1
      have HBR3 := Lib.hid hBR
      have frr := hBR.frozen 0
      clear hBR hb HB
      cases b with
      | true =>
        obtain rfl : n1 = now + 1 := by simpa using hn1
        clear hn1
        have hBW := HBR3.out.set_ 0 (.int .i64 ((now : Int) + 1))
        have hfW : Fr (fun q => q = r) wr (wr.setCell ⟨r, 0, none⟩ (.int .i64 ((now : Int) + 1))) := (Fr.refl (fun q => q = r) wr).setCell (p := ⟨r, 0, none⟩) (.inl rfl) _
        have HBW : Hid (Blk (wr.setCell ⟨r, 0, none⟩ (.int .i64 ((now : Int) + 1))) r 35 #[.int .i64 ((now + 1 : Nat) : Int), .slice (some ⟨g, 0, none⟩) k cap, .slice LA m lc]) := hBW
        have HFW : Hid (FrR base lim W1 (wr.setCell ⟨r, 0, none⟩ (.int .i64 ((now : Int) + 1)))) := FrR.trans (Fr.f0 HF.out) (hfW.mono (fun q hq => by rw [hq]; exact ⟨HBR2.out, _, _, _, HBR3.out, .inl rfl⟩))
        have HRW := Lib.hid (own_fr (own_fr HROW.out HF.out (fun _ _ h => h)) hfW (fun q hq he => own_ne (own_fr HROW.out HF.out (fun _ _ h => h)) HBR3.out (by decide) (he ▸ hq)))
        have HLW := Lib.hid (own_fr (own_fr HLR.out HF.out (fun _ _ h => h)) hfW (fun q hq he => own_ne (own_fr HLR.out HF.out (fun _ _ h => h)) HBR3.out (by decide) (he ▸ hq)))
        clear hBW hfW
        go_wp2_with fail
        clear d0 d1 d2 frr HF HBR3
        generalize (wr.setCell ⟨r, 0, none⟩ (.int .i64 ((now : Int) + 1))) = W2 at *
        have hsz : base ≤ W2.heap.size := Nat.le_trans HBASE.out HFW.out.size
        go_loopw [9, 7, 8] (fun jv ov lv wx => ∃ (j : Nat), j ≤ m ∧ jv = .int .i64 (j : Int) ∧ Hid (wx.ownsRow W2.heap.size 3 1 ov (rOut (now + 1) (i : Int) (L.take j)).length (ic (rOut (now + 1) (i : Int) (L.take j)))) ∧ Hid (wx.ownsRow W2.heap.size 37 3 lv (rLeft (now + 1) (i : Int) (L.take j)).length (tc (rLeft (now + 1) (i : Int) (L.take j)))) ∧ Hid (Fr F0 W2 wx)) (fun jv _ _ _ => m - (intOf jv).toNat)
        case atStart => exact ⟨0, by omega, rfl, Lib.hid (World.ownsRow_nil _ _ _ _), Lib.hid (World.ownsRow_nil _ _ _ _), Lib.hid (Fr.refl _ _)⟩
        case round =>
          obtain ⟨j, hjm, rfl, HO, HLL, HFJ⟩ := hrel
          have hBJ := HBW.out.fr HFJ.out (fun h => h)
          have d0 : wr.cell? ⟨r, 0, none⟩ = some (.int .i64 ((now : Int) + 1)) := by rw [hBJ.cell]; rfl
          have d2 : wr.cell? ⟨r, 2, none⟩ = some (.slice LA m lc) := by rw [hBJ.cell]; rfl
          by_cases hj : j < m
          · have e1 : (j : Int) < (m : Int) := by omega
            obtain ⟨t, ht⟩ := get_lt (l := L) (i := j) (by have := HMM.out; omega)
            have hta := HAT.out t (List.mem_of_getElem? ht)
            obtain ⟨g2, cap2, hv, _, _, f0, f1, f2⟩ := own_th (own_fr HLW.out HFJ.out (fun _ _ h => h)) ht
            injection hv with hv1 _ hv3
            subst hv1; subst hv3
            have HSP : Hid (L.take (j + 1) = L.take j ++ [t]) := by rw [List.take_add_one, ht]; rfl
            obtain ⟨ol, hol⟩ : ∃ ol, ol = (rOut (now + 1) (i : Int) (L.take j)).length := ⟨_, rfl⟩
            obtain ⟨ll, hll⟩ : ∃ ll, ll = (rLeft (now + 1) (i : Int) (L.take j)).length := ⟨_, rfl⟩
            have hol2 : ol ≤ 1000 := by
              rw [hol]; unfold rOut; rw [List.length_map]
              have h1 := List.length_filter_le (rp (now + 1) (i : Int)) (L.take j)
              rw [List.length_take] at h1
              omega
            have hll2 : ll ≤ 1000 := by
              rw [hll]; unfold rLeft
              have h1 := List.length_filter_le (fun t => !rp (now + 1) (i : Int) t) (L.take j)
              rw [List.length_take] at h1
              omega
            rw [← hol] at HO
            rw [← hll] at HLL
            obtain ⟨oA, oc, rfl⟩ := own_slice HO.out
            obtain ⟨lA, lc', rfl⟩ := own_slice HLL.out
            have hww : W2.heap.size ≤ wr.heap.size := HFJ.out.size
            have HOL := Lib.hid hol
            have HLE := Lib.hid hll
            obtain ⟨go, hgo⟩ : ∃ go, go = rp (now + 1) (i : Int) t := ⟨_, rfl⟩
            have HGO := Lib.hid hgo
            obtain ⟨ti, tth, ta⟩ := t
            have f0' : wr.cell? ⟨g2, j * 3, none⟩ = some (.int .i64 ti) := f0
            have f1' : wr.cell? ⟨g2, j * 3 + 1, none⟩ = some (.int .i64 tth) := f1
            have f2' : wr.cell? ⟨g2, j * 3 + 2, none⟩ = some (.int .i64 (ta : Int)) := f2
            have hta' : ta ≤ now := hta
            have hq1 : ((ti == (i : Int)) = true ∧ decide ((ta : Int) + 2 ≤ (now : Int) + 1) = go) ∨ ((ti == (i : Int)) = false ∧ go = false) := by
              rw [hgo]
              unfold rp
              cases hti : (ti == (i : Int)) with
              | true =>
                refine .inl ⟨rfl, ?_⟩
                show _ = (true && decide (ta + 2 ≤ now + 1))
                rw [Bool.true_and]
                by_cases h : ta + 2 ≤ now + 1
                · rw [decide_eq_true h, decide_eq_true (by omega)]
                · rw [decide_eq_false h, decide_eq_false (by omega)]
              | false => exact .inr ⟨rfl, rfl⟩
            clear f0 f1 f2 ht hol hll hgo hBJ hta
            have HO1 : Hid (∀ nq, ((wr.drewN nq).alloc (.cells #[.int .i64 tth] 3)).ownsRow W2.heap.size 3 1 (.slice oA ol oc) ol (ic (rOut (now + 1) (i : Int) (L.take j)))) := fun nq => own_fr HO.out (((Fr.refl F0 wr).drewN nq).alloc _) (fun _ _ h => h)
            have HL1 : Hid (∀ nq, ((wr.drewN nq).alloc (.cells #[.int .i64 ti, .int .i64 tth, .int .i64 (ta : Int)] 37)).ownsRow W2.heap.size 37 3 (.slice lA ll lc') ll (tc (rLeft (now + 1) (i : Int) (L.take j)))) := fun nq => own_fr HLL.out (((Fr.refl F0 wr).drewN nq).alloc _) (fun _ _ h => h)
            have HNB1 : Hid (∀ nq, ((wr.drewN nq).alloc (.cells #[.int .i64 tth] 3)).heap[wr.heap.size]? = some (.cells #[.int .i64 tth] 3)) := fun nq => heap_alloc_new (wr.drewN nq) _
            have HNB2 : Hid (∀ nq, ((wr.drewN nq).alloc (.cells #[.int .i64 ti, .int .i64 tth, .int .i64 (ta : Int)] 37)).heap[wr.heap.size]? = some (.cells #[.int .i64 ti, .int .i64 tth, .int .i64 (ta : Int)] 37)) := fun nq => heap_alloc_new (wr.drewN nq) _
            rcases hq1 with ⟨q1, q2⟩ | ⟨q1, q2⟩
            · cases go with
              | true =>
                go_wp2_with fail
                go_quiet (fail)
                go_wp2_with (at_builtin; refine wpList_append_lies _ rfl (.tmp 87) (.tmp 96) 33 rfl W2.heap.size 3 i0 (.int .i64 0) 1 8 Try.underlying33 hi0 hz0 hz1 hz2 rfl (by decide) _ ol _ rfl (HO1.out _) ⟨wr.heap.size, 0, none⟩ 1 1 [.int .i64 tth] rfl rfl ?c1 ?c2 (by decide) ?c3 ?c4 ?c5 (wr.heap.size + 1) ?c6 ?_)
                case c1 => intro i u hi; exact World.news_of_block (HNB1.out _) i u hi
                case c2 => intro u hu; simp at hu; rcases hu with rfl; rfl
                case c3 => unfold maxLen; omega
                case c4 => omega
                case c5 => simp; omega
                case c6 => simp
                intro g5 cap5 w5 hown5 hg5 hor5 hlt5
                have HF5 : Hid (Fr F0 W2 w5) := Fr.then ((HFJ.out.drewN _).alloc _) (Fr.grown hg5) (fun i hi => .inr (own_low HO.out i hi.symm))
                have HL5 : Hid (w5.ownsRow W2.heap.size 37 3 (.slice lA ll lc') ll (tc (rLeft (now + 1) (i : Int) (L.take j)))) := own_fr (own_fr HLL.out (((Fr.refl F0 wr).drewN _).alloc _) (fun _ _ h => h)) (Fr.grown hg5) (fun q hq he => own_apart HO.out HLL.out (by decide) q he.symm hq)
                have HO5 := Lib.hid hown5
                clear hown5 hg5 hor5 hlt5
                go_wp2_with fail
                have hro : rOut (now + 1) (i : Int) (L.take (j + 1)) = rOut (now + 1) (i : Int) (L.take j) ++ [tth] := by
                  unfold rOut
                  rw [HSP.out, List.filter_append, List.filter_cons, ← HGO.out, List.map_append]
                  rfl
                have hrl : rLeft (now + 1) (i : Int) (L.take (j + 1)) = rLeft (now + 1) (i : Int) (L.take j) := by
                  unfold rLeft
                  rw [HSP.out, List.filter_append, List.filter_cons, ← HGO.out]
                  simp
                refine ⟨⟨j + 1, by omega, by go_num, Lib.hid ?_, Lib.hid ?_, HF5⟩, by simp [intOf]; omega⟩
                · rw [hro, List.length_append, ← HOL.out]
                  simpa [ic] using HO5.out
                · rw [hrl, ← HLE.out]
                  exact HL5.out
              | false =>
                go_wp2_with fail
                go_quiet (fail)
                go_wp2_with (at_builtin; refine wpList_append_lies _ rfl (.tmp 98) (.tmp 106) 32 rfl W2.heap.size 37 i3 (.agg #[.int .i64 0, .int .i64 0, .int .i64 0]) 3 24 Try.underlying32 hi3 hz30 hz31 hz32 rfl (by decide) _ ll _ rfl (HL1.out _) ⟨wr.heap.size, 0, none⟩ 1 1 [.int .i64 ti, .int .i64 tth, .int .i64 (ta : Int)] rfl rfl ?c1 ?c2 (by decide) ?c3 ?c4 ?c5 (wr.heap.size + 1) ?c6 ?_)
                case c1 => intro i u hi; exact World.news_of_block (HNB2.out _) i u hi
                case c2 => intro u hu; simp at hu; rcases hu with rfl | rfl | rfl <;> rfl
                case c3 => unfold maxLen; omega
                case c4 => omega
                case c5 => simp; omega
                case c6 => simp
                intro g5 cap5 w5 hown5 hg5 hor5 hlt5
                have HF5 : Hid (Fr F0 W2 w5) := Fr.then ((HFJ.out.drewN _).alloc _) (Fr.grown hg5) (fun i hi => .inr (own_low HLL.out i hi.symm))
                have HO5 : Hid (w5.ownsRow W2.heap.size 3 1 (.slice oA ol oc) ol (ic (rOut (now + 1) (i : Int) (L.take j)))) := own_fr (own_fr HO.out (((Fr.refl F0 wr).drewN _).alloc _) (fun _ _ h => h)) (Fr.grown hg5) (fun q hq he => own_apart HO.out HLL.out (by decide) q hq he.symm)
                have HL5 := Lib.hid hown5
                clear hown5 hg5 hor5 hlt5
                go_wp2_with fail
                have hro : rOut (now + 1) (i : Int) (L.take (j + 1)) = rOut (now + 1) (i : Int) (L.take j) := by
                  unfold rOut
                  rw [HSP.out, List.filter_append, List.filter_cons, ← HGO.out]
                  simp
                have hrl : rLeft (now + 1) (i : Int) (L.take (j + 1)) = rLeft (now + 1) (i : Int) (L.take j) ++ [(ti, tth, ta)] := by
                  unfold rLeft
                  rw [HSP.out, List.filter_append, List.filter_cons, ← HGO.out]
                  simp
                refine ⟨⟨j + 1, by omega, by go_num, Lib.hid ?_, Lib.hid ?_, HF5⟩, by simp [intOf]; omega⟩
                · rw [hro, ← HOL.out]
                  exact HO5.out
                · rw [hrl, List.length_append, ← HLE.out, tc_append]
                  exact HL5.out
            · subst q2
              go_wp2_with fail
              go_quiet (fail)
              go_wp2_with (at_builtin; refine wpList_append_lies _ rfl (.tmp 98) (.tmp 106) 32 rfl W2.heap.size 37 i3 (.agg #[.int .i64 0, .int .i64 0, .int .i64 0]) 3 24 Try.underlying32 hi3 hz30 hz31 hz32 rfl (by decide) _ ll _ rfl (HL1.out _) ⟨wr.heap.size, 0, none⟩ 1 1 [.int .i64 ti, .int .i64 tth, .int .i64 (ta : Int)] rfl rfl ?c1 ?c2 (by decide) ?c3 ?c4 ?c5 (wr.heap.size + 1) ?c6 ?_)
              case c1 => intro i u hi; exact World.news_of_block (HNB2.out _) i u hi
              case c2 => intro u hu; simp at hu; rcases hu with rfl | rfl | rfl <;> rfl
              case c3 => unfold maxLen; omega
              case c4 => omega
              case c5 => simp; omega
              case c6 => simp
              intro g5 cap5 w5 hown5 hg5 hor5 hlt5
              have HF5 : Hid (Fr F0 W2 w5) := Fr.then ((HFJ.out.drewN _).alloc _) (Fr.grown hg5) (fun i hi => .inr (own_low HLL.out i hi.symm))
              have HO5 : Hid (w5.ownsRow W2.heap.size 3 1 (.slice oA ol oc) ol (ic (rOut (now + 1) (i : Int) (L.take j)))) := own_fr (own_fr HO.out (((Fr.refl F0 wr).drewN _).alloc _) (fun _ _ h => h)) (Fr.grown hg5) (fun q hq he => own_apart HO.out HLL.out (by decide) q hq he.symm)
              have HL5 := Lib.hid hown5
              clear hown5 hg5 hor5 hlt5
              go_wp2_with fail
              have hro : rOut (now + 1) (i : Int) (L.take (j + 1)) = rOut (now + 1) (i : Int) (L.take j) := by
                unfold rOut
                rw [HSP.out, List.filter_append, List.filter_cons, ← HGO.out]
                simp
              have hrl : rLeft (now + 1) (i : Int) (L.take (j + 1)) = rLeft (now + 1) (i : Int) (L.take j) ++ [(ti, tth, ta)] := by
                unfold rLeft
                rw [HSP.out, List.filter_append, List.filter_cons, ← HGO.out]
                simp
              refine ⟨⟨j + 1, by omega, by go_num, Lib.hid ?_, Lib.hid ?_, HF5⟩, by simp [intOf]; omega⟩
              · rw [hro, ← HOL.out]
                exact HO5.out
              · rw [hrl, List.length_append, ← HLE.out, tc_append]
                exact HL5.out
          · obtain rfl : j = m := by omega
            have frr := hBJ.frozen 2
            have HBJ := Lib.hid hBJ
            have HLA : Hid (L.take j = L) := List.take_of_length_le (by have := HMM.out; omega)
            obtain ⟨ol, hol⟩ : ∃ ol, ol = (rOut (now + 1) (i : Int) (L.take j)).length := ⟨_, rfl⟩
            obtain ⟨ll, hll⟩ : ∃ ll, ll = (rLeft (now + 1) (i : Int) (L.take j)).length := ⟨_, rfl⟩
            rw [← hol] at HO
            rw [← hll] at HLL
            obtain ⟨oA, oc, rfl⟩ := own_slice HO.out
            obtain ⟨lA, lc', rfl⟩ := own_slice HLL.out
            have HOL := Lib.hid hol
            have HLE := Lib.hid hll
            clear hBJ hol hll
            go_wp2_with fail
            go_ret
            have hfW : Fr (fun q => q = r) wr (wr.setCell ⟨r, 2, none⟩ (.slice lA ll lc')) := (Fr.refl (fun q => q = r) wr).setCell (p := ⟨r, 2, none⟩) (.inl rfl) _
            have hws : w.heap.size ≤ W2.heap.size := Nat.le_trans HF1.out.size HFW.out.size
            have q1 : ol = (rOut (now + 1) (i : Int) L).length := by rw [HOL.out, HLA.out]
            have q2 : ll = (rLeft (now + 1) (i : Int) L).length := by rw [HLE.out, HLA.out]
            have hO := own_down HO.out hws
            have hLf := own_down HLL.out hsz
            have hRr := own_fr HRW.out HFJ.out (fun _ _ h => h)
            rw [HLA.out] at hO hLf
            refine ⟨_, rfl, ?_, ⟨.slice (some ⟨g, 0, none⟩) k cap, .slice lA ll lc', ?_, HBR2.out, ?_, ?_, fun q hq => ob_lt hq HGA.out⟩, ?_⟩
            · rw [← q1]
              exact own_fr hO hfW (fun q hq he => own_ne hO HBJ.out (by decide) (he ▸ hq))
            · exact HBJ.out.set_ 2 _
            · rw [← HAN.out, HANL.out]
              exact own_fr hRr hfW (fun q hq he => own_ne hRr HBJ.out (by decide) (he ▸ hq))
            · rw [← q2]
              exact own_fr hLf hfW (fun q hq he => own_ne hLf HBJ.out (by decide) (he ▸ hq))
            · exact FrR.trans HF1.out (FrR.trans HFW.out (FrR.trans (Fr.f0 HFJ.out) (hfW.mono (fun q hq => by rw [hq]; exact ⟨HBR2.out, _, _, _, HBJ.out, .inl rfl⟩))))
      | false =>
        obtain rfl : n1 = now := by simpa using hn1
        clear hn1
        have HBW := HBR3
        have HFW : Hid (FrR base lim W1 wr) := Fr.f0 HF.out
        have HRW := Lib.hid (own_fr HROW.out HF.out (fun _ _ h => h))
        have HLW := Lib.hid (own_fr HLR.out HF.out (fun _ _ h => h))
        go_wp2_with fail
        clear d0 d1 d2 frr HF HBR3
        obtain ⟨W2, hW2⟩ : ∃ W2, W2 = wr := ⟨_, rfl⟩
        rw [← hW2] at HBW HFW HRW HLW ⊢
        clear hW2
        have hsz : base ≤ W2.heap.size := Nat.le_trans HBASE.out HFW.out.size
        go_loopw [9, 7, 8] (fun jv ov lv wx => ∃ (j : Nat), j ≤ m ∧ jv = .int .i64 (j : Int) ∧ Hid (wx.ownsRow W2.heap.size 3 1 ov (rOut (n1) (i : Int) (L.take j)).length (ic (rOut (n1) (i : Int) (L.take j)))) ∧ Hid (wx.ownsRow W2.heap.size 37 3 lv (rLeft (n1) (i : Int) (L.take j)).length (tc (rLeft (n1) (i : Int) (L.take j)))) ∧ Hid (Fr F0 W2 wx)) (fun jv _ _ _ => m - (intOf jv).toNat)
        case atStart => exact ⟨0, by omega, rfl, Lib.hid (World.ownsRow_nil _ _ _ _), Lib.hid (World.ownsRow_nil _ _ _ _), Lib.hid (Fr.refl _ _)⟩
        case round =>
          obtain ⟨j, hjm, rfl, HO, HLL, HFJ⟩ := hrel
          have hBJ := HBW.out.fr HFJ.out (fun h => h)
          have d0 : wr.cell? ⟨r, 0, none⟩ = some (.int .i64 ((n1 : Int))) := by rw [hBJ.cell]; rfl
          have d2 : wr.cell? ⟨r, 2, none⟩ = some (.slice LA m lc) := by rw [hBJ.cell]; rfl
          by_cases hj : j < m
          · have e1 : (j : Int) < (m : Int) := by omega
            obtain ⟨t, ht⟩ := get_lt (l := L) (i := j) (by have := HMM.out; omega)
            have hta := HAT.out t (List.mem_of_getElem? ht)
            obtain ⟨g2, cap2, hv, _, _, f0, f1, f2⟩ := own_th (own_fr HLW.out HFJ.out (fun _ _ h => h)) ht
            injection hv with hv1 _ hv3
            subst hv1; subst hv3
            have HSP : Hid (L.take (j + 1) = L.take j ++ [t]) := by rw [List.take_add_one, ht]; rfl
            obtain ⟨ol, hol⟩ : ∃ ol, ol = (rOut (n1) (i : Int) (L.take j)).length := ⟨_, rfl⟩
            obtain ⟨ll, hll⟩ : ∃ ll, ll = (rLeft (n1) (i : Int) (L.take j)).length := ⟨_, rfl⟩
            have hol2 : ol ≤ 1000 := by
              rw [hol]; unfold rOut; rw [List.length_map]
              have h1 := List.length_filter_le (rp (n1) (i : Int)) (L.take j)
              rw [List.length_take] at h1
              omega
            have hll2 : ll ≤ 1000 := by
              rw [hll]; unfold rLeft
              have h1 := List.length_filter_le (fun t => !rp (n1) (i : Int) t) (L.take j)
              rw [List.length_take] at h1
              omega
            rw [← hol] at HO
            rw [← hll] at HLL
            obtain ⟨oA, oc, rfl⟩ := own_slice HO.out
            obtain ⟨lA, lc', rfl⟩ := own_slice HLL.out
            have hww : W2.heap.size ≤ wr.heap.size := HFJ.out.size
            have HOL := Lib.hid hol
            have HLE := Lib.hid hll
            obtain ⟨go, hgo⟩ : ∃ go, go = rp (n1) (i : Int) t := ⟨_, rfl⟩
            have HGO := Lib.hid hgo
            obtain ⟨ti, tth, ta⟩ := t
            have f0' : wr.cell? ⟨g2, j * 3, none⟩ = some (.int .i64 ti) := f0
            have f1' : wr.cell? ⟨g2, j * 3 + 1, none⟩ = some (.int .i64 tth) := f1
            have f2' : wr.cell? ⟨g2, j * 3 + 2, none⟩ = some (.int .i64 (ta : Int)) := f2
            have hta' : ta ≤ n1 := hta
            have hq1 : ((ti == (i : Int)) = true ∧ decide ((ta : Int) + 2 ≤ (n1 : Int)) = go) ∨ ((ti == (i : Int)) = false ∧ go = false) := by
              rw [hgo]
              unfold rp
              cases hti : (ti == (i : Int)) with
              | true =>
                refine .inl ⟨rfl, ?_⟩
                show _ = (true && decide (ta + 2 ≤ n1))
                rw [Bool.true_and]
                by_cases h : ta + 2 ≤ n1
                · rw [decide_eq_true h, decide_eq_true (by omega)]
                · rw [decide_eq_false h, decide_eq_false (by omega)]
              | false => exact .inr ⟨rfl, rfl⟩
            clear f0 f1 f2 ht hol hll hgo hBJ hta
            have HO1 : Hid (∀ nq, ((wr.drewN nq).alloc (.cells #[.int .i64 tth] 3)).ownsRow W2.heap.size 3 1 (.slice oA ol oc) ol (ic (rOut (n1) (i : Int) (L.take j)))) := fun nq => own_fr HO.out (((Fr.refl F0 wr).drewN nq).alloc _) (fun _ _ h => h)
            have HL1 : Hid (∀ nq, ((wr.drewN nq).alloc (.cells #[.int .i64 ti, .int .i64 tth, .int .i64 (ta : Int)] 37)).ownsRow W2.heap.size 37 3 (.slice lA ll lc') ll (tc (rLeft (n1) (i : Int) (L.take j)))) := fun nq => own_fr HLL.out (((Fr.refl F0 wr).drewN nq).alloc _) (fun _ _ h => h)
            have HNB1 : Hid (∀ nq, ((wr.drewN nq).alloc (.cells #[.int .i64 tth] 3)).heap[wr.heap.size]? = some (.cells #[.int .i64 tth] 3)) := fun nq => heap_alloc_new (wr.drewN nq) _
            have HNB2 : Hid (∀ nq, ((wr.drewN nq).alloc (.cells #[.int .i64 ti, .int .i64 tth, .int .i64 (ta : Int)] 37)).heap[wr.heap.size]? = some (.cells #[.int .i64 ti, .int .i64 tth, .int .i64 (ta : Int)] 37)) := fun nq => heap_alloc_new (wr.drewN nq) _
            rcases hq1 with ⟨q1, q2⟩ | ⟨q1, q2⟩
            · cases go with
              | true =>
                go_wp2_with fail
                go_quiet (fail)
                go_wp2_with (at_builtin; refine wpList_append_lies _ rfl (.tmp 87) (.tmp 96) 33 rfl W2.heap.size 3 i0 (.int .i64 0) 1 8 Try.underlying33 hi0 hz0 hz1 hz2 rfl (by decide) _ ol _ rfl (HO1.out _) ⟨wr.heap.size, 0, none⟩ 1 1 [.int .i64 tth] rfl rfl ?c1 ?c2 (by decide) ?c3 ?c4 ?c5 (wr.heap.size + 1) ?c6 ?_)
                case c1 => intro i u hi; exact World.news_of_block (HNB1.out _) i u hi
                case c2 => intro u hu; simp at hu; rcases hu with rfl; rfl
                case c3 => unfold maxLen; omega
                case c4 => omega
                case c5 => simp; omega
                case c6 => simp
                intro g5 cap5 w5 hown5 hg5 hor5 hlt5
                have HF5 : Hid (Fr F0 W2 w5) := Fr.then ((HFJ.out.drewN _).alloc _) (Fr.grown hg5) (fun i hi => .inr (own_low HO.out i hi.symm))
                have HL5 : Hid (w5.ownsRow W2.heap.size 37 3 (.slice lA ll lc') ll (tc (rLeft (n1) (i : Int) (L.take j)))) := own_fr (own_fr HLL.out (((Fr.refl F0 wr).drewN _).alloc _) (fun _ _ h => h)) (Fr.grown hg5) (fun q hq he => own_apart HO.out HLL.out (by decide) q he.symm hq)
                have HO5 := Lib.hid hown5
                clear hown5 hg5 hor5 hlt5
                go_wp2_with fail
                have hro : rOut (n1) (i : Int) (L.take (j + 1)) = rOut (n1) (i : Int) (L.take j) ++ [tth] := by
                  unfold rOut
                  rw [HSP.out, List.filter_append, List.filter_cons, ← HGO.out, List.map_append]
                  rfl
                have hrl : rLeft (n1) (i : Int) (L.take (j + 1)) = rLeft (n1) (i : Int) (L.take j) := by
                  unfold rLeft
                  rw [HSP.out, List.filter_append, List.filter_cons, ← HGO.out]
                  simp
                refine ⟨⟨j + 1, by omega, by go_num, Lib.hid ?_, Lib.hid ?_, HF5⟩, by simp [intOf]; omega⟩
                · rw [hro, List.length_append, ← HOL.out]
                  simpa [ic] using HO5.out
                · rw [hrl, ← HLE.out]
                  exact HL5.out
              | false =>
                go_wp2_with fail
                go_quiet (fail)
                go_wp2_with (at_builtin; refine wpList_append_lies _ rfl (.tmp 98) (.tmp 106) 32 rfl W2.heap.size 37 i3 (.agg #[.int .i64 0, .int .i64 0, .int .i64 0]) 3 24 Try.underlying32 hi3 hz30 hz31 hz32 rfl (by decide) _ ll _ rfl (HL1.out _) ⟨wr.heap.size, 0, none⟩ 1 1 [.int .i64 ti, .int .i64 tth, .int .i64 (ta : Int)] rfl rfl ?c1 ?c2 (by decide) ?c3 ?c4 ?c5 (wr.heap.size + 1) ?c6 ?_)
                case c1 => intro i u hi; exact World.news_of_block (HNB2.out _) i u hi
                case c2 => intro u hu; simp at hu; rcases hu with rfl | rfl | rfl <;> rfl
                case c3 => unfold maxLen; omega
                case c4 => omega
                case c5 => simp; omega
                case c6 => simp
                intro g5 cap5 w5 hown5 hg5 hor5 hlt5
                have HF5 : Hid (Fr F0 W2 w5) := Fr.then ((HFJ.out.drewN _).alloc _) (Fr.grown hg5) (fun i hi => .inr (own_low HLL.out i hi.symm))
                have HO5 : Hid (w5.ownsRow W2.heap.size 3 1 (.slice oA ol oc) ol (ic (rOut (n1) (i : Int) (L.take j)))) := own_fr (own_fr HO.out (((Fr.refl F0 wr).drewN _).alloc _) (fun _ _ h => h)) (Fr.grown hg5) (fun q hq he => own_apart HO.out HLL.out (by decide) q hq he.symm)
                have HL5 := Lib.hid hown5
                clear hown5 hg5 hor5 hlt5
                go_wp2_with fail
                have hro : rOut (n1) (i : Int) (L.take (j + 1)) = rOut (n1) (i : Int) (L.take j) := by
                  unfold rOut
                  rw [HSP.out, List.filter_append, List.filter_cons, ← HGO.out]
                  simp
                have hrl : rLeft (n1) (i : Int) (L.take (j + 1)) = rLeft (n1) (i : Int) (L.take j) ++ [(ti, tth, ta)] := by
                  unfold rLeft
                  rw [HSP.out, List.filter_append, List.filter_cons, ← HGO.out]
                  simp
                refine ⟨⟨j + 1, by omega, by go_num, Lib.hid ?_, Lib.hid ?_, HF5⟩, by simp [intOf]; omega⟩
                · rw [hro, ← HOL.out]
                  exact HO5.out
                · rw [hrl, List.length_append, ← HLE.out, tc_append]
                  exact HL5.out
            · subst q2
              go_wp2_with fail
              go_quiet (fail)
              go_wp2_with (at_builtin; refine wpList_append_lies _ rfl (.tmp 98) (.tmp 106) 32 rfl W2.heap.size 37 i3 (.agg #[.int .i64 0, .int .i64 0, .int .i64 0]) 3 24 Try.underlying32 hi3 hz30 hz31 hz32 rfl (by decide) _ ll _ rfl (HL1.out _) ⟨wr.heap.size, 0, none⟩ 1 1 [.int .i64 ti, .int .i64 tth, .int .i64 (ta : Int)] rfl rfl ?c1 ?c2 (by decide) ?c3 ?c4 ?c5 (wr.heap.size + 1) ?c6 ?_)
              case c1 => intro i u hi; exact World.news_of_block (HNB2.out _) i u hi
              case c2 => intro u hu; simp at hu; rcases hu with rfl | rfl | rfl <;> rfl
              case c3 => unfold maxLen; omega
              case c4 => omega
              case c5 => simp; omega
              case c6 => simp
              intro g5 cap5 w5 hown5 hg5 hor5 hlt5
              have HF5 : Hid (Fr F0 W2 w5) := Fr.then ((HFJ.out.drewN _).alloc _) (Fr.grown hg5) (fun i hi => .inr (own_low HLL.out i hi.symm))
              have HO5 : Hid (w5.ownsRow W2.heap.size 3 1 (.slice oA ol oc) ol (ic (rOut (n1) (i : Int) (L.take j)))) := own_fr (own_fr HO.out (((Fr.refl F0 wr).drewN _).alloc _) (fun _ _ h => h)) (Fr.grown hg5) (fun q hq he => own_apart HO.out HLL.out (by decide) q hq he.symm)
              have HL5 := Lib.hid hown5
              clear hown5 hg5 hor5 hlt5
              go_wp2_with fail
              have hro : rOut (n1) (i : Int) (L.take (j + 1)) = rOut (n1) (i : Int) (L.take j) := by
                unfold rOut
                rw [HSP.out, List.filter_append, List.filter_cons, ← HGO.out]
                simp
              have hrl : rLeft (n1) (i : Int) (L.take (j + 1)) = rLeft (n1) (i : Int) (L.take j) ++ [(ti, tth, ta)] := by
                unfold rLeft
                rw [HSP.out, List.filter_append, List.filter_cons, ← HGO.out]
                simp
              refine ⟨⟨j + 1, by omega, by go_num, Lib.hid ?_, Lib.hid ?_, HF5⟩, by simp [intOf]; omega⟩
              · rw [hro, ← HOL.out]
                exact HO5.out
              · rw [hrl, List.length_append, ← HLE.out, tc_append]
                exact HL5.out
          · obtain rfl : j = m := by omega
            have frr := hBJ.frozen 2
            have HBJ := Lib.hid hBJ
            have HLA : Hid (L.take j = L) := List.take_of_length_le (by have := HMM.out; omega)
            obtain ⟨ol, hol⟩ : ∃ ol, ol = (rOut (n1) (i : Int) (L.take j)).length := ⟨_, rfl⟩
            obtain ⟨ll, hll⟩ : ∃ ll, ll = (rLeft (n1) (i : Int) (L.take j)).length := ⟨_, rfl⟩
            rw [← hol] at HO
            rw [← hll] at HLL
            obtain ⟨oA, oc, rfl⟩ := own_slice HO.out
            obtain ⟨lA, lc', rfl⟩ := own_slice HLL.out
            have HOL := Lib.hid hol
            have HLE := Lib.hid hll
            clear hBJ hol hll
            go_wp2_with fail
            go_ret
            have hfW : Fr (fun q => q = r) wr (wr.setCell ⟨r, 2, none⟩ (.slice lA ll lc')) := (Fr.refl (fun q => q = r) wr).setCell (p := ⟨r, 2, none⟩) (.inl rfl) _
            have hws : w.heap.size ≤ W2.heap.size := Nat.le_trans HF1.out.size HFW.out.size
            have q1 : ol = (rOut (n1) (i : Int) L).length := by rw [HOL.out, HLA.out]
            have q2 : ll = (rLeft (n1) (i : Int) L).length := by rw [HLE.out, HLA.out]
            have hO := own_down HO.out hws
            have hLf := own_down HLL.out hsz
            have hRr := own_fr HRW.out HFJ.out (fun _ _ h => h)
            rw [HLA.out] at hO hLf
            refine ⟨_, rfl, ?_, ⟨.slice (some ⟨g, 0, none⟩) k cap, .slice lA ll lc', ?_, HBR2.out, ?_, ?_, fun q hq => ob_lt hq HGA.out⟩, ?_⟩
            · rw [← q1]
              exact own_fr hO hfW (fun q hq he => own_ne hO HBJ.out (by decide) (he ▸ hq))
            · exact HBJ.out.set_ 2 _
            · rw [← HAN.out, HANL.out]
              exact own_fr hRr hfW (fun q hq he => own_ne hRr HBJ.out (by decide) (he ▸ hq))
            · rw [← q2]
              exact own_fr hLf hfW (fun q hq he => own_ne hLf HBJ.out (by decide) (he ▸ hq))
            · exact FrR.trans HF1.out (FrR.trans HFW.out (FrR.trans (Fr.f0 HFJ.out) (hfW.mono (fun q hq => by rw [hq]; exact ⟨HBR2.out, _, _, _, HBJ.out, .inl rfl⟩))))
end Go.Proofs.Ytjphmiemakmcbaa
