/-
  Package epoch: Announce.
-/
import Derived.Test.YtjphmiemakmcbaaEp7
namespace Go.Proofs.Ytjphmiemakmcbaa
open Go.RowKit

theorem announce_no (w : World) (x n : Nat) (i : Int) (A : Option Addr) (c : Nat) (h1 : w.cell? ⟨x, 1, none⟩ = some (.slice A n c)) (hi : i < 0 ∨ n ≤ i) :
    Calls Try.prog 12 #[.pointer (some ⟨x, 0, none⟩), .int .i64 i] w fun e w' => e = .returned (.tuple #[.slice none 0 0, .int .i64 1]) ∧ Fr F0 w w' := by
  have hxl : x < w.heap.size := cell_lt h1
  have hfA : Fr F0 w (w.alloc (.cells #[.pointer (some ⟨x, 0, none⟩)] 23)) := (Fr.refl _ _).alloc _
  have HH := Lib.hid (has_no _ x n i _ _ (hfA.held h1 (fun h => h)) hi)
  clear hi
  go_enter Try.func12, Try.ntmps12
  go_wp2_with fail
  refine HH.out.mono ?_
  rintro e w1 ⟨rfl, rfl⟩
  go_wp2_with fail
  go_ret2
  exact ⟨rfl, hfA⟩
theorem announce_nil (w : World) (i : Int) :
    Calls Try.prog 12 #[.pointer none, .int .i64 i] w fun e w' => e = .returned (.tuple #[.slice none 0 0, .int .i64 1]) ∧ Fr F0 w w' := by
  have hfA : Fr F0 w (w.alloc (.cells #[.pointer none] 23)) := (Fr.refl _ _).alloc _
  have HH := Lib.hid (has_nil (w.alloc (.cells #[.pointer none] 23)) i)
  go_enter Try.func12, Try.ntmps12
  go_wp2_with fail
  refine HH.out.mono ?_
  rintro e w1 ⟨rfl, rfl⟩
  go_wp2_with fail
  go_ret2
  exact ⟨rfl, hfA⟩

theorem EpR.drew' {w : World} {base x now : Nat} {v : Value} {rows : List (Wk × Value)} (h : EpR w base x now v rows) : EpR w.drew base x now v rows := h.fr (B := F0) (Fr.refl _ _).drew (fun _ _ h => h)
/-- The epoch behind an announcing of worker i. -/
def annN (now : Nat) (ws : List Wk) (i : Nat) (q : Wk) : Nat := if (ws.set i ⟨(now : Int), q.limbo⟩).any (fun k => k.ann != (now : Int)) = true then now else now + 1
/-- What goes. -/
def annG (n1 : Nat) (q : Wk) : List Int := (q.limbo.takeWhile (rdy n1)).map Prod.fst
/-- The workers behind it. -/
def annW (n1 now : Nat) (ws : List Wk) (i : Nat) (q : Wk) : List Wk := ws.set i ⟨(now : Int), q.limbo.dropWhile (rdy n1)⟩
/-- What Announce comes to. -/
def AnnP (w : World) (base x now : Nat) (ws : List Wk) (i : Nat) (q : Wk) (n1 : Nat) (e : Ending) (w' : World) : Prop :=
  ∃ v, e = .returned (.tuple #[v, .int .i64 0]) ∧ w'.ownsRow w.heap.size 3 1 v (annG n1 q).length (ic (annG n1 q)) ∧ EpAt w' base x n1 (annW n1 now ws i q) ∧ FrE base w w'

set_option maxHeartbeats 4000000 in
theorem announce_yes (w : World) (base x now : Nat) (ws : List Wk) (hE : EpAt w base x now ws) (i : Nat) (q : Wk) (hq : ws[i]? = some q) (hlen : q.limbo.length ≤ 1000000) (hw64 : ws.length ≤ 64) (hnow : now < 1000000) :
    Calls Try.prog 12 #[.pointer (some ⟨x, 0, none⟩), .int .i64 (i : Int)] w (AnnP w base x now ws i q (annN now ws i q)) := by
  obtain ⟨v, rows, hmap, hR⟩ := hE
  obtain ⟨lv, hr⟩ := rows_at hmap hq
  obtain ⟨r, hrr⟩ : ∃ r : Wk × Value, r = (q, lv) := ⟨_, rfl⟩
  rw [← hrr] at hr
  obtain rfl : q = r.1 := by rw [hrr]
  clear hrr lv
  have hmem := List.mem_of_getElem? hr
  have hl64 : rows.length ≤ 64 := by rw [← hmap, List.length_map] at hw64; exact hw64
  obtain ⟨g, cap, rfl, hgb, hin, hnc, hcm, hc1, hc2, hfz⟩ := own_pair hR.hr (wkC_at hr)
  obtain ⟨n, hnn⟩ : ∃ n, n = rows.length := ⟨_, rfl⟩
  rw [← hnn] at hR hin hnc
  have cx1 : w.cell? ⟨x, 1, none⟩ = some (.slice (some ⟨g, 0, none⟩) n cap) := by rw [hR.hx.cell]; rfl
  have cx0 : w.cell? ⟨x, 0, none⟩ = some (.int .i64 (now : Int)) := by rw [hR.hx.cell]; rfl
  have hgl : g < w.heap.size := cell_lt hc1
  have hxl : x < w.heap.size := cell_lt cx0
  obtain ⟨b, hb⟩ : ∃ b, b = (ws.set i ⟨(now : Int), r.1.limbo⟩).any (fun k => k.ann != (now : Int)) := ⟨_, rfl⟩
  unfold annN
  rw [← hb]
  obtain ⟨n1, hn1⟩ : ∃ n1, n1 = if b = true then now else now + 1 := ⟨_, rfl⟩
  rw [← hn1]
  have HN1 := Lib.hid hn1
  clear hn1
  have hfA : Fr F0 w (w.alloc (.cells #[.pointer (some ⟨x, 0, none⟩)] 23)) := (Fr.refl _ _).alloc _
  have hbc : (w.alloc (.cells #[.pointer (some ⟨x, 0, none⟩)] 23)).cell? ⟨w.heap.size, 0, none⟩ = some (.pointer (some ⟨x, 0, none⟩)) := by rw [(Blk.new w 23 #[.pointer (some ⟨x, 0, none⟩)]).cell]; rfl
  have HBC := Lib.hid hbc
  have hRA := hR.fr hfA (fun _ _ h => h)
  have HRA := Lib.hid hRA
  have HH := Lib.hid (has_yes _ x i n _ _ (hfA.held cx1 (fun h => h)) hin)
  have HFA := Lib.hid hfA
  have hca : (w.alloc (.cells #[.pointer (some ⟨x, 0, none⟩)] 23)).cell? ⟨g, i * 2, none⟩ = some (.int .i64 r.1.ann) := hfA.held hc1 (fun h => h)
  have hfa : (w.alloc (.cells #[.pointer (some ⟨x, 0, none⟩)] 23)).frozen? ⟨g, i * 2, none⟩ = false := (World.frozen?_of_block (a := ⟨g, i * 2, none⟩) (hfA.block g hgl (fun h => h))).trans (hfz _)
  have hcx1 := hfA.held cx1 (fun h => h)
  have hcx0 := hfA.held cx0 (fun h => h)
  have HR := Lib.hid hR
  have HHR := Lib.hid hr
  have HMAP := Lib.hid hmap
  have HBB := Lib.hid hb
  have HL64 := Lib.hid hl64
  have HNN := Lib.hid hnn
  have g3 : (i : Int) < (n : Int) := by omega
  clear hR hRA hr hmap hmem hfz hnc hcm hnn hc1 hc2 hq hb hfA hbc hw64 hl64
  go_enter Try.func12, Try.ntmps12
  go_wp2_with fail
  refine HH.out.mono ?_
  rintro e w1 ⟨rfl, hw1⟩
  rw [← hw1] at HBC HRA HFA hca hfa hcx1 hcx0
  obtain rfl := hw1
  have hs1 : (w.alloc (.cells #[.pointer (some ⟨x, 0, none⟩)] 23)).heap.size = w.heap.size + 1 := by simp
  have HW0 : Hid (w.heap.size ≤ (w.alloc (.cells #[.pointer (some ⟨x, 0, none⟩)] 23)).heap.size) := by rw [hs1]; exact Nat.le_succ _
  clear hs1 cx0 cx1 HH
  generalize (w.alloc (.cells #[.pointer (some ⟨x, 0, none⟩)] 23)) = w1 at *
  go_wp2_with fail
  refine region_K 9 (fun w' : World => w'.cell? ⟨w.heap.size, 0, none⟩ = some (.pointer (some ⟨x, 0, none⟩)) ∧ w'.cell? ⟨x, 1, none⟩ = some (.slice (some ⟨g, 0, none⟩) n cap) ∧ w'.cell? ⟨x, 0, none⟩ = some (.int .i64 (now : Int))) (by kernel_rfl) ?_
  have HS : (fun w' : World => w'.cell? ⟨w.heap.size, 0, none⟩ = some (.pointer (some ⟨x, 0, none⟩)) ∧ w'.cell? ⟨x, 1, none⟩ = some (.slice (some ⟨g, 0, none⟩) n cap) ∧ w'.cell? ⟨x, 0, none⟩ = some (.int .i64 (now : Int))) (w1).drew := ⟨HBC.out, hcx1, hcx0⟩
  refine AnyK.take (i := 0) rfl (by decide) (by kernel_rfl) (by kernel_rfl) (by kernel_rfl) (fun _ _ _ _ h => h) HS (fun K hK => ?_)
  go_simp
  refine hK.out _ ⟨_, by rfl, Or.inl ⟨by rfl, by intro w hSw; (try dsimp only at hSw); go_simp⟩, ?_⟩
  clear hK K
  refine AnyK.take (i := 1) rfl (by decide) (by kernel_rfl) (by kernel_rfl) (by kernel_rfl) (fun _ _ _ _ h => h) HS (fun K hK => ?_)
  go_simp
  refine hK.out _ ⟨_, by rfl, Or.inl ⟨by rfl, by intro w hSw; (try dsimp only at hSw); go_simp⟩, ?_⟩
  clear hK K
  refine AnyK.take (i := 2) rfl (by decide) (by kernel_rfl) (by kernel_rfl) (by kernel_rfl) (fun _ _ _ _ h => h) HS (fun K hK => ?_)
  go_simp
  refine hK.out _ ⟨_, by rfl, Or.inl ⟨by rfl, by intro w hSw; (try dsimp only at hSw); go_simp⟩, ?_⟩
  clear hK K
  refine AnyK.take (i := 3) rfl (by decide) (by kernel_rfl) (by kernel_rfl) (by kernel_rfl) (fun _ _ _ _ h => h) HS (fun K hK => ?_)
  go_simp
  refine hK.out _ ⟨_, by rfl, Or.inl ⟨by rfl, by intro w hSw; (try dsimp only at hSw); go_simp⟩, ?_⟩
  clear hK K
  refine AnyK.take (i := 4) rfl (by decide) (by kernel_rfl) (by kernel_rfl) (by kernel_rfl) (fun _ _ _ _ h => h) HS (fun K hK => ?_)
  go_simp
  refine hK.out _ ⟨_, by rfl, Or.inl ⟨by rfl, by intro w hSw; (try dsimp only at hSw); go_simp⟩, ?_⟩
  clear hK K
  refine AnyK.take (i := 5) rfl (by decide) (by kernel_rfl) (by kernel_rfl) (by kernel_rfl) (fun _ _ _ _ h => h) HS (fun K hK => ?_)
  go_simp
  refine hK.out _ ⟨_, by rfl, Or.inl ⟨by rfl, by intro w hSw; (try dsimp only at hSw); go_simp⟩, ?_⟩
  clear hK K
  refine AnyK.take (i := 6) rfl (by decide) (by kernel_rfl) (by kernel_rfl) (by kernel_rfl) (fun _ _ _ _ h => h) HS (fun K hK => ?_)
  go_simp
  refine hK.out _ ⟨_, by rfl, Or.inl ⟨by rfl, by intro w hSw; (try dsimp only at hSw); go_simp⟩, ?_⟩
  clear hK K
  refine AnyK.take (i := 7) rfl (by decide) (by kernel_rfl) (by kernel_rfl) (by kernel_rfl) (fun _ _ _ _ h => h) HS (fun K hK => ?_)
  go_simp
  refine hK.out _ ⟨_, by rfl, Or.inl ⟨by rfl, by intro w hSw; (try dsimp only at hSw); go_simp⟩, ?_⟩
  clear hK K
  refine AnyK.take (i := 8) rfl (by decide) (by kernel_rfl) (by kernel_rfl) (by kernel_rfl) (fun _ _ _ _ h => h) HS (fun K hK => ?_)
  go_simp
  refine hK.out _ ⟨_, by rfl, Or.inl ⟨by rfl, by intro w hSw; (try dsimp only at hSw); go_simp⟩, ?_⟩
  clear hK K
  refine AnyK.one (i := 9) rfl (by kernel_rfl) (fun K hK => ?_)
  go_simp
  refine hK.out _ _ (fun _ => HS) ?_
  clear hK K
  refine AnyK.one (i := 10) rfl (by kernel_rfl) (fun K hK => ?_)
  go_simp
  refine hK.out _ _ (fun _ => HS) ?_
  clear hK K
  refine AnyK.one (i := 11) rfl (by kernel_rfl) (fun K hK => ?_)
  go_simp
  refine hK.out _ _ (fun h => absurd (h.symm.trans (by kernel_rfl : _ = true)) (by decide)) ?_
  clear hK K
  refine AnyK.done (by kernel_rfl) ?_ _
  have hR1 := (HRA.out.setAnn HHR.out (now : Int)).drew'
  have hFE : FrE base w1 ((w1.setCell ⟨g, i * 2, none⟩ (.int .i64 (now : Int))).drew) := FrE.trans (HRA.out.setAnnF _ _) (Fr.refl _ _).drew
  have hcc : ((w1.setCell ⟨g, i * 2, none⟩ (.int .i64 (now : Int))).drew).cell? ⟨w.heap.size, 0, none⟩ = some (.pointer (some ⟨x, 0, none⟩)) := by
    have h1 := World.cell?_of_block (a := ⟨w.heap.size, 0, none⟩) (Below.heap_setCell w1 ⟨g, i * 2, none⟩ (.int .i64 (now : Int)) w.heap.size (by show w.heap.size ≠ g; omega))
    exact h1.trans HBC.out
  have HW1 : Hid (w.heap.size ≤ ((w1.setCell ⟨g, i * 2, none⟩ (.int .i64 (now : Int))).drew).heap.size) := Nat.le_trans HW0.out hFE.size
  have HR1 := Lib.hid hR1
  have HCC := Lib.hid hcc
  have HFE := Lib.hid hFE
  have cx1 : ((w1.setCell ⟨g, i * 2, none⟩ (.int .i64 (now : Int))).drew).cell? ⟨x, 1, none⟩ = some (.slice (some ⟨g, 0, none⟩) n cap) := by rw [hR1.hx.cell]; rfl
  clear hR1 hFE hca hfa hcx1 hcx0 HBC HRA HS
  generalize ((w1.setCell ⟨g, i * 2, none⟩ (.int .i64 (now : Int))).drew) = W1 at *
  obtain ⟨rows1, hrows1⟩ : ∃ rows1, rows1 = rows.set i (⟨(now : Int), r.1.limbo⟩, r.2) := ⟨_, rfl⟩
  rw [← hrows1] at HR1
  have hany : rows1.any (fun q => q.1.ann != (now : Int)) = b := by
    rw [HBB.out, ← HMAP.out, hrows1, ← List.map_set (f := Prod.fst) (a := ((⟨(now : Int), r.1.limbo⟩, r.2) : Wk × Value)), List.any_map]
    rfl
  have hlen1 : rows1.length = n := by rw [hrows1, List.length_set, HNN.out]
  have hr1 : rows1[i]? = some (⟨(now : Int), r.1.limbo⟩, r.2) := by
    rw [hrows1, List.getElem?_set, if_pos rfl, if_pos (List.getElem?_eq_some_iff.1 HHR.out).1]
  have hcont := cont_any W1 base _ rows1 HR1.out.hr (by rw [hlen1, HNN.out]; exact HL64.out) w.heap.size x now HCC.out (by rw [HR1.out.hx.cell]; rfl)
  rw [hany] at hcont
  have HCONT := Lib.hid hcont
  have HR1I := Lib.hid hr1
  have HROWS := Lib.hid hrows1
  clear hcont hany hlen1 hr1 hrows1
  go_wp2_with fail
  refine HCONT.out.mono ?_
  rintro e w2 ⟨rfl, hF2⟩
  have hR2 := HR1.out.fr hF2 (fun _ _ h => h)
  have hC2 := hF2.held HCC.out (fun h => h)
  have HFE2 : Hid (FrE base w1 w2) := FrE.trans HFE.out (Fr.f0 hF2)
  have HSZ2 : Hid (w.heap.size ≤ w2.heap.size) := Nat.le_trans HW1.out hF2.size
  have HR2 := Lib.hid hR2
  have HC2 := Lib.hid hC2
  clear hF2 hR2 HCONT HR1 HCC HFE cx1 hcc
  obtain ⟨mm, hmm⟩ : ∃ mm, mm = List.mem_of_getElem? HR1I.out := ⟨_, rfl⟩
  clear hmm
  have dx1 : w2.cell? ⟨x, 1, none⟩ = some (.slice (some ⟨g, 0, none⟩) n cap) := by rw [HR2.out.hx.cell]; rfl
  cases b with
  | true =>
    obtain rfl : n1 = now := by have := HN1.out; simpa using this
    have d0 : w2.cell? ⟨x, 0, none⟩ = some (.int .i64 (n1 : Int)) := by rw [HR2.out.hx.cell]; rfl
    obtain ⟨g2, cap2, hv2, _, _, _, _, _, hcl, hfr⟩ := own_pair HR2.out.hr (wkC_at HR1I.out)
    injection hv2 with hv2 _ _
    injection hv2 with hv2
    injection hv2 with hv2
    subst hv2
    have hlm := HR2.out.hl _ mm
    have ham := HR2.out.ha _ mm
    have HCUT := Lib.hid (cut_any w2 base g (i * 2) r.2 r.1.limbo hlm hcl (hfr _) (fun he => own_apart HR2.out.hr hlm (by decide) g rfl he) hlen w.heap.size x n1 (by omega) ham HC2.out (by rw [HR2.out.hx.cell]; rfl))
    clear hcl hfr hlm ham
    go_wp2_with fail
    refine HCUT.out.mono ?_
    rintro e w9 ⟨v, lv', w5, k, rfl, rfl, hk, hrd, hnr, how, hol, hob, hF5⟩
    have key := HR2.out.setLimbo HR1I.out (r.1.limbo.drop k) lv' hF5 hol (.inl hob) (fun t ht => HR2.out.ha _ mm t (List.mem_of_mem_drop ht))
    have htw := take_while (rdy n1) r.1.limbo k hk hrd hnr
    have HKEY := Lib.hid key
    have HTW := Lib.hid htw
    have HOW := Lib.hid how
    have HOL := Lib.hid hol
    have HK := Lib.hid hk
    clear key htw how hol hk hrd hnr hob hF5 HCUT
    obtain ⟨vA, vc, rfl⟩ := own_slice HOW.out
    go_wp2_with fail
    go_ret2
    have hlg : (annG n1 r.1).length = k := by unfold annG; rw [HTW.out.1, List.length_map, List.length_take, Nat.min_eq_left HK.out]
    refine ⟨_, rfl, ?_, ⟨_, _, ?_, HKEY.out.1⟩, ?_⟩
    · rw [hlg]
      have hfin : Fr (fun q => q = g) w5 (w5.setCell ⟨g, i * 2 + 1, none⟩ lv') := (Fr.refl (fun q => q = g) w5).setCell (p := ⟨g, i * 2 + 1, none⟩) (.inl rfl) _
      unfold annG
      rw [HTW.out.1]
      refine own_fr (own_down HOW.out HSZ2.out) hfin ?_
      rintro q hq rfl
      have h1 := own_low HOW.out q hq
      have h2 := HSZ2.out
      omega
    · unfold annW
      rw [List.map_set, HTW.out.2, HROWS.out, List.map_set, HMAP.out, List.set_set]
    · exact FrE.trans (Fr.f0 HFA.out) (FrE.trans HFE2.out HKEY.out.2)
  | false =>
    obtain rfl : n1 = now + 1 := by have := HN1.out; simpa using this
    have d0 : w2.cell? ⟨x, 0, none⟩ = some (.int .i64 (now : Int)) := by rw [HR2.out.hx.cell]; rfl
    have fx := HR2.out.hx.frozen 0
    have hR3 := HR2.out.setNow (now + 1) (Nat.le_succ _)
    have hF3 := HR2.out.setNowF (.int .i64 ((now + 1 : Nat) : Int)) 0
    have hC3 : (w2.setCell ⟨x, 0, none⟩ (.int .i64 ((now + 1 : Nat) : Int))).cell? ⟨w.heap.size, 0, none⟩ = some (.pointer (some ⟨x, 0, none⟩)) := by
      rw [World.cell?_of_block (Below.heap_setCell w2 ⟨x, 0, none⟩ _ w.heap.size (by show w.heap.size ≠ x; omega))]
      exact HC2.out
    have HR3 := Lib.hid hR3
    have HC3 := Lib.hid hC3
    have HFE3 : Hid (FrE base w1 (w2.setCell ⟨x, 0, none⟩ (.int .i64 ((now + 1 : Nat) : Int)))) := FrE.trans HFE2.out hF3
    have HSZ3 : Hid (w.heap.size ≤ (w2.setCell ⟨x, 0, none⟩ (.int .i64 ((now + 1 : Nat) : Int))).heap.size) := Nat.le_trans HSZ2.out hF3.size
    have dx3 : (w2.setCell ⟨x, 0, none⟩ (.int .i64 ((now + 1 : Nat) : Int))).cell? ⟨x, 1, none⟩ = some (.slice (some ⟨g, 0, none⟩) n cap) := by rw [hR3.hx.cell]; rfl
    clear hR3 hF3
    obtain ⟨g2, cap2, hv2, _, _, _, _, _, hcl, hfr⟩ := own_pair HR3.out.hr (wkC_at HR1I.out)
    injection hv2 with hv2 _ _
    injection hv2 with hv2
    injection hv2 with hv2
    subst hv2
    have hlm := HR3.out.hl _ mm
    have ham := HR3.out.ha _ mm
    have HCUT := Lib.hid (cut_any (w2.setCell ⟨x, 0, none⟩ (.int .i64 ((now + 1 : Nat) : Int))) base g (i * 2) r.2 r.1.limbo hlm hcl (hfr _) (fun he => own_apart HR3.out.hr hlm (by decide) g rfl he) hlen w.heap.size x (now + 1) (by omega) ham HC3.out (by rw [HR3.out.hx.cell]; rfl))
    clear hcl hfr hlm ham
    go_wp2_with fail
    refine HCUT.out.mono ?_
    rintro e w9 ⟨v, lv', w5, k, rfl, rfl, hk, hrd, hnr, how, hol, hob, hF5⟩
    have key := HR3.out.setLimbo HR1I.out (r.1.limbo.drop k) lv' hF5 hol (.inl hob) (fun t ht => HR3.out.ha _ mm t (List.mem_of_mem_drop ht))
    have htw := take_while (rdy (now + 1)) r.1.limbo k hk hrd hnr
    have HKEY := Lib.hid key
    have HTW := Lib.hid htw
    have HOW := Lib.hid how
    have HOL := Lib.hid hol
    have HK := Lib.hid hk
    clear key htw how hol hk hrd hnr hob hF5 HCUT
    obtain ⟨vA, vc, rfl⟩ := own_slice HOW.out
    go_wp2_with fail
    go_ret2
    have hlg : (annG (now + 1) r.1).length = k := by unfold annG; rw [HTW.out.1, List.length_map, List.length_take, Nat.min_eq_left HK.out]
    refine ⟨_, rfl, ?_, ⟨_, _, ?_, HKEY.out.1⟩, ?_⟩
    · rw [hlg]
      have hfin : Fr (fun q => q = g) w5 (w5.setCell ⟨g, i * 2 + 1, none⟩ lv') := (Fr.refl (fun q => q = g) w5).setCell (p := ⟨g, i * 2 + 1, none⟩) (.inl rfl) _
      unfold annG
      rw [HTW.out.1]
      refine own_fr (own_down HOW.out HSZ3.out) hfin ?_
      rintro q hq rfl
      have h1 := own_low HOW.out q hq
      have h2 := HSZ3.out
      omega
    · unfold annW
      rw [List.map_set, HTW.out.2, HROWS.out, List.map_set, HMAP.out, List.set_set]
    · exact FrE.trans (Fr.f0 HFA.out) (FrE.trans HFE3.out HKEY.out.2)
end Go.Proofs.Ytjphmiemakmcbaa
