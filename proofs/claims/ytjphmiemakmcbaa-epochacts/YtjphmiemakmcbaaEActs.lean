/-
  The statement EpochActs holds: what any acts do, one by one, is what the document says. No condition.
-/
import Derived.Test.YtjphmiemakmcbaaEa
import Derived.Test.YtjphmiemakmcbaaPureA
import Derived.Test.YtjphmiemakmcbaaRows
import Derived.ProofKit
import Derived.OpenShut
import Derived.ShutString
import Derived.ChangeOld
namespace Go.Proofs.Ytjphmiemakmcbaa.epochActs
open Go.ChangeShapes Go.WideShapes Go.ChangeAt Go.RowKit
open Go.ChangeMaps (open_string shut_string)

set_option maxHeartbeats 2000000 in
set_option maxRecDepth 100000 in
theorem long (c : Nat) (a1 : Option Addr) (len1 cap1 : Nat) (hl : 200 < len1) (w : World) :
    Calls Try.prog 3 #[.int .u8 (c : Int), .slice a1 len1 cap1] w fun e w' => e = .returned (.bool true) ∧ Fr F0 w w' := by
  have g1 : decide (200 < (len1 : Int)) = true := decide_eq_true (by omega)
  have g2 : decide (200 < len1) = true := decide_eq_true hl
  go_enter Try.func3, Try.ntmps3
  go_wp2_with fail
  go_ret
  exact ⟨rfl, Fr.refl _ _⟩

theorem ne_act : 30 ≠ 55 ∧ 30 ≠ 58 ∧ 30 ≠ 60 := by decide

set_option maxHeartbeats 16000000 in
set_option maxRecDepth 100000 in
theorem few (c : Nat) (hc : c < 256) (a1 : Option Addr) (len1 cap1 : Nat) (hl : len1 ≤ 200) (f : Nat → Bool × Int × Int) (w : World) (hA : IsActs w a1 len1 f) :
    Calls Try.prog 3 #[.int .u8 (c : Int), .slice a1 len1 cap1] w fun e w' => e = .returned (.bool true) ∧ Fr F0 w w' := by
  obtain ⟨i3, hi3, hz30, hz31, hz32⟩ := info_parts info_thing
  obtain ⟨n, hn⟩ : ∃ n, n = c % 6 + 1 := ⟨_, rfl⟩
  have hn2 : 1 ≤ n := by omega
  have hn6 : n ≤ 6 := by omega
  have e1 : (c : Int) % 6 + 1 = (n : Int) := by omega
  have g1 : decide (200 < (len1 : Int)) = false := decide_eq_false (by omega)
  have g2 : decide (200 < len1) = false := decide_eq_false (by omega)
  have HNEW := Lib.hid (new_yes w n (by omega) (by omega))
  have HA := Lib.hid hA
  clear hn hA
  go_enter Try.func3, Try.ntmps3
  go_wp2_with fail
  refine HNEW.out.mono ?_
  rintro e w1 ⟨rfl, hE1, hF1⟩
  obtain ⟨x, hx⟩ : ∃ x, x = w.heap.size := ⟨_, rfl⟩
  rw [← hx] at hE1 ⊢
  have hwx : w.heap.size ≤ x := by rw [hx]; exact Nat.le_refl _
  have hxx : x ≤ w.heap.size := by rw [hx]; exact Nat.le_refl _
  have HRNEW := Lib.hid (rnew_any w1 n (by omega))
  have HE1 := Lib.hid hE1
  have HF1 := Lib.hid hF1
  have hsz := hF1.size
  clear hE1 hF1 HNEW hx e1
  go_wp2_with fail
  refine HRNEW.out.mono ?_
  rintro e w2 ⟨rfl, hR2, hF2⟩
  obtain ⟨r, hr⟩ : ∃ r, r = w1.heap.size := ⟨_, rfl⟩
  rw [← hr] at hR2 ⊢
  have hwr0 : w.heap.size ≤ r := by rw [hr]; exact hsz
  have HR2 := Lib.hid hR2
  have HE2 := Lib.hid (HE1.out.f0 hF2)
  have HF2 := Lib.hid (HF1.out.trans hF2)
  obtain ⟨lim, hlim⟩ : ∃ lim, lim = w2.heap.size := ⟨_, rfl⟩
  rw [← hlim] at HR2
  have HLIM0 : Hid (lim ≤ w2.heap.size) := by rw [hlim]; exact Nat.le_refl _
  have HRA2 : Hid (r ≤ lim) := by rw [hr, hlim]; exact hF2.size
  clear hR2 hF2 HRNEW hr hsz hlim HE1 HF1
  go_wp2_with fail
  go_loopw [9] (fun i wx => ∃ (k now : Nat) (ws : List Wk) (anns : List Int) (L : List Th), k ≤ len1 ∧ i = .int .i64 (k : Int) ∧ now ≤ k ∧ L.length ≤ k ∧ Hid (Rel n now ws anns L) ∧ Hid (EpAt wx x x now ws) ∧ Hid (RfAt wx r lim r now anns L) ∧ Hid (Fr F0 w wx) ∧ Hid (lim ≤ wx.heap.size)) (fun i _ => len1 - (intOf i).toNat)
  case atStart => exact ⟨0, 0, _, _, [], by omega, rfl, by omega, by simp, Lib.hid (Rel.start n), HE2, HR2, HF2, HLIM0⟩
  case round =>
    obtain ⟨k, now, ws, anns, L, hkn, rfl, hnk, hlk, HREL, HE, HR, HF, HLIM⟩ := hrel
    by_cases hk : k < len1
    · have g3 : (k : Int) < (len1 : Int) := by omega
      obtain ⟨b, off, rfl, ca0, ca1, ca2, hf1, hf2⟩ := HA.out.2 k hk
      have d0 := HF.out.held ca0 (fun h => h)
      have d1 := HF.out.held ca1 (fun h => h)
      have d2 := HF.out.held ca2 (fun h => h)
      clear ca0 ca1 ca2 hf2
      obtain ⟨pp, hpp⟩ : ∃ pp, pp = f k := ⟨_, rfl⟩
      rw [← hpp] at d0 d1 d2 hf1
      clear hpp
      obtain ⟨ret, wz, tz⟩ := pp
      have d0' : wr.cell? ⟨b, off + k * 3, none⟩ = some (.bool ret) := d0
      have d1' : wr.cell? ⟨b, off + k * 3 + 1, none⟩ = some (.int .i64 wz) := d1
      have d2' : wr.cell? ⟨b, off + k * 3 + 2, none⟩ = some (.int .i64 tz) := d2
      clear d0 d1 d2 hf1
      have HA0 : Hid (Fr F0 wr (wr.alloc (.cells #[.bool ret, .int .i64 wz, .int .i64 tz] 30))) := (Fr.refl _ _).alloc _
      have HPa := Lib.hid (Blk.new wr 30 #[.bool ret, .int .i64 wz, .int .i64 tz])
      have HEa := Lib.hid (HE.out.f0 HA0.out)
      have HRa := Lib.hid (HR.out.f0 HA0.out)
      have HFa := Lib.hid (HF.out.trans HA0.out)
      have HLIMa : Hid (lim ≤ (wr.alloc (.cells #[.bool ret, .int .i64 wz, .int .i64 tz] 30)).heap.size) := Nat.le_trans HLIM.out HA0.out.size
      by_cases hin : 0 ≤ wz ∧ wz < (n : Int)
      · obtain ⟨u, rfl⟩ : ∃ u : Nat, wz = u := ⟨wz.toNat, by omega⟩
        have hun : u < n := by omega
        have y1 : decide ((0 : Int) ≤ (u : Int)) = true := decide_eq_true (by omega)
        have y2 : decide ((u : Int) < (n : Int)) = true := decide_eq_true (by omega)
        have y3 : (u : Int) < (n : Int) := by omega
        obtain ⟨q, hq⟩ := get_lt (l := ws) (i := u) (by rw [HREL.out.len]; exact hun)
        have hq0 : Hid (ws[u]? = some q) := hq
        have HLQ : Hid (q.limbo.length ≤ 200) := by
          show q.limbo.length ≤ 200
          rw [HREL.out.lim u q hq, List.length_map]
          have := List.length_filter_le (fun t : Th => t.1 == (u : Int)) L
          omega
        clear hq hin
        cases ret with
        | true =>
          have HRT := Lib.hid (retire_yes _ x x now ws HEa.out u q hq0.out (by have := HLQ.out; omega) (Nat.le_trans hxx HFa.out.size) tz)
          have pa1 : (wr.alloc (.cells #[.bool true, .int .i64 (u : Int), .int .i64 tz] 30)).cell? ⟨wr.heap.size, 1, none⟩ = some (.int .i64 (u : Int)) := by rw [HPa.out.cell]; rfl
          have pa2 : (wr.alloc (.cells #[.bool true, .int .i64 (u : Int), .int .i64 tz] 30)).cell? ⟨wr.heap.size, 2, none⟩ = some (.int .i64 tz) := by rw [HPa.out.cell]; rfl
          clear pa1 pa2
          go_wp2_with fail
          refine HRT.out.mono ?_
          rintro e w2 ⟨rfl, hE2, hF2⟩
          obtain ⟨va, vl, hRR⟩ := HRa.out.frE hF2
          obtain ⟨lA, lc, rfl⟩ := own_slice hRR.hl
          have hP2 := HPa.out.frE hF2 ne_act
          have r2 : w2.cell? ⟨r, 2, none⟩ = some (.slice lA L.length lc) := by rw [hRR.hr.cell]; rfl
          have r0 : w2.cell? ⟨r, 0, none⟩ = some (.int .i64 (now : Int)) := by rw [hRR.hr.cell]; rfl
          have rf2 := hRR.hr.frozen 2
          obtain ⟨p, hp⟩ : ∃ p, p = wr.heap.size := ⟨_, rfl⟩
          rw [← hp] at hP2 ⊢
          have p1 : w2.cell? ⟨p, 1, none⟩ = some (.int .i64 (u : Int)) := by rw [hP2.cell]; rfl
          have p2 : w2.cell? ⟨p, 2, none⟩ = some (.int .i64 tz) := by rw [hP2.cell]; rfl
          have hor : ¬ (Value.slice lA L.length lc).ownBlock = some r := fun he => own_ne hRR.hl hRR.hr (by decide) he
          have hop : ¬ (Value.slice lA L.length lc).ownBlock = some p := fun he => own_ne hRR.hl hP2 (by decide) he
          have hrl : r < w2.heap.size := cell_lt r0
          have HLO := Lib.hid hRR.hl
          have HB2 := Lib.hid hRR.hr
          have HAR2 := Lib.hid hRR.ha
          have HAL2 := Lib.hid hRR.al
          have HE2 := Lib.hid hE2
          have HF2 : Hid (Fr F0 w w2) := HFa.out.thenE hF2 hwx
          have HLIM2 : Hid (lim ≤ w2.heap.size) := Nat.le_trans HLIMa.out hF2.size
          have hr2s : r ≤ w2.heap.size := Nat.le_of_lt hrl
          clear hE2 hF2 HRT hRR hP2 hp HEa HFa HRa HPa HLIMa HA0 HE HR HF HLIM d0' d1' d2'
          go_wp2_with fail
          refine region_K 16 (fun w' : World => w'.cell? ⟨r, 2, none⟩ = some (.slice lA L.length lc) ∧ w'.cell? ⟨r, 0, none⟩ = some (.int .i64 (now : Int)) ∧ w'.cell? ⟨p, 1, none⟩ = some (.int .i64 (u : Int)) ∧ w'.cell? ⟨p, 2, none⟩ = some (.int .i64 tz)) (by kernel_rfl) ?_
          have HS : (fun w' : World => w'.cell? ⟨r, 2, none⟩ = some (.slice lA L.length lc) ∧ w'.cell? ⟨r, 0, none⟩ = some (.int .i64 (now : Int)) ∧ w'.cell? ⟨p, 1, none⟩ = some (.int .i64 (u : Int)) ∧ w'.cell? ⟨p, 2, none⟩ = some (.int .i64 tz)) (w2).drew := ⟨r2, r0, p1, p2⟩
          refine AnyK.take (i := 0) rfl (by decide) (by kernel_rfl) (by kernel_rfl) (by kernel_rfl) (fun _ _ _ _ h => h) HS (fun K hK => ?_)
          go_simp
          refine hK.out _ ⟨_, by rfl, Or.inl ⟨by rfl, by intro w hSw; (try dsimp only at hSw); go_simp⟩, ?_⟩
          clear hK K
          refine AnyK.take (i := 1) rfl (by decide) (by kernel_rfl) (by kernel_rfl) (by kernel_rfl) (fun _ _ _ _ h => h) HS (fun K hK => ?_)
          go_simp
          refine hK.out _ ⟨_, by rfl, Or.inl ⟨by rfl, by intro w hSw; (try dsimp only at hSw); go_simp⟩, ?_⟩
          clear hK K
          refine AnyK.take (i := 2) rfl (by decide) (by kernel_rfl) (by kernel_rfl) (by kernel_rfl) (fun _ _ _ _ h => h) HS (fun K hK => ?_)
          go_simp
          refine hK.out _ ⟨_, by rfl, Or.inl ⟨by rfl, by intro w hSw; (try dsimp only at hSw); go_simp⟩, ?_⟩
          clear hK K
          refine AnyK.take (i := 3) rfl (by decide) (by kernel_rfl) (by kernel_rfl) (by kernel_rfl) (fun _ _ _ _ h => h) HS (fun K hK => ?_)
          go_simp
          refine hK.out _ ⟨_, by rfl, Or.inl ⟨by rfl, by intro w hSw; (try dsimp only at hSw); go_simp⟩, ?_⟩
          clear hK K
          refine AnyK.take (i := 4) rfl (by decide) (by kernel_rfl) (by kernel_rfl) (by kernel_rfl) (fun _ _ _ _ h => h) HS (fun K hK => ?_)
          go_simp
          refine hK.out _ ⟨_, by rfl, Or.inl ⟨by rfl, by intro w hSw; (try dsimp only at hSw); go_simp⟩, ?_⟩
          clear hK K
          refine AnyK.take (i := 5) rfl (by decide) (by kernel_rfl) (by kernel_rfl) (by kernel_rfl) (fun _ _ _ _ h => h) HS (fun K hK => ?_)
          go_simp
          refine hK.out _ ⟨_, by rfl, Or.inl ⟨by rfl, by intro w hSw; (try dsimp only at hSw); go_simp⟩, ?_⟩
          clear hK K
          refine AnyK.take (i := 6) rfl (by decide) (by kernel_rfl) (by kernel_rfl) (by kernel_rfl) (fun _ _ _ _ h => h) HS (fun K hK => ?_)
          go_simp
          refine hK.out _ ⟨_, by rfl, Or.inl ⟨by rfl, by intro w hSw; (try dsimp only at hSw); go_simp⟩, ?_⟩
          clear hK K
          refine AnyK.take (i := 7) rfl (by decide) (by kernel_rfl) (by kernel_rfl) (by kernel_rfl) (fun _ _ _ _ h => h) HS (fun K hK => ?_)
          go_simp
          refine hK.out _ ⟨_, by rfl, Or.inl ⟨by rfl, by intro w hSw; (try dsimp only at hSw); go_simp⟩, ?_⟩
          clear hK K
          refine AnyK.take (i := 8) rfl (by decide) (by kernel_rfl) (by kernel_rfl) (by kernel_rfl) (fun _ _ _ _ h => h) HS (fun K hK => ?_)
          go_simp
          refine hK.out _ ⟨_, by rfl, Or.inl ⟨by rfl, by intro w hSw; (try dsimp only at hSw); go_simp⟩, ?_⟩
          clear hK K
          refine AnyK.take (i := 9) rfl (by decide) (by kernel_rfl) (by kernel_rfl) (by kernel_rfl) (fun _ _ _ _ h => h) HS (fun K hK => ?_)
          go_simp
          refine hK.out _ ⟨_, by rfl, Or.inl ⟨by rfl, by intro w hSw; (try dsimp only at hSw); go_simp⟩, ?_⟩
          clear hK K
          refine AnyK.take (i := 10) rfl (by decide) (by kernel_rfl) (by kernel_rfl) (by kernel_rfl) (fun _ _ _ _ h => h) HS (fun K hK => ?_)
          go_simp
          refine hK.out _ ⟨_, by rfl, Or.inl ⟨by rfl, by intro w hSw; (try dsimp only at hSw); go_simp⟩, ?_⟩
          clear hK K
          refine AnyK.take (i := 11) rfl (by decide) (by kernel_rfl) (by kernel_rfl) (by kernel_rfl) (fun _ _ _ _ h => h) HS (fun K hK => ?_)
          go_simp
          refine hK.out _ ⟨_, by rfl, Or.inl ⟨by rfl, by intro w hSw; (try dsimp only at hSw); go_simp⟩, ?_⟩
          clear hK K
          refine AnyK.take (i := 12) rfl (by decide) (by kernel_rfl) (by kernel_rfl) (by kernel_rfl) (fun _ _ _ _ h => h) HS (fun K hK => ?_)
          go_simp
          refine hK.out _ ⟨_, by rfl, Or.inl ⟨by rfl, by intro w hSw; (try dsimp only at hSw); go_simp⟩, ?_⟩
          clear hK K
          refine AnyK.take (i := 13) rfl (by decide) (by kernel_rfl) (by kernel_rfl) (by kernel_rfl) (fun _ _ _ _ h => h) HS (fun K hK => ?_)
          go_simp
          refine hK.out _ ⟨_, by rfl, Or.inl ⟨by rfl, by intro w hSw; (try dsimp only at hSw); go_simp⟩, ?_⟩
          clear hK K
          refine AnyK.one (i := 14) rfl (by kernel_rfl) (fun K hK => ?_)
          go_simp
          generalize hW3 : (w2.alloc (.cells #[.int .i64 (u : Int), .int .i64 tz, .int .i64 (now : Int)] 37)).drew = W3
          have hF3 : Fr F0 w2 W3 := by rw [← hW3]; exact ((Fr.refl _ _).alloc _).drew
          have hnew : W3.heap[w2.heap.size]? = some (.cells #[.int .i64 (u : Int), .int .i64 tz, .int .i64 (now : Int)] 37) := by rw [← hW3]; exact heap_alloc_new w2 _
          have hs3 : W3.heap.size = w2.heap.size + 1 := by rw [← hW3]; simp
          have HS : (fun w' : World => w'.cell? ⟨r, 2, none⟩ = some (.slice lA L.length lc) ∧ w'.cell? ⟨r, 0, none⟩ = some (.int .i64 (now : Int)) ∧ w'.cell? ⟨p, 1, none⟩ = some (.int .i64 (u : Int)) ∧ w'.cell? ⟨p, 2, none⟩ = some (.int .i64 tz)) W3 := ⟨hF3.held r2 (fun h => h), hF3.held r0 (fun h => h), hF3.held p1 (fun h => h), hF3.held p2 (fun h => h)⟩
          refine hK.out _ _ (fun _ => HS) ?_
          clear hK K
          clear hW3
          have own3 := own_fr HLO.out hF3 (fun _ _ h => h)
          refine AnyK.one (i := 15) rfl (by kernel_rfl) (fun K hK => ?_)
          refine step_append_lies W3 (by rfl) _ _ _ (by rfl) r 37 i3 _ 3 24 Try.underlying32 hi3 hz30 hz31 hz32 rfl (by omega) (.slice lA L.length lc) L.length _ (by rfl) own3 ⟨w2.heap.size, 0, none⟩ 1 1 [.int .i64 (u : Int), .int .i64 tz, .int .i64 (now : Int)] (by rfl) (by rfl) (World.news_of_block (cs := #[.int .i64 (u : Int), .int .i64 tz, .int .i64 (now : Int)]) (t := 37) (fr := (0, 0)) hnew) (by simp [Value.oneCell']) (by omega) (by unfold maxLen; omega) (by omega) (by omega) (w2.heap.size + 1) hs3 ?_
          intro gb cap' w4 hown4 hg4 hat4 hlt4
          have HF4 : Hid (Fr (fun k => (Value.slice lA L.length lc).ownBlock = some k) w2 w4) := Lib.hid ((hF3.mono (fun _ h => h.elim)).trans ((Fr.grown hg4).mono (fun _ h => h.symm)))
          have f4 : w4.frozen? ⟨r, 2, none⟩ = false := by rw [World.frozen?_of_block (a := ⟨r, 2, none⟩) (HF4.out.block r hrl hor)]; exact rf2
          have HS : (fun w' : World => w'.cell? ⟨r, 2, none⟩ = some (.slice lA L.length lc) ∧ w'.cell? ⟨r, 0, none⟩ = some (.int .i64 (now : Int)) ∧ w'.cell? ⟨p, 1, none⟩ = some (.int .i64 (u : Int)) ∧ w'.cell? ⟨p, 2, none⟩ = some (.int .i64 tz)) w4 := ⟨HF4.out.held r2 hor, HF4.out.held r0 hor, HF4.out.held p1 hop, HF4.out.held p2 hop⟩
          have HO4 := Lib.hid hown4
          refine hK.out _ _ (fun _ => HS) ?_
          clear hK K
          clear hown4 hg4 hat4 hlt4 own3 hnew hs3 hF3
          refine AnyK.one (i := 16) rfl (by kernel_rfl) (fun K hK => ?_)
          go_simp
          refine hK.out _ _ (fun _ => HS) ?_
          clear hK K
          refine AnyK.one (i := 17) rfl (by kernel_rfl) (fun K hK => ?_)
          go_simp
          refine hK.out _ _ (fun _ => HS) ?_
          clear hK K
          refine AnyK.one (i := 18) rfl (by kernel_rfl) (fun K hK => ?_)
          go_simp
          refine hK.out _ _ (fun h => absurd (h.symm.trans (by kernel_rfl : _ = true)) (by decide)) ?_
          clear hK K
          refine AnyK.done (by kernel_rfl) ?_ _
          have hB4 := HB2.out.fr HF4.out hor
          have hfS : Fr (fun q => q = r) w4 (w4.setCell ⟨r, 2, none⟩ (.slice (some ⟨gb, 0, none⟩) (L.length + 1) cap')) := (Fr.refl (fun q => q = r) w4).setCell (p := ⟨r, 2, none⟩) (.inl rfl) _
          have hL5 : (L ++ [((u : Int), tz, now)]).length = L.length + 1 := by simp
          have hown5 : w4.ownsRow r 37 3 (.slice (some ⟨gb, 0, none⟩) (L.length + 1) cap') (L ++ [((u : Int), tz, now)]).length (tc (L ++ [((u : Int), tz, now)])) := by
            rw [hL5, tc_append]
            exact HO4.out
          have hAR := own_fr HAR2.out HF4.out (fun q hq he => own_apart HAR2.out HLO.out (by decide) q hq he)
          have HR5 : Hid (RfAt (w4.setCell ⟨r, 2, none⟩ (.slice (some ⟨gb, 0, none⟩) (L.length + 1) cap')) r lim r now anns (L ++ [((u : Int), tz, now)])) := ⟨va, _, hB4.set_ 2 _, Nat.le_refl _, own_fr hAR hfS (fun q hq he => own_ne hAR hB4 (by decide) (he ▸ hq)), own_fr hown5 hfS (fun q hq he => own_ne hown5 hB4 (by decide) (he ▸ hq)), HAL2.out⟩
          have hE4 := HE2.out.fr HF4.out (fun q hq he => own_mine HLO.out ne_thing q hq he)
          have HE5 : Hid (EpAt (w4.setCell ⟨r, 2, none⟩ (.slice (some ⟨gb, 0, none⟩) (L.length + 1) cap')) x x now (ws.set u ⟨q.ann, q.limbo ++ [(tz, now)]⟩)) := hE4.fr hfS (fun k hk he => blk_mine hB4 ne_ref (he ▸ hk))
          have HF5 : Hid (Fr F0 w (w4.setCell ⟨r, 2, none⟩ (.slice (some ⟨gb, 0, none⟩) (L.length + 1) cap'))) := Fr.then (Fr.then HF2.out HF4.out (fun k hk => .inr (Nat.le_trans hwr0 (own_low HLO.out k hk)))) hfS (fun k hk => .inr (by rw [hk]; exact hwr0))
          have HLIM5 : Hid (lim ≤ (w4.setCell ⟨r, 2, none⟩ (.slice (some ⟨gb, 0, none⟩) (L.length + 1) cap')).heap.size) := Nat.le_trans HLIM2.out (Nat.le_trans HF4.out.size hfS.size)
          have HREL5 := Lib.hid (HREL.out.retire hq0.out tz)
          have HNOW5 : Hid (now ≤ k + 1) := Lib.hid (by omega)
          have HLEN5 : Hid ((L ++ [((u : Int), tz, now)]).length ≤ k + 1) := Lib.hid (by rw [hL5]; omega)
          clear hB4 hfS hL5 hown5 hAR hE4 HS HO4 HF4 HF2 HE2 HB2 HAR2 HLO HLIM2 r2 r0 rf2 p1 p2 f4 hor hop
          have cr0 : (w4.setCell ⟨r, 2, none⟩ (.slice (some ⟨gb, 0, none⟩) (L.length + 1) cap')).cell? ⟨r, 0, none⟩ = some (.int .i64 ((now : Nat) : Int)) := by
            obtain ⟨_, _, hh⟩ := HR5.out
            rw [hh.hr.cell]; rfl
          have z9 : (((now : Nat) : Int) != ((now : Nat) : Int)) = false := by simp
          go_wp2_with fail
          refine region_K 7 (fun w' : World => w'.cell? ⟨r, 0, none⟩ = some (.int .i64 (now : Int)) ∧ EpAt w' x x (now) (ws.set u ⟨q.ann, q.limbo ++ [(tz, now)]⟩)) (by kernel_rfl) ?_
          have HS : (fun w' : World => w'.cell? ⟨r, 0, none⟩ = some (.int .i64 (now : Int)) ∧ EpAt w' x x (now) (ws.set u ⟨q.ann, q.limbo ++ [(tz, now)]⟩)) (w4.setCell ⟨r, 2, none⟩ (.slice (some ⟨gb, 0, none⟩) (L.length + 1) cap')).drew := ⟨cr0, HE5.out.f0 (Fr.refl F0 _).drew⟩
          refine AnyK.take (i := 0) rfl (by decide) (by kernel_rfl) (by kernel_rfl) (by kernel_rfl) (fun _ _ _ _ h => h) HS (fun K hK => ?_)
          go_simp
          refine hK.out _ ⟨_, by rfl, Or.inl ⟨by rfl, by intro w hSw; (try dsimp only at hSw); go_simp⟩, ?_⟩
          clear hK K
          refine AnyK.take (i := 2) rfl (by decide) (by kernel_rfl) (by kernel_rfl) (by kernel_rfl) (fun _ _ _ _ h => h) HS (fun K hK => ?_)
          go_simp
          refine hK.out _ ⟨_, by rfl, Or.inl ⟨by rfl, by intro w hSw; (try dsimp only at hSw); go_simp⟩, ?_⟩
          clear hK K
          refine AnyK.take (i := 3) rfl (by decide) (by kernel_rfl) (by kernel_rfl) (by kernel_rfl) (fun _ _ _ _ h => h) HS (fun K hK => ?_)
          go_simp
          refine hK.out _ ⟨_, by rfl, Or.inl ⟨by rfl, by intro w hSw; (try dsimp only at hSw); go_simp⟩, ?_⟩
          clear hK K
          refine AnyK.take (i := 4) rfl (by decide) (by kernel_rfl) (by kernel_rfl) (by kernel_rfl) (fun _ _ _ _ h => h) HS (fun K hK => ?_)
          go_simp
          refine hK.out _ ⟨_, by rfl, Or.inl ⟨by rfl, by intro w hSw; (try dsimp only at hSw); go_simp⟩, ?_⟩
          clear hK K
          refine AnyK.take (i := 5) rfl (by decide) (by kernel_rfl) (by kernel_rfl) (by kernel_rfl) (fun _ _ _ _ h => h) HS (fun K hK => ?_)
          go_simp
          refine hK.out _ ⟨_, by rfl, Or.inl ⟨by rfl, by intro w hSw; (try dsimp only at hSw); go_simp⟩, ?_⟩
          clear hK K
          refine AnyK.one (i := 1) rfl (by kernel_rfl) (fun K hK => ?_)
          go_simp
          refine (now_at _ x x (now) (ws.set u ⟨q.ann, q.limbo ++ [(tz, now)]⟩) HS.2).mono ?_
          rintro e w6 ⟨rfl, hw6⟩
          subst hw6
          refine hK.out _ _ (fun _ => HS) ?_
          clear hK K
          refine AnyK.take (i := 6) rfl (by decide) (by kernel_rfl) (by kernel_rfl) (by kernel_rfl) (fun _ _ _ _ h => h) HS (fun K hK => ?_)
          go_simp
          refine hK.out _ ⟨_, by rfl, Or.inl ⟨by rfl, by intro w hSw; (try dsimp only at hSw); go_simp⟩, ?_⟩
          clear hK K
          refine AnyK.done (by kernel_rfl) ?_ _
          have HE6 := Lib.hid HS.2
          have HR6 : Hid (RfAt (w4.setCell ⟨r, 2, none⟩ (.slice (some ⟨gb, 0, none⟩) (L.length + 1) cap')).drew r lim r (now) (anns) (L ++ [((u : Int), tz, now)])) := HR5.out.f0 (Fr.refl F0 _).drew
          have HF6 : Hid (Fr F0 w (w4.setCell ⟨r, 2, none⟩ (.slice (some ⟨gb, 0, none⟩) (L.length + 1) cap')).drew) := HF5.out.drew
          have HLIM6 : Hid (lim ≤ (w4.setCell ⟨r, 2, none⟩ (.slice (some ⟨gb, 0, none⟩) (L.length + 1) cap')).drew.heap.size) := HLIM5.out
          clear HS HE5 HR5 HF5 HLIM5
          generalize (w4.setCell ⟨r, 2, none⟩ (.slice (some ⟨gb, 0, none⟩) (L.length + 1) cap')).drew = W6 at *
          go_wp2_with fail
          go_loopw [16] (fun kv wx => ∃ kk : Nat, kk ≤ n + 2 ∧ kv = .int .i64 ((kk : Int) - 1) ∧ Hid (Fr F0 W6 wx)) (fun kv _ => n + 2 - (intOf kv + 1).toNat)
          case atStart => exact ⟨0, by omega, rfl, Lib.hid (Fr.refl _ _)⟩
          case round =>
            obtain ⟨kk, hkk, rfl, HFK⟩ := hrel
            by_cases hk2 : kk ≤ n + 1
            · have z1 : (kk : Int) - 1 ≤ (n : Int) := by omega
              have z2 : decide ((kk : Int) - 1 ≤ (n : Int)) = true := decide_eq_true z1
              have HLA := Lib.hid (limbo_rel wr x x (now) n (ws.set u ⟨q.ann, q.limbo ++ [(tz, now)]⟩) (anns) (L ++ [((u : Int), tz, now)]) (HE6.out.f0 HFK.out) HREL5.out ((kk : Int) - 1))
              have HLB := Lib.hid (rlimbo_any wr r lim r (now) (anns) (L ++ [((u : Int), tz, now)]) (HR6.out.f0 HFK.out) (by have := HLEN5.out; omega) ((kk : Int) - 1))
              obtain ⟨lz, hlz⟩ : ∃ lz : Int, lz = (((L ++ [((u : Int), tz, now)]).filter (fun t => t.1 == (kk : Int) - 1)).length : Int) := ⟨_, rfl⟩
              rw [← hlz] at HLA HLB
              have z3 : (lz != lz) = false := by simp
              clear hlz
              go_wp2_with fail
              refine HLA.out.mono ?_
              rintro e w7 ⟨rfl, hw7⟩
              subst hw7
              go_wp2_with fail
              refine HLB.out.mono ?_
              rintro e w8 ⟨rfl, hw8⟩
              subst hw8
              go_wp2_with fail
              exact ⟨⟨kk + 1, by omega, by go_num, HFK⟩, by simp [intOf]; omega⟩
            · have z1 : ¬ (kk : Int) - 1 ≤ (n : Int) := by omega
              have z2 : decide ((kk : Int) - 1 ≤ (n : Int)) = false := decide_eq_false z1
              go_wp2_with fail
              exact ⟨⟨k + 1, now, ws.set u ⟨q.ann, q.limbo ++ [(tz, now)]⟩, anns, L ++ [((u : Int), tz, now)], by omega, by go_num, by have := HNOW5.out; omega, by have := HLEN5.out; omega, HREL5, Lib.hid (HE6.out.f0 HFK.out), Lib.hid (HR6.out.f0 HFK.out), Lib.hid (HF6.out.trans HFK.out), Lib.hid (Nat.le_trans HLIM6.out HFK.out.size)⟩, by simp [intOf]; omega⟩
        | false =>
          have hgn := HREL.out.gone hq0.out (annN now ws u q)
          have hnn : annN now ws u q = rN now anns u := HREL.out.now
          have hle := annN_le now ws u q
          have HREL5 := Lib.hid (HREL.out.next hq0.out (annN now ws u q) hle.1)
          have han := announce_yes _ x x now ws HEa.out u q hq0.out (by have := HLQ.out; omega) (by rw [HREL.out.len]; omega) (by omega)
          obtain ⟨n1, hn1⟩ : ∃ n1, n1 = annN now ws u q := ⟨_, rfl⟩
          rw [← hn1] at hgn hnn HREL5 han hle
          have HAN := Lib.hid han
          have HGN := Lib.hid hgn
          have HNN := Lib.hid hnn
          clear hn1 han hgn hnn
          go_wp2_with fail
          refine HAN.out.mono ?_
          rintro e w2 ⟨v, rfl, hO2, hE2, hF2⟩
          rw [HGN.out] at hO2
          obtain ⟨gone, hgone⟩ : ∃ gone, gone = rOut n1 (u : Int) L := ⟨_, rfl⟩
          have hgl : gone.length ≤ 1000000 := by
            rw [hgone]; unfold rOut; rw [List.length_map]
            have := List.length_filter_le (rp n1 (u : Int)) L
            omega
          have hP2 := HPa.out.frE hF2 ne_act
          have p1 : w2.cell? ⟨wr.heap.size, 1, none⟩ = some (.int .i64 (u : Int)) := by rw [hP2.cell]; rfl
          have hra := rann_any w2 r lim r now anns L (HRa.out.frE hF2) u (by rw [HREL.out.ann, List.length_map, HREL.out.len]; exact hun) (by rw [HREL.out.ann, List.length_map, HREL.out.len]; omega) (by omega) (by omega) HREL.out.ats (Nat.le_trans (Nat.le_trans HRA2.out HLIMa.out) hF2.size)
          rw [← HNN.out] at hra
          have HRN := Lib.hid hra
          rw [← hgone] at hO2
          have HO2 := Lib.hid hO2
          have HE2 := Lib.hid hE2
          have HF2 : Hid (Fr F0 w w2) := HFa.out.thenE hF2 hwx
          have HLIM2 : Hid (lim ≤ w2.heap.size) := Nat.le_trans HLIMa.out hF2.size
          obtain ⟨gl, hgle⟩ : ∃ gl, gl = gone.length := ⟨_, rfl⟩
          rw [← hgle] at hO2
          obtain ⟨vA, vc, rfl⟩ := own_slice hO2
          have HGONE := Lib.hid hgone
          have HGLE := Lib.hid hgle
          clear hE2 hF2 HAN hra hO2 hgone hgle hP2
          go_wp2_with fail
          refine HRN.out.mono ?_
          rintro e w5 ⟨v', rfl, hO5, hR5, hF5⟩
          rw [← HGONE.out, ← HGLE.out] at hO5
          obtain ⟨vB, vd, rfl⟩ := own_slice hO5
          rw [HGLE.out] at hO5
          have hO2' := own_frR HO2.out hF5 HLIMa.out
          have HSM := Lib.hid (same_yes w5 _ _ _ _ gone hgl hO2' hO5)
          rw [← HGLE.out] at HSM
          have HE4 := Lib.hid (HE2.out.frR hF5)
          have HR4 := Lib.hid hR5
          have HF4 : Hid (Fr F0 w w5) := Fr.then HF2.out hF5 (fun k hk => .inr (Nat.le_trans hwr0 hk.1))
          have HLIM4 : Hid (lim ≤ w5.heap.size) := Nat.le_trans HLIM2.out hF5.size
          have HNOW5 : Hid (n1 ≤ k + 1) := Lib.hid (by omega)
          have HLEN5 : Hid ((rLeft n1 (u : Int) L).length ≤ k + 1) := by
            show (rLeft n1 (u : Int) L).length ≤ k + 1
            unfold rLeft
            have := List.length_filter_le (fun t => !rp n1 (u : Int) t) L
            omega
          clear hO5 hR5 hF5 hO2' HRN HE2 HF2 HLIM2 HEa HFa HRa HPa HLIMa HA0 HE HR HF HLIM d0' d1' d2' p1 HO2 hle
          go_wp2_with fail
          refine HSM.out.mono ?_
          rintro e w9 ⟨rfl, hF9⟩
          have HE5 := Lib.hid (HE4.out.f0 hF9)
          have HR5 := Lib.hid (HR4.out.f0 hF9)
          have HF5 := Lib.hid (HF4.out.trans hF9)
          have HLIM5 : Hid (lim ≤ w9.heap.size) := Nat.le_trans HLIM4.out hF9.size
          clear hF9 HSM HE4 HR4 HF4 HLIM4
          have cr0 : (w9).cell? ⟨r, 0, none⟩ = some (.int .i64 ((n1 : Nat) : Int)) := by
            obtain ⟨_, _, hh⟩ := HR5.out
            rw [hh.hr.cell]; rfl
          have z9 : (((n1 : Nat) : Int) != ((n1 : Nat) : Int)) = false := by simp
          go_wp2_with fail
          refine region_K 7 (fun w' : World => w'.cell? ⟨r, 0, none⟩ = some (.int .i64 (n1 : Int)) ∧ EpAt w' x x (n1) (annW n1 now ws u q)) (by kernel_rfl) ?_
          have HS : (fun w' : World => w'.cell? ⟨r, 0, none⟩ = some (.int .i64 (n1 : Int)) ∧ EpAt w' x x (n1) (annW n1 now ws u q)) (w9).drew := ⟨cr0, HE5.out.f0 (Fr.refl F0 _).drew⟩
          refine AnyK.take (i := 0) rfl (by decide) (by kernel_rfl) (by kernel_rfl) (by kernel_rfl) (fun _ _ _ _ h => h) HS (fun K hK => ?_)
          go_simp
          refine hK.out _ ⟨_, by rfl, Or.inl ⟨by rfl, by intro w hSw; (try dsimp only at hSw); go_simp⟩, ?_⟩
          clear hK K
          refine AnyK.take (i := 2) rfl (by decide) (by kernel_rfl) (by kernel_rfl) (by kernel_rfl) (fun _ _ _ _ h => h) HS (fun K hK => ?_)
          go_simp
          refine hK.out _ ⟨_, by rfl, Or.inl ⟨by rfl, by intro w hSw; (try dsimp only at hSw); go_simp⟩, ?_⟩
          clear hK K
          refine AnyK.take (i := 3) rfl (by decide) (by kernel_rfl) (by kernel_rfl) (by kernel_rfl) (fun _ _ _ _ h => h) HS (fun K hK => ?_)
          go_simp
          refine hK.out _ ⟨_, by rfl, Or.inl ⟨by rfl, by intro w hSw; (try dsimp only at hSw); go_simp⟩, ?_⟩
          clear hK K
          refine AnyK.take (i := 4) rfl (by decide) (by kernel_rfl) (by kernel_rfl) (by kernel_rfl) (fun _ _ _ _ h => h) HS (fun K hK => ?_)
          go_simp
          refine hK.out _ ⟨_, by rfl, Or.inl ⟨by rfl, by intro w hSw; (try dsimp only at hSw); go_simp⟩, ?_⟩
          clear hK K
          refine AnyK.take (i := 5) rfl (by decide) (by kernel_rfl) (by kernel_rfl) (by kernel_rfl) (fun _ _ _ _ h => h) HS (fun K hK => ?_)
          go_simp
          refine hK.out _ ⟨_, by rfl, Or.inl ⟨by rfl, by intro w hSw; (try dsimp only at hSw); go_simp⟩, ?_⟩
          clear hK K
          refine AnyK.one (i := 1) rfl (by kernel_rfl) (fun K hK => ?_)
          go_simp
          refine (now_at _ x x (n1) (annW n1 now ws u q) HS.2).mono ?_
          rintro e w6 ⟨rfl, hw6⟩
          subst hw6
          refine hK.out _ _ (fun _ => HS) ?_
          clear hK K
          refine AnyK.take (i := 6) rfl (by decide) (by kernel_rfl) (by kernel_rfl) (by kernel_rfl) (fun _ _ _ _ h => h) HS (fun K hK => ?_)
          go_simp
          refine hK.out _ ⟨_, by rfl, Or.inl ⟨by rfl, by intro w hSw; (try dsimp only at hSw); go_simp⟩, ?_⟩
          clear hK K
          refine AnyK.done (by kernel_rfl) ?_ _
          have HE6 := Lib.hid HS.2
          have HR6 : Hid (RfAt (w9).drew r lim r (n1) (anns.set u (now : Int)) (rLeft n1 (u : Int) L)) := HR5.out.f0 (Fr.refl F0 _).drew
          have HF6 : Hid (Fr F0 w (w9).drew) := HF5.out.drew
          have HLIM6 : Hid (lim ≤ (w9).drew.heap.size) := HLIM5.out
          clear HS HE5 HR5 HF5 HLIM5
          generalize (w9).drew = W6 at *
          go_wp2_with fail
          go_loopw [16] (fun kv wx => ∃ kk : Nat, kk ≤ n + 2 ∧ kv = .int .i64 ((kk : Int) - 1) ∧ Hid (Fr F0 W6 wx)) (fun kv _ => n + 2 - (intOf kv + 1).toNat)
          case atStart => exact ⟨0, by omega, rfl, Lib.hid (Fr.refl _ _)⟩
          case round =>
            obtain ⟨kk, hkk, rfl, HFK⟩ := hrel
            by_cases hk2 : kk ≤ n + 1
            · have z1 : (kk : Int) - 1 ≤ (n : Int) := by omega
              have z2 : decide ((kk : Int) - 1 ≤ (n : Int)) = true := decide_eq_true z1
              have HLA := Lib.hid (limbo_rel wr x x (n1) n (annW n1 now ws u q) (anns.set u (now : Int)) (rLeft n1 (u : Int) L) (HE6.out.f0 HFK.out) HREL5.out ((kk : Int) - 1))
              have HLB := Lib.hid (rlimbo_any wr r lim r (n1) (anns.set u (now : Int)) (rLeft n1 (u : Int) L) (HR6.out.f0 HFK.out) (by have := HLEN5.out; omega) ((kk : Int) - 1))
              obtain ⟨lz, hlz⟩ : ∃ lz : Int, lz = (((rLeft n1 (u : Int) L).filter (fun t => t.1 == (kk : Int) - 1)).length : Int) := ⟨_, rfl⟩
              rw [← hlz] at HLA HLB
              have z3 : (lz != lz) = false := by simp
              clear hlz
              go_wp2_with fail
              refine HLA.out.mono ?_
              rintro e w7 ⟨rfl, hw7⟩
              subst hw7
              go_wp2_with fail
              refine HLB.out.mono ?_
              rintro e w8 ⟨rfl, hw8⟩
              subst hw8
              go_wp2_with fail
              exact ⟨⟨kk + 1, by omega, by go_num, HFK⟩, by simp [intOf]; omega⟩
            · have z1 : ¬ (kk : Int) - 1 ≤ (n : Int) := by omega
              have z2 : decide ((kk : Int) - 1 ≤ (n : Int)) = false := decide_eq_false z1
              go_wp2_with fail
              exact ⟨⟨k + 1, n1, annW n1 now ws u q, anns.set u (now : Int), rLeft n1 (u : Int) L, by omega, by go_num, by have := HNOW5.out; omega, by have := HLEN5.out; omega, HREL5, Lib.hid (HE6.out.f0 HFK.out), Lib.hid (HR6.out.f0 HFK.out), Lib.hid (HF6.out.trans HFK.out), Lib.hid (Nat.le_trans HLIM6.out HFK.out.size)⟩, by simp [intOf]; omega⟩
      · have hout : wz < 0 ∨ (n : Int) ≤ wz := by omega
        have hy : decide (0 ≤ wz) = false ∨ (decide (0 ≤ wz) = true ∧ decide (wz < (n : Int)) = false) := by
          by_cases h : 0 ≤ wz
          · exact .inr ⟨decide_eq_true h, decide_eq_false (by omega)⟩
          · exact .inl (decide_eq_false h)
        clear hin
        rcases hy with y1 | ⟨y1, y2⟩
        · cases ret with
          | true =>
            have HRT := Lib.hid (retire_out _ x x now ws HEa.out wz tz (by rw [HREL.out.len]; exact hout))
            go_wp2_with fail
            refine HRT.out.mono ?_
            rintro e w5 ⟨rfl, hw5⟩
            rw [← hw5] at HEa HFa HRa HLIMa
            have HE5 := HEa
            have HR5 := HRa
            have HF5 := HFa
            have HLIM5 := HLIMa
            have HREL5 := HREL
            have HNOW5 : Hid (now ≤ k + 1) := Lib.hid (by omega)
            have HLEN5 : Hid (L.length ≤ k + 1) := Lib.hid (by omega)
            clear hw5 HRT HEa HFa HRa HPa HLIMa HA0 HE HR HF HLIM d0' d1' d2' hout
            have cr0 : (w5).cell? ⟨r, 0, none⟩ = some (.int .i64 ((now : Nat) : Int)) := by
              obtain ⟨_, _, hh⟩ := HR5.out
              rw [hh.hr.cell]; rfl
            have z9 : (((now : Nat) : Int) != ((now : Nat) : Int)) = false := by simp
            go_wp2_with fail
            refine region_K 7 (fun w' : World => w'.cell? ⟨r, 0, none⟩ = some (.int .i64 (now : Int)) ∧ EpAt w' x x (now) (ws)) (by kernel_rfl) ?_
            have HS : (fun w' : World => w'.cell? ⟨r, 0, none⟩ = some (.int .i64 (now : Int)) ∧ EpAt w' x x (now) (ws)) (w5).drew := ⟨cr0, HE5.out.f0 (Fr.refl F0 _).drew⟩
            refine AnyK.take (i := 0) rfl (by decide) (by kernel_rfl) (by kernel_rfl) (by kernel_rfl) (fun _ _ _ _ h => h) HS (fun K hK => ?_)
            go_simp
            refine hK.out _ ⟨_, by rfl, Or.inl ⟨by rfl, by intro w hSw; (try dsimp only at hSw); go_simp⟩, ?_⟩
            clear hK K
            refine AnyK.take (i := 2) rfl (by decide) (by kernel_rfl) (by kernel_rfl) (by kernel_rfl) (fun _ _ _ _ h => h) HS (fun K hK => ?_)
            go_simp
            refine hK.out _ ⟨_, by rfl, Or.inl ⟨by rfl, by intro w hSw; (try dsimp only at hSw); go_simp⟩, ?_⟩
            clear hK K
            refine AnyK.take (i := 3) rfl (by decide) (by kernel_rfl) (by kernel_rfl) (by kernel_rfl) (fun _ _ _ _ h => h) HS (fun K hK => ?_)
            go_simp
            refine hK.out _ ⟨_, by rfl, Or.inl ⟨by rfl, by intro w hSw; (try dsimp only at hSw); go_simp⟩, ?_⟩
            clear hK K
            refine AnyK.take (i := 4) rfl (by decide) (by kernel_rfl) (by kernel_rfl) (by kernel_rfl) (fun _ _ _ _ h => h) HS (fun K hK => ?_)
            go_simp
            refine hK.out _ ⟨_, by rfl, Or.inl ⟨by rfl, by intro w hSw; (try dsimp only at hSw); go_simp⟩, ?_⟩
            clear hK K
            refine AnyK.take (i := 5) rfl (by decide) (by kernel_rfl) (by kernel_rfl) (by kernel_rfl) (fun _ _ _ _ h => h) HS (fun K hK => ?_)
            go_simp
            refine hK.out _ ⟨_, by rfl, Or.inl ⟨by rfl, by intro w hSw; (try dsimp only at hSw); go_simp⟩, ?_⟩
            clear hK K
            refine AnyK.one (i := 1) rfl (by kernel_rfl) (fun K hK => ?_)
            go_simp
            refine (now_at _ x x (now) (ws) HS.2).mono ?_
            rintro e w6 ⟨rfl, hw6⟩
            subst hw6
            refine hK.out _ _ (fun _ => HS) ?_
            clear hK K
            refine AnyK.take (i := 6) rfl (by decide) (by kernel_rfl) (by kernel_rfl) (by kernel_rfl) (fun _ _ _ _ h => h) HS (fun K hK => ?_)
            go_simp
            refine hK.out _ ⟨_, by rfl, Or.inl ⟨by rfl, by intro w hSw; (try dsimp only at hSw); go_simp⟩, ?_⟩
            clear hK K
            refine AnyK.done (by kernel_rfl) ?_ _
            have HE6 := Lib.hid HS.2
            have HR6 : Hid (RfAt (w5).drew r lim r (now) (anns) (L)) := HR5.out.f0 (Fr.refl F0 _).drew
            have HF6 : Hid (Fr F0 w (w5).drew) := HF5.out.drew
            have HLIM6 : Hid (lim ≤ (w5).drew.heap.size) := HLIM5.out
            clear HS HE5 HR5 HF5 HLIM5
            generalize (w5).drew = W6 at *
            go_wp2_with fail
            go_loopw [16] (fun kv wx => ∃ kk : Nat, kk ≤ n + 2 ∧ kv = .int .i64 ((kk : Int) - 1) ∧ Hid (Fr F0 W6 wx)) (fun kv _ => n + 2 - (intOf kv + 1).toNat)
            case atStart => exact ⟨0, by omega, rfl, Lib.hid (Fr.refl _ _)⟩
            case round =>
              obtain ⟨kk, hkk, rfl, HFK⟩ := hrel
              by_cases hk2 : kk ≤ n + 1
              · have z1 : (kk : Int) - 1 ≤ (n : Int) := by omega
                have z2 : decide ((kk : Int) - 1 ≤ (n : Int)) = true := decide_eq_true z1
                have HLA := Lib.hid (limbo_rel wr x x (now) n (ws) (anns) (L) (HE6.out.f0 HFK.out) HREL5.out ((kk : Int) - 1))
                have HLB := Lib.hid (rlimbo_any wr r lim r (now) (anns) (L) (HR6.out.f0 HFK.out) (by have := HLEN5.out; omega) ((kk : Int) - 1))
                obtain ⟨lz, hlz⟩ : ∃ lz : Int, lz = (((L).filter (fun t => t.1 == (kk : Int) - 1)).length : Int) := ⟨_, rfl⟩
                rw [← hlz] at HLA HLB
                have z3 : (lz != lz) = false := by simp
                clear hlz
                go_wp2_with fail
                refine HLA.out.mono ?_
                rintro e w7 ⟨rfl, hw7⟩
                subst hw7
                go_wp2_with fail
                refine HLB.out.mono ?_
                rintro e w8 ⟨rfl, hw8⟩
                subst hw8
                go_wp2_with fail
                exact ⟨⟨kk + 1, by omega, by go_num, HFK⟩, by simp [intOf]; omega⟩
              · have z1 : ¬ (kk : Int) - 1 ≤ (n : Int) := by omega
                have z2 : decide ((kk : Int) - 1 ≤ (n : Int)) = false := decide_eq_false z1
                go_wp2_with fail
                exact ⟨⟨k + 1, now, ws, anns, L, by omega, by go_num, by have := HNOW5.out; omega, by have := HLEN5.out; omega, HREL5, Lib.hid (HE6.out.f0 HFK.out), Lib.hid (HR6.out.f0 HFK.out), Lib.hid (HF6.out.trans HFK.out), Lib.hid (Nat.le_trans HLIM6.out HFK.out.size)⟩, by simp [intOf]; omega⟩
          | false =>
            have HAN := Lib.hid (announce_out _ x x now ws HEa.out wz (by rw [HREL.out.len]; exact hout))
            go_wp2_with fail
            refine HAN.out.mono ?_
            rintro e w2 ⟨rfl, hF2⟩
            have HSM : Hid (Calls Try.prog 14 #[.slice none 0 0, .slice none 0 0] w2 fun e w' => e = .returned (.bool true) ∧ Fr F0 w2 w') := same_yes w2 0 0 (.slice none 0 0) (.slice none 0 0) [] (by decide) (World.ownsRow_nil _ _ _ _) (World.ownsRow_nil _ _ _ _)
            have HE4 := Lib.hid (HEa.out.f0 hF2)
            have HR4 := Lib.hid (HRa.out.f0 hF2)
            have HF4 := Lib.hid (HFa.out.trans hF2)
            have HLIM4 : Hid (lim ≤ w2.heap.size) := Nat.le_trans HLIMa.out hF2.size
            clear hF2 HAN
            have HREL5 := HREL
            have HNOW5 : Hid (now ≤ k + 1) := Lib.hid (by omega)
            have HLEN5 : Hid (L.length ≤ k + 1) := Lib.hid (by omega)
            clear HEa HFa HRa HPa HLIMa HA0 HE HR HF HLIM d0' d1' d2' hout
            go_wp2_with fail
            refine HSM.out.mono ?_
            rintro e w9 ⟨rfl, hF9⟩
            have HE5 := Lib.hid (HE4.out.f0 hF9)
            have HR5 := Lib.hid (HR4.out.f0 hF9)
            have HF5 := Lib.hid (HF4.out.trans hF9)
            have HLIM5 : Hid (lim ≤ w9.heap.size) := Nat.le_trans HLIM4.out hF9.size
            clear hF9 HSM HE4 HR4 HF4 HLIM4
            have cr0 : (w9).cell? ⟨r, 0, none⟩ = some (.int .i64 ((now : Nat) : Int)) := by
              obtain ⟨_, _, hh⟩ := HR5.out
              rw [hh.hr.cell]; rfl
            have z9 : (((now : Nat) : Int) != ((now : Nat) : Int)) = false := by simp
            go_wp2_with fail
            refine region_K 7 (fun w' : World => w'.cell? ⟨r, 0, none⟩ = some (.int .i64 (now : Int)) ∧ EpAt w' x x (now) (ws)) (by kernel_rfl) ?_
            have HS : (fun w' : World => w'.cell? ⟨r, 0, none⟩ = some (.int .i64 (now : Int)) ∧ EpAt w' x x (now) (ws)) (w9).drew := ⟨cr0, HE5.out.f0 (Fr.refl F0 _).drew⟩
            refine AnyK.take (i := 0) rfl (by decide) (by kernel_rfl) (by kernel_rfl) (by kernel_rfl) (fun _ _ _ _ h => h) HS (fun K hK => ?_)
            go_simp
            refine hK.out _ ⟨_, by rfl, Or.inl ⟨by rfl, by intro w hSw; (try dsimp only at hSw); go_simp⟩, ?_⟩
            clear hK K
            refine AnyK.take (i := 2) rfl (by decide) (by kernel_rfl) (by kernel_rfl) (by kernel_rfl) (fun _ _ _ _ h => h) HS (fun K hK => ?_)
            go_simp
            refine hK.out _ ⟨_, by rfl, Or.inl ⟨by rfl, by intro w hSw; (try dsimp only at hSw); go_simp⟩, ?_⟩
            clear hK K
            refine AnyK.take (i := 3) rfl (by decide) (by kernel_rfl) (by kernel_rfl) (by kernel_rfl) (fun _ _ _ _ h => h) HS (fun K hK => ?_)
            go_simp
            refine hK.out _ ⟨_, by rfl, Or.inl ⟨by rfl, by intro w hSw; (try dsimp only at hSw); go_simp⟩, ?_⟩
            clear hK K
            refine AnyK.take (i := 4) rfl (by decide) (by kernel_rfl) (by kernel_rfl) (by kernel_rfl) (fun _ _ _ _ h => h) HS (fun K hK => ?_)
            go_simp
            refine hK.out _ ⟨_, by rfl, Or.inl ⟨by rfl, by intro w hSw; (try dsimp only at hSw); go_simp⟩, ?_⟩
            clear hK K
            refine AnyK.take (i := 5) rfl (by decide) (by kernel_rfl) (by kernel_rfl) (by kernel_rfl) (fun _ _ _ _ h => h) HS (fun K hK => ?_)
            go_simp
            refine hK.out _ ⟨_, by rfl, Or.inl ⟨by rfl, by intro w hSw; (try dsimp only at hSw); go_simp⟩, ?_⟩
            clear hK K
            refine AnyK.one (i := 1) rfl (by kernel_rfl) (fun K hK => ?_)
            go_simp
            refine (now_at _ x x (now) (ws) HS.2).mono ?_
            rintro e w6 ⟨rfl, hw6⟩
            subst hw6
            refine hK.out _ _ (fun _ => HS) ?_
            clear hK K
            refine AnyK.take (i := 6) rfl (by decide) (by kernel_rfl) (by kernel_rfl) (by kernel_rfl) (fun _ _ _ _ h => h) HS (fun K hK => ?_)
            go_simp
            refine hK.out _ ⟨_, by rfl, Or.inl ⟨by rfl, by intro w hSw; (try dsimp only at hSw); go_simp⟩, ?_⟩
            clear hK K
            refine AnyK.done (by kernel_rfl) ?_ _
            have HE6 := Lib.hid HS.2
            have HR6 : Hid (RfAt (w9).drew r lim r (now) (anns) (L)) := HR5.out.f0 (Fr.refl F0 _).drew
            have HF6 : Hid (Fr F0 w (w9).drew) := HF5.out.drew
            have HLIM6 : Hid (lim ≤ (w9).drew.heap.size) := HLIM5.out
            clear HS HE5 HR5 HF5 HLIM5
            generalize (w9).drew = W6 at *
            go_wp2_with fail
            go_loopw [16] (fun kv wx => ∃ kk : Nat, kk ≤ n + 2 ∧ kv = .int .i64 ((kk : Int) - 1) ∧ Hid (Fr F0 W6 wx)) (fun kv _ => n + 2 - (intOf kv + 1).toNat)
            case atStart => exact ⟨0, by omega, rfl, Lib.hid (Fr.refl _ _)⟩
            case round =>
              obtain ⟨kk, hkk, rfl, HFK⟩ := hrel
              by_cases hk2 : kk ≤ n + 1
              · have z1 : (kk : Int) - 1 ≤ (n : Int) := by omega
                have z2 : decide ((kk : Int) - 1 ≤ (n : Int)) = true := decide_eq_true z1
                have HLA := Lib.hid (limbo_rel wr x x (now) n (ws) (anns) (L) (HE6.out.f0 HFK.out) HREL5.out ((kk : Int) - 1))
                have HLB := Lib.hid (rlimbo_any wr r lim r (now) (anns) (L) (HR6.out.f0 HFK.out) (by have := HLEN5.out; omega) ((kk : Int) - 1))
                obtain ⟨lz, hlz⟩ : ∃ lz : Int, lz = (((L).filter (fun t => t.1 == (kk : Int) - 1)).length : Int) := ⟨_, rfl⟩
                rw [← hlz] at HLA HLB
                have z3 : (lz != lz) = false := by simp
                clear hlz
                go_wp2_with fail
                refine HLA.out.mono ?_
                rintro e w7 ⟨rfl, hw7⟩
                subst hw7
                go_wp2_with fail
                refine HLB.out.mono ?_
                rintro e w8 ⟨rfl, hw8⟩
                subst hw8
                go_wp2_with fail
                exact ⟨⟨kk + 1, by omega, by go_num, HFK⟩, by simp [intOf]; omega⟩
              · have z1 : ¬ (kk : Int) - 1 ≤ (n : Int) := by omega
                have z2 : decide ((kk : Int) - 1 ≤ (n : Int)) = false := decide_eq_false z1
                go_wp2_with fail
                exact ⟨⟨k + 1, now, ws, anns, L, by omega, by go_num, by have := HNOW5.out; omega, by have := HLEN5.out; omega, HREL5, Lib.hid (HE6.out.f0 HFK.out), Lib.hid (HR6.out.f0 HFK.out), Lib.hid (HF6.out.trans HFK.out), Lib.hid (Nat.le_trans HLIM6.out HFK.out.size)⟩, by simp [intOf]; omega⟩
        · cases ret with
          | true =>
            have HRT := Lib.hid (retire_out _ x x now ws HEa.out wz tz (by rw [HREL.out.len]; exact hout))
            go_wp2_with fail
            refine HRT.out.mono ?_
            rintro e w5 ⟨rfl, hw5⟩
            rw [← hw5] at HEa HFa HRa HLIMa
            have HE5 := HEa
            have HR5 := HRa
            have HF5 := HFa
            have HLIM5 := HLIMa
            have HREL5 := HREL
            have HNOW5 : Hid (now ≤ k + 1) := Lib.hid (by omega)
            have HLEN5 : Hid (L.length ≤ k + 1) := Lib.hid (by omega)
            clear hw5 HRT HEa HFa HRa HPa HLIMa HA0 HE HR HF HLIM d0' d1' d2' hout
            have cr0 : (w5).cell? ⟨r, 0, none⟩ = some (.int .i64 ((now : Nat) : Int)) := by
              obtain ⟨_, _, hh⟩ := HR5.out
              rw [hh.hr.cell]; rfl
            have z9 : (((now : Nat) : Int) != ((now : Nat) : Int)) = false := by simp
            go_wp2_with fail
            refine region_K 7 (fun w' : World => w'.cell? ⟨r, 0, none⟩ = some (.int .i64 (now : Int)) ∧ EpAt w' x x (now) (ws)) (by kernel_rfl) ?_
            have HS : (fun w' : World => w'.cell? ⟨r, 0, none⟩ = some (.int .i64 (now : Int)) ∧ EpAt w' x x (now) (ws)) (w5).drew := ⟨cr0, HE5.out.f0 (Fr.refl F0 _).drew⟩
            refine AnyK.take (i := 0) rfl (by decide) (by kernel_rfl) (by kernel_rfl) (by kernel_rfl) (fun _ _ _ _ h => h) HS (fun K hK => ?_)
            go_simp
            refine hK.out _ ⟨_, by rfl, Or.inl ⟨by rfl, by intro w hSw; (try dsimp only at hSw); go_simp⟩, ?_⟩
            clear hK K
            refine AnyK.take (i := 2) rfl (by decide) (by kernel_rfl) (by kernel_rfl) (by kernel_rfl) (fun _ _ _ _ h => h) HS (fun K hK => ?_)
            go_simp
            refine hK.out _ ⟨_, by rfl, Or.inl ⟨by rfl, by intro w hSw; (try dsimp only at hSw); go_simp⟩, ?_⟩
            clear hK K
            refine AnyK.take (i := 3) rfl (by decide) (by kernel_rfl) (by kernel_rfl) (by kernel_rfl) (fun _ _ _ _ h => h) HS (fun K hK => ?_)
            go_simp
            refine hK.out _ ⟨_, by rfl, Or.inl ⟨by rfl, by intro w hSw; (try dsimp only at hSw); go_simp⟩, ?_⟩
            clear hK K
            refine AnyK.take (i := 4) rfl (by decide) (by kernel_rfl) (by kernel_rfl) (by kernel_rfl) (fun _ _ _ _ h => h) HS (fun K hK => ?_)
            go_simp
            refine hK.out _ ⟨_, by rfl, Or.inl ⟨by rfl, by intro w hSw; (try dsimp only at hSw); go_simp⟩, ?_⟩
            clear hK K
            refine AnyK.take (i := 5) rfl (by decide) (by kernel_rfl) (by kernel_rfl) (by kernel_rfl) (fun _ _ _ _ h => h) HS (fun K hK => ?_)
            go_simp
            refine hK.out _ ⟨_, by rfl, Or.inl ⟨by rfl, by intro w hSw; (try dsimp only at hSw); go_simp⟩, ?_⟩
            clear hK K
            refine AnyK.one (i := 1) rfl (by kernel_rfl) (fun K hK => ?_)
            go_simp
            refine (now_at _ x x (now) (ws) HS.2).mono ?_
            rintro e w6 ⟨rfl, hw6⟩
            subst hw6
            refine hK.out _ _ (fun _ => HS) ?_
            clear hK K
            refine AnyK.take (i := 6) rfl (by decide) (by kernel_rfl) (by kernel_rfl) (by kernel_rfl) (fun _ _ _ _ h => h) HS (fun K hK => ?_)
            go_simp
            refine hK.out _ ⟨_, by rfl, Or.inl ⟨by rfl, by intro w hSw; (try dsimp only at hSw); go_simp⟩, ?_⟩
            clear hK K
            refine AnyK.done (by kernel_rfl) ?_ _
            have HE6 := Lib.hid HS.2
            have HR6 : Hid (RfAt (w5).drew r lim r (now) (anns) (L)) := HR5.out.f0 (Fr.refl F0 _).drew
            have HF6 : Hid (Fr F0 w (w5).drew) := HF5.out.drew
            have HLIM6 : Hid (lim ≤ (w5).drew.heap.size) := HLIM5.out
            clear HS HE5 HR5 HF5 HLIM5
            generalize (w5).drew = W6 at *
            go_wp2_with fail
            go_loopw [16] (fun kv wx => ∃ kk : Nat, kk ≤ n + 2 ∧ kv = .int .i64 ((kk : Int) - 1) ∧ Hid (Fr F0 W6 wx)) (fun kv _ => n + 2 - (intOf kv + 1).toNat)
            case atStart => exact ⟨0, by omega, rfl, Lib.hid (Fr.refl _ _)⟩
            case round =>
              obtain ⟨kk, hkk, rfl, HFK⟩ := hrel
              by_cases hk2 : kk ≤ n + 1
              · have z1 : (kk : Int) - 1 ≤ (n : Int) := by omega
                have z2 : decide ((kk : Int) - 1 ≤ (n : Int)) = true := decide_eq_true z1
                have HLA := Lib.hid (limbo_rel wr x x (now) n (ws) (anns) (L) (HE6.out.f0 HFK.out) HREL5.out ((kk : Int) - 1))
                have HLB := Lib.hid (rlimbo_any wr r lim r (now) (anns) (L) (HR6.out.f0 HFK.out) (by have := HLEN5.out; omega) ((kk : Int) - 1))
                obtain ⟨lz, hlz⟩ : ∃ lz : Int, lz = (((L).filter (fun t => t.1 == (kk : Int) - 1)).length : Int) := ⟨_, rfl⟩
                rw [← hlz] at HLA HLB
                have z3 : (lz != lz) = false := by simp
                clear hlz
                go_wp2_with fail
                refine HLA.out.mono ?_
                rintro e w7 ⟨rfl, hw7⟩
                subst hw7
                go_wp2_with fail
                refine HLB.out.mono ?_
                rintro e w8 ⟨rfl, hw8⟩
                subst hw8
                go_wp2_with fail
                exact ⟨⟨kk + 1, by omega, by go_num, HFK⟩, by simp [intOf]; omega⟩
              · have z1 : ¬ (kk : Int) - 1 ≤ (n : Int) := by omega
                have z2 : decide ((kk : Int) - 1 ≤ (n : Int)) = false := decide_eq_false z1
                go_wp2_with fail
                exact ⟨⟨k + 1, now, ws, anns, L, by omega, by go_num, by have := HNOW5.out; omega, by have := HLEN5.out; omega, HREL5, Lib.hid (HE6.out.f0 HFK.out), Lib.hid (HR6.out.f0 HFK.out), Lib.hid (HF6.out.trans HFK.out), Lib.hid (Nat.le_trans HLIM6.out HFK.out.size)⟩, by simp [intOf]; omega⟩
          | false =>
            have HAN := Lib.hid (announce_out _ x x now ws HEa.out wz (by rw [HREL.out.len]; exact hout))
            go_wp2_with fail
            refine HAN.out.mono ?_
            rintro e w2 ⟨rfl, hF2⟩
            have HSM : Hid (Calls Try.prog 14 #[.slice none 0 0, .slice none 0 0] w2 fun e w' => e = .returned (.bool true) ∧ Fr F0 w2 w') := same_yes w2 0 0 (.slice none 0 0) (.slice none 0 0) [] (by decide) (World.ownsRow_nil _ _ _ _) (World.ownsRow_nil _ _ _ _)
            have HE4 := Lib.hid (HEa.out.f0 hF2)
            have HR4 := Lib.hid (HRa.out.f0 hF2)
            have HF4 := Lib.hid (HFa.out.trans hF2)
            have HLIM4 : Hid (lim ≤ w2.heap.size) := Nat.le_trans HLIMa.out hF2.size
            clear hF2 HAN
            have HREL5 := HREL
            have HNOW5 : Hid (now ≤ k + 1) := Lib.hid (by omega)
            have HLEN5 : Hid (L.length ≤ k + 1) := Lib.hid (by omega)
            clear HEa HFa HRa HPa HLIMa HA0 HE HR HF HLIM d0' d1' d2' hout
            go_wp2_with fail
            refine HSM.out.mono ?_
            rintro e w9 ⟨rfl, hF9⟩
            have HE5 := Lib.hid (HE4.out.f0 hF9)
            have HR5 := Lib.hid (HR4.out.f0 hF9)
            have HF5 := Lib.hid (HF4.out.trans hF9)
            have HLIM5 : Hid (lim ≤ w9.heap.size) := Nat.le_trans HLIM4.out hF9.size
            clear hF9 HSM HE4 HR4 HF4 HLIM4
            have cr0 : (w9).cell? ⟨r, 0, none⟩ = some (.int .i64 ((now : Nat) : Int)) := by
              obtain ⟨_, _, hh⟩ := HR5.out
              rw [hh.hr.cell]; rfl
            have z9 : (((now : Nat) : Int) != ((now : Nat) : Int)) = false := by simp
            go_wp2_with fail
            refine region_K 7 (fun w' : World => w'.cell? ⟨r, 0, none⟩ = some (.int .i64 (now : Int)) ∧ EpAt w' x x (now) (ws)) (by kernel_rfl) ?_
            have HS : (fun w' : World => w'.cell? ⟨r, 0, none⟩ = some (.int .i64 (now : Int)) ∧ EpAt w' x x (now) (ws)) (w9).drew := ⟨cr0, HE5.out.f0 (Fr.refl F0 _).drew⟩
            refine AnyK.take (i := 0) rfl (by decide) (by kernel_rfl) (by kernel_rfl) (by kernel_rfl) (fun _ _ _ _ h => h) HS (fun K hK => ?_)
            go_simp
            refine hK.out _ ⟨_, by rfl, Or.inl ⟨by rfl, by intro w hSw; (try dsimp only at hSw); go_simp⟩, ?_⟩
            clear hK K
            refine AnyK.take (i := 2) rfl (by decide) (by kernel_rfl) (by kernel_rfl) (by kernel_rfl) (fun _ _ _ _ h => h) HS (fun K hK => ?_)
            go_simp
            refine hK.out _ ⟨_, by rfl, Or.inl ⟨by rfl, by intro w hSw; (try dsimp only at hSw); go_simp⟩, ?_⟩
            clear hK K
            refine AnyK.take (i := 3) rfl (by decide) (by kernel_rfl) (by kernel_rfl) (by kernel_rfl) (fun _ _ _ _ h => h) HS (fun K hK => ?_)
            go_simp
            refine hK.out _ ⟨_, by rfl, Or.inl ⟨by rfl, by intro w hSw; (try dsimp only at hSw); go_simp⟩, ?_⟩
            clear hK K
            refine AnyK.take (i := 4) rfl (by decide) (by kernel_rfl) (by kernel_rfl) (by kernel_rfl) (fun _ _ _ _ h => h) HS (fun K hK => ?_)
            go_simp
            refine hK.out _ ⟨_, by rfl, Or.inl ⟨by rfl, by intro w hSw; (try dsimp only at hSw); go_simp⟩, ?_⟩
            clear hK K
            refine AnyK.take (i := 5) rfl (by decide) (by kernel_rfl) (by kernel_rfl) (by kernel_rfl) (fun _ _ _ _ h => h) HS (fun K hK => ?_)
            go_simp
            refine hK.out _ ⟨_, by rfl, Or.inl ⟨by rfl, by intro w hSw; (try dsimp only at hSw); go_simp⟩, ?_⟩
            clear hK K
            refine AnyK.one (i := 1) rfl (by kernel_rfl) (fun K hK => ?_)
            go_simp
            refine (now_at _ x x (now) (ws) HS.2).mono ?_
            rintro e w6 ⟨rfl, hw6⟩
            subst hw6
            refine hK.out _ _ (fun _ => HS) ?_
            clear hK K
            refine AnyK.take (i := 6) rfl (by decide) (by kernel_rfl) (by kernel_rfl) (by kernel_rfl) (fun _ _ _ _ h => h) HS (fun K hK => ?_)
            go_simp
            refine hK.out _ ⟨_, by rfl, Or.inl ⟨by rfl, by intro w hSw; (try dsimp only at hSw); go_simp⟩, ?_⟩
            clear hK K
            refine AnyK.done (by kernel_rfl) ?_ _
            have HE6 := Lib.hid HS.2
            have HR6 : Hid (RfAt (w9).drew r lim r (now) (anns) (L)) := HR5.out.f0 (Fr.refl F0 _).drew
            have HF6 : Hid (Fr F0 w (w9).drew) := HF5.out.drew
            have HLIM6 : Hid (lim ≤ (w9).drew.heap.size) := HLIM5.out
            clear HS HE5 HR5 HF5 HLIM5
            generalize (w9).drew = W6 at *
            go_wp2_with fail
            go_loopw [16] (fun kv wx => ∃ kk : Nat, kk ≤ n + 2 ∧ kv = .int .i64 ((kk : Int) - 1) ∧ Hid (Fr F0 W6 wx)) (fun kv _ => n + 2 - (intOf kv + 1).toNat)
            case atStart => exact ⟨0, by omega, rfl, Lib.hid (Fr.refl _ _)⟩
            case round =>
              obtain ⟨kk, hkk, rfl, HFK⟩ := hrel
              by_cases hk2 : kk ≤ n + 1
              · have z1 : (kk : Int) - 1 ≤ (n : Int) := by omega
                have z2 : decide ((kk : Int) - 1 ≤ (n : Int)) = true := decide_eq_true z1
                have HLA := Lib.hid (limbo_rel wr x x (now) n (ws) (anns) (L) (HE6.out.f0 HFK.out) HREL5.out ((kk : Int) - 1))
                have HLB := Lib.hid (rlimbo_any wr r lim r (now) (anns) (L) (HR6.out.f0 HFK.out) (by have := HLEN5.out; omega) ((kk : Int) - 1))
                obtain ⟨lz, hlz⟩ : ∃ lz : Int, lz = (((L).filter (fun t => t.1 == (kk : Int) - 1)).length : Int) := ⟨_, rfl⟩
                rw [← hlz] at HLA HLB
                have z3 : (lz != lz) = false := by simp
                clear hlz
                go_wp2_with fail
                refine HLA.out.mono ?_
                rintro e w7 ⟨rfl, hw7⟩
                subst hw7
                go_wp2_with fail
                refine HLB.out.mono ?_
                rintro e w8 ⟨rfl, hw8⟩
                subst hw8
                go_wp2_with fail
                exact ⟨⟨kk + 1, by omega, by go_num, HFK⟩, by simp [intOf]; omega⟩
              · have z1 : ¬ (kk : Int) - 1 ≤ (n : Int) := by omega
                have z2 : decide ((kk : Int) - 1 ≤ (n : Int)) = false := decide_eq_false z1
                go_wp2_with fail
                exact ⟨⟨k + 1, now, ws, anns, L, by omega, by go_num, by have := HNOW5.out; omega, by have := HLEN5.out; omega, HREL5, Lib.hid (HE6.out.f0 HFK.out), Lib.hid (HR6.out.f0 HFK.out), Lib.hid (HF6.out.trans HFK.out), Lib.hid (Nat.le_trans HLIM6.out HFK.out.size)⟩, by simp [intOf]; omega⟩
    · obtain rfl : k = len1 := by omega
      go_wp2_with fail
      refine (awake_any _).mono ?_
      rintro e w5 ⟨rfl, hF5⟩
      have HF5 := Lib.hid (HF.out.trans hF5)
      clear hF5
      go_wp2_with fail
      go_ret
      exact ⟨rfl, HF5.out⟩
theorem walk (x : Int) (hx : (Lit.int .u8 x).wf = true) (a1 : Option Addr) (len1 cap1 : Nat) (f : Nat → Bool × Int × Int) {v : World} (hA : IsActs v a1 len1 f) (w : World) (hv : v = w := by rfl) :
    Calls Try.prog 3 #[.int .u8 x, .slice a1 len1 cap1] w fun e w' => e = .returned (.bool true) ∧ Below w.heap.size w w' := by
  subst hv
  obtain ⟨c, rfl, hc⟩ : ∃ c : Nat, x = c ∧ c < 256 := bounds8 hx
  have key : Calls Try.prog 3 #[.int .u8 (c : Int), .slice a1 len1 cap1] v fun e w' => e = .returned (.bool true) ∧ Fr F0 v w' := by
    by_cases h : 200 < len1
    · exact long c a1 len1 cap1 h v
    · exact few c hc a1 len1 cap1 (by omega) f v hA
  exact key.mono fun _ _ ⟨he, hF⟩ => ⟨he, hF.below (Nat.le_refl _) (fun _ h => h.elim)⟩


/-! ### The row's step -/
theorem own : ownKnob Try.prog.godebug = none := by kernel_rfl
theorem laidOut : laidOutB Try.prog = true := by kernel_rfl

set_option maxRecDepth 100000 in
theorem lifted (os : Os) (started : os.Started) (H : Type) (enc : TypeId × Value → H) :
    ReturnsInHanded {} Try.checked os 3 .any (Rows.epochActsSpec.pre6 enc Try.prog Try.f3 Rows.epochActsRow.domain false) (Rows.epochActsSpec.post enc Try.prog Try.f3 false true false false) := by
  refine returnsInHanded_of_change (C := Try.checked) own started (by kernel_rfl) Try.func3
    (ChangeSpec.witness6 (enc := enc) (C := Try.checked) false ⟨#[], #[.int .u8 0, .slice none 0 0], []⟩ 8 (by kernel_rfl) (by kernel_rfl) (by kernel_rfl) (by kernel_rfl)) ?_
  intro W base args ds gs before hval0 hW hcnd _
  have hval : ∀ (j : Nat) t v, Try.f3.params[j]? = some t → args[j]? = some v → Value.okWide Try.prog W .any base t v := hval0
  have hW' := hW
  obtain ⟨p, q, hA0, hV, rfl, hfz, hnd⟩ := hW
  have hA : DataW.TrodAll enc Try.prog W 0 (fun _ => true) true Try.f3.params.toList args.toList ds p := hA0
  rw [Try.params3] at hA hval
  obtain ⟨v0, vs0, d0, ds0, p0, q0, hargs, rfl, rfl, h0, r0⟩ := trodAll_cons hA
  obtain ⟨v1, vs1, d1, ds1, p1, q1, rfl, rfl, rfl, h1, r1⟩ := trodAll_cons r0
  obtain ⟨rfl, rfl, rfl⟩ := trodAll_nil r1
  obtain rfl : args = #[v0, v1] := by cases args; simp_all
  obtain ⟨rfl, rfl⟩ := trodVars_none hV
  obtain ⟨a0, rfl, rfl, rfl, w0⟩ := open_int Try.underlying5 (hval 0 5 v0 rfl rfl) h0
  obtain ⟨a1, len1, cap1, rfl⟩ := okWide_slice Try.underlying22 (hval 1 22 v1 rfl rfl)
  have k1 := h1
  have lt1 : ∀ x ∈ p1, x.block < W.heap.size := by obtain ⟨m, hm⟩ := k1; exact DataW.trod_lt m _ _ _ hm
  obtain ⟨z1, w1⟩ := open_acts h1
  clear hA0 hval0
  refine (walk a0 w0 a1 len1 cap1 z1 w1 W).mono fun e W' ⟨he, bel⟩ => ?_
  subst he
  exact ⟨_, rfl, _, _, _, [], _, [], hW', trodAll_mk1 (shut_bool Try.underlying4 _), (trodAll_cons_mk (shut_int Try.underlying5 w0) (trodAll_cons_mk (Below.trod laidOut (by kernel_rfl) (of_decide_eq_true (by kernel_rfl)) k1 bel lt1) trodAll_mk0)), rfl, bel.frame _, fun h => by cases h⟩

theorem over : Rows.epochActsRow.holds Try.pinned (OpenSpec.ofChange Rows.epochActsSpec) :=
  OpenClaim.holds_of_wide 3 Try.f3 rfl rfl rfl rfl rfl rfl rfl ⟨rfl, rfl, rfl, rfl, rfl⟩ rfl rfl rfl rfl rfl (by kernel_rfl) Try.func3 (by kernel_rfl)
    (of_decide_eq_true (by kernel_rfl)) (by unfold Func.isWrapper; first | (rw [if_pos (by decide +kernel)]; kernel_rfl) | (rw [if_neg (by decide +kernel)]; exact ⟨rfl, rfl⟩))
    (fun os started H enc _ => lifted os started H enc)

/-- The statement. -/
theorem proved : Rows.EpochActsSaid := over
#print axioms proved
end Go.Proofs.Ytjphmiemakmcbaa.epochActs
