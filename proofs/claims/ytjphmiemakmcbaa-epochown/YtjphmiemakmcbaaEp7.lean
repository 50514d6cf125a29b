/-
  Package epoch: Retire, Announce.
-/
import Derived.Test.YtjphmiemakmcbaaEp6
namespace Go.Proofs.Ytjphmiemakmcbaa
open Go.RowKit

theorem rows_at {rows : List (Wk × Value)} {ws : List Wk} {i : Nat} {q : Wk} (h : rows.map Prod.fst = ws) (hq : ws[i]? = some q) : ∃ lv, rows[i]? = some (q, lv) := by
  rw [← h, List.getElem?_map] at hq
  obtain ⟨r, hr, rfl⟩ := Option.map_eq_some_iff.1 hq
  exact ⟨r.2, hr⟩
theorem retire_no (w : World) (x n : Nat) (i th : Int) (A : Option Addr) (c : Nat) (h1 : w.cell? ⟨x, 1, none⟩ = some (.slice A n c)) (hi : i < 0 ∨ n ≤ i) :
    Calls Try.prog 11 #[.pointer (some ⟨x, 0, none⟩), .int .i64 i, .int .i64 th] w fun e w' => e = .returned (.int .i64 1) ∧ w' = w := by
  have HH := Lib.hid (has_no w x n i _ _ h1 hi)
  clear hi
  go_enter Try.func11, Try.ntmps11
  go_wp2_with fail
  refine HH.out.mono ?_
  rintro e w1 ⟨rfl, rfl⟩
  go_wp2_with fail
  go_ret
  exact ⟨rfl, rfl⟩
theorem retire_nil (w : World) (i th : Int) :
    Calls Try.prog 11 #[.pointer none, .int .i64 i, .int .i64 th] w fun e w' => e = .returned (.int .i64 1) ∧ w' = w := by
  have HH := Lib.hid (has_nil w i)
  go_enter Try.func11, Try.ntmps11
  go_wp2_with fail
  refine HH.out.mono ?_
  rintro e w1 ⟨rfl, rfl⟩
  go_wp2_with fail
  go_ret
  exact ⟨rfl, rfl⟩

set_option maxHeartbeats 4000000 in
theorem retire_yes (w : World) (base x now : Nat) (ws : List Wk) (hE : EpAt w base x now ws) (i : Nat) (q : Wk) (hq : ws[i]? = some q) (hlen : q.limbo.length ≤ 1000000) (hbase : base ≤ w.heap.size) (th : Int) :
    Calls Try.prog 11 #[.pointer (some ⟨x, 0, none⟩), .int .i64 (i : Int), .int .i64 th] w fun e w' => e = .returned (.int .i64 0) ∧ EpAt w' base x now (ws.set i ⟨q.ann, q.limbo ++ [(th, now)]⟩) ∧ FrE base w w' := by
  obtain ⟨i0, hi0, hz0, hz1, hz2⟩ := info_parts info_retired
  obtain ⟨v, rows, hmap, hR⟩ := hE
  obtain ⟨lv, hr⟩ := rows_at hmap hq
  obtain ⟨r, hrr⟩ : ∃ r : Wk × Value, r = (q, lv) := ⟨_, rfl⟩
  rw [← hrr] at hr
  obtain rfl : q = r.1 := by rw [hrr]
  clear hrr lv
  have hmem := List.mem_of_getElem? hr
  obtain ⟨g, cap, rfl, hgb, hin, hnc, hcm, hc1, hc2, hfz⟩ := own_pair hR.hr (wkC_at hr)
  have hn := hR.len
  obtain ⟨n, hnn⟩ : ∃ n, n = rows.length := ⟨_, rfl⟩
  rw [← hnn] at hR hin hnc
  clear hn
  obtain ⟨lA, lc, hlv⟩ := own_slice (hR.hl r hmem)
  rw [hlv] at hc2
  have cx1 : w.cell? ⟨x, 1, none⟩ = some (.slice (some ⟨g, 0, none⟩) n cap) := by rw [hR.hx.cell]; rfl
  have cx0 : w.cell? ⟨x, 0, none⟩ = some (.int .i64 (now : Int)) := by rw [hR.hx.cell]; rfl
  have hfg := hfz (i * 2 + 1)
  have hox : ¬ r.2.ownBlock = some x := fun he => own_ne (hR.hl r hmem) hR.hx (by decide) he
  have hog : ¬ r.2.ownBlock = some g := fun he => own_apart hR.hr (hR.hl r hmem) (by decide) g rfl he
  have hgl : g < w.heap.size := cell_lt hc1
  have hxl : x < w.heap.size := cell_lt cx0
  rw [hlv] at hox hog
  have HOWN := Lib.hid (hR.hl r hmem)
  rw [hlv] at HOWN
  have HR := Lib.hid hR
  have HHR := Lib.hid hr
  have HMAP := Lib.hid hmap
  have HLV := Lib.hid hlv
  have HOX := Lib.hid hox
  have HOG := Lib.hid hog
  have HH := Lib.hid (has_yes w x i n _ _ cx1 hin)
  have g3 : (i : Int) < (n : Int) := by omega
  clear hR hr hmap hlv hmem hfz hnc hcm hnn hc1 hox hog hq
  go_enter Try.func11, Try.ntmps11
  go_wp2_with fail
  refine HH.out.mono ?_
  rintro e w1 ⟨rfl, rfl⟩
  go_wp2_with fail
  refine region_K 21 (fun w' : World => w'.cell? ⟨x, 1, none⟩ = some (.slice (some ⟨g, 0, none⟩) n cap) ∧ w'.cell? ⟨x, 0, none⟩ = some (.int .i64 (now : Int)) ∧ w'.cell? ⟨g, i * 2 + 1, none⟩ = some (.slice lA r.1.limbo.length lc)) (by kernel_rfl) ?_
  have HS : (fun w' : World => w'.cell? ⟨x, 1, none⟩ = some (.slice (some ⟨g, 0, none⟩) n cap) ∧ w'.cell? ⟨x, 0, none⟩ = some (.int .i64 (now : Int)) ∧ w'.cell? ⟨g, i * 2 + 1, none⟩ = some (.slice lA r.1.limbo.length lc)) (w1).drew := ⟨cx1, cx0, hc2⟩
  refine AnyK.take (i := 0) rfl (by decide) (by kernel_rfl) (by kernel_rfl) (by kernel_rfl) (fun _ _ _ _ h => h) HS (fun K hK => ?_)
  go_simp
  refine hK.out _ ⟨_, by rfl, Or.inl ⟨by rfl, by intro w hSw; (try dsimp only at hSw); go_simp⟩, ?_⟩
  clear hK K
  refine AnyK.take (i := 1) rfl (by decide) (by kernel_rfl) (by kernel_rfl) (by kernel_rfl) (fun _ _ _ _ h => h) HS (fun K hK => ?_)
  go_simp
  refine hK.out _ ⟨_, by rfl, Or.inl ⟨by rfl, by intro w hSw; (try dsimp only at hSw); go_simp⟩, ?_⟩
  clear hK K
  refine AnyK.take (i := 2) rfl (by decide) (by kernel_rfl) (by kernel_rfl) (by kernel_rfl) (fun _ _ _ _ h => h) HS (fun K hK => ?_)
  go_simp
  refine hK.out _ ⟨_, by rfl, Or.inl ⟨by rfl, by intro w hSw; (try dsimp only at hSw); go_simp⟩, ?_⟩
  clear hK K
  refine AnyK.take (i := 3) rfl (by decide) (by kernel_rfl) (by kernel_rfl) (by kernel_rfl) (fun _ _ _ _ h => h) HS (fun K hK => ?_)
  go_simp
  refine hK.out _ ⟨_, by rfl, Or.inl ⟨by rfl, by intro w hSw; (try dsimp only at hSw); go_simp⟩, ?_⟩
  clear hK K
  refine AnyK.take (i := 4) rfl (by decide) (by kernel_rfl) (by kernel_rfl) (by kernel_rfl) (fun _ _ _ _ h => h) HS (fun K hK => ?_)
  go_simp
  refine hK.out _ ⟨_, by rfl, Or.inl ⟨by rfl, by intro w hSw; (try dsimp only at hSw); go_simp⟩, ?_⟩
  clear hK K
  refine AnyK.take (i := 5) rfl (by decide) (by kernel_rfl) (by kernel_rfl) (by kernel_rfl) (fun _ _ _ _ h => h) HS (fun K hK => ?_)
  go_simp
  refine hK.out _ ⟨_, by rfl, Or.inl ⟨by rfl, by intro w hSw; (try dsimp only at hSw); go_simp⟩, ?_⟩
  clear hK K
  refine AnyK.take (i := 6) rfl (by decide) (by kernel_rfl) (by kernel_rfl) (by kernel_rfl) (fun _ _ _ _ h => h) HS (fun K hK => ?_)
  go_simp
  refine hK.out _ ⟨_, by rfl, Or.inl ⟨by rfl, by intro w hSw; (try dsimp only at hSw); go_simp⟩, ?_⟩
  clear hK K
  refine AnyK.take (i := 7) rfl (by decide) (by kernel_rfl) (by kernel_rfl) (by kernel_rfl) (fun _ _ _ _ h => h) HS (fun K hK => ?_)
  go_simp
  refine hK.out _ ⟨_, by rfl, Or.inl ⟨by rfl, by intro w hSw; (try dsimp only at hSw); go_simp⟩, ?_⟩
  clear hK K
  refine AnyK.take (i := 8) rfl (by decide) (by kernel_rfl) (by kernel_rfl) (by kernel_rfl) (fun _ _ _ _ h => h) HS (fun K hK => ?_)
  go_simp
  refine hK.out _ ⟨_, by rfl, Or.inl ⟨by rfl, by intro w hSw; (try dsimp only at hSw); go_simp⟩, ?_⟩
  clear hK K
  refine AnyK.take (i := 9) rfl (by decide) (by kernel_rfl) (by kernel_rfl) (by kernel_rfl) (fun _ _ _ _ h => h) HS (fun K hK => ?_)
  go_simp
  refine hK.out _ ⟨_, by rfl, Or.inl ⟨by rfl, by intro w hSw; (try dsimp only at hSw); go_simp⟩, ?_⟩
  clear hK K
  refine AnyK.take (i := 10) rfl (by decide) (by kernel_rfl) (by kernel_rfl) (by kernel_rfl) (fun _ _ _ _ h => h) HS (fun K hK => ?_)
  go_simp
  refine hK.out _ ⟨_, by rfl, Or.inl ⟨by rfl, by intro w hSw; (try dsimp only at hSw); go_simp⟩, ?_⟩
  clear hK K
  refine AnyK.take (i := 11) rfl (by decide) (by kernel_rfl) (by kernel_rfl) (by kernel_rfl) (fun _ _ _ _ h => h) HS (fun K hK => ?_)
  go_simp
  refine hK.out _ ⟨_, by rfl, Or.inl ⟨by rfl, by intro w hSw; (try dsimp only at hSw); go_simp⟩, ?_⟩
  clear hK K
  refine AnyK.take (i := 12) rfl (by decide) (by kernel_rfl) (by kernel_rfl) (by kernel_rfl) (fun _ _ _ _ h => h) HS (fun K hK => ?_)
  go_simp
  refine hK.out _ ⟨_, by rfl, Or.inl ⟨by rfl, by intro w hSw; (try dsimp only at hSw); go_simp⟩, ?_⟩
  clear hK K
  refine AnyK.take (i := 13) rfl (by decide) (by kernel_rfl) (by kernel_rfl) (by kernel_rfl) (fun _ _ _ _ h => h) HS (fun K hK => ?_)
  go_simp
  refine hK.out _ ⟨_, by rfl, Or.inl ⟨by rfl, by intro w hSw; (try dsimp only at hSw); go_simp⟩, ?_⟩
  clear hK K
  refine AnyK.take (i := 14) rfl (by decide) (by kernel_rfl) (by kernel_rfl) (by kernel_rfl) (fun _ _ _ _ h => h) HS (fun K hK => ?_)
  go_simp
  refine hK.out _ ⟨_, by rfl, Or.inl ⟨by rfl, by intro w hSw; (try dsimp only at hSw); go_simp⟩, ?_⟩
  clear hK K
  refine AnyK.take (i := 15) rfl (by decide) (by kernel_rfl) (by kernel_rfl) (by kernel_rfl) (fun _ _ _ _ h => h) HS (fun K hK => ?_)
  go_simp
  refine hK.out _ ⟨_, by rfl, Or.inl ⟨by rfl, by intro w hSw; (try dsimp only at hSw); go_simp⟩, ?_⟩
  clear hK K
  refine AnyK.take (i := 16) rfl (by decide) (by kernel_rfl) (by kernel_rfl) (by kernel_rfl) (fun _ _ _ _ h => h) HS (fun K hK => ?_)
  go_simp
  refine hK.out _ ⟨_, by rfl, Or.inl ⟨by rfl, by intro w hSw; (try dsimp only at hSw); go_simp⟩, ?_⟩
  clear hK K
  refine AnyK.take (i := 17) rfl (by decide) (by kernel_rfl) (by kernel_rfl) (by kernel_rfl) (fun _ _ _ _ h => h) HS (fun K hK => ?_)
  go_simp
  refine hK.out _ ⟨_, by rfl, Or.inl ⟨by rfl, by intro w hSw; (try dsimp only at hSw); go_simp⟩, ?_⟩
  clear hK K
  refine AnyK.take (i := 18) rfl (by decide) (by kernel_rfl) (by kernel_rfl) (by kernel_rfl) (fun _ _ _ _ h => h) HS (fun K hK => ?_)
  go_simp
  refine hK.out _ ⟨_, by rfl, Or.inl ⟨by rfl, by intro w hSw; (try dsimp only at hSw); go_simp⟩, ?_⟩
  clear hK K
  refine AnyK.one (i := 19) rfl (by kernel_rfl) (fun K hK => ?_)
  go_simp
  generalize hW2 : (w1.alloc (.cells #[.int .i64 th, .int .i64 (now : Int)] 60)).drew = W2
  have hF2 : Fr (fun _ => False) w1 W2 := by rw [← hW2]; exact ((Fr.refl _ _).alloc _).drew
  have hnew : W2.heap[w1.heap.size]? = some (.cells #[.int .i64 th, .int .i64 (now : Int)] 60) := by rw [← hW2]; exact heap_alloc_new w1 _
  have hs2 : W2.heap.size = w1.heap.size + 1 := by rw [← hW2]; simp
  have HS : (fun w' : World => w'.cell? ⟨x, 1, none⟩ = some (.slice (some ⟨g, 0, none⟩) n cap) ∧ w'.cell? ⟨x, 0, none⟩ = some (.int .i64 (now : Int)) ∧ w'.cell? ⟨g, i * 2 + 1, none⟩ = some (.slice lA r.1.limbo.length lc)) W2 := ⟨hF2.held cx1 (fun h => h), hF2.held cx0 (fun h => h), hF2.held hc2 (fun h => h)⟩
  refine hK.out _ _ (fun _ => HS) ?_
  clear hK K
  clear hW2
  have own2 := own_fr HOWN.out hF2 (fun _ _ h => h)
  refine AnyK.one (i := 20) rfl (by kernel_rfl) (fun K hK => ?_)
  refine step_append_lies W2 (by rfl) _ _ _ (by rfl) base 60 i0 _ 2 16 Try.underlying56 hi0 hz0 hz1 hz2 rfl (by omega) (.slice lA r.1.limbo.length lc) r.1.limbo.length _ (by rfl) own2 ⟨w1.heap.size, 0, none⟩ 1 1 [.int .i64 th, .int .i64 (now : Int)] (by rfl) (by rfl) (World.news_of_block (cs := #[.int .i64 th, .int .i64 (now : Int)]) (t := 60) (fr := (0, 0)) hnew) (by simp [Value.oneCell']) (by omega) (by unfold maxLen; omega) (by omega) (by omega) (w1.heap.size + 1) hs2 ?_
  intro gb cap' w3 hown3 hg3 hat hlt3
  have HF3 : Hid (Fr (fun k => (Value.slice lA r.1.limbo.length lc).ownBlock = some k) w1 w3) := Lib.hid ((hF2.mono (fun _ h => h.elim)).trans ((Fr.grown hg3).mono (fun _ h => h.symm)))
  have f3 : w3.frozen? ⟨g, i * 2 + 1, none⟩ = false := by rw [World.frozen?_of_block (HF3.out.block g hgl HOG.out)]; exact hfg
  have HS : (fun w' : World => w'.cell? ⟨x, 1, none⟩ = some (.slice (some ⟨g, 0, none⟩) n cap) ∧ w'.cell? ⟨x, 0, none⟩ = some (.int .i64 (now : Int)) ∧ w'.cell? ⟨g, i * 2 + 1, none⟩ = some (.slice lA r.1.limbo.length lc)) w3 := ⟨HF3.out.held cx1 HOX.out, HF3.out.held cx0 HOX.out, HF3.out.held hc2 HOG.out⟩
  have HO3 := Lib.hid hown3
  have HAT := Lib.hid hat
  refine hK.out _ _ (fun _ => HS) ?_
  clear hK K
  clear hown3 hg3 hat own2 hnew hs2 hF2
  refine AnyK.one (i := 21) rfl (by kernel_rfl) (fun K hK => ?_)
  go_simp
  refine hK.out _ _ (fun _ => HS) ?_
  clear hK K
  refine AnyK.one (i := 22) rfl (by kernel_rfl) (fun K hK => ?_)
  go_simp
  refine hK.out _ _ (fun _ => HS) ?_
  clear hK K
  refine AnyK.one (i := 23) rfl (by kernel_rfl) (fun K hK => ?_)
  go_simp
  refine hK.out _ _ (fun h => absurd (h.symm.trans (by kernel_rfl : _ = true)) (by decide)) ?_
  clear hK K
  refine AnyK.done (by kernel_rfl) ?_ _
  go_wp2_with fail
  go_ret
  have hL : (r.1.limbo ++ [(th, now)]).length = r.1.limbo.length + 1 := by simp
  have hown : w3.ownsRow base 60 2 (.slice (some ⟨gb, 0, none⟩) (r.1.limbo.length + 1) cap') (r.1.limbo ++ [(th, now)]).length (pc (thC (r.1.limbo ++ [(th, now)]))) := by
    rw [hL]
    have : pc (thC (r.1.limbo ++ [(th, now)])) = pc (thC r.1.limbo) ++ [.int .i64 th, .int .i64 (now : Int)] := by
      simp [thC, pc_append]
      rfl
    rw [this]
    exact HO3.out
  have key := HR.out.setLimbo HHR.out (r.1.limbo ++ [(th, now)]) _ (w1 := w3) (by rw [HLV.out]; exact HF3.out) hown ?_ ?_
  · refine ⟨rfl, ⟨_, _, ?_, key.1⟩, key.2⟩
    rw [List.map_set, HMAP.out]
  · rcases HAT.out with h | h
    · exact .inl (by rw [HLV.out, h]; rfl)
    · exact .inr (fun b hb => by have : gb = b := by simpa [Value.ownBlock] using hb
                                 omega)
  · intro t ht
    rw [List.mem_append] at ht
    rcases ht with ht | ht
    · exact HR.out.ha r (List.mem_of_getElem? HHR.out) t ht
    · rw [List.mem_singleton] at ht
      rw [ht]
      exact Nat.le_refl _
end Go.Proofs.Ytjphmiemakmcbaa
