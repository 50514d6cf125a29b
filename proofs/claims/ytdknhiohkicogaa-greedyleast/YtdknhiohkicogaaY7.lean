/-
  graph.Depths, graph.Span, graph.Work. No condition.
-/
import Derived.Test.YtdknhiohkicogaaY5
namespace Go.Proofs.Ytdknhiohkicogaa
open Go.RowKit

theorem DepthOf.nil {G : List (List Nat)} : DepthOf G [] := ⟨by simp, fun n row d _ h => by simp at h⟩
theorem DepthOf.snoc {G : List (List Nat)} {D row : List Nat} (h : DepthOf G D) (hA : Ahead G) (hr : G[D.length]? = some row) : DepthOf G (D ++ [mx (fun a => D.getD a 0) row + 1]) := by
  have hget : ∀ (a : Nat), a < D.length → (D ++ [mx (fun a => D.getD a 0) row + 1]).getD a 0 = D.getD a 0 := by
    intro a ha
    obtain ⟨x, hx⟩ := of_lt ha
    rw [getD_of hx, getD_of (show (D ++ _)[a]? = some x by rw [List.getElem?_append_left ha]; exact hx)]
  refine ⟨by have := lt_of hr; simp; omega, fun n row' d hr' hd => ?_⟩
  by_cases hn : n < D.length
  · rw [List.getElem?_append_left hn] at hd
    rw [h.at_ n row' d hr' hd]
    congr 1
    exact mx_congr fun a ha => (hget a (by have := hA n row' hr' a ha; omega)).symm
  · have hl := lt_of hd
    have hn' : n = D.length := by simp at hl; omega
    subst hn'
    rw [hr] at hr'; injection hr' with hr'; subst hr'
    simp at hd; subst hd
    congr 1
    exact mx_congr fun a ha => (hget a (hA _ row hr a ha)).symm

theorem depth_ex {G : List (List Nat)} (hA : Ahead G) : ∃ D, D.length = G.length ∧ DepthOf G D := by
  have key : ∀ n, n ≤ G.length → ∃ D, D.length = n ∧ DepthOf G D := by
    intro n
    induction n with
    | zero => intro _; exact ⟨[], rfl, DepthOf.nil⟩
    | succ n ih =>
      intro hn
      obtain ⟨D, h1, h2⟩ := ih (by omega)
      obtain ⟨row, hr⟩ := of_lt (show n < G.length by omega)
      exact ⟨_, by simp; exact h1, h2.snoc hA (by rw [h1]; exact hr)⟩
  exact key _ (Nat.le_refl _)
theorem Nb.frs {w w' : World} {g : Nat} {l : List Nat} {B : Nat → Prop} (h : Nb w g l) (hf : Fr B w w') (hB : ¬ B g) : Nb w' g l := Blk.fr h hf hB

set_option maxHeartbeats 8000000 in
set_option maxRecDepth 100000 in
theorem depths_any (w : World) (Q : Nat → Prop) (A : Option Addr) (c : Nat) (G : List (List Nat)) (n : Nat) (hn : n = G.length) (hG : GrAt w Q A (gi G)) (hF : Few (gi G)) (hA : Ahead G) (hR : rightB (gi G) = true) :
    Calls Try.prog 20 #[.agg #[.slice A n c]] w fun e w' => ∃ g D, e = .returned (.slice (some ⟨g, 0, none⟩) n n) ∧ w.heap.size ≤ g ∧ Nb w' g D ∧ D.length = n ∧ DepthOf G D ∧ Fr F0 w w' := by
  have hn1 : n ≤ 1000 := by have := hF.n; rw [gi_length] at this; omega
  have HM := Lib.hid (right_any (w.alloc (.cells #[.slice A n c] 29)) Q A c (gi G) (hG.f0 ((Fr.refl _ _).alloc _)) hF)
  rw [gi_length, ← hn, hR] at HM
  have HB := Lib.hid (Blk.new w 29 #[.slice A n c])
  have HFA : Hid (Fr F0 w (w.alloc (.cells #[.slice A n c] 29))) := (Fr.refl F0 w).alloc _
  have HG := Lib.hid hG
  have HFW := Lib.hid hF
  have HA := Lib.hid hA
  have HN := Lib.hid hn
  have hmk := @make_ints n (by omega)
  clear hG hF hA hn hR
  go_enter Try.func20, Try.ntmps20
  go_wp2_with fail
  refine HM.out.mono ?_
  rintro e w1 ⟨rfl, hF1⟩
  have HB1 := Lib.hid (HB.out.fr hF1 (fun h => h))
  have HF1 := Lib.hid (HFA.out.trans hF1)
  have hc1 : w1.cell? ⟨w.heap.size, 0, none⟩ = some (.slice A n c) := by rw [HB1.out.cell]; rfl
  have HB2 : Hid (Blk (w1.alloc (.cells (ic (ni (List.replicate n 0))).toArray 3)) w.heap.size 29 #[.slice A n c]) := HB1.out.alloc _
  have hc2 : (w1.alloc (.cells (ic (ni (List.replicate n 0))).toArray 3)).cell? ⟨w.heap.size, 0, none⟩ = some (.slice A n c) := by rw [HB2.out.cell]; rfl
  have HN1 : Hid (Nb (w1.alloc (.cells (ic (ni (List.replicate n 0))).toArray 3)) w1.heap.size (pad n [])) := Lib.hid (by
    have : pad n [] = List.replicate n 0 := by simp [pad]
    rw [this]
    exact Blk.new _ _ _)
  have HF2 : Hid (Fr F0 w (w1.alloc (.cells (ic (ni (List.replicate n 0))).toArray 3))) := HF1.out.alloc _
  have hgl : w.heap.size ≤ w1.heap.size := HF1.out.size
  have HGL := Lib.hid hgl
  clear hF1 HB hgl
  go_wp2_with fail
  clear hmk hc1 hc2 HB1 HB2 HF1 HM HFA
  generalize w1.heap.size = g at HN1 HGL ⊢
  generalize (w1.alloc (.cells (ic (ni (List.replicate n 0))).toArray 3)) = w2 at HN1 HF2 ⊢
  go_loopw [18] (fun i wx => ∃ (D : List Nat) (s : Nat), s = D.length ∧ s ≤ n ∧ i = .int .i64 (s : Int) ∧ Hid (Nb wx g (pad n D)) ∧ Hid (DepthOf G D ∧ ∀ d ∈ D, d ≤ s) ∧ Hid (Fr F0 w wx)) (fun i _ => n - (intOf i).toNat)
  case atStart => exact ⟨[], 0, rfl, by omega, rfl, HN1, Lib.hid ⟨DepthOf.nil, by simp⟩, HF2⟩
  case round =>
    obtain ⟨D, s, hs, hsn, rfl, HNB, HD, HF3⟩ := hrel
    have HS := Lib.hid hs
    clear hs
    by_cases hk : s < n
    · have g1 : (s : Int) < (n : Int) := by omega
      obtain ⟨row, hrow⟩ := of_lt (show s < G.length by have := HN.out; omega)
      obtain ⟨b, off, A', c', hAe, _, hcell, hrd⟩ := (HG.out.f0 HF3.out) s _ (gi_at hrow)
      subst hAe
      have HROW := Lib.hid hrow
      have HAR := Lib.hid (HA.out s row hrow)
      obtain ⟨m, hm⟩ : ∃ m, m = (ni row).length := ⟨_, rfl⟩
      rw [← hm] at hcell hrd
      have HM := Lib.hid (show m = row.length by rw [hm, ni_length])
      have hm1 : m ≤ 1000 := by have := HFW.out.r _ (List.mem_of_getElem? (gi_at hrow)); omega
      have HRD := Lib.hid (show Rd w (Q) 1 A' m (ic (ni row)) by
        obtain ⟨b2, off2, A2, c2, hAe2, _, hcell2, hrd2⟩ := HG.out s _ (gi_at hrow)
        injection hAe2 with hAe2
        injection hAe2 with e1 e2
        subst e1; subst e2
        have h5 := HF3.out.held hcell2 (fun h => h)
        rw [hcell] at h5
        injection h5 with h5
        injection h5 with h6
        subst h6
        rw [hm]
        exact hrd2)
      clear hrd hm hrow
      go_wp2_with fail
      go_loopw [25] (fun i wx => ∃ (j m0 : Nat), j ≤ m ∧ i = .int .i64 (j : Int) ∧ Hid (m0 = mx (fun a => D.getD a 0) (row.take j)) ∧ m0 ≤ s ∧ Hid (Nb wx g ((pad n D).set s m0)) ∧ Hid (Fr F0 w wx)) (fun i _ => m - (intOf i).toNat)
      case atStart =>
        refine ⟨0, 0, by omega, rfl, Lib.hid rfl, by omega, Lib.hid ?_, HF3⟩
        have h0 : (pad n D).set s 0 = pad n D := by
          apply List.ext_getElem?
          intro i
          by_cases hi : s = i
          · subst hi
            rw [List.getElem?_set_self (by rw [pad_length (by have := HS.out; omega)]; exact hk)]
            rw [HS.out]
            exact (pad_zero (by have := HS.out; omega)).symm
          · rw [List.getElem?_set_ne hi]
        rw [h0]
        exact HNB.out
      case round =>
        obtain ⟨j, m0, hj, rfl, HM0, hm0, HNB2, HF4⟩ := hrel
        by_cases hjm : j < m
        · have g2 : (j : Int) < (m : Int) := by omega
          obtain ⟨a, ha⟩ := of_lt (show j < row.length by have := HM.out; omega)
          have has : a < s := HAR.out a (List.mem_of_getElem? ha)
          have hrd2 := HRD.out
          rw [HM.out, ← ni_length] at hrd2
          obtain ⟨b2, off2, hAe2, _, hcell2⟩ := Rd.int_at hrd2 (ni_at ha)
          subst hAe2
          have c1 := HF4.out.held hcell2 (fun h => h)
          obtain ⟨u, hu⟩ := of_lt (show a < D.length by have := HS.out; omega)
          have hus : u ≤ s := HD.out.2 u (List.mem_of_getElem? hu)
          have hpl : (pad n D).length = n := pad_length (by have := HS.out; omega)
          have c2 := Nb.at_ HNB2.out (i := s) (a := m0) (by rw [List.getElem?_set_self (by omega)])
          have c3 := Nb.at_ HNB2.out (i := a) (a := u) (by rw [List.getElem?_set_ne (by omega)]; exact pad_at hu)
          have f1 := Blk.frozen HNB2.out s
          have HMX : Hid (max m0 u = mx (fun a => D.getD a 0) (row.take (j + 1))) := Lib.hid (by rw [take_snoc ha, mx_snoc, getD_of hu, ← HM0.out])
          have g3 : (a : Int) < (n : Int) := by omega
          obtain ⟨mm, hmm⟩ : ∃ mm, mm = max m0 u := ⟨_, rfl⟩
          have HNB3 : Hid (Nb (wr.drew.setCell ⟨g, s, none⟩ (.int .i64 (mm : Int))) g ((pad n D).set s mm)) := Lib.hid (by
            have := Nb.set (Blk.drew HNB2.out) s mm
            rwa [List.set_set] at this)
          have HF5 : Hid (Fr F0 w (wr.drew.setCell ⟨g, s, none⟩ (.int .i64 (mm : Int)))) := Lib.hid ((HF4.out.drew).setCell (.inr HGL.out) _)
          have hmms : mm ≤ s := by omega
          rw [← hmm] at HMX
          clear ha hu hcell2 hrd2 hpl
          by_cases hlt : m0 < u
          · have e1 : (m0 : Int) < (u : Int) := by omega
            have e2 : mm = u := by omega
            clear hmm
            subst e2
            go_wp2_with fail
            refine region_K 11 (fun w' : World => w'.cell? ⟨g, s, none⟩ = some (.int .i64 (m0 : Int)) ∧ w'.cell? ⟨g, a, none⟩ = some (.int .i64 (mm : Int))) (by kernel_rfl) ?_
            have HS0 : (fun w' : World => w'.cell? ⟨g, s, none⟩ = some (.int .i64 (m0 : Int)) ∧ w'.cell? ⟨g, a, none⟩ = some (.int .i64 (mm : Int))) wr.drew := ⟨c2, c3⟩
            refine AnyK.take (i := 0) rfl (by decide) (by kernel_rfl) (by kernel_rfl) (by kernel_rfl) (fun _ _ _ _ h => h) HS0 (fun K hK => ?_)
            go_simp
            refine hK.out _ ⟨_, by rfl, Or.inl ⟨by rfl, by intro w hSw; (try dsimp only at hSw); go_simp⟩, ?_⟩
            clear hK K
            refine AnyK.take (i := 1) rfl (by decide) (by kernel_rfl) (by kernel_rfl) (by kernel_rfl) (fun _ _ _ _ h => h) HS0 (fun K hK => ?_)
            go_simp
            refine hK.out _ ⟨_, by rfl, Or.inl ⟨by rfl, by intro w hSw; (try dsimp only at hSw); go_simp⟩, ?_⟩
            clear hK K
            refine AnyK.take (i := 2) rfl (by decide) (by kernel_rfl) (by kernel_rfl) (by kernel_rfl) (fun _ _ _ _ h => h) HS0 (fun K hK => ?_)
            go_simp
            refine hK.out _ ⟨_, by rfl, Or.inl ⟨by rfl, by intro w hSw; (try dsimp only at hSw); go_simp⟩, ?_⟩
            clear hK K
            refine AnyK.take (i := 3) rfl (by decide) (by kernel_rfl) (by kernel_rfl) (by kernel_rfl) (fun _ _ _ _ h => h) HS0 (fun K hK => ?_)
            go_simp
            refine hK.out _ ⟨_, by rfl, Or.inl ⟨by rfl, by intro w hSw; (try dsimp only at hSw); go_simp⟩, ?_⟩
            clear hK K
            refine AnyK.take (i := 4) rfl (by decide) (by kernel_rfl) (by kernel_rfl) (by kernel_rfl) (fun _ _ _ _ h => h) HS0 (fun K hK => ?_)
            go_simp
            refine hK.out _ ⟨_, by rfl, Or.inl ⟨by rfl, by intro w hSw; (try dsimp only at hSw); go_simp⟩, ?_⟩
            clear hK K
            refine AnyK.take (i := 5) rfl (by decide) (by kernel_rfl) (by kernel_rfl) (by kernel_rfl) (fun _ _ _ _ h => h) HS0 (fun K hK => ?_)
            go_simp
            refine hK.out _ ⟨_, by rfl, Or.inl ⟨by rfl, by intro w hSw; (try dsimp only at hSw); go_simp⟩, ?_⟩
            clear hK K
            refine AnyK.take (i := 6) rfl (by decide) (by kernel_rfl) (by kernel_rfl) (by kernel_rfl) (fun _ _ _ _ h => h) HS0 (fun K hK => ?_)
            go_simp
            refine hK.out _ ⟨_, by rfl, Or.inl ⟨by rfl, by intro w hSw; (try dsimp only at hSw); go_simp⟩, ?_⟩
            clear hK K
            refine AnyK.take (i := 7) rfl (by decide) (by kernel_rfl) (by kernel_rfl) (by kernel_rfl) (fun _ _ _ _ h => h) HS0 (fun K hK => ?_)
            go_simp
            refine hK.out _ ⟨_, by rfl, Or.inl ⟨by rfl, by intro w hSw; (try dsimp only at hSw); go_simp⟩, ?_⟩
            clear hK K
            refine AnyK.take (i := 8) rfl (by decide) (by kernel_rfl) (by kernel_rfl) (by kernel_rfl) (fun _ _ _ _ h => h) HS0 (fun K hK => ?_)
            go_simp
            refine hK.out _ ⟨_, by rfl, Or.inl ⟨by rfl, by intro w hSw; (try dsimp only at hSw); go_simp⟩, ?_⟩
            clear hK K
            refine AnyK.take (i := 9) rfl (by decide) (by kernel_rfl) (by kernel_rfl) (by kernel_rfl) (fun _ _ _ _ h => h) HS0 (fun K hK => ?_)
            go_simp
            refine hK.out _ ⟨_, by rfl, Or.inl ⟨by rfl, by intro w hSw; (try dsimp only at hSw); go_simp⟩, ?_⟩
            clear hK K
            refine AnyK.take (i := 10) rfl (by decide) (by kernel_rfl) (by kernel_rfl) (by kernel_rfl) (fun _ _ _ _ h => h) HS0 (fun K hK => ?_)
            go_simp
            refine hK.out _ ⟨_, by rfl, Or.inl ⟨by rfl, by intro w hSw; (try dsimp only at hSw); go_simp⟩, ?_⟩
            clear hK K
            refine AnyK.one (i := 11) rfl (by kernel_rfl) (fun K hK => ?_)
            go_simp
            refine hK.out _ _ (fun _ => HS0) ?_
            clear hK K
            refine AnyK.one (i := 12) rfl (by kernel_rfl) (fun K hK => ?_)
            go_simp
            refine hK.out _ _ (fun h => absurd (h.symm.trans (by kernel_rfl : _ = true)) (by decide)) ?_
            clear hK K
            refine AnyK.done (by kernel_rfl) ?_ _
            go_wp2_with fail
            refine ⟨⟨j + 1, _, by omega, by go_num, HMX, hmms, HNB3, HF5⟩, by simp [intOf]; omega⟩
          · have e1 : ¬ (m0 : Int) < (u : Int) := by omega
            have e2 : mm = m0 := by omega
            clear hmm
            subst e2
            go_wp2_with fail
            refine region_K 11 (fun w' : World => w'.cell? ⟨g, s, none⟩ = some (.int .i64 (mm : Int)) ∧ w'.cell? ⟨g, a, none⟩ = some (.int .i64 (u : Int))) (by kernel_rfl) ?_
            have HS0 : (fun w' : World => w'.cell? ⟨g, s, none⟩ = some (.int .i64 (mm : Int)) ∧ w'.cell? ⟨g, a, none⟩ = some (.int .i64 (u : Int))) wr.drew := ⟨c2, c3⟩
            refine AnyK.take (i := 0) rfl (by decide) (by kernel_rfl) (by kernel_rfl) (by kernel_rfl) (fun _ _ _ _ h => h) HS0 (fun K hK => ?_)
            go_simp
            refine hK.out _ ⟨_, by rfl, Or.inl ⟨by rfl, by intro w hSw; (try dsimp only at hSw); go_simp⟩, ?_⟩
            clear hK K
            refine AnyK.take (i := 1) rfl (by decide) (by kernel_rfl) (by kernel_rfl) (by kernel_rfl) (fun _ _ _ _ h => h) HS0 (fun K hK => ?_)
            go_simp
            refine hK.out _ ⟨_, by rfl, Or.inl ⟨by rfl, by intro w hSw; (try dsimp only at hSw); go_simp⟩, ?_⟩
            clear hK K
            refine AnyK.take (i := 2) rfl (by decide) (by kernel_rfl) (by kernel_rfl) (by kernel_rfl) (fun _ _ _ _ h => h) HS0 (fun K hK => ?_)
            go_simp
            refine hK.out _ ⟨_, by rfl, Or.inl ⟨by rfl, by intro w hSw; (try dsimp only at hSw); go_simp⟩, ?_⟩
            clear hK K
            refine AnyK.take (i := 3) rfl (by decide) (by kernel_rfl) (by kernel_rfl) (by kernel_rfl) (fun _ _ _ _ h => h) HS0 (fun K hK => ?_)
            go_simp
            refine hK.out _ ⟨_, by rfl, Or.inl ⟨by rfl, by intro w hSw; (try dsimp only at hSw); go_simp⟩, ?_⟩
            clear hK K
            refine AnyK.take (i := 4) rfl (by decide) (by kernel_rfl) (by kernel_rfl) (by kernel_rfl) (fun _ _ _ _ h => h) HS0 (fun K hK => ?_)
            go_simp
            refine hK.out _ ⟨_, by rfl, Or.inl ⟨by rfl, by intro w hSw; (try dsimp only at hSw); go_simp⟩, ?_⟩
            clear hK K
            refine AnyK.take (i := 5) rfl (by decide) (by kernel_rfl) (by kernel_rfl) (by kernel_rfl) (fun _ _ _ _ h => h) HS0 (fun K hK => ?_)
            go_simp
            refine hK.out _ ⟨_, by rfl, Or.inl ⟨by rfl, by intro w hSw; (try dsimp only at hSw); go_simp⟩, ?_⟩
            clear hK K
            refine AnyK.take (i := 6) rfl (by decide) (by kernel_rfl) (by kernel_rfl) (by kernel_rfl) (fun _ _ _ _ h => h) HS0 (fun K hK => ?_)
            go_simp
            refine hK.out _ ⟨_, by rfl, Or.inl ⟨by rfl, by intro w hSw; (try dsimp only at hSw); go_simp⟩, ?_⟩
            clear hK K
            refine AnyK.take (i := 7) rfl (by decide) (by kernel_rfl) (by kernel_rfl) (by kernel_rfl) (fun _ _ _ _ h => h) HS0 (fun K hK => ?_)
            go_simp
            refine hK.out _ ⟨_, by rfl, Or.inl ⟨by rfl, by intro w hSw; (try dsimp only at hSw); go_simp⟩, ?_⟩
            clear hK K
            refine AnyK.take (i := 8) rfl (by decide) (by kernel_rfl) (by kernel_rfl) (by kernel_rfl) (fun _ _ _ _ h => h) HS0 (fun K hK => ?_)
            go_simp
            refine hK.out _ ⟨_, by rfl, Or.inl ⟨by rfl, by intro w hSw; (try dsimp only at hSw); go_simp⟩, ?_⟩
            clear hK K
            refine AnyK.take (i := 9) rfl (by decide) (by kernel_rfl) (by kernel_rfl) (by kernel_rfl) (fun _ _ _ _ h => h) HS0 (fun K hK => ?_)
            go_simp
            refine hK.out _ ⟨_, by rfl, Or.inl ⟨by rfl, by intro w hSw; (try dsimp only at hSw); go_simp⟩, ?_⟩
            clear hK K
            refine AnyK.take (i := 10) rfl (by decide) (by kernel_rfl) (by kernel_rfl) (by kernel_rfl) (fun _ _ _ _ h => h) HS0 (fun K hK => ?_)
            go_simp
            refine hK.out _ ⟨_, by rfl, Or.inl ⟨by rfl, by intro w hSw; (try dsimp only at hSw); go_simp⟩, ?_⟩
            clear hK K
            refine AnyK.one (i := 11) rfl (by kernel_rfl) (fun K hK => ?_)
            go_simp
            refine hK.out _ _ (fun _ => HS0) ?_
            clear hK K
            refine AnyK.one (i := 12) rfl (by kernel_rfl) (fun K hK => ?_)
            go_simp
            refine hK.out _ _ (fun h => absurd (h.symm.trans (by kernel_rfl : _ = true)) (by decide)) ?_
            clear hK K
            refine AnyK.done (by kernel_rfl) ?_ _
            go_wp2_with fail
            refine ⟨⟨j + 1, _, by omega, by go_num, HMX, hmms, HNB3, HF5⟩, by simp [intOf]; omega⟩
        · have HMF : Hid (m0 = mx (fun a => D.getD a 0) row) := Lib.hid (by rw [HM0.out, show j = row.length by have := HM.out; omega, List.take_length])
          have hpl : (pad n D).length = n := pad_length (by have := HS.out; omega)
          have c2 := Nb.at_ HNB2.out (i := s) (a := m0) (by rw [List.getElem?_set_self (by omega)])
          have f1 := Blk.frozen HNB2.out s
          have HNB3 : Hid (Nb (wr.setCell ⟨g, s, none⟩ (.int .i64 ((m0 : Int) + 1))) g (pad n (D ++ [m0 + 1]))) := Lib.hid (by
            have := Nb.set HNB2.out s (m0 + 1)
            rw [List.set_set, HS.out, pad_set (by have := HS.out; omega)] at this
            rw [show ((m0 + 1 : Nat) : Int) = (m0 : Int) + 1 by omega] at this
            rw [HS.out]
            exact this)
          have HF5 : Hid (Fr F0 w (wr.setCell ⟨g, s, none⟩ (.int .i64 ((m0 : Int) + 1)))) := Lib.hid (HF4.out.setCell (.inr HGL.out) _)
          have HD2 : Hid (DepthOf G (D ++ [m0 + 1]) ∧ ∀ d ∈ D ++ [m0 + 1], d ≤ s + 1) := Lib.hid (by
            refine ⟨by rw [HMF.out]; exact HD.out.1.snoc HA.out (by rw [← HS.out]; exact HROW.out), fun d hd => ?_⟩
            rcases List.mem_append.1 hd with hd | hd
            · have := HD.out.2 d hd; omega
            · rw [List.mem_singleton] at hd; omega)
          clear hpl
          go_wp2_with fail
          refine ⟨⟨D ++ [m0 + 1], s + 1, by simp; exact HS.out, by omega, by go_num, HNB3, HD2, HF5⟩, by simp [intOf]; omega⟩
    · have hsn2 : s = n := by omega
      have HSN := Lib.hid hsn2
      clear hsn2
      go_wp2_with fail
      go_ret
      have hl : D.length = n := by rw [← HS.out]; exact HSN.out
      refine ⟨g, D, rfl, HGL.out, ?_, hl, HD.out.1, HF3.out⟩
      have := HNB.out
      rwa [pad_full hl] at this

set_option maxHeartbeats 4000000 in
theorem depths_no (w : World) (Q : Nat → Prop) (A : Option Addr) (c : Nat) (g : List (List Int)) (n : Nat) (hn : n = g.length) (hG : GrAt w Q A g) (hF : Few g) (hR : rightB g = false) :
    Calls Try.prog 20 #[.agg #[.slice A n c]] w fun e w' => e = .returned (.slice none 0 0) ∧ Fr F0 w w' := by
  have HM := Lib.hid (right_any (w.alloc (.cells #[.slice A n c] 29)) Q A c g (hG.f0 ((Fr.refl _ _).alloc _)) hF)
  rw [← hn, hR] at HM
  have HFA : Hid (Fr F0 w (w.alloc (.cells #[.slice A n c] 29))) := (Fr.refl F0 w).alloc _
  clear hG hF hn hR
  go_enter Try.func20, Try.ntmps20
  go_wp2_with fail
  refine HM.out.mono ?_
  rintro e w1 ⟨rfl, hF1⟩
  have HF1 := Lib.hid (HFA.out.trans hF1)
  clear hF1
  go_wp2_with fail
  go_ret
  exact ⟨rfl, HF1.out⟩

set_option maxHeartbeats 4000000 in
theorem max_any (w : World) (g n : Nat) (D : List Nat) (hD : Nb w g D) (hn : n = D.length) (h0 : 0 < n) (hn1 : n ≤ 1000) (hb : ∀ d ∈ D, d ≤ 1000) :
    Calls Try.prog 29 #[.slice (some ⟨g, 0, none⟩) n n] w fun e w' => e = .returned (.int .i64 ((spn D : Nat) : Int)) ∧ w' = w := by
  have HD := Lib.hid hD
  have HN := Lib.hid hn
  have HB := Lib.hid hb
  obtain ⟨x, hx⟩ := of_lt (show 0 < D.length by omega)
  have hc0 := Nb.at_ hD hx
  have hx1 : x ≤ 1000 := hb x (List.mem_of_getElem? hx)
  have HX : Hid (x = mx (fun d => d) (D.take 1)) := Lib.hid (by rw [take_snoc hx]; simp [mx])
  have g0 : ¬ (n : Int) < 1 := by omega
  have g1 : (0 : Int) < (n : Int) := by omega
  have g2 : ¬ n = 0 := by omega
  clear hD hn hb hx
  go_enter Try.func29, Try.ntmps29
  go_wp2_with fail
  go_loopw [3, 4] (fun b i wx => ∃ (j m : Nat), 1 ≤ j ∧ j ≤ n ∧ i = .int .i64 (j : Int) ∧ b = .int .i64 (m : Int) ∧ m ≤ 1000 ∧ Hid (m = mx (fun d => d) (D.take j)) ∧ wx = w) (fun _ i _ => n - (intOf i).toNat)
  case atStart => exact ⟨1, x, by omega, by omega, rfl, rfl, hx1, HX, rfl⟩
  case round =>
    obtain ⟨j, m, hj0, hj, rfl, rfl, hm, HM, rfl⟩ := hrel
    by_cases hjn : j < n
    · have e1 : (j : Int) < (n : Int) := by omega
      obtain ⟨u, hu⟩ := of_lt (show j < D.length by have := HN.out; omega)
      have hc := Nb.at_ HD.out hu
      have hu1 := HB.out u (List.mem_of_getElem? hu)
      have HM2 : Hid (max m u = mx (fun d => d) (D.take (j + 1))) := Lib.hid (by rw [take_snoc hu, mx_snoc, ← HM.out])
      clear hu
      go_wp2_with fail
      refine ⟨⟨j + 1, max m u, by omega, by omega, by go_num, ?_, by omega, HM2, trivial⟩, by simp [intOf]; omega⟩
      congr 1
      split <;> omega
    · have HJ : Hid (m = spn D) := Lib.hid (by
        have h1 := HM.out
        rw [show j = D.length by have := HN.out; omega, List.take_length] at h1
        exact h1)
      go_wp2_with fail
      go_ret
      exact ⟨by rw [HJ.out]; rfl, rfl⟩

set_option maxHeartbeats 4000000 in
theorem span_any (w : World) (Q : Nat → Prop) (A : Option Addr) (c : Nat) (G : List (List Nat)) (n : Nat) (hn : n = G.length) (hG : GrAt w Q A (gi G)) (hF : Few (gi G)) (hA : Ahead G) (hR : rightB (gi G) = true) (D : List Nat) (hDl : D.length = n) (hDO : DepthOf G D) :
    Calls Try.prog 19 #[.agg #[.slice A n c]] w fun e w' => e = .returned (.int .i64 ((spn D : Nat) : Int)) ∧ Fr F0 w w' := by
  have hn1 : n ≤ 1000 := by have := hF.n; rw [gi_length] at this; omega
  have HDEP := Lib.hid (depths_any (w.alloc (.cells #[.slice A n c] 29)) Q A c G n hn (hG.f0 ((Fr.refl _ _).alloc _)) hF hA hR)
  have HFA : Hid (Fr F0 w (w.alloc (.cells #[.slice A n c] 29))) := (Fr.refl F0 w).alloc _
  have HA := Lib.hid hA
  have HN := Lib.hid hn
  have HDL := Lib.hid hDl
  have HDO := Lib.hid hDO
  clear hG hF hA hn hR hDl hDO
  go_enter Try.func19, Try.ntmps19
  go_wp2_with fail
  refine HDEP.out.mono ?_
  rintro e w1 ⟨g, D', rfl, hgl, hNB, hl, hDO2, hF1⟩
  have hDD : D' = D := hDO2.one HDO.out HA.out (by rw [hl]; exact HN.out) (by rw [HDL.out]; exact HN.out)
  subst hDD
  have HF1 := Lib.hid (HFA.out.trans hF1)
  by_cases h0 : n = 0
  · subst h0
    have h1 : spn D' = 0 := by rw [List.eq_nil_of_length_eq_zero hl]; rfl
    have H1 := Lib.hid h1
    clear hNB hDO2 hF1 hgl hl h1
    go_wp2_with fail
    go_ret
    exact ⟨by rw [H1.out]; rfl, HF1.out⟩
  · have HMX := Lib.hid (max_any w1 g n D' hNB hl.symm (by omega) hn1 (fun d hd => by
      obtain ⟨i, hi⟩ := List.getElem?_of_mem hd
      have := hDO2.small HA.out i d hi
      have := lt_of hi
      omega))
    have g0 : ¬ (n : Int) = 0 := by omega
    clear hNB hDO2 hF1 hgl hl
    go_wp2_with fail
    refine HMX.out.mono ?_
    rintro e w2 ⟨rfl, rfl⟩
    go_wp2_with fail
    go_ret
    exact ⟨rfl, HF1.out⟩

set_option maxHeartbeats 4000000 in
theorem work_any (w : World) (Q : Nat → Prop) (A : Option Addr) (c : Nat) (g : List (List Int)) (n : Nat) (hn : n = g.length) (hG : GrAt w Q A g) (hF : Few g) (hR : rightB g = true) :
    Calls Try.prog 18 #[.agg #[.slice A n c]] w fun e w' => e = .returned (.int .i64 (n : Int)) ∧ Fr F0 w w' := by
  have HM := Lib.hid (right_any (w.alloc (.cells #[.slice A n c] 29)) Q A c g (hG.f0 ((Fr.refl _ _).alloc _)) hF)
  rw [← hn, hR] at HM
  have HB := Lib.hid (Blk.new w 29 #[.slice A n c])
  have HFA : Hid (Fr F0 w (w.alloc (.cells #[.slice A n c] 29))) := (Fr.refl F0 w).alloc _
  clear hG hF hn hR
  go_enter Try.func18, Try.ntmps18
  go_wp2_with fail
  refine HM.out.mono ?_
  rintro e w1 ⟨rfl, hF1⟩
  have HB1 := Lib.hid (HB.out.fr hF1 (fun h => h))
  have hc1 : w1.cell? ⟨w.heap.size, 0, none⟩ = some (.slice A n c) := by rw [HB1.out.cell]; rfl
  have HF1 := Lib.hid (HFA.out.trans hF1)
  clear hF1
  go_wp2_with fail
  go_ret
  exact ⟨rfl, HF1.out⟩
end Go.Proofs.Ytdknhiohkicogaa
