/-
  greedy.Plan. No condition.
-/
import Derived.Test.YtdknhiohkicogaaY3
import Derived.WalkMore
import Derived.Deep.LoopGhost
namespace Go.Proofs.Ytdknhiohkicogaa
open Go.RowKit

/-- Where the search for a moment goes on from each. -/
structure NX (k : Nat) (W : List Nat) (n : Nat) (nx : List Nat) : Prop where
  len : nx.length = n + 1
  at_ : ∀ m t : Nat, nx[m]? = some t → m ≤ t ∧ t ≤ n ∧ (∀ m', m ≤ m' → m' < t → k ≤ W.count m') ∧ (k ≤ W.count m → m < t)

section
variable {k : Nat} {W : List Nat} {n : Nat} {nx : List Nat}
theorem NX.start (hk : 1 ≤ k) (n : Nat) : NX k [] n (List.range (n + 1)) := by
  refine ⟨by simp, fun m t ht => ?_⟩
  have hl := lt_of ht
  rw [List.length_range] at hl
  rw [range_at hl] at ht; injection ht with ht; subst ht
  exact ⟨Nat.le_refl _, by omega, fun m' a b => by omega, fun h => by simp at h; omega⟩
theorem set_some {l : List Nat} {i j a x : Nat} (h : (l.set i a)[j]? = some x) : (j = i ∧ x = a) ∨ (j ≠ i ∧ l[j]? = some x) := by
  by_cases hij : i = j
  · subst hij
    have hl := lt_of h
    rw [List.length_set] at hl
    rw [List.getElem?_set_self hl] at h
    injection h with h
    exact .inl ⟨rfl, h.symm⟩
  · rw [List.getElem?_set_ne hij] at h
    exact .inr ⟨Ne.symm hij, h⟩
theorem NX.hop (h : NX k W n nx) {m t u : Nat} (hm : nx[m]? = some t) (ht : nx[t]? = some u) : NX k W n (nx.set m u) := by
  refine ⟨by rw [List.length_set]; exact h.len, fun j x hx => ?_⟩
  rcases set_some hx with ⟨rfl, rfl⟩ | ⟨_, hx⟩
  · obtain ⟨a1, a2, a3, a4⟩ := h.at_ j t hm
    obtain ⟨b1, b2, b3, b4⟩ := h.at_ t x ht
    refine ⟨by omega, b2, fun m' c d => ?_, fun c => by have := a4 c; omega⟩
    rcases Nat.lt_or_ge m' t with hl | hl
    · exact a3 m' c hl
    · exact b3 m' hl d
  · exact h.at_ j x hx
theorem NX.more (h : NX k W n nx) (m : Nat) (hr : W.count m + 1 < k) : NX k (W ++ [m]) n nx := by
  refine ⟨h.len, fun j x hx => ?_⟩
  obtain ⟨a1, a2, a3, a4⟩ := h.at_ j x hx
  refine ⟨a1, a2, fun m' c d => ?_, fun c => ?_⟩
  · rw [List.count_append]; have := a3 m' c d; omega
  · rw [List.count_append] at c
    by_cases hjm : j = m
    · subst hjm; simp at c; omega
    · have : List.count j [m] = 0 := by simp [Ne.symm hjm]
      exact a4 (by omega)
theorem NX.full (h : NX k W n nx) (m : Nat) (hr : W.count m + 1 = k) (hmn : m + 1 ≤ n) : nx[m]? = some m ∧ NX k (W ++ [m]) n (nx.set m (m + 1)) := by
  obtain ⟨t, ht⟩ := of_lt (show m < nx.length by have := h.len; omega)
  obtain ⟨a1, a2, a3, a4⟩ := h.at_ m t ht
  have htm : t = m := by
    rcases Nat.lt_or_ge m t with hl | hl
    · have := a3 m (Nat.le_refl _) hl; omega
    · omega
  subst htm
  refine ⟨ht, by rw [List.length_set]; exact h.len, fun j x hx => ?_⟩
  rcases set_some hx with ⟨rfl, rfl⟩ | ⟨hne, hx⟩
  · refine ⟨by omega, hmn, fun m' c d => ?_, fun _ => by omega⟩
    obtain rfl : m' = j := by omega
    rw [List.count_append]; simp; omega
  · obtain ⟨b1, b2, b3, b4⟩ := h.at_ j x hx
    refine ⟨b1, b2, fun m' c d => ?_, fun c => ?_⟩
    · rw [List.count_append]; have := b3 m' c d; omega
    · rw [List.count_append] at c
      have : List.count j [t] = 0 := by simp [Ne.symm hne]
      exact b4 (by omega)
end

def pad (n : Nat) (W : List Nat) : List Nat := W ++ List.replicate (n - W.length) 0
theorem pad_set {n : Nat} {W : List Nat} (h : W.length < n) (m : Nat) : (pad n W).set W.length m = pad n (W ++ [m]) := by
  unfold pad
  rw [List.set_append_right _ _ (Nat.le_refl _), Nat.sub_self, show n - W.length = (n - (W ++ [m]).length) + 1 by simp; omega, List.replicate_succ, List.set_cons_zero, List.append_assoc]
  rfl
theorem pad_at {n i a : Nat} {W : List Nat} (h : W[i]? = some a) : (pad n W)[i]? = some a := by
  unfold pad
  rw [List.getElem?_append_left (lt_of h)]; exact h
theorem pad_zero {n : Nat} {W : List Nat} (h : W.length < n) : (pad n W)[W.length]? = some 0 := by
  unfold pad
  rw [List.getElem?_append_right (Nat.le_refl _), Nat.sub_self, List.getElem?_replicate, if_pos (by omega)]
theorem pad_full {n : Nat} {W : List Nat} (h : W.length = n) : pad n W = W := by simp [pad, h]
theorem pad_length {n : Nat} {W : List Nat} (h : W.length ≤ n) : (pad n W).length = n := by simp [pad]; omega

/-- The plan's memory, W of it done. -/
structure PS (w0 w : World) (k n : Nat) (A : Option Addr) (c x y g b h : Nat) (G : List (List Nat)) (W nx : List Nat) : Prop where
  hx : Blk w x 29 #[.slice A n c]
  hy : Blk w y 24 #[.slice (some ⟨g, 0, none⟩) n n]
  hg : Nb w g (pad n W)
  hm : MapN w b (fun m => W.count m)
  hh : Nb w h nx
  hp : PlanOf k G W
  hne : g ≠ h
  hF : Fr F0 w0 w
  hgl : w0.heap.size ≤ g
  hbl : w0.heap.size ≤ b
  hhl : w0.heap.size ≤ h

section
variable {w0 w : World} {k n : Nat} {A : Option Addr} {c x y g b h : Nat} {G : List (List Nat)} {W nx : List Nat}
theorem ne_gi : 29 ≠ 3 := by decide
theorem ne_si : 24 ≠ 3 := by decide
theorem PS.f0 {w' : World} (p : PS w0 w k n A c x y g b h G W nx) (hf : Fr F0 w w') : PS w0 w' k n A c x y g b h G W nx :=
  ⟨p.hx.fr hf (fun h => h), p.hy.fr hf (fun h => h), Blk.fr p.hg hf (fun h => h), p.hm.fr hf (fun h => h), Blk.fr p.hh hf (fun h => h), p.hp, p.hne, p.hF.trans hf, p.hgl, p.hbl, p.hhl⟩
theorem PS.seth (p : PS w0 w k n A c x y g b h G W nx) (m u : Nat) : PS w0 (w.setCell ⟨h, m, none⟩ (.int .i64 (u : Int))) k n A c x y g b h G W (nx.set m u) :=
  ⟨p.hx.far (Blk.ne_ p.hx p.hh ne_gi) _, p.hy.far (Blk.ne_ p.hy p.hh ne_si) _, Blk.far p.hg p.hne _, p.hm.fr ((Fr.refl (fun q => q = h) w).setCell (p := ⟨h, m, none⟩) (.inl rfl) _) (fun e => p.hm.ne p.hh e.symm), Nb.set p.hh m u, p.hp, p.hne, p.hF.setCell (.inr p.hhl) _, p.hgl, p.hbl, p.hhl⟩
theorem PS.put (p : PS w0 w k n A c x y g b h G W nx) (m : Nat) (hs : W.length < n) {row : List Nat} (hr : G[W.length]? = some row) (st : GStep k W row m) {w2 : World}
    (hm : MapN w2 b (fun q => if q = m then W.count m + 1 else W.count q)) (hF : Fr (fun q => q = b) (w.setCell ⟨g, W.length, none⟩ (.int .i64 (m : Int))) w2) : PS w0 w2 k n A c x y g b h G (W ++ [m]) nx := by
  have hx1 := p.hx.far (p := ⟨g, W.length, none⟩) (Blk.ne_ p.hx p.hg ne_gi) (.int .i64 (m : Int))
  have hy1 := p.hy.far (p := ⟨g, W.length, none⟩) (Blk.ne_ p.hy p.hg ne_si) (.int .i64 (m : Int))
  have hg1 := Nb.set p.hg W.length m
  have hh1 := Blk.far p.hh (p := ⟨g, W.length, none⟩) (Ne.symm p.hne) (.int .i64 (m : Int))
  rw [pad_set hs] at hg1
  refine ⟨hx1.fr hF (fun e => p.hm.ne p.hx e), hy1.fr hF (fun e => p.hm.ne p.hy e), Blk.fr hg1 hF (fun e => p.hm.ne p.hg e), hm.congr fun q => ?_, Blk.fr hh1 hF (fun e => p.hm.ne p.hh e), p.hp.snoc hr st, p.hne, ?_, p.hgl, p.hbl, p.hhl⟩
  · rw [List.count_append]
    by_cases hq : q = m
    · subst hq; simp
    · simp [hq, Ne.symm hq]
  · exact (p.hF.setCell (p := ⟨g, W.length, none⟩) (.inr p.hgl) _).then hF (fun i hi => .inr (by rw [hi]; exact p.hbl))
end

theorem fre_pad {n : Nat} {W row : List Nat} (h : ∀ a ∈ row, a < W.length) : fre (pad n W) row = fre W row :=
  mx_congr fun a ha => by
    obtain ⟨x, hx⟩ := of_lt (h a ha)
    rw [getD_of hx, getD_of (pad_at hx)]

set_option maxHeartbeats 16000000 in
set_option maxRecDepth 100000 in
theorem plan_any (w : World) (Q : Nat → Prop) (A : Option Addr) (c : Nat) (G : List (List Nat)) (k n : Nat) (hn : n = G.length) (hG : GrAt w Q A (gi G)) (hF : Few (gi G)) (hA : Ahead G) (hR : rightB (gi G) = true) (hk1 : 1 ≤ k) (hk2 : k ≤ 64) :
    Calls Try.prog 11 #[.agg #[.slice A n c], .int .i64 (k : Int)] w fun e w' => ∃ g W, e = .returned (.tuple #[.slice (some ⟨g, 0, none⟩) n n, .int .i64 0]) ∧ w.heap.size ≤ g ∧ Nb w' g W ∧ W.length = n ∧ PlanOf k G W ∧ Fr F0 w w' := by
  have hn1 : n ≤ 1000 := by have := hF.n; rw [gi_length] at this; omega
  obtain ⟨x, hx⟩ : ∃ x, x = w.heap.size := ⟨_, rfl⟩
  have HXE := Lib.hid hx
  have HM := Lib.hid (may_any (w.alloc (.cells #[.slice A n c] 29)) Q A c (gi G) (k : Int) (hG.f0 ((Fr.refl _ _).alloc _)) hF)
  rw [gi_length, ← hn, show mayB (k : Int) (gi G) = true by simp [mayB, hR]; omega] at HM
  have HB := Lib.hid (Blk.new w 29 #[.slice A n c])
  have HFA : Hid (Fr F0 w (w.alloc (.cells #[.slice A n c] 29))) := (Fr.refl F0 w).alloc _
  have HG := Lib.hid hG
  have HFW := Lib.hid hF
  have HA := Lib.hid hA
  have HN := Lib.hid hn
  have HK1 := Lib.hid hk1
  have HK2 := Lib.hid hk2
  have hmk := @make_ints n (by omega)
  have hmm := @run_makeMap Try.prog
  clear hG hF hA hn hR hk1 hx
  go_enter Try.func11, Try.ntmps11
  go_wp2_with fail
  go_step3
  go_wp2_with fail
  refine HM.out.mono ?_
  rintro e w1 ⟨rfl, hF1⟩
  have HB1 := Lib.hid (HB.out.fr hF1 (fun h => h))
  have HF1 := Lib.hid (HFA.out.trans hF1)
  have hc1 : w1.cell? ⟨w.heap.size, 0, none⟩ = some (.slice A n c) := by rw [HB1.out.cell]; rfl
  clear hF1 HB
  go_wp2_with fail
  refine (upto_any _ n hn1 (n + 1) rfl).mono ?_
  rintro e w3 ⟨rfl, hH3, hF3⟩
  have HP : Hid (PS w w3 k n A c w.heap.size (w1.heap.size + 1) w1.heap.size (w1.heap.size + 1 + 1) (w1.heap.size + 1 + 1 + 1) G [] (List.range (n + 1))) := by
    have hsz : w.heap.size ≤ w1.heap.size := HF1.out.size
    have b1 : Blk (w1.alloc (.cells (ic (ni (List.replicate n 0))).toArray 3)) w1.heap.size 3 (ic (ni (List.replicate n 0))).toArray := Blk.new _ _ _
    have b2 : Blk ((w1.alloc (.cells (ic (ni (List.replicate n 0))).toArray 3)).alloc (.cells #[.slice (some ⟨w1.heap.size, 0, none⟩) n n] 24)) (w1.heap.size + 1) 24 #[.slice (some ⟨w1.heap.size, 0, none⟩) n n] := by
      have := Blk.new (w1.alloc (.cells (ic (ni (List.replicate n 0))).toArray 3)) 24 #[.slice (some ⟨w1.heap.size, 0, none⟩) n n]
      simpa using this
    have b3 : MapN (((w1.alloc (.cells (ic (ni (List.replicate n 0))).toArray 3)).alloc (.cells #[.slice (some ⟨w1.heap.size, 0, none⟩) n n] 24)).alloc (.map #[] 0)) (w1.heap.size + 1 + 1) (fun _ => 0) := by
      have := MapN.new ((w1.alloc (.cells (ic (ni (List.replicate n 0))).toArray 3)).alloc (.cells #[.slice (some ⟨w1.heap.size, 0, none⟩) n n] 24))
      simpa using this
    refine ⟨(((HB1.out.alloc _).alloc _).alloc _).fr hF3 (fun h => h), (b2.alloc _).fr hF3 (fun h => h), ?_, (b3.fr hF3 (fun h => h)).congr (by simp), by simpa using hH3, PlanOf.nil, by omega, (((HF1.out.alloc _).alloc _).alloc _).trans hF3, hsz, by omega, by omega⟩
    have := ((b1.alloc (.cells #[.slice (some ⟨w1.heap.size, 0, none⟩) n n] 24)).alloc (.map #[] 0)).fr hF3 (fun h => h)
    simpa [pad] using this
  clear hmk hmm hc1 hH3 hF3 HFA HM HB1
  go_wp2_with fail
  generalize w1.heap.size + 1 + 1 + 1 = h at HP ⊢
  generalize w1.heap.size + 1 + 1 = b at HP ⊢
  generalize w1.heap.size + 1 = y at HP ⊢
  generalize w1.heap.size = g at HP ⊢
  have hcy3 : w3.cell? ⟨y, 0, none⟩ = some (.slice (some ⟨g, 0, none⟩) n n) := by rw [HP.out.hy.cell]; rfl
  go_step3
  go_wp2_with fail
  clear hcy3
  go_loopw [27] (fun i wx => ∃ (W nx : List Nat) (s : Nat), s = W.length ∧ s ≤ n ∧ i = .int .i64 (s : Int) ∧ Hid (PS w wx k n A c w.heap.size y g b h G W nx) ∧ Hid (NX k W n nx)) (fun i _ => n - (intOf i).toNat)
  case atStart => exact ⟨[], _, 0, rfl, by omega, rfl, HP, Lib.hid (NX.start HK1.out n)⟩
  case round =>
    obtain ⟨W, nx, s, hs, hsn, rfl, HP1, HX1⟩ := hrel
    have HS := Lib.hid hs
    clear hs
    by_cases hk : s < n
    · have g1 : (s : Int) < (n : Int) := by omega
      obtain ⟨row, hrow⟩ := of_lt (show s < G.length by have := HN.out; omega)
      have hArow : ∀ a ∈ row, a < s := HA.out s row hrow
      have hWn : ∀ a ∈ pad n W, a ≤ 1000 := by
        intro a ha
        rcases List.mem_append.1 ha with ha | ha
        · obtain ⟨j, hj⟩ := List.getElem?_of_mem ha
          have h1 := HP1.out.hp.le_self HA.out HK1.out j a hj
          have h2 := lt_of hj
          have := HS.out
          omega
        · have := List.eq_of_mem_replicate ha; omega
      have hfr : fre (pad n W) row = fre W row := fre_pad (by rw [← HS.out]; exact hArow)
      have HFREE := free_any wr Q A c n n w.heap.size y g G (pad n W) s row (HG.out.f0 HP1.out.hF) (by rw [HP1.out.hx.cell]; rfl) HN.out hrow (by rw [HP1.out.hy.cell]; rfl) HP1.out.hg (pad_length (by have := HS.out; omega)) (fun a ha => by have := hArow a ha; omega) (by have := HFW.out.r _ (List.mem_of_getElem? (gi_at hrow)); rw [ni_length] at this; exact this) hWn
      rw [hfr] at HFREE
      have hfn : fre W row ≤ s := mx_of_le fun a ha => by
        have h0 := hArow a ha
        obtain ⟨u, hu⟩ := of_lt (show a < W.length by have := HS.out; omega)
        rw [getD_of hu]
        have := HP1.out.hp.le_self HA.out HK1.out a u hu
        omega
      obtain ⟨f, hf⟩ : ∃ f, f = fre W row := ⟨_, rfl⟩
      rw [← hf] at HFREE hfn
      have HFR := Lib.hid HFREE
      have HFE := Lib.hid hf
      have HROW := Lib.hid hrow
      clear HFREE hf hfr hWn hArow hrow
      go_wp2_with fail
      refine HFR.out.mono ?_
      rintro e w4 ⟨rfl, hF4⟩
      have HP4 := Lib.hid (HP1.out.f0 hF4)
      clear hF4 HFR
      go_wp2_with fail
      go_loopw [11] (fun i wx => ∃ (m : Nat) (nx' : List Nat), m ≤ n ∧ f ≤ m ∧ i = .int .i64 (m : Int) ∧ Hid (∀ m', f ≤ m' → m' < m → k ≤ W.count m') ∧ Hid (PS w wx k n A c w.heap.size y g b h G W nx') ∧ Hid (NX k W n nx')) (fun i _ => n + 1 - (intOf i).toNat)
      case atStart => exact ⟨f, nx, by omega, Nat.le_refl _, rfl, Lib.hid (fun m' a b => by omega), HP4, HX1⟩
      case round =>
        obtain ⟨m, nx', hmn, hfm, rfl, HU, HP5, HX5⟩ := hrel
        have g2 : (m : Int) < (n : Int) + 1 := by omega
        obtain ⟨t, ht⟩ := of_lt (show m < nx'.length by have := HX5.out.len; omega)
        have hcm := Nb.at_ HP5.out.hh ht
        have hlk := HP5.out.hm.look m
        obtain ⟨cN, hcN⟩ : ∃ cN, cN = W.count m := ⟨_, rfl⟩
        have hck : cN ≤ k := by rw [hcN]; exact HP5.out.hp.many m
        have HCN := Lib.hid hcN
        have HT := Lib.hid ht
        rw [← hcN] at hlk
        clear hcN ht
        by_cases hfull : cN = k
        · subst hfull
          obtain ⟨a1, a2, a3, a4⟩ := HX5.out.at_ m t HT.out
          have hmt : m < t := a4 (by rw [← HCN.out]; exact Nat.le_refl _)
          obtain ⟨u, hu⟩ := of_lt (show t < nx'.length by have := HX5.out.len; omega)
          obtain ⟨b1, b2, b3, b4⟩ := HX5.out.at_ t u hu
          have hct := Nb.at_ HP5.out.hh hu
          have g3 : (t : Int) < (n : Int) + 1 := by omega
          have hfz := Blk.frozen HP5.out.hh m
          have HP6 := Lib.hid (HP5.out.seth m u)
          have HX6 := Lib.hid (HX5.out.hop HT.out hu)
          have HA3 := Lib.hid a3
          have HB3 := Lib.hid b3
          have hcm6 := Nb.at_ HP6.out.hh (i := m) (a := u) (by rw [List.getElem?_set_self (by have := HX5.out.len; omega)])
          clear a3 a4 b3 b4 hu
          go_wp2_with fail
          refine ⟨⟨u, nx'.set m u, by omega, by omega, rfl, Lib.hid fun m' a b => ?_, HP6, HX6⟩, by simp [intOf]; omega⟩
          rcases Nat.lt_or_ge m' m with hl | hl
          · exact HU.out m' a hl
          · rcases Nat.lt_or_ge m' t with hl2 | hl2
            · exact HA3.out m' hl hl2
            · exact HB3.out m' hl2 b
        · have g4 : ¬ (cN : Int) = (k : Int) := by omega
          have hst : GStep k W row m := ⟨by rw [← HFE.out]; exact hfm, by rw [← HCN.out]; omega, fun m' a b => HU.out m' (by rw [HFE.out]; exact a) b⟩
          have hmn1 : m < n := by
            rcases Nat.lt_or_ge m n with hl | hl
            · exact hl
            · exfalso
              have h1 := HX5.out.at_ m t HT.out
              have h2 : m ≤ s := by
                rcases Nat.lt_or_ge s m with h3 | h3
                · have h4 := HU.out s (by omega) h3
                  have h5 : W.count s = 0 := count_zero fun j x hj => by
                    have h6 := HP5.out.hp.le_self HA.out HK1.out j x hj
                    have h7 := lt_of hj
                    have := HS.out
                    omega
                  have := HK1.out
                  omega
                · exact h3
              omega
          have hcy := HP5.out.hy.cell 0
          rw [show (#[Value.slice (some ⟨g, 0, none⟩) n n] : Array Value)[0]? = some (.slice (some ⟨g, 0, none⟩) n n) from rfl] at hcy
          have hcg := Nb.at_ HP5.out.hg (i := s) (a := 0) (by rw [HS.out]; exact pad_zero (by have := HS.out; omega))
          have hfg := Blk.frozen HP5.out.hg s
          have hM1 := HP5.out.hm.fr ((Fr.refl (fun q => q = g) wr).setCell (p := ⟨g, s, none⟩) (.inl rfl) (.int .i64 (m : Int))) (fun e => HP5.out.hm.ne HP5.out.hg e.symm)
          have hlk1 := hM1.look m
          obtain ⟨w6, hup, hM6, hF6⟩ := hM1.upd m (cN + 1)
          have hlk6 := hM6.look m
          simp only [if_pos] at hlk6
          rw [show ((cN + 1 : Nat) : Int) = (cN : Int) + 1 by omega] at hup hlk6
          rw [← HCN.out] at hlk1
          have HP6 : Hid (PS w w6 k n A c w.heap.size y g b h G (W ++ [m]) nx') := Lib.hid (HP5.out.put m (by have := HS.out; omega) (by rw [← HS.out]; exact HROW.out) hst (hM6.congr fun q => by rw [HCN.out]) (by rw [← HS.out]; exact hF6))
          have hk2' : k ≤ 64 := HK2.out
          clear hM1 hM6 hF6 hst
          by_cases hnow : cN + 1 = k
          · have g5 : (cN : Int) + 1 = (k : Int) := by omega
            obtain ⟨hmm, hX7⟩ := HX5.out.full m (by rw [← HCN.out]; exact hnow) (by omega)
            have hc6 := Nb.at_ HP6.out.hh hmm
            have hf6 := Blk.frozen HP6.out.hh m
            have HP7 := Lib.hid (HP6.out.seth m (m + 1))
            have HX7 := Lib.hid hX7
            rw [show ((m + 1 : Nat) : Int) = (m : Int) + 1 by omega] at HP7
            rw [g5] at hup hlk6
            clear hmm hX7
            go_wp2_with fail
            refine ⟨⟨W ++ [m], nx'.set m (m + 1), s + 1, by simp; exact HS.out, by omega, by go_num, HP7, HX7⟩, by simp [intOf]; omega⟩
          · have g5 : ¬ (cN : Int) + 1 = (k : Int) := by omega
            have HX7 := Lib.hid (HX5.out.more m (by rw [← HCN.out]; omega))
            go_wp2_with fail
            refine ⟨⟨W ++ [m], nx', s + 1, by simp; exact HS.out, by omega, by go_num, HP6, HX7⟩, by simp [intOf]; omega⟩
    · have HSN := Lib.hid (show s = n by omega)
      have hcy := HP1.out.hy.cell 0
      rw [show (#[Value.slice (some ⟨g, 0, none⟩) n n] : Array Value)[0]? = some (.slice (some ⟨g, 0, none⟩) n n) from rfl] at hcy
      go_wp2_with fail
      rw [Exit.noGoto_ret]
      go_ret2
      have hl : W.length = n := by rw [← HS.out]; exact HSN.out
      refine ⟨g, W, rfl, HP1.out.hgl, ?_, hl, HP1.out.hp, HP1.out.hF⟩
      have := HP1.out.hg
      rwa [pad_full hl] at this
end Go.Proofs.Ytdknhiohkicogaa
