/-
  greedy.Fits: the walks. No condition.
-/
import Derived.Test.YtdknhiohkicogaaY8
import Derived.Test.YtdknhiohkicogaaGrown
namespace Go.Proofs.Ytdknhiohkicogaa
open Go.RowKit

/-- What the closures look into. -/
structure Looks (w : World) (Q : Nat → Prop) (B : Option Addr) (n cb y x : Nat) (V : List Int) (s : Nat) (z : Int) : Prop where
  hV : Rd w Q 1 B n (ic V)
  hn : n = V.length
  hs : V[s]? = some z
  hy : w.cell? ⟨y, 0, none⟩ = some (.slice B n cb)
  hx : w.cell? ⟨x, 0, none⟩ = some (.int .i64 (s : Int))
theorem Looks.f0 {w w' : World} {Q : Nat → Prop} {B : Option Addr} {n cb y x : Nat} {V : List Int} {s : Nat} {z : Int} (h : Looks w Q B n cb y x V s z) (hf : Fr F0 w w') : Looks w' Q B n cb y x V s z :=
  ⟨h.hV.fr hf (fun _ _ h => h), h.hn, h.hs, hf.held h.hy (fun h => h), hf.held h.hx (fun h => h)⟩

set_option maxHeartbeats 4000000 in
theorem idx_any (w : World) (Q Q' : Nat → Prop) (B : Option Addr) (n cb y x : Nat) (V : List Int) (s : Nat) (z : Int) (hL : Looks w Q B n cb y x V s z) (A : Option Addr) (c m : Nat) (row : List Nat) (hm : m = row.length) (hm1 : m ≤ 1000) (hR : Rd w Q' 1 A m (ic (ni row))) (ha : ∀ a ∈ row, a < n) :
    Calls Try.prog 30 #[.slice A m c, .func (.func 27) #[] #[.pointer (some ⟨y, 0, none⟩), .pointer (some ⟨x, 0, none⟩)]] w fun e w' => ∃ r : Int, e = .returned (.int .i64 r) ∧ decide (0 ≤ r) = lateB V row z ∧ Fr F0 w w' := by
  have HL := Lib.hid hL
  have HR := Lib.hid hR
  have HM := Lib.hid hm
  have HA := Lib.hid ha
  clear hL hR hm ha
  go_enter Try.func30, Try.ntmps30
  go_wp2_with fail
  go_loopw [8] (fun i wx => ∃ k : Nat, k ≤ m ∧ i = .int .i64 (k : Int) ∧ Hid (lateB V (row.take k) z = false) ∧ Hid (Fr F0 w wx)) (fun i _ => m - (intOf i).toNat)
  case atStart => exact ⟨0, by omega, rfl, Lib.hid rfl, Lib.hid (Fr.refl _ _)⟩
  case round =>
    obtain ⟨k, hkm, rfl, HB, HF⟩ := hrel
    by_cases hk : k < m
    · have g1 : (k : Int) < (m : Int) := by omega
      obtain ⟨a, hra⟩ := of_lt (show k < row.length by have := HM.out; omega)
      have hR2 := HR.out
      rw [HM.out, ← ni_length] at hR2
      obtain ⟨b, off, hAe, _, hcell⟩ := Rd.int_at (hR2.fr HF.out (fun _ _ h => h)) (ni_at hra)
      subst hAe
      have han := HA.out a (List.mem_of_getElem? hra)
      obtain ⟨u, hu⟩ := of_lt (show a < V.length by have := HL.out.hn; omega)
      have hL3 := HL.out.f0 HF.out
      have HLA := Lib.hid (later_any wr Q B n cb y x V a s z u hL3.hV hL3.hn hu hL3.hs hL3.hy hL3.hx)
      have HE : Hid (lateB V (row.take (k + 1)) z = decide (z ≤ u)) := Lib.hid (by
        rw [take_snoc hra, lateB, List.any_append]
        have := HB.out
        rw [lateB] at this
        rw [this]
        simp only [List.any_cons, List.any_nil, Bool.or_false, Bool.false_or]
        rw [getDI hu])
      have HRA := Lib.hid hra
      have HU := Lib.hid hu
      obtain ⟨bb, hbb⟩ : ∃ bb, bb = decide (z ≤ u) := ⟨_, rfl⟩
      rw [← hbb] at HLA HE
      have HBB := Lib.hid hbb
      clear hra hR2 hu hL3 hbb
      cases bb with
      | true =>
        go_wp2_with fail
        refine HLA.out.mono ?_
        rintro e w1 ⟨rfl, hF1⟩
        have HF1 := Lib.hid (HF.out.trans hF1)
        clear hF1
        go_wp2_with fail
        go_ret
        refine ⟨(k : Int), rfl, ?_, HF1.out⟩
        rw [decide_eq_true (by omega), Eq.comm, lateB, List.any_eq_true]
        refine ⟨a, List.mem_of_getElem? HRA.out, ?_⟩
        rw [getDI HU.out]
        exact HBB.out.symm
      | false =>
        go_wp2_with fail
        refine HLA.out.mono ?_
        rintro e w1 ⟨rfl, hF1⟩
        have HF1 := Lib.hid (HF.out.trans hF1)
        clear hF1
        go_wp2_with fail
        exact ⟨⟨k + 1, by omega, by go_num, HE, HF1⟩, by simp [intOf]; omega⟩
    · have HK : Hid (lateB V row z = false) := Lib.hid (by
        have := HB.out
        rw [show k = row.length by have := HM.out; omega, List.take_length] at this
        exact this)
      go_wp2_with fail
      go_ret
      exact ⟨-1, rfl, by rw [HK.out]; rfl, HF.out⟩
theorem cont_any (w : World) (Q Q' : Nat → Prop) (B : Option Addr) (n cb y x : Nat) (V : List Int) (s : Nat) (z : Int) (hL : Looks w Q B n cb y x V s z) (A : Option Addr) (c m : Nat) (row : List Nat) (hm : m = row.length) (hm1 : m ≤ 1000) (hR : Rd w Q' 1 A m (ic (ni row))) (ha : ∀ a ∈ row, a < n) :
    Calls Try.prog 26 #[.slice A m c, .func (.func 27) #[] #[.pointer (some ⟨y, 0, none⟩), .pointer (some ⟨x, 0, none⟩)]] w fun e w' => e = .returned (.bool (lateB V row z)) ∧ Fr F0 w w' := by
  have HI := Lib.hid (idx_any w Q Q' B n cb y x V s z hL A c m row hm hm1 hR ha)
  obtain ⟨b, hb⟩ : ∃ b, b = lateB V row z := ⟨_, rfl⟩
  rw [← hb] at HI ⊢
  clear hL hR hb hm ha
  go_enter Try.func26, Try.ntmps26
  go_wp2_with fail
  refine HI.out.mono ?_
  rintro e w1 ⟨r, rfl, hd, hF1⟩
  have HF1 := Lib.hid hF1
  have HD := Lib.hid hd
  clear hF1 hd
  go_wp2_with fail
  go_ret
  exact ⟨by rw [← HD.out]; rfl, HF1.out⟩

set_option maxHeartbeats 4000000 in
theorem waits_any (w : World) (Q Q' : Nat → Prop) (B : Option Addr) (n cb y x0 : Nat) (V : List Int) (s : Nat) (z : Int) (hV : Rd w Q 1 B n (ic V)) (hn : n = V.length) (hs : V[s]? = some z) (hy : w.cell? ⟨y, 0, none⟩ = some (.slice B n cb))
    (A : Option Addr) (c : Nat) (G : List (List Nat)) (hx : w.cell? ⟨x0, 0, none⟩ = some (.slice A n c)) (hG : GrAt w Q' A (gi G)) (hF : Few (gi G)) (hA : Ahead G) (hnG : n = G.length) :
    Calls Try.prog 25 #[.int .i64 (s : Int), .pointer (some ⟨x0, 0, none⟩), .pointer (some ⟨y, 0, none⟩)] w fun e w' => e = .returned (.bool (lateB V (G.getD s []) z)) ∧ Fr F0 w w' := by
  have hsn : s < n := by have := lt_of hs; omega
  obtain ⟨row, hrow⟩ := of_lt (show s < G.length by omega)
  have hgd : G.getD s [] = row := by simp [List.getD, hrow]
  rw [hgd]
  have hfa : Fr F0 w (w.alloc (.cells #[.int .i64 (s : Int)] 3)) := (Fr.refl _ _).alloc _
  obtain ⟨b, off, A', c', hAe, _, hcell, hrd⟩ := (hG.f0 hfa) s _ (gi_at hrow)
  subst hAe
  obtain ⟨m, hm⟩ : ∃ m, m = (ni row).length := ⟨_, rfl⟩
  have hmr : m = row.length := by rw [hm, ni_length]
  have hm1 : m ≤ 1000 := by have := hF.r _ (List.mem_of_getElem? (gi_at hrow)); omega
  rw [← hm] at hcell hrd
  have hL : Looks (w.alloc (.cells #[.int .i64 (s : Int)] 3)) Q B n cb y w.heap.size V s z := ⟨hV.fr hfa (fun _ _ h => h), hn, hs, hfa.held hy (fun h => h), by rw [(Blk.new w 3 #[.int .i64 (s : Int)]).cell]; rfl⟩
  have HC := Lib.hid (cont_any _ Q _ B n cb y w.heap.size V s z hL A' c' m row hmr hm1 hrd (fun a ha => by have := hA s row hrow a ha; omega))
  have hxa := hfa.held hx (fun h => h)
  have g1 : (s : Int) < (n : Int) := by omega
  have HFA := Lib.hid hfa
  obtain ⟨lb, hlb⟩ : ∃ lb, lb = lateB V row z := ⟨_, rfl⟩
  rw [← hlb] at HC ⊢
  clear hV hn hs hy hx hG hF hA hnG hL hfa hrow hm hmr hgd hrd hlb
  go_enter Try.func25, Try.ntmps25
  go_wp2_with fail
  refine HC.out.mono ?_
  rintro e w1 ⟨rfl, hF1⟩
  have HF1 := Lib.hid (HFA.out.trans hF1)
  clear hF1
  go_wp2_with fail
  go_ret
  exact ⟨rfl, HF1.out⟩

set_option maxHeartbeats 8000000 in
set_option maxRecDepth 100000 in
theorem fits_any (w : World) (Q Q' : Nat → Prop) (A : Option Addr) (c : Nat) (G : List (List Nat)) (k n : Nat) (hn : n = G.length) (hG : GrAt w Q A (gi G)) (hF : Few (gi G)) (hA : Ahead G) (hR : rightB (gi G) = true) (hk1 : 1 ≤ k) (hk2 : k ≤ 64)
    (B : Option Addr) (nv cb : Nat) (V : List Int) (hV : Rd w Q' 1 B nv (ic V)) (hnv : nv = V.length) (hv1 : nv ≤ 1000) :
    Calls Try.prog 16 #[.agg #[.slice A n c], .int .i64 (k : Int), .slice B nv cb] w fun e w' => e = .returned (.bool (fitB k G V)) ∧ Fr F0 w w' := by
  have hn1 : n ≤ 1000 := by have := hF.n; rw [gi_length] at this; omega
  have hfa : Fr F0 w ((w.alloc (.cells #[.slice A n c] 29)).alloc (.cells #[.slice B nv cb] 24)) := ((Fr.refl _ _).alloc _).alloc _
  have HM := Lib.hid (may_any ((w.alloc (.cells #[.slice A n c] 29)).alloc (.cells #[.slice B nv cb] 24)) Q A c (gi G) (k : Int) (hG.f0 hfa) hF)
  rw [gi_length, ← hn, show mayB (k : Int) (gi G) = true by simp [mayB, hR]; omega] at HM
  have HBX : Hid (Blk ((w.alloc (.cells #[.slice A n c] 29)).alloc (.cells #[.slice B nv cb] 24)) w.heap.size 29 #[.slice A n c]) := (Blk.new _ _ _).alloc _
  have HBY : Hid (Blk ((w.alloc (.cells #[.slice A n c] 29)).alloc (.cells #[.slice B nv cb] 24)) (w.heap.size + 1) 24 #[.slice B nv cb]) := Lib.hid (by
    have := Blk.new (w.alloc (.cells #[.slice A n c] 29)) 24 #[.slice B nv cb]
    simpa using this)
  have HFA := Lib.hid hfa
  have HG := Lib.hid hG
  have HFW := Lib.hid hF
  have HA := Lib.hid hA
  have HN := Lib.hid hn
  have HV := Lib.hid hV
  have HNV := Lib.hid hnv
  have hmm := @run_makeMap Try.prog
  obtain ⟨fb, hfb⟩ : ∃ fb, fb = fitB k G V := ⟨_, rfl⟩
  rw [← hfb]
  have HFB := Lib.hid hfb
  clear hG hF hA hn hR hk1 hV hnv hfa hfb
  by_cases hnn : nv = n
  · subst hnn
    go_enter Try.func16, Try.ntmps16
    go_wp2_with fail
    refine HM.out.mono ?_
    rintro e w1 ⟨rfl, hF1⟩
    have HBX1 := Lib.hid (HBX.out.fr hF1 (fun h => h))
    have HBY1 := Lib.hid (HBY.out.fr hF1 (fun h => h))
    have HF1 := Lib.hid (HFA.out.trans hF1)
    have hcx : w1.cell? ⟨w.heap.size, 0, none⟩ = some (.slice A nv c) := by rw [HBX1.out.cell]; rfl
    have hcy : w1.cell? ⟨w.heap.size + 1, 0, none⟩ = some (.slice B nv cb) := by rw [HBY1.out.cell]; rfl
    have HBX2 : Hid (Blk (w1.alloc (.map #[] 0)) w.heap.size 29 #[.slice A nv c]) := HBX1.out.alloc _
    have HBY2 : Hid (Blk (w1.alloc (.map #[] 0)) (w.heap.size + 1) 24 #[.slice B nv cb]) := HBY1.out.alloc _
    have hcy2 : (w1.alloc (.map #[] 0)).cell? ⟨w.heap.size + 1, 0, none⟩ = some (.slice B nv cb) := by rw [HBY2.out.cell]; rfl
    have HMP : Hid (MapI (w1.alloc (.map #[] 0)) w1.heap.size (fun z => (V.take 0).count z)) := Lib.hid ((MapI.new w1).congr (fun z => rfl))
    have HF2 : Hid (Fr F0 w (w1.alloc (.map #[] 0))) := HF1.out.alloc _
    have HLO : Hid (w.heap.size ≤ w1.heap.size) := HF1.out.size
    clear hF1
    go_wp2_with fail
    clear hmm hcx hcy hcy2 HBX1 HBY1 HF1 HBX HBY HM HFA
    generalize w1.heap.size = b at HMP HLO ⊢
    generalize w1.alloc (.map #[] 0) = w2 at HBX2 HBY2 HMP HF2 ⊢
    go_loopw [27] (fun i wx => ∃ j : Nat, j ≤ nv ∧ i = .int .i64 (j : Int) ∧ Hid (fb = fitsFrom k V j (G.drop j)) ∧ Hid (Blk wx w.heap.size 29 #[.slice A nv c]) ∧ Hid (Blk wx (w.heap.size + 1) 24 #[.slice B nv cb]) ∧ Hid (MapI wx b (fun z => (V.take j).count z)) ∧ Hid (Fr F0 w wx)) (fun i _ => nv - (intOf i).toNat)
    case atStart => exact ⟨0, by omega, rfl, Lib.hid (by rw [HFB.out, fitB, decide_eq_true (by rw [← HNV.out]; exact HN.out)]; rfl), HBX2, HBY2, HMP, HF2⟩
    case round =>
      obtain ⟨j, hj, rfl, HE, HX, HY, HMJ, HF3⟩ := hrel
      by_cases hjn : j < nv
      · have g1 : (j : Int) < (nv : Int) := by omega
        obtain ⟨z, hz⟩ := of_lt (show j < V.length by have := HNV.out; omega)
        have hV2 := HV.out.fr HF3.out (fun _ _ h => h)
        rw [HNV.out] at hV2
        obtain ⟨bb, off, hBe, _, hcz⟩ := Rd.int_at hV2 hz
        subst hBe
        obtain ⟨row, hrow⟩ := of_lt (show j < G.length by have := HN.out; omega)
        have hgd : G.getD j [] = row := by simp [List.getD, hrow]
        obtain ⟨cN, hcN⟩ : ∃ cN, cN = (V.take j).count z := ⟨_, rfl⟩
        have hcs : cN ≤ 1000 := by
          have h1 := count_take_int V j z
          have h2 : V.count z ≤ V.length := List.count_le_length
          have := HNV.out
          omega
        have hc1 : (V.take (j + 1)).count z = cN + 1 := by rw [take_snoc hz, List.count_append, ← hcN]; simp
        have hlk := HMJ.out.look z
        rw [← hcN] at hlk
        obtain ⟨w6, hup, hM6, hF6⟩ := HMJ.out.upd z (cN + 1)
        have hlk6 := hM6.look z
        simp only [if_pos] at hlk6
        rw [show ((cN + 1 : Nat) : Int) = (cN : Int) + 1 by omega] at hup hlk6
        have HM6 : Hid (MapI w6 b (fun z => (V.take (j + 1)).count z)) := Lib.hid (hM6.congr fun q => by
          by_cases hq : q = z
          · subst hq; rw [if_pos rfl, hc1]
          · rw [if_neg hq, take_snoc hz, List.count_append]; simp [Ne.symm hq])
        have HX6 := Lib.hid (HX.out.fr hF6 (fun e => HMJ.out.ne HX.out e))
        have HY6 := Lib.hid (HY.out.fr hF6 (fun e => HMJ.out.ne HY.out e))
        have HF7 : Hid (Fr F0 w w6) := Lib.hid (HF3.out.then hF6 (fun i hi => .inr (by rw [hi]; exact HLO.out)))
        have HE2 : Hid (fb = (okB k V j row z && fitsFrom k V (j + 1) (G.drop (j + 1)))) := Lib.hid (by
          rw [HE.out, List.drop_eq_getElem_cons (lt_of hrow)]
          have := (List.getElem?_eq_some_iff.1 hrow).2
          rw [this]
          simp only [fitsFrom]
          rw [getDI hz])
        have HOK : Hid (okB k V j row z = (decide (0 ≤ z) && decide (cN + 1 ≤ k) && !lateB V row z)) := Lib.hid (by rw [okB, hc1])
        have HWA := Lib.hid (waits_any w6 Q' Q (some ⟨bb, off, none⟩) nv cb (w.heap.size + 1) w.heap.size V j z (HV.out.fr HF7.out (fun _ _ h => h)) HNV.out hz (by rw [HY6.out.cell]; rfl) A c G (by rw [HX6.out.cell]; rfl) (HG.out.f0 HF7.out) HFW.out HA.out HN.out)
        rw [hgd] at HWA
        obtain ⟨lb, hlb⟩ : ∃ lb, lb = lateB V row z := ⟨_, rfl⟩
        rw [← hlb] at HWA HOK
        clear hz hV2 hrow hgd hcN hc1 hM6 hF6 HE HMJ HX HY hlb
        by_cases hz0 : z < 0
        · have d1 : decide (z < 0) = true := decide_eq_true hz0
          have HV0 : Hid (fb = false) := Lib.hid (by rw [HE2.out, HOK.out, decide_eq_false (show ¬ 0 ≤ z by omega)]; rfl)
          go_wp2_with fail
          go_ret
          exact ⟨by rw [HV0.out]; rfl, HF7.out⟩
        · have d1 : decide (z < 0) = false := decide_eq_false hz0
          have HZ0 := Lib.hid (show 0 ≤ z by omega)
          by_cases hck : k < cN + 1
          · have d2 : (k : Int) < (cN : Int) + 1 := by omega
            have HV0 : Hid (fb = false) := Lib.hid (by rw [HE2.out, HOK.out, decide_eq_false (show ¬ cN + 1 ≤ k by omega), Bool.and_false]; rfl)
            go_wp2_with fail
            go_ret
            exact ⟨by rw [HV0.out]; rfl, HF7.out⟩
          · have d2 : ¬ (k : Int) < (cN : Int) + 1 := by omega
            have HCK := Lib.hid (show cN + 1 ≤ k by omega)
            cases lb with
            | true =>
              have HV0 : Hid (fb = false) := Lib.hid (by rw [HE2.out, HOK.out, Bool.not_true, Bool.and_false]; rfl)
              go_wp2_with fail
              refine HWA.out.mono ?_
              rintro e w7 ⟨rfl, hF8⟩
              have HF8 := Lib.hid (HF7.out.trans hF8)
              clear hF8
              go_wp2_with fail
              go_ret
              exact ⟨by rw [HV0.out]; rfl, HF8.out⟩
            | false =>
              have HV0 : Hid (fb = fitsFrom k V (j + 1) (G.drop (j + 1))) := Lib.hid (by rw [HE2.out, HOK.out, decide_eq_true HZ0.out, decide_eq_true HCK.out]; rfl)
              go_wp2_with fail
              refine HWA.out.mono ?_
              rintro e w7 ⟨rfl, hF8⟩
              have HF8 := Lib.hid (HF7.out.trans hF8)
              have HX8 := Lib.hid (HX6.out.fr hF8 (fun h => h))
              have HY8 := Lib.hid (HY6.out.fr hF8 (fun h => h))
              have HM8 := Lib.hid (HM6.out.fr hF8 (fun h => h))
              clear hF8
              go_wp2_with fail
              exact ⟨⟨j + 1, by omega, by go_num, HV0, HX8, HY8, HM8, HF8⟩, by simp [intOf]; omega⟩
      · have HV0 : Hid (fb = true) := Lib.hid (by rw [HE.out, List.drop_eq_nil_of_le (by have := HN.out; omega)]; rfl)
        go_wp2_with fail
        go_ret
        exact ⟨by rw [HV0.out]; rfl, HF3.out⟩
  · have d1 : ¬ (nv : Int) = (n : Int) := by omega
    have HV0 : Hid (fb = false) := Lib.hid (by rw [HFB.out, fitB, decide_eq_false (by rw [← HNV.out, ← HN.out]; exact hnn)]; rfl)
    clear hmm
    go_enter Try.func16, Try.ntmps16
    go_wp2_with fail
    refine HM.out.mono ?_
    rintro e w1 ⟨rfl, hF1⟩
    have HBX1 := Lib.hid (HBX.out.fr hF1 (fun h => h))
    have HBY1 := Lib.hid (HBY.out.fr hF1 (fun h => h))
    have HF1 := Lib.hid (HFA.out.trans hF1)
    have hcx : w1.cell? ⟨w.heap.size, 0, none⟩ = some (.slice A n c) := by rw [HBX1.out.cell]; rfl
    have hcy : w1.cell? ⟨w.heap.size + 1, 0, none⟩ = some (.slice B nv cb) := by rw [HBY1.out.cell]; rfl
    clear hF1
    go_wp2_with fail
    go_ret
    exact ⟨by rw [HV0.out]; rfl, HF1.out⟩

set_option maxHeartbeats 4000000 in
theorem fits_no (w : World) (Q : Nat → Prop) (A : Option Addr) (c : Nat) (g : List (List Int)) (k : Int) (n : Nat) (hn : n = g.length) (hG : GrAt w Q A g) (hF : Few g) (hm : mayB k g = false) (B : Option Addr) (nv cb : Nat) :
    Calls Try.prog 16 #[.agg #[.slice A n c], .int .i64 k, .slice B nv cb] w fun e w' => e = .returned (.bool false) ∧ Fr F0 w w' := by
  have hfa : Fr F0 w ((w.alloc (.cells #[.slice A n c] 29)).alloc (.cells #[.slice B nv cb] 24)) := ((Fr.refl _ _).alloc _).alloc _
  have HM := Lib.hid (may_any ((w.alloc (.cells #[.slice A n c] 29)).alloc (.cells #[.slice B nv cb] 24)) Q A c g k (hG.f0 hfa) hF)
  rw [← hn, hm] at HM
  have HFA := Lib.hid hfa
  clear hG hF hn hm hfa
  go_enter Try.func16, Try.ntmps16
  go_wp2_with fail
  refine HM.out.mono ?_
  rintro e w1 ⟨rfl, hF1⟩
  have HF1 := Lib.hid (HFA.out.trans hF1)
  clear hF1
  go_wp2_with fail
  go_ret
  exact ⟨rfl, HF1.out⟩
end Go.Proofs.Ytdknhiohkicogaa
