/-
  path.Read comes to readL of its text's bytes.
-/
import Derived.Test.YtafchncdolagdaaDoorRng
import Derived.Test.YtafchncdolagdaaDoorAppI
namespace Go.Proofs.YtafchncdolagdaaDoor
open Go.RowKit

theorem parts_any (w : World) (s : ByteArray) : Calls Tryd.prog 21 #[.string s] w fun e w' => e = .returned (.func (.func 27) #[] #[.pointer (some ⟨w.heap.size, 0, none⟩)]) ∧ w' = w.alloc (.cells #[.string s] 9) := by
  go_enter Tryd.func21, Tryd.ntmps21
  go_wp2_with fail
  go_ret
  exact ⟨rfl, rfl⟩

def valP (p : List UInt8) : Int := figV (fgs p)
/-- What the rounds keep. -/
structure JR (w : World) (L : Nat) (pre : List (List UInt8)) (W : World) : Prop where
  r0 : Blk W w.heap.size 22 #[.slice none 0 0]
  r1 : Blk W (w.heap.size + 1) 26 #[.int .i64 0]
  p : ∃ v, Blk W (w.heap.size + 2) 22 #[v] ∧ W.ownsRow (L + 2) 3 1 v (min pre.length 30) (ic ((pre.map valP).take 30))
  m : Blk W (w.heap.size + 3) 3 #[.int .i64 pre.length]
  ok : ∀ q ∈ pre, okP q
  fr : Fr None' w W

structure JX (w : World) (t0 : List UInt8) (W : World) : Prop where
  r0 : Blk W w.heap.size 22 #[.slice none 0 0]
  r1 : Blk W (w.heap.size + 1) 26 #[.int .i64 4]
  bad : ¬ ∀ q ∈ splitD 46 t0, okP q
  fr : Fr None' w W

theorem JR.keep {w : World} {L Bs : Nat} {pre : List (List UInt8)} {W W' : World} (hL : L = w.heap.size + 5) (hb : Bs = w.heap.size + 4) (h : JR w L pre W) (hf : Fr (fun k => k = Bs ∨ k = L + 1) W W') : JR w L pre W' := by
  obtain ⟨v, hv, ho⟩ := h.p
  refine ⟨h.r0.fr hf (by omega), h.r1.fr hf (by omega), ⟨v, hv.fr hf (by omega), own_fr' ho hf (fun g hg => ?_)⟩, h.m.fr hf (by omega), h.ok, h.fr.then hf (fun i hi => .inr (by omega))⟩
  have := own_low' ho g hg
  omega
theorem JX.keep {w : World} {L Bs : Nat} {r0 : List UInt8} {W W' : World} (hL : L = w.heap.size + 5) (hb : Bs = w.heap.size + 4) (h : JX w r0 W) (hf : Fr (fun k => k = Bs ∨ k = L + 1) W W') : JX w r0 W' :=
  ⟨h.r0.fr hf (by omega), h.r1.fr hf (by omega), h.bad, h.fr.then hf (fun i hi => .inr (by omega))⟩

/-- What Read hands back. -/
def ReadPost (w : World) (l : List UInt8) (e : Ending) (w' : World) : Prop :=
  ∃ A n c, e = .returned (.tuple #[.slice A n c, .int .i64 (readL l).2]) ∧ Ints w' A n (readL l).1 ∧ Fr None' w w'

theorem splitD_len (c : UInt8) (l : List UInt8) : (splitD c l).length ≤ l.length + 1 := by
  induction l with
  | nil => simp [splitD]
  | cons b l ih =>
    rw [splitD]
    split
    · simp; omega
    · cases h : splitD c l with
      | nil => simp [conH]
      | cons p ps => rw [h] at ih; simp [conH] at ih ⊢; omega

set_option maxHeartbeats 4000000 in
set_option maxRecDepth 100000 in
theorem read_in (w : World) (s : ByteArray) (hs : s.size ≤ 1000) : CallsIn Fence.wide 9 Tryd.prog 14 #[.string s] w (ReadPost w s.data.toList) := by
  refine callsIn_of_wp_marks Tryd.func14 rfl trivial ?_ rfl
  simp only [Tryd.ntmps14, List.size_toArray, List.length_cons, List.length_nil, Nat.reduceAdd, Nat.reduceSub, Array.replicate_succ, Array.replicate_zero, List.push_toArray, List.append_toArray, List.nil_append, List.cons_append]
  by_cases hd : s = ⟨#[46]⟩
  · subst hd
    gi_wp2
    refine ⟨.tuple #[.slice none 0 0, .int .i64 0], ?_, none, 0, 0, rfl, Ints.nil, ((Fr.refl _ _).alloc _).alloc _⟩
    have b0 := ((Blk.new w 22 #[.slice none 0 0]).alloc (.cells #[.int .i64 0] 26)).cell 0
    have b1 := (Blk.new (w.alloc (.cells #[.slice none 0 0] 22)) 26 #[.int .i64 0]).cell 0
    rw [show (w.alloc (.cells #[.slice none 0 0] 22)).heap.size = w.heap.size + 1 by simp] at b1
    simp [results, Tryd.f14, go_sem, b0, b1]
  · have e1 : (s.toList == [46]) = false := by
      rw [beq_eq_false_iff_ne]
      intro h
      apply hd
      apply WideShapes.bytes_inj
      rw [← Lib.toList_data]
      exact h
    have HNE : Hid (s.data.toList ≠ [46]) := Lib.hid (fun h => hd (WideShapes.bytes_inj h))
    have hsl : s.data.toList.length = s.size := Array.length_toList
    gi_wp2
    refine ⟨trivial, ?_⟩
    refine (callsIn_wide.2 (parts_any _ s)).mono ?_
    rintro e w1 ⟨rfl, rfl⟩
    obtain ⟨w0, hw0⟩ : ∃ w0, ((((w.alloc (.cells #[.slice none 0 0] 22)).alloc (.cells #[.int .i64 0] 26)).alloc (.cells #[.slice none 0 0] 22)).alloc (.cells #[.int .i64 0] 3)) = w0 := ⟨_, rfl⟩
    have hz0 : w0.heap.size = w.heap.size + 4 := by rw [← hw0]; simp
    have B0 : Blk w0 w.heap.size 22 #[.slice none 0 0] := by rw [← hw0]; exact (((Blk.new _ _ _).alloc _).alloc _).alloc _
    have B1 : Blk w0 (w.heap.size + 1) 26 #[.int .i64 0] := by
      rw [← hw0]
      have := ((Blk.new (w.alloc (.cells #[.slice none 0 0] 22)) 26 #[.int .i64 0]).alloc (.cells #[.slice none 0 0] 22)).alloc (.cells #[.int .i64 0] 3)
      rwa [show (w.alloc (.cells #[.slice none 0 0] 22)).heap.size = w.heap.size + 1 by simp] at this
    have B2 : Blk w0 (w.heap.size + 2) 22 #[.slice none 0 0] := by
      rw [← hw0]
      have := (Blk.new ((w.alloc (.cells #[.slice none 0 0] 22)).alloc (.cells #[.int .i64 0] 26)) 22 #[.slice none 0 0]).alloc (.cells #[.int .i64 0] 3)
      rwa [show ((w.alloc (.cells #[.slice none 0 0] 22)).alloc (.cells #[.int .i64 0] 26)).heap.size = w.heap.size + 2 by simp] at this
    have B3 : Blk w0 (w.heap.size + 3) 3 #[.int .i64 0] := by
      rw [← hw0]
      have := (Blk.new (((w.alloc (.cells #[.slice none 0 0] 22)).alloc (.cells #[.int .i64 0] 26)).alloc (.cells #[.slice none 0 0] 22)) 3 #[.int .i64 0])
      rwa [show (((w.alloc (.cells #[.slice none 0 0] 22)).alloc (.cells #[.int .i64 0] 26)).alloc (.cells #[.slice none 0 0] 22)).heap.size = w.heap.size + 3 by simp] at this
    have hF0 : Fr None' w w0 := by rw [← hw0]; exact ((((Fr.refl _ w).alloc _).alloc _).alloc _).alloc _
    rw [hw0]
    obtain ⟨w2, hw2⟩ : ∃ w2, w0.alloc (.cells #[.string s] 9) = w2 := ⟨_, rfl⟩
    have hz2 : w2.heap.size = w.heap.size + 5 := by rw [← hw2]; simp [hz0]
    have BS : Blk w2 (w.heap.size + 4) 9 #[.string ⟨s.data.toList.toArray⟩] := by rw [← hw2, ← hz0]; exact Blk.new _ _ _
    have J0 : JR w w2.heap.size [] w2 := by
      rw [← hw2]
      exact ⟨B0.alloc _, B1.alloc _, ⟨_, B2.alloc _, ⟨rfl, .inl ⟨rfl, rfl⟩⟩⟩, B3.alloc _, fun q hq => by simp at hq, hF0.alloc _⟩
    rw [hw2, hz0]
    have HJ0 := Lib.hid J0
    have HBS := Lib.hid BS
    clear hw0 hw2 J0 BS B0 B1 B2 B3 hF0 hd e1
    gi_wp2
    refine wp_range (Bs := w.heap.size + 4) s.data.toList rfl rfl (by omega) HBS.out (JR w w2.heap.size) (JX w s.data.toList) (fun pre W W' h hf => h.keep hz2 rfl hf) (fun W W' h hf => h.keep hz2 rfl hf) HJ0.out
      (fun x => { tmps := #[.string s, undef, .pointer (some ⟨w.heap.size, 0, none⟩), .pointer (some ⟨w.heap.size + 1, 0, none⟩), .pointer (some ⟨w.heap.size + 1 + 1, 0, none⟩), .pointer (some ⟨w.heap.size + 1 + 1 + 1, 0, none⟩), .string ⟨x.toArray⟩, undef, undef, .string s,
        .bool false, .string s, .func (.func 27) #[] #[.pointer (some ⟨w.heap.size + 4, 0, none⟩)], .string ⟨x.toArray⟩, undef, undef, undef, undef, undef, undef, undef, undef, undef, undef, undef, undef, undef, undef, undef, undef, undef, undef], defers := [] }) ?ha ?hb ?hdn ?hst
    case ha =>
      intro l k x W K hK
      gi_wp2_with (rw [Oper.semAt_eq _ _ _ (fun c h => by cases h)]; go_simp; try go_bits)
      exact hK
    case hb =>
      intro l k pre x W hj hrest hBs hL
      rw [hz2] at hj hL ⊢
      have HJ := Lib.hid hj
      have HR := Lib.hid hrest
      clear hj hrest
      gi_wp2_with (rw [Oper.semAt_eq _ _ _ (fun c h => by cases h)]; go_simp; try go_bits)
      refine ⟨trivial, fun h => (by simp [Fence.wide] at h), ?_⟩
      refine (CallsIn.inRound l (callsIn_wide.2 (natural_any W ⟨x.toArray⟩ 6 (by omega)))).mono ?_
      rw [show byts ⟨x.toArray⟩ = fgs x from byts_mk x]
      intro e w1 hn
      have hsz : W.heap.size ≤ w1.heap.size := by rcases hn with ⟨_, _, hF⟩ | ⟨_, _, hF⟩ <;> exact hF.size
      have hJ1 : JR w (w.heap.size + 5) pre w1 := by
        rcases hn with ⟨_, _, hF⟩ | ⟨_, _, hF⟩ <;> exact HJ.out.keep rfl rfl (hF.mono (fun _ h => h.elim))
      have HK1 : Hid (Kp3 (w.heap.size + 4) (w.heap.size + 5) (w.heap.size + 5 + 1) W w1) := Lib.hid (by
        rcases hn with ⟨_, _, hF⟩ | ⟨_, _, hF⟩ <;> exact ⟨hF.size, hF.block _ (by omega) (fun h => h), hF.block _ (by omega) (fun h => h), hF.block _ (by omega) (fun h => h)⟩)
      have c0 := hJ1.r0.cell 0
      have c1 := hJ1.r1.cell 0
      have f0 := hJ1.r0.frozen 0
      have f1 := hJ1.r1.frozen 0
      simp only [List.getElem?_toArray, List.getElem?_cons_zero] at c0 c1
      have HJ1 := Lib.hid hJ1
      rcases hn with ⟨hok, rfl, _⟩ | ⟨hno, rfl, _⟩
      · have HOK := Lib.hid hok
        clear hok hJ1 c0 c1 f0 f1
        obtain ⟨v, hv, ho⟩ := HJ1.out.p
        have hm := HJ1.out.m
        have hlen : pre.length ≤ 1001 := by
          obtain ⟨rest, hr⟩ := HR.out
          have h1 := congrArg List.length hr
          have h2 := splitD_len 46 s.data.toList
          simp at h1
          omega
        have cm := hm.cell 0
        have fm := hm.frozen 0
        simp only [List.getElem?_toArray, List.getElem?_cons_zero] at cm
        obtain ⟨wm, hwm⟩ : ∃ wm, w1.setCell ⟨w.heap.size + 1 + 1 + 1, 0, none⟩ (.int .i64 ((pre.length : Int) + 1)) = wm := ⟨_, rfl⟩
        have hmm : Blk wm (w.heap.size + 3) 3 #[.int .i64 ((pre.length : Int) + 1)] := by rw [← hwm]; exact hm.set_ 0 _
        have hFm : Fr (fun i => i = w.heap.size + 3) w1 wm := by rw [← hwm]; exact (Fr.refl (fun i => i = w.heap.size + 3) w1).setCell (p := ⟨w.heap.size + 1 + 1 + 1, 0, none⟩) (.inl rfl) _
        have hvm := hv.fr hFm (by omega)
        have hom := own_fr' ho hFm (fun g hg => by have := own_low' ho g hg; omega)
        have hm0 := HJ1.out.r0.fr hFm (by omega)
        have hm1 := HJ1.out.r1.fr hFm (by omega)
        have hszm : w.heap.size + 5 + 2 ≤ wm.heap.size := by have := hFm.size; omega
        have cmm := hmm.cell 0
        have cpp := hvm.cell 0
        simp only [List.getElem?_toArray, List.getElem?_cons_zero] at cmm cpp
        have HMM := Lib.hid hmm
        have HVM := Lib.hid hvm
        have HOM := Lib.hid hom
        have HM0 := Lib.hid hm0
        have HM1 := Lib.hid hm1
        have HFM := Lib.hid hFm
        clear hmm hvm hom hm0 hm1 hFm hm hv ho
        by_cases h30 : pre.length < 30
        · have hmin : min pre.length 30 = pre.length := by omega
          rw [hmin] at HOM
          have h31 : (pre.length : Int) + 1 ≤ 30 := by omega
          clear hmin
          have HW : Hid (∀ v' w' a, w'.ownsRow (w.heap.size + 5 + 2) 3 1 v' (pre.length + 1) (ic ((pre.map valP).take 30) ++ [.int .i64 (figV (fgs x))]) → (wm.alloc (.cells #[.int .i64 (figV (fgs x))] 3)).grownBy w' v.ownBlock →
              Blk w' (w.heap.size + 2) 22 #[v] ∧ rndPost (Kp3 (w.heap.size + 4) (w.heap.size + 5) (w.heap.size + 5 + 1)) (JR w (w.heap.size + 5) (pre ++ [x])) (JX w s.data.toList) W .normal a (w'.setCell ⟨w.heap.size + 1 + 1, 0, none⟩ v')) := Lib.hid (by
            intro v' w' a hown' hg'
            have low : ∀ i, some i = v.ownBlock → w.heap.size + 5 + 2 ≤ i := fun i hi => own_low' HOM.out i hi.symm
            have hFa : Fr (fun i => some i = v.ownBlock) wm w' := ((Fr.refl _ wm).alloc _).trans (Fr.grown hg')
            have bv : Blk w' (w.heap.size + 2) 22 #[v] := HVM.out.fr hFa (fun h => by have := low _ h; omega)
            have hFz : Fr (fun i => i = w.heap.size + 2) w' (w'.setCell ⟨w.heap.size + 1 + 1, 0, none⟩ v') := (Fr.refl (fun i => i = w.heap.size + 2) w').setCell (p := ⟨w.heap.size + 1 + 1, 0, none⟩) (.inl rfl) _
            have hs1 := hFa.size
            have keep : ∀ j, w.heap.size + 4 ≤ j → j < w.heap.size + 7 → (w'.setCell ⟨w.heap.size + 1 + 1, 0, none⟩ v').heap[j]? = w1.heap[j]? := fun j h1 h2 =>
              (hFz.block j (by omega) (by omega)).trans ((hFa.block j (by omega) (fun h => by have := low _ h; omega)).trans (HFM.out.block j (by omega) (by omega)))
            obtain ⟨k0, k1, k2, k3⟩ := HK1.out
            refine ⟨bv, ⟨Nat.le_trans k0 (Nat.le_trans HFM.out.size (Nat.le_trans hs1 hFz.size)), (keep _ (by omega) (by omega)).trans k1, (keep _ (by omega) (by omega)).trans k2, (keep _ (by omega) (by omega)).trans k3⟩, ?_⟩
            refine ⟨(HM0.out.fr hFa (fun h => by have := low _ h; omega)).fr hFz (by omega), (HM1.out.fr hFa (fun h => by have := low _ h; omega)).fr hFz (by omega), ⟨v', bv.set_ 0 v', ?_⟩, ?_, ?_, ?_⟩
            · rw [show min (pre ++ [x]).length 30 = pre.length + 1 by simp; omega]
              have e : ic (((pre ++ [x]).map valP).take 30) = ic ((pre.map valP).take 30) ++ [.int .i64 (figV (fgs x))] := by
                rw [List.take_of_length_le (by simp; omega), List.take_of_length_le (by simp; omega), List.map_append]
                simp [ic, valP]
              rw [e]
              exact own_fr' hown' hFz (fun g hg => by have := own_low' hown' g hg; omega)
            · have := (HMM.out.fr hFa (fun h => by have := low _ h; omega)).fr hFz (by omega)
              rw [show ((pre ++ [x]).length : Int) = (pre.length : Int) + 1 by simp]
              exact this
            · intro q hq
              rcases List.mem_append.1 hq with hq | hq
              · exact HJ1.out.ok q hq
              · rw [List.mem_singleton.1 hq]; exact HOK.out
            · exact ((HJ1.out.fr.then HFM.out (fun i hi => .inr (by omega))).then hFa (fun i hi => .inr (by have := low _ hi; omega))).then hFz (fun i hi => .inr (by omega)))
          have hnb : (wm.alloc (.cells #[.int .i64 (figV (fgs x))] 3)).heap[wm.heap.size]? = some (.cells #[.int .i64 (figV (fgs x))] 3) := heap_alloc_new _ _
          have HNB := Lib.hid hnb
          clear hnb
          obtain ⟨i0, hi, hi2⟩ := Option.map_eq_some_iff.1 info_int
          simp only [Prod.mk.injEq] at hi2
          gi_wp2_with (first
            | (gi_at_builtin; refine wpListIn_append_own _ rfl _ _ 22 rfl (w.heap.size + 5 + 2) 3 i0 (.int .i64 0) 1 8 Tryd.underlying22 hi hi2.1 hi2.2.1 hi2.2.2 rfl (by decide) _ pre.length _ rfl (own_fr' HOM.out ((Fr.refl None' _).alloc _) (fun _ _ h => h)) ⟨wm.heap.size, 0, none⟩ 1 1 [.int .i64 (figV (fgs x))] rfl rfl (fun i u hi => World.news_of_block HNB.out i u hi) (by simp [Value.oneCell']) (by unfold maxLen; omega) (by omega) (by simp; omega) ?_; intro v' w' hown' hg' _; obtain ⟨A', cc', rfl⟩ := own_slice' hown'; have HGD := Lib.hid (HW.out _ w' { tmps := #[], defers := [] } hown' hg'); have cz := HGD.out.1.cell 0; have fz := HGD.out.1.frozen 0; clear hown' hg'; simp only [List.getElem?_toArray, List.getElem?_cons_zero] at cz)
            | (rw [Oper.semAt_eq _ _ _ (fun c h => by cases h)]; go_simp; try go_bits))
          exact HGD.out.2
        · gi_wp2_with (rw [Oper.semAt_eq _ _ _ (fun c h => by cases h)]; go_simp; try go_bits)
          have keep : ∀ j, w.heap.size + 4 ≤ j → j < w.heap.size + 7 → wm.heap[j]? = w1.heap[j]? := fun j h1 h2 => HFM.out.block j (by omega) (by omega)
          obtain ⟨k0, k1, k2, k3⟩ := HK1.out
          refine ⟨⟨Nat.le_trans k0 HFM.out.size, (keep _ (by omega) (by omega)).trans k1, (keep _ (by omega) (by omega)).trans k2, (keep _ (by omega) (by omega)).trans k3⟩, HM0.out, HM1.out, ⟨v, HVM.out, ?_⟩, ?_, ?_, ?_⟩
          · rw [show min (pre ++ [x]).length 30 = min pre.length 30 by simp; omega, List.map_append, List.take_append_of_le_length (by simp; omega)]
            exact HOM.out
          · rw [show ((pre ++ [x]).length : Int) = (pre.length : Int) + 1 by simp]
            exact HMM.out
          · intro q hq
            rcases List.mem_append.1 hq with hq | hq
            · exact HJ1.out.ok q hq
            · rw [List.mem_singleton.1 hq]; exact HOK.out
          · exact HJ1.out.fr.then HFM.out (fun i hi => .inr (by omega))
      · have HNO := Lib.hid hno
        clear hno hJ1
        gi_wp2_with (rw [Oper.semAt_eq _ _ _ (fun c h => by cases h)]; go_simp; try go_bits)
        have hfr : Fr (fun i => i = w.heap.size ∨ i = w.heap.size + 1) w1 ((w1.setCell ⟨w.heap.size, 0, none⟩ (.slice none 0 0)).setCell ⟨w.heap.size + 1, 0, none⟩ (.int .i64 4)) :=
          ((Fr.refl _ w1).setCell (.inl (.inl rfl)) _).setCell (.inl (.inr rfl)) _
        refine ⟨?_, ?_, ?_, ?_, ?_⟩
        · obtain ⟨k0, k1, k2, k3⟩ := HK1.out
          exact ⟨Nat.le_trans k0 hfr.size, (hfr.block _ (by omega) (by omega)).trans k1, (hfr.block _ (by omega) (by omega)).trans k2, (hfr.block _ (by omega) (by omega)).trans k3⟩
        · exact (HJ1.out.r0.set_ 0 _).far (by show w.heap.size ≠ w.heap.size + 1; omega) _
        · exact (HJ1.out.r1.far (by show w.heap.size + 1 ≠ w.heap.size; omega) _).set_ 0 _
        · obtain ⟨rest, hr⟩ := HR.out
          intro h
          exact HNO.out (h x (by rw [← hr]; simp))
        · exact HJ1.out.fr.then hfr (fun i hi => .inr (by omega))
    case hdn =>
      intro W hj hK
      rw [hz2] at hj hK ⊢
      have HJ := Lib.hid hj
      have HK := Lib.hid hK
      obtain ⟨v, hv, ho⟩ := hj.p
      have c0 := hj.r0.cell 0
      have c1 := hj.r1.cell 0
      have f0 := hj.r0.frozen 0
      have f1 := hj.r1.frozen 0
      have cp := hv.cell 0
      have cm := hj.m.cell 0
      simp only [List.getElem?_toArray, List.getElem?_cons_zero] at c0 c1 cp cm
      have hsl2 := splitD_len 46 s.data.toList
      obtain ⟨ps, hps⟩ : ∃ ps, splitD 46 s.data.toList = ps := ⟨_, rfl⟩
      have HRD : Hid (readL s.data.toList = if 30 < ps.length then ([], 3) else (ps.map valP, 0)) := Lib.hid (by
        unfold readL
        rw [if_neg HNE.out, if_pos HJ.out.ok, hps]
        rfl)
      rw [hps] at hsl2 cm
      have HO : Hid (W.ownsRow (w.heap.size + 5 + 2) 3 1 v (min ps.length 30) (ic ((ps.map valP).take 30))) := Lib.hid (by rw [← hps]; exact ho)
      clear hj hK ho hps
      by_cases h30 : 30 < ps.length
      · have h31 : (30 : Int) < (ps.length : Int) := by omega
        rw [if_pos h30] at HRD
        gi_wp2
        have hFz : Fr (fun i => i = w.heap.size ∨ i = w.heap.size + 1) W ((W.setCell ⟨w.heap.size, 0, none⟩ (.slice none 0 0)).setCell ⟨w.heap.size + 1, 0, none⟩ (.int .i64 3)) := ((Fr.refl _ W).setCell (.inl (.inl rfl)) _).setCell (.inl (.inr rfl)) _
        have b0 : Blk ((W.setCell ⟨w.heap.size, 0, none⟩ (.slice none 0 0)).setCell ⟨w.heap.size + 1, 0, none⟩ (.int .i64 3)) w.heap.size 22 #[.slice none 0 0] := (HJ.out.r0.set_ 0 _).far (by show w.heap.size ≠ w.heap.size + 1; omega) _
        have b1 : Blk ((W.setCell ⟨w.heap.size, 0, none⟩ (.slice none 0 0)).setCell ⟨w.heap.size + 1, 0, none⟩ (.int .i64 3)) (w.heap.size + 1) 26 #[.int .i64 3] := (HJ.out.r1.far (by show w.heap.size + 1 ≠ w.heap.size; omega) _).set_ 0 _
        generalize (W.setCell ⟨w.heap.size, 0, none⟩ (.slice none 0 0)).setCell ⟨w.heap.size + 1, 0, none⟩ (.int .i64 3) = Wz at hFz b0 b1 ⊢
        have hK4 : Wz.heap[w.heap.size + 5]? = some (.deferred (some [])) := (hFz.block _ (Array.getElem?_eq_some_iff.1 HK.out).1 (by omega)).trans HK.out
        refine ⟨by simp, .inl ⟨_, _, rfl, run_takeDeferred hK4, ?_⟩⟩
        have d0 : Blk (Wz.putObj (w.heap.size + 5) (.deferred none)) w.heap.size 22 #[.slice none 0 0] := (World.putObj_heap_other (by omega)).trans b0
        have d1 : Blk (Wz.putObj (w.heap.size + 5) (.deferred none)) (w.heap.size + 1) 26 #[.int .i64 3] := (World.putObj_heap_other (by omega)).trans b1
        have e0 := d0.cell 0
        have e1 := d1.cell 0
        refine ⟨.tuple #[.slice none 0 0, .int .i64 3], by simp [results, Tryd.f14, go_sem, e0, e1], none, 0, 0, by rw [HRD.out], by rw [HRD.out]; exact Ints.nil, ?_⟩
        exact (HJ.out.fr.then hFz (fun i hi => .inr (by omega))).then (put_fr Wz (w.heap.size + 5) _ (fun i => i = w.heap.size + 5) rfl) (fun i hi => .inr (by omega))
      · have h31 : ¬ (30 : Int) < (ps.length : Int) := by omega
        rw [if_neg h30] at HRD
        rw [show min ps.length 30 = ps.length by omega, List.take_of_length_le (by simp; omega)] at HO
        obtain ⟨A, c, rfl⟩ := own_slice' HO.out
        gi_wp2
        have hFz : Fr (fun i => i = w.heap.size ∨ i = w.heap.size + 1) W ((W.setCell ⟨w.heap.size, 0, none⟩ (.slice A ps.length c)).setCell ⟨w.heap.size + 1, 0, none⟩ (.int .i64 0)) := ((Fr.refl _ W).setCell (.inl (.inl rfl)) _).setCell (.inl (.inr rfl)) _
        have b0 : Blk ((W.setCell ⟨w.heap.size, 0, none⟩ (.slice A ps.length c)).setCell ⟨w.heap.size + 1, 0, none⟩ (.int .i64 0)) w.heap.size 22 #[.slice A ps.length c] := (HJ.out.r0.set_ 0 _).far (by show w.heap.size ≠ w.heap.size + 1; omega) _
        have b1 : Blk ((W.setCell ⟨w.heap.size, 0, none⟩ (.slice A ps.length c)).setCell ⟨w.heap.size + 1, 0, none⟩ (.int .i64 0)) (w.heap.size + 1) 26 #[.int .i64 0] := (HJ.out.r1.far (by show w.heap.size + 1 ≠ w.heap.size; omega) _).set_ 0 _
        generalize (W.setCell ⟨w.heap.size, 0, none⟩ (.slice A ps.length c)).setCell ⟨w.heap.size + 1, 0, none⟩ (.int .i64 0) = Wz at hFz b0 b1 ⊢
        have hK4 : Wz.heap[w.heap.size + 5]? = some (.deferred (some [])) := (hFz.block _ (Array.getElem?_eq_some_iff.1 HK.out).1 (by omega)).trans HK.out
        refine ⟨by simp, .inl ⟨_, _, rfl, run_takeDeferred hK4, ?_⟩⟩
        have d0 : Blk (Wz.putObj (w.heap.size + 5) (.deferred none)) w.heap.size 22 #[.slice A ps.length c] := (World.putObj_heap_other (by omega)).trans b0
        have d1 : Blk (Wz.putObj (w.heap.size + 5) (.deferred none)) (w.heap.size + 1) 26 #[.int .i64 0] := (World.putObj_heap_other (by omega)).trans b1
        have hFd := put_fr Wz (w.heap.size + 5) (.deferred none) (fun i => i = w.heap.size + 5) rfl
        have hOd := own_fr' (own_fr' HO.out hFz (fun g hg => by have := own_low' HO.out g hg; omega)) hFd (fun g hg => by have := own_low' HO.out g hg; omega)
        have e0 := d0.cell 0
        have e1 := d1.cell 0
        refine ⟨.tuple #[.slice A ps.length c, .int .i64 0], by simp [results, Tryd.f14, go_sem, e0, e1], A, ps.length, c, by rw [HRD.out], by rw [HRD.out]; exact Ints.of_own hOd, ?_⟩
        exact (HJ.out.fr.then hFz (fun i hi => .inr (by omega))).then hFd (fun i hi => .inr (by omega))
    case hst =>
      intro W hj hK
      rw [hz2] at hK ⊢
      have HJ := Lib.hid hj
      have HK := Lib.hid hK
      have HRD : Hid (readL s.data.toList = ([], 4)) := Lib.hid (by
        unfold readL
        rw [if_neg HNE.out, if_neg HJ.out.bad])
      clear hj hK
      gi_wp2
      refine ⟨by simp, .inl ⟨_, _, rfl, run_takeDeferred HK.out, ?_⟩⟩
      have d0 : Blk (W.putObj (w.heap.size + 5) (.deferred none)) w.heap.size 22 #[.slice none 0 0] := (World.putObj_heap_other (by omega)).trans HJ.out.r0
      have d1 : Blk (W.putObj (w.heap.size + 5) (.deferred none)) (w.heap.size + 1) 26 #[.int .i64 4] := (World.putObj_heap_other (by omega)).trans HJ.out.r1
      have e0 := d0.cell 0
      have e1 := d1.cell 0
      refine ⟨.tuple #[.slice none 0 0, .int .i64 4], by simp [results, Tryd.f14, go_sem, e0, e1], none, 0, 0, by rw [HRD.out], by rw [HRD.out]; exact Ints.nil, ?_⟩
      exact HJ.out.fr.then (put_fr W (w.heap.size + 5) _ (fun i => i = w.heap.size + 5) rfl) (fun i hi => .inr (by omega))

theorem read_any (w : World) (s : ByteArray) (hs : s.size ≤ 1000) : Calls Tryd.prog 14 #[.string s] w (ReadPost w s.data.toList) := callsIn_wide.1 (read_in w s hs)
end Go.Proofs.YtafchncdolagdaaDoor
