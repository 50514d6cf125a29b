/-
  What Check comes to: the first thing that is wrong, and where.
-/
import Derived.Test.YtbhnnnpofindiaaDoorVone
import Derived.Defers
import Derived.Recover
namespace Go.Proofs.YtbhnnnpofindiaaDoor
open Go.RowKit

/-- What the checker comes to with a program. -/
def APost (w : World) (p : Nat) (q : Nat × Nat × Int) (r : Ending) (w' : World) : Prop :=
  (q = (0, 0, 0) ∧ r = .returned (.tuple #[]) ∧ Fr (At p) w w') ∨ (q.2.2 ≠ 0 ∧ r = fault q.1 q.2.1 q.2.2 ∧ Fr (At p) w w')

theorem chk_long {fs : List Fn} (h : ¬ (1 ≤ fs.length ∧ fs.length ≤ 16)) : chk fs = (0, 0, 3) := by unfold chk; rw [if_neg h]
theorem chk_fns {fs : List Fn} (h : 1 ≤ fs.length ∧ fs.length ≤ 16) : chk fs = fnsE fs 0 fs := by unfold chk; rw [if_pos h]
theorem fns_at {L : List LFn} {k : Nat} {y : LFn} (h : L[k]? = some y) : (fns L)[k]? = some y.f := by simp [fns, List.getElem?_map, h]
theorem fns_take (L : List LFn) (k : Nat) : (fns L).take k = fns (L.take k) := by simp [fns, List.map_take]

set_option maxHeartbeats 8000000 in
set_option maxRecDepth 100000 in
theorem all_any (w : World) (p : Nat) (A : Option Addr) (c : Nat) (L : List LFn) (hC : CkIs w p A L.length c 0 0 0) (hR : FnRow w (fun b => b < w.heap.size ∧ b ≠ p) A L) (hT : FieldsAt w) (hp : p ≠ 0) (hL : L.length < 1000000) :
    Calls Tryd.prog 50 #[.pointer (some ⟨p, 0, none⟩)] w (APost w p (chk (fns L))) := by
  have c0 : w.cell? ⟨p, 0, none⟩ = some (.slice A L.length c) := by rw [Blk.cell hC]; rfl
  have HC := Lib.hid hC
  have HR := Lib.hid hR
  have HT := Lib.hid hT
  clear hC hR hT
  go_enter Tryd.func50, Tryd.ntmps50
  go_wp2_with fail
  refine (within_any _ p A L.length c 0 0 0 3 HC.out (by decide) L.length 1 17).mono ?_
  rintro r w1 (⟨h0, rfl, hF1⟩ | ⟨h0, rfl, hF1⟩)
  · have hl := rngE_zero (by decide) h0
    have HL : Hid (chk (fns L) = fnsE (fns L) 0 (fns L)) := Lib.hid (chk_fns (by rw [fns_length]; omega))
    have HC1 : Hid (CkIs w1 p A L.length c 0 0 0) := Lib.hid (Blk.fr HC.out hF1 (fun h => h))
    have c1 : w1.cell? ⟨p, 0, none⟩ = some (.slice A L.length c) := by rw [Blk.cell HC1.out]; rfl
    have HF1 := Lib.hid hF1
    clear h0 hl hF1 c0
    go_wp2_with fail
    go_loopw [16] (fun i wx => ∃ k : Nat, k ≤ L.length ∧ i = .int .i64 k ∧ Hid (∀ z ∈ (fns L).take k, (fnE (fns L) z).2 = 0) ∧ (∃ f' i', CkIs wx p A L.length c f' i' 0) ∧ Fr (At p) w wx) (fun i _ => L.length - (intOf i).toNat)
    case atStart => exact ⟨0, by omega, rfl, Lib.hid (fun z hz => by simp at hz), ⟨_, _, HC1.out⟩, HF1.out.none⟩
    case round =>
      obtain ⟨k, hk, rfl, HU, ⟨f', i', hCk⟩, hFk⟩ := hrel
      have HCk := Lib.hid hCk
      have HFk := Lib.hid hFk
      have hRk := HR.out.far HFk.out
      have HRk := Lib.hid hRk
      have hpl2 : p < wr.heap.size := Blk.lt hCk
      clear hCk hFk hRk c1
      by_cases hkl : k < L.length
      · obtain ⟨y, hy⟩ : ∃ y, L[k]? = some y := ⟨_, List.getElem?_eq_getElem hkl⟩
        have HY := Lib.hid hy
        obtain ⟨b, off, rfl, hbq, d0, d1, hI⟩ := HRk.out.at_ hy
        have HI := Lib.hid hI
        have g1 : wr.cell? ⟨p, 1, none⟩ = some (.int .i64 f') := by rw [Blk.cell HCk.out]; rfl
        have g2 : wr.cell? ⟨p, 2, none⟩ = some (.int .i64 i') := by rw [Blk.cell HCk.out]; rfl
        have g3 : wr.cell? ⟨p, 3, none⟩ = some (.int .i64 0) := by rw [Blk.cell HCk.out]; rfl
        have f1 := Blk.frozen HCk.out 1
        have f2 := Blk.frozen HCk.out 2
        have f3 := Blk.frozen HCk.out 3
        clear hy hI
        go_wp2_with fail
        have hC2 : CkIs ((((wr.setCell ⟨p, 1, none⟩ (.int .i64 k)).setCell ⟨p, 2, none⟩ (.int .i64 0)).setCell ⟨p, 3, none⟩ (.int .i64 0)).alloc (.cells #[.int .i64 y.f.arity, .slice y.A y.f.code.length y.c] 58)) p (some ⟨b, off, none⟩) L.length c k 0 0 := by
          have := (((Blk.set_ HCk.out 1 (.int .i64 k)).set_ 2 (.int .i64 0)).set_ 3 (.int .i64 0)).alloc (.cells #[.int .i64 y.f.arity, .slice y.A y.f.code.length y.c] 58)
          simpa [CkIs] using this
        have hF3 : Fr (At p) w ((((wr.setCell ⟨p, 1, none⟩ (.int .i64 k)).setCell ⟨p, 2, none⟩ (.int .i64 0)).setCell ⟨p, 3, none⟩ (.int .i64 0)).alloc (.cells #[.int .i64 y.f.arity, .slice y.A y.f.code.length y.c] 58)) := (((HFk.out.setCell (p := ⟨p, 1, none⟩) (.inl rfl) _).setCell (p := ⟨p, 2, none⟩) (.inl rfl) _).setCell (p := ⟨p, 3, none⟩) (.inl rfl) _).alloc _
        have hF4 : Fr (At p) wr ((((wr.setCell ⟨p, 1, none⟩ (.int .i64 k)).setCell ⟨p, 2, none⟩ (.int .i64 0)).setCell ⟨p, 3, none⟩ (.int .i64 0)).alloc (.cells #[.int .i64 y.f.arity, .slice y.A y.f.code.length y.c] 58)) := ((((Fr.refl (At p) wr).setCell (p := ⟨p, 1, none⟩) (.inl rfl) _).setCell (p := ⟨p, 2, none⟩) (.inl rfl) _).setCell (p := ⟨p, 3, none⟩) (.inl rfl) _).alloc _
        refine (one_any _ p _ c k L hC2 (HR.out.far hF3) (HT.out.fr hF3 (fun h => hp h.symm)) hp y.f y.A y.c (HI.out.far hF4)).mono ?_
        rintro r w3 (⟨h0, rfl, hC3, hF5⟩ | ⟨h0, rfl, hF5⟩)
        · have HU' : Hid (∀ z ∈ (fns L).take (k + 1), (fnE (fns L) z).2 = 0) := Lib.hid (by
            rw [take_snoc _ k y.f (fns_at HY.out)]
            intro u hu
            rcases List.mem_append.1 hu with hu | hu
            · exact HU.out u hu
            · rw [List.mem_singleton.1 hu]; exact h0)
          have HC3 := Lib.hid hC3
          have H3 := Lib.hid (hF3.trans hF5)
          clear h0 hC2 hF3 hF4 hF5 hC3
          go_wp2_with fail
          obtain ⟨i2, hi2⟩ := HC3.out
          exact ⟨⟨k + 1, by omega, by go_num, HU', ⟨_, _, hi2⟩, H3.out⟩, by simp [intOf]; omega⟩
        · have hN := fnsE_bad (fns L) (fns L) 0 k y.f (fns_at HY.out) HU.out h0
          rw [Nat.zero_add] at hN
          have HN := Lib.hid (HL.out.trans hN)
          have H0 := Lib.hid h0
          have H3 := Lib.hid (hF3.trans hF5)
          clear h0 hC2 hF3 hF4 hF5 hN
          go_wp2_with fail
          exact ⟨rfl, .inr ⟨by rw [HN.out]; exact H0.out, by rw [HN.out], H3.out⟩⟩
      · obtain rfl : k = L.length := by omega
        have HO : Hid (chk (fns L) = (0, 0, 0)) := Lib.hid (by rw [HL.out]; exact fnsE_ok _ _ _ (by have := HU.out; rw [List.take_of_length_le (by rw [fns_length]; omega)] at this; exact this))
        go_wp2_with fail
        go_end0
        exact .inl ⟨HO.out, rfl, HFk.out⟩
  · have HN : Hid (chk (fns L) = (0, 0, 3)) := Lib.hid (chk_long (fun h => h0 (rngE_in (by rw [fns_length] at h; omega) (by rw [fns_length] at h; omega))))
    have H3 := Lib.hid (rngE_out (fun h : 1 ≤ (L.length : Int) ∧ (L.length : Int) < 17 => h0 (rngE_in h.1 h.2)) : rngE 1 17 3 L.length = 3)
    clear h0
    go_wp2_with fail
    exact ⟨rfl, .inr ⟨by rw [HN.out]; decide, by rw [HN.out, H3.out]; rfl, hF1⟩⟩

set_option maxHeartbeats 2000000 in
set_option maxRecDepth 100000 in
theorem vcatch_panicking (b1 b2 b3 : Nat) (v1 v2 v3 : Value) (f i e : Int) (older : List PanicEntry) (w : World) (h12 : b1 ≠ b2) (h13 : b1 ≠ b3) (h23 : b2 ≠ b3) (B1 : Blk w b1 3 #[v1]) (B2 : Blk w b2 3 #[v2]) (B3 : Blk w b3 31 #[v3]) :
    CallsD Tryd.prog 49 #[.pointer (some ⟨b1, 0, none⟩), .pointer (some ⟨b2, 0, none⟩), .pointer (some ⟨b3, 0, none⟩)] (.panicking ({ v := .iface 109 (.agg #[.int .i64 f, .int .i64 i, .int .i64 e]), recovered := false } :: older)) w fun r u' w' =>
      r = .returned (.tuple #[]) ∧ u' = .panicking ({ v := .iface 109 (.agg #[.int .i64 f, .int .i64 i, .int .i64 e]), recovered := true } :: older) ∧ w'.cell? ⟨b1, 0, none⟩ = some (.int .i64 f) ∧ w'.cell? ⟨b2, 0, none⟩ = some (.int .i64 i) ∧ w'.cell? ⟨b3, 0, none⟩ = some (.int .i64 e) ∧ Fr (fun k => k = b1 ∨ k = b2 ∨ k = b3) w w' := by
  have l1 := B1.lt
  have l2 := B2.lt
  have l3 := B3.lt
  have hc1 : w.cell? ⟨b1, 0, none⟩ = some v1 := by rw [B1.cell]; rfl
  have hc2 : w.cell? ⟨b2, 0, none⟩ = some v2 := by rw [B2.cell]; rfl
  have hc3 : w.cell? ⟨b3, 0, none⟩ = some v3 := by rw [B3.cell]; rfl
  have hz1 := B1.frozen 0
  have hz2 := B2.frozen 0
  have hz3 := B3.frozen 0
  have H1 := Lib.hid B1
  have H2 := Lib.hid B2
  have H3 := Lib.hid B3
  clear B1 B2 B3
  have hta : ∀ W : World, (Instr.typeAssert (.iface 109 (.agg #[.int .i64 f, .int .i64 i, .int .i64 e])) 20 109 false).run Tryd.prog W = .ok (.agg #[.int .i64 f, .int .i64 i, .int .i64 e]) W := fun _ => by kernel_rfl
  refine callsD_of_wpS Tryd.func49 rfl fun c₀ cs hu => ?_
  apply wpS_seq
  apply wpS_region
  simp [wpOpsS, go_sem, recoverD, hu, Tryd.ntmps49, Exit.thenS]
  refine wpS_of_wp ?_
  change Code.wp _ _ _ { tmps := #[.pointer (some ⟨b1, 0, none⟩), .pointer (some ⟨b2, 0, none⟩), .pointer (some ⟨b3, 0, none⟩), .iface 109 (.agg #[.int .i64 f, .int .i64 i, .int .i64 e]), undef, .iface 109 (.agg #[.int .i64 f, .int .i64 i, .int .i64 e]), undef, undef, undef, undef, undef, undef, undef, undef, undef, undef], defers := [] } _
  go_wp2
  go_region
  all_goals go_wp2
  all_goals simp [bodyPostS, results, Tryd.results49]
  refine ⟨?_, ?_, ?_, ?_⟩
  · rw [((((H1.out.set_ 0 _).far (p := ⟨b2, 0, none⟩) h12 _).far (p := ⟨b3, 0, none⟩) h13 _).alloc _).cell]; rfl
  · rw [((((H2.out.far (p := ⟨b1, 0, none⟩) h12.symm _).set_ 0 _).far (p := ⟨b3, 0, none⟩) h23 _).alloc _).cell]; rfl
  · rw [((((H3.out.far (p := ⟨b1, 0, none⟩) h13.symm _).far (p := ⟨b2, 0, none⟩) h23.symm _).set_ 0 _).alloc _).cell]; rfl
  · exact (((((Fr.refl _ w).setCell (p := ⟨b1, 0, none⟩) (.inl (.inl rfl)) _).setCell (p := ⟨b2, 0, none⟩) (.inl (.inr (.inl rfl))) _).setCell (p := ⟨b3, 0, none⟩) (.inl (.inr (.inr rfl))) _).alloc _).drew

theorem vcatch_idle (a1 a2 a3 : Addr) (w : World) :
    CallsD Tryd.prog 49 #[.pointer (some a1), .pointer (some a2), .pointer (some a3)] .returning w fun e u' w' => e = .returned (.tuple #[]) ∧ u' = .returning ∧ w' = w := by
  refine callsD_of_wpS Tryd.func49 rfl fun c₀ cs hu => ?_
  apply wpS_seq
  apply wpS_region
  simp [wpOpsS, go_sem, recoverD, hu, Tryd.ntmps49, Exit.thenS]
  refine wpS_of_wp ?_
  change Code.wp _ _ _ { tmps := #[.pointer (some a1), .pointer (some a2), .pointer (some a3), .nilIface, undef, .nilIface, undef, undef, undef, undef, undef, undef, undef, undef, undef, undef], defers := [] } _
  go_wp2
  cases c₀
  simp_all [bodyPostS, results, Tryd.results49]

/-- What Check comes to. -/
def CkPost (w : World) (q : Nat × Nat × Int) (r : Ending) (w' : World) : Prop := r = .returned (.tuple #[.int .i64 q.1, .int .i64 q.2.1, .int .i64 q.2.2]) ∧ Fr None' w w'

abbrev ckW (w : World) (A : Option Addr) (n c : Nat) : World := (((w.alloc (.cells #[.int .i64 0] 3)).alloc (.cells #[.int .i64 0] 3)).alloc (.cells #[.int .i64 0] 31)).alloc (.cells #[.slice A n c, .int .i64 0, .int .i64 0, .int .i64 0] 112)
theorem ck_start (w : World) (A : Option Addr) (n c : Nat) : CkIs (ckW w A n c) (w.heap.size + 1 + 1 + 1) A n c 0 0 0 ∧ Blk (ckW w A n c) w.heap.size 3 #[.int .i64 0] ∧ Blk (ckW w A n c) (w.heap.size + 1) 3 #[.int .i64 0] ∧ Blk (ckW w A n c) (w.heap.size + 1 + 1) 31 #[.int .i64 0] ∧ Fr None' w (ckW w A n c) := by
  refine ⟨?_, (((Blk.new w _ _).alloc _).alloc _).alloc _, ?_, ?_, ((((Fr.refl _ _).alloc _).alloc _).alloc _).alloc _⟩
  · have := Blk.new (((w.alloc (.cells #[.int .i64 0] 3)).alloc (.cells #[.int .i64 0] 3)).alloc (.cells #[.int .i64 0] 31)) 112 #[.slice A n c, .int .i64 0, .int .i64 0, .int .i64 0]
    simpa [CkIs] using this
  · have := ((Blk.new (w.alloc (.cells #[.int .i64 0] 3)) 3 #[.int .i64 0]).alloc (.cells #[.int .i64 0] 31)).alloc (.cells #[.slice A n c, .int .i64 0, .int .i64 0, .int .i64 0] 112)
    simpa using this
  · have := (Blk.new ((w.alloc (.cells #[.int .i64 0] 3)).alloc (.cells #[.int .i64 0] 3)) 31 #[.int .i64 0]).alloc (.cells #[.slice A n c, .int .i64 0, .int .i64 0, .int .i64 0] 112)
    simpa using this

set_option maxHeartbeats 8000000 in
set_option maxRecDepth 100000 in
theorem check_any (w : World) (A : Option Addr) (c : Nat) (L : List LFn) (hR : FnRow w (fun b => b < w.heap.size) A L) (hT : FieldsAt w) (hL : L.length < 1000000) :
    Calls Tryd.prog 27 #[.slice A L.length c] w (CkPost w (chk (fns L))) := by
  have hmf : ∀ (fn : Go.Fn) (first cap : Array Value) (w : World), (Instr.makeFunc fn first cap).run Tryd.prog w = .ok (.func fn first cap) w := fun _ _ _ _ => rfl
  have HR := Lib.hid hR
  have HT := Lib.hid hT
  clear hR hT
  have HST := Lib.hid (ck_start w A L.length c)
  go_enter_defers Tryd.func27, Tryd.ntmps27
  go_wp2_with fail
  obtain ⟨hC4, hB1, hB2, hB3, hF4⟩ := HST.out
  have h0 := HT.out.lt
  have hR4 : FnRow (ckW w A L.length c) (fun b => b < (ckW w A L.length c).heap.size ∧ b ≠ w.heap.size + 1 + 1 + 1) A L := (HR.out.fr hF4 (fun _ _ h => h)).mono (fun b hb => ⟨Nat.lt_of_lt_of_le hb hF4.size, by omega⟩)
  refine (all_any _ (w.heap.size + 1 + 1 + 1) A c L hC4 hR4 (HT.out.fr hF4 (fun h => h)) (by omega) hL).mono ?_
  rintro r w1 (⟨hq, rfl, hF1⟩ | ⟨hq, rfl, hF1⟩)
  · have HQ := Lib.hid hq
    have D1 := hB1.fr hF1 (show ¬ w.heap.size = w.heap.size + 1 + 1 + 1 by omega)
    have D2 := hB2.fr hF1 (show ¬ w.heap.size + 1 = w.heap.size + 1 + 1 + 1 by omega)
    have D3 := hB3.fr hF1 (show ¬ w.heap.size + 1 + 1 = w.heap.size + 1 + 1 + 1 by omega)
    have HF := Lib.hid (hF4.then hF1 (fun i hi => .inr (by have : i = w.heap.size + 1 + 1 + 1 := hi; omega)) : Fr None' w w1)
    have c1 : w1.cell? ⟨w.heap.size, 0, none⟩ = some (.int .i64 0) := by rw [D1.cell]; rfl
    have c2 : w1.cell? ⟨w.heap.size + 1, 0, none⟩ = some (.int .i64 0) := by rw [D2.cell]; rfl
    have c3 : w1.cell? ⟨w.heap.size + 1 + 1, 0, none⟩ = some (.int .i64 0) := by rw [D3.cell]; rfl
    have f1 := D1.frozen 0
    have f2 := D2.frozen 0
    have f3 := D3.frozen 0
    have E1 := Lib.hid D1
    have E2 := Lib.hid D2
    have E3 := Lib.hid D3
    clear hq hF1 hR4 hC4 hB1 hB2 hB3 hF4 HST HR HT D1 D2 D3
    go_wp2
    refine leaves_cons (f := 49) (args := #[.pointer (some ⟨w.heap.size, 0, none⟩), .pointer (some ⟨w.heap.size + 1, 0, none⟩), .pointer (some ⟨w.heap.size + 1 + 1, 0, none⟩)]) (by simp) (by simp [go_sem]) ?_
    refine (vcatch_idle _ _ _ _).mono ?_
    rintro e u' w'' ⟨rfl, rfl, rfl⟩
    have d1 : (((w1.setCell ⟨w.heap.size, 0, none⟩ (.int .i64 0)).setCell ⟨w.heap.size + 1, 0, none⟩ (.int .i64 0)).setCell ⟨w.heap.size + 1 + 1, 0, none⟩ (.int .i64 0)).cell? ⟨w.heap.size, 0, none⟩ = some (.int .i64 0) := by
      rw [(((E1.out.set_ 0 _).far (p := ⟨w.heap.size + 1, 0, none⟩) (by simp) _).far (p := ⟨w.heap.size + 1 + 1, 0, none⟩) (by simp only [ne_eq]; omega) _).cell]; rfl
    have d2 : (((w1.setCell ⟨w.heap.size, 0, none⟩ (.int .i64 0)).setCell ⟨w.heap.size + 1, 0, none⟩ (.int .i64 0)).setCell ⟨w.heap.size + 1 + 1, 0, none⟩ (.int .i64 0)).cell? ⟨w.heap.size + 1, 0, none⟩ = some (.int .i64 0) := by
      rw [(((E2.out.far (p := ⟨w.heap.size, 0, none⟩) (by simp) _).set_ 0 _).far (p := ⟨w.heap.size + 1 + 1, 0, none⟩) (by simp) _).cell]; rfl
    have d3 : (((w1.setCell ⟨w.heap.size, 0, none⟩ (.int .i64 0)).setCell ⟨w.heap.size + 1, 0, none⟩ (.int .i64 0)).setCell ⟨w.heap.size + 1 + 1, 0, none⟩ (.int .i64 0)).cell? ⟨w.heap.size + 1 + 1, 0, none⟩ = some (.int .i64 0) := by
      rw [(((E3.out.far (p := ⟨w.heap.size, 0, none⟩) (by simp only [ne_eq]; omega) _).far (p := ⟨w.heap.size + 1, 0, none⟩) (by simp) _).set_ 0 _).cell]; rfl
    refine ⟨.tuple #[.int .i64 0, .int .i64 0, .int .i64 0], ?_, ?_⟩
    · simp [results, Tryd.results27, go_sem, d1, d2, d3]
    · rw [HQ.out]
      exact ⟨rfl, ((HF.out.setCell (.inr (Nat.le_refl _)) _).setCell (.inr (by simp)) _).setCell (.inr (by simp only; omega)) _⟩
  · have D1 := hB1.fr hF1 (show ¬ w.heap.size = w.heap.size + 1 + 1 + 1 by omega)
    have D2 := hB2.fr hF1 (show ¬ w.heap.size + 1 = w.heap.size + 1 + 1 + 1 by omega)
    have D3 := hB3.fr hF1 (show ¬ w.heap.size + 1 + 1 = w.heap.size + 1 + 1 + 1 by omega)
    have HF := Lib.hid (hF4.then hF1 (fun i hi => .inr (by have : i = w.heap.size + 1 + 1 + 1 := hi; omega)) : Fr None' w w1)
    have E1 := Lib.hid D1
    have E2 := Lib.hid D2
    have E3 := Lib.hid D3
    obtain ⟨q, hqq⟩ : ∃ q, q = chk (fns L) := ⟨_, rfl⟩
    rw [← hqq]
    have HQ := Lib.hid hqq
    clear hq hqq hF1 hR4 hC4 hB1 hB2 hB3 hF4 HST HR HT D1 D2 D3
    go_wp2
    refine leaves_cons (f := 49) (args := #[.pointer (some ⟨w.heap.size, 0, none⟩), .pointer (some ⟨w.heap.size + 1, 0, none⟩), .pointer (some ⟨w.heap.size + 1 + 1, 0, none⟩)]) (by simp) (by simp [go_sem]) ?_
    refine (vcatch_panicking w.heap.size (w.heap.size + 1) (w.heap.size + 1 + 1) _ _ _ _ _ _ [] w1 (by omega) (by omega) (by omega) E1.out E2.out E3.out).mono ?_
    rintro e u' w'' ⟨rfl, rfl, d1, d2, d3, hF5⟩
    refine ⟨.tuple #[.int .i64 q.1, .int .i64 q.2.1, .int .i64 q.2.2], ?_, ?_⟩
    · simp only [results, Tryd.results27]
      simp [go_sem, d1, d2, d3]
    · exact ⟨rfl, HF.out.then hF5 (fun i hi => .inr (by rcases hi with h | h | h <;> omega))⟩
end Go.Proofs.YtbhnnnpofindiaaDoor
