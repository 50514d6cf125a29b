/-
  What the reader does with a function, and with a program.
-/
import Derived.Test.YtahojahplpcbiaaRea2
namespace Go.Proofs.Ytahojahplpcbiaa
open Go.RowKit

set_option maxHeartbeats 4000000 in
theorem rfn_any (w : World) (Q : Nat → Prop) (p : Nat) (bs : List Int) (hR : RdIs w Q p bs) :
    Calls Try.prog 26 #[.pointer (some ⟨p, 0, none⟩)] w fun e w' =>
      (∃ f r g, pFn bs = some (f, r) ∧ e = .returned (.agg #[.int .i64 f.arity, .slice (some ⟨g, 0, none⟩) f.code.length f.code.length]) ∧ Blk w' g 44 (f.code.flatMap Ins.cells).toArray ∧ w.heap.size ≤ g ∧ RdIs w' Q p r ∧ Fr (One p) w w') ∨
      (pFn bs = none ∧ e = short ∧ Fr (One p) w w') := by
  have hpl := fr_not hR
  have hnp : ¬ One p w.heap.size := fun h => by have : w.heap.size = p := h; omega
  have hX := Blk.new w 47 #[.int .i64 0, .slice none 0 0]
  have HX := Lib.hid hX
  clear hX
  cases bs with
  | nil =>
    go_enter Try.func26, Try.ntmps26
    go_wp2_with fail
    refine (rsmall_no _ Q p (hR.alloc _)).mono ?_
    rintro e w1 ⟨rfl, rfl⟩
    go_wp2_with fail
    exact ⟨rfl, .inr ⟨rfl, rfl, (Fr.refl _ _).alloc _⟩⟩
  | cons a r =>
    go_enter Try.func26, Try.ntmps26
    go_wp2_with fail
    refine (rsmall_ok _ Q p _ _ (hR.alloc _)).mono ?_
    rintro e w1 ⟨rfl, hR1, hF1⟩
    go_wp2_with fail
    refine (takeI_any w1 Q p r hR1).mono ?_
    rintro e w2 (⟨l, r2, g, hpc, rfl, hBg, hg, hR2, hF2⟩ | ⟨hpc, rfl, hF2⟩)
    · have hX2 := HX.out.fr (hF1.trans hF2) hnp
      have hgx : w.heap.size ≠ g := hX2.ne_ hBg (by decide)
      have c0 : w2.cell? ⟨w.heap.size, 0, none⟩ = some (.int .i64 0) := by rw [hX2.cell]; rfl
      have c1 : w2.cell? ⟨w.heap.size, 1, none⟩ = some (.slice none 0 0) := by rw [hX2.cell]; rfl
      have g0 := hX2.frozen 0
      have g1 := hX2.frozen 1
      have HPC := Lib.hid hpc
      clear hpc
      go_wp2_with fail
      refine bodyPost_ret (v := .agg #[.int .i64 a, .slice (some ⟨g, 0, none⟩) l.length l.length]) ?_ rfl (.inl ⟨⟨a, l⟩, r2, g, by simp only [pFn, HPC.out], rfl, ?_, ?_, ?_, ?_⟩)
      · simp [results, Try.results26, go_sem, c0, c1]
      · exact (hBg.far (p := ⟨w.heap.size, 0, none⟩) hgx.symm _).far (p := ⟨w.heap.size, 1, none⟩) hgx.symm _
      · have := hF1.size; simp at this; omega
      · exact hR2.fr (B := fun k => k = w.heap.size) (((Fr.refl (fun k => k = w.heap.size) w2).setCell (.inl rfl) _).setCell (.inl rfl) _) (fun h => by omega) (fun b' hb' h => by have := hR.low b' hb'; omega)
      · exact (((((Fr.refl (One p) w).alloc _).trans hF1).trans hF2).setCell (.inr (Nat.le_refl _)) _).setCell (.inr (Nat.le_refl _)) _
    · have HPC := Lib.hid hpc
      clear hpc
      go_wp2_with fail
      exact ⟨rfl, .inr ⟨by simp only [pFn, HPC.out], rfl, (((Fr.refl _ _).alloc _).trans hF1).trans hF2⟩⟩

def zeroF : LFn := ⟨⟨0, []⟩, none, 0⟩
theorem mod2 (n : Nat) : madeCells #[Value.int .i64 0, Value.slice none 0 0] (n * 2) = ((List.replicate n zeroF).flatMap LFn.cells).toArray := by
  apply Array.ext_getElem?
  intro i
  obtain ⟨k, j, rfl, hj⟩ : ∃ k j, i = k * 2 + j ∧ j < 2 := ⟨i / 2, i % 2, by omega, by omega⟩
  have hr : ∀ i : Nat, (((List.replicate n zeroF).flatMap LFn.cells).toArray)[i]? = ((List.replicate n zeroF).flatMap LFn.cells)[i]? := fun i => List.getElem?_toArray
  rw [hr]
  by_cases hk : k < n
  · have hx : (List.replicate n zeroF)[k]? = some zeroF := by rw [List.getElem?_replicate, if_pos hk]
    rw [flat_at LFn.cells 2 LFn.cells_length _ k j zeroF hx hj]
    have : (madeCells #[Value.int .i64 0, Value.slice none 0 0] (n * 2))[k * 2 + j]? = some (#[Value.int .i64 0, Value.slice none 0 0][(k * 2 + j) % 2]!) := by
      have : k * 2 + j < n * 2 := by omega
      simp [madeCells, this]
    rw [this]
    obtain rfl | rfl : j = 0 ∨ j = 1 := by omega
    · rw [show (k * 2 + 0) % 2 = 0 by omega]; rfl
    · rw [show (k * 2 + 1) % 2 = 1 by omega]; rfl
  · rw [List.getElem?_eq_none (by rw [flat_length LFn.cells 2 LFn.cells_length, List.length_replicate]; omega)]
    have : ¬ k * 2 + j < n * 2 := by omega
    simp [madeCells, this]
theorem make_fn (n : Nat) (hn : n ≤ 255) (w : World) : (Instr.makeSlice 28 (.int .i64 (n : Int)) (.int .i64 (n : Int))).run Try.prog w = .ok (.slice (some ⟨w.heap.size, 0, none⟩) n n) (w.alloc (.cells ((List.replicate n zeroF).flatMap LFn.cells).toArray 47)) := by
  have hr := run_make (P := Try.prog) w 28 47 _ (.agg #[.int .i64 0, .slice none 0 0]) Try.underlying28 rfl rfl .i64 .i64 (n : Int) (n : Int) (by omega) (by omega) (by show (32 : Int) * _ ≤ _; omega) (by omega)
  rw [hr]
  simp only [Int.toNat_natCast]
  rw [← mod2]
  rfl
theorem cells_set2 (l : List LFn) (k : Nat) (x : LFn) (hk : k < l.length) :
    ((l.flatMap LFn.cells).set (k * 2) (.int .i64 x.f.arity)).set (k * 2 + 1) (.slice x.A x.f.code.length x.c) = (l.set k x).flatMap LFn.cells := by
  induction l generalizing k with
  | nil => simp at hk
  | cons y r ih =>
    cases k with
    | zero => simp [List.flatMap_cons, LFn.cells]
    | succ k =>
      have e0 : (k + 1) * 2 = k * 2 + 2 := by omega
      have e1 : (k + 1) * 2 + 1 = k * 2 + 1 + 2 := by omega
      rw [List.flatMap_cons, e1, e0]
      have hy : y.cells = [.int .i64 y.f.arity, .slice y.A y.f.code.length y.c] := rfl
      rw [hy]
      simp only [List.cons_append, List.nil_append, List.set_cons_succ, List.flatMap_cons, hy]
      rw [ih k (by simpa using hk)]
theorem Blk.set2 {w : World} {g : Nat} {l : List LFn} (h : Blk w g 47 (l.flatMap LFn.cells).toArray) (k : Nat) (x : LFn) (hk : k < l.length) :
    Blk ((w.setCell ⟨g, k * 2, none⟩ (.int .i64 x.f.arity)).setCell ⟨g, k * 2 + 1, none⟩ (.slice x.A x.f.code.length x.c)) g 47 ((l.set k x).flatMap LFn.cells).toArray := by
  have := (h.set_ (k * 2) (.int .i64 x.f.arity)).set_ (k * 2 + 1) (.slice x.A x.f.code.length x.c)
  simp only [List.setIfInBounds_toArray] at this
  rwa [cells_set2 l k x hk] at this
theorem Blk.get2 {w : World} {g : Nat} {l : List LFn} (h : Blk w g 47 (l.flatMap LFn.cells).toArray) {k : Nat} {x : LFn} (hx : l[k]? = some x) (j : Nat) (hj : j < 2) : w.cell? ⟨g, k * 2 + j, none⟩ = x.cells[j]? := by
  rw [h.cell, List.getElem?_toArray, flat_at LFn.cells 2 LFn.cells_length l k j x hx hj]

/-- The function's code lies in a block of its own, from base on. -/
def Good (w : World) (base : Nat) (x : LFn) : Prop := ∃ g, x.A = some ⟨g, 0, none⟩ ∧ x.c = x.f.code.length ∧ base ≤ g ∧ Blk w g 44 (x.f.code.flatMap Ins.cells).toArray
theorem Good.fr {w w' : World} {base : Nat} {x : LFn} {B : Nat → Prop} (h : Good w base x) (hf : Fr B w w') (hB : ∀ g cs, Blk w g 44 cs → ¬ B g) : Good w' base x := by
  obtain ⟨g, h1, h2, h3, h4⟩ := h
  exact ⟨g, h1, h2, h3, h4.fr hf (hB g _ h4)⟩

set_option maxHeartbeats 4000000 in
theorem takeF_any (w : World) (Q : Nat → Prop) (p : Nat) (bs : List Int) (hR : RdIs w Q p bs) :
    Calls Try.prog 24 #[.func (.func 25) #[.pointer (some ⟨p, 0, none⟩)] #[], .func (.func 26) #[.pointer (some ⟨p, 0, none⟩)] #[]] w fun e w' =>
      (∃ L r g, pProg bs = some (fns L, r) ∧ e = .returned (.slice (some ⟨g, 0, none⟩) L.length L.length) ∧ Blk w' g 47 (L.flatMap LFn.cells).toArray ∧ (∀ x ∈ L, Good w' w.heap.size x) ∧ w.heap.size ≤ g ∧ RdIs w' Q p r ∧ Fr (One p) w w') ∨
      (pProg bs = none ∧ e = short ∧ Fr (One p) w w') := by
  cases bs with
  | nil =>
    go_enter Try.func24, Try.ntmps24
    go_wp2_with fail
    refine (rsmall_no _ Q p hR).mono ?_
    rintro e w1 ⟨rfl, rfl⟩
    go_wp2_with fail
    exact ⟨rfl, .inr ⟨rfl, rfl, Fr.refl _ _⟩⟩
  | cons m r =>
    have hm := hR.fits.head
    obtain ⟨n, rfl⟩ := Int.eq_ofNat_of_zero_le hm.1
    have hmk := make_fn n (by omega)
    have hpc : pProg ((n : Int) :: r) = pMany pFn n r := by simp [pProg]
    have HPC := Lib.hid hpc
    clear hpc
    go_enter Try.func24, Try.ntmps24
    go_wp2_with fail
    refine (rsmall_ok _ Q p _ _ hR).mono ?_
    rintro e w1 ⟨rfl, hR1, hF1⟩
    have hp1 := fr_not hR1
    go_wp2_with fail
    go_loopw [12] (fun i wr => ∃ k : Nat, k ≤ n ∧ i = .int .i64 k ∧ ∃ L rk, L.length = k ∧ Part pFn r (fns L) rk ∧ Blk wr w1.heap.size 47 ((L ++ List.replicate (n - k) zeroF).flatMap LFn.cells).toArray ∧ (∀ x ∈ L, Good wr w.heap.size x) ∧ RdIs wr Q p rk ∧ Fr (One p) w wr) (fun i _ => n - (intOf i).toNat)
    case atStart => exact ⟨0, by omega, rfl, [], r, rfl, rfl, by simpa using Blk.new w1 47 ((List.replicate n zeroF).flatMap LFn.cells).toArray, (fun x hx => by cases hx), hR1.alloc _, hF1.alloc _⟩
    case round =>
      obtain ⟨k, hk, rfl, L, rk, hlk, hpart, hB, hgood, hRk, hFk⟩ := hrel
      have hgp : ¬ One p w1.heap.size := fun h => by have : w1.heap.size = p := h; omega
      have HLK := Lib.hid hlk
      have HPT := Lib.hid hpart
      have HGD := Lib.hid hgood
      clear hlk hpart hgood
      by_cases hlt : k < n
      · go_wp2_with fail
        refine (rfn_any wr Q p rk hRk).mono ?_
        rintro e w2 (⟨f, r', g, hpi, rfl, hBg, hg, hR2, hF2⟩ | ⟨hpi, rfl, hF2⟩)
        · have hB2 := hB.fr hF2 hgp
          have hz : (L ++ List.replicate (n - k) zeroF)[k]? = some zeroF := by
            rw [List.getElem?_append_right (by rw [HLK.out]; omega), HLK.out, List.getElem?_replicate, if_pos (by omega)]
          have c0 : w2.cell? ⟨w1.heap.size, k * 2, none⟩ = some (.int .i64 0) := hB2.get2 hz 0 (by omega)
          have c1 : w2.cell? ⟨w1.heap.size, k * 2 + 1, none⟩ = some (.slice none 0 0) := hB2.get2 hz 1 (by omega)
          have g0 := hB2.frozen (k * 2)
          have g1 := hB2.frozen (k * 2 + 1)
          have HPI := Lib.hid hpi
          clear hz hpi
          go_wp2_with fail
          have hset := hB2.set2 k ⟨f, some ⟨g, 0, none⟩, f.code.length⟩ (by rw [List.length_append, HLK.out, List.length_replicate]; omega)
          have hl2 : (L ++ List.replicate (n - k) zeroF).set k ⟨f, some ⟨g, 0, none⟩, f.code.length⟩ = (L ++ [⟨f, some ⟨g, 0, none⟩, f.code.length⟩]) ++ List.replicate (n - (k + 1)) zeroF := by
            rw [List.set_append_right _ _ (by rw [HLK.out]; omega), HLK.out, Nat.sub_self, show n - k = (n - (k + 1)) + 1 by omega, List.replicate_succ]
            simp
          rw [hl2] at hset
          have hs1 := hF1.size
          have hsk := hFk.size
          have hfin : Fr (fun j => j = w1.heap.size) w2 _ := ((Fr.refl (fun j => j = w1.heap.size) w2).setCell (p := ⟨w1.heap.size, k * 2, none⟩) (.inl rfl) (.int .i64 f.arity)).setCell (p := ⟨w1.heap.size, k * 2 + 1, none⟩) (.inl rfl) (.slice (some ⟨g, 0, none⟩) f.code.length f.code.length)
          have hno : ∀ g cs, Blk w2 g 44 cs → ¬ (fun j => j = w1.heap.size) g := fun g' cs' h' he => h'.ne_ hB2 (by decide) he
          refine ⟨⟨k + 1, by omega, by go_num, L ++ [⟨f, some ⟨g, 0, none⟩, f.code.length⟩], r', by rw [List.length_append, HLK.out]; rfl, ?_, hset, ?_, ?_, ?_⟩, by simp [intOf]; omega⟩
          · have := HPT.out.snoc HPI.out
            simpa [fns] using this
          · intro x hx
            rcases List.mem_append.1 hx with hx | hx
            · refine ((HGD.out x hx).fr hF2 (fun g' cs' h' he => ?_)).fr hfin hno
              obtain ⟨A, c, hp', _⟩ := hRk.row
              exact h'.ne_ hp' (by decide) he
            · rw [List.mem_singleton.1 hx]
              exact (show Good w2 w.heap.size ⟨f, some ⟨g, 0, none⟩, f.code.length⟩ from ⟨g, rfl, rfl, by omega, hBg⟩).fr hfin hno
          · exact hR2.fr hfin (fun h => by omega) (fun b' hb' h => by have := hR.low b' hb'; omega)
          · exact ((hFk.trans hF2).setCell (.inr hs1) _).setCell (.inr hs1) _
        · have HN := Lib.hid (HPC.out.trans (HPT.out.none (by simp only [fns, List.length_map]; rw [HLK.out]; exact hlt) hpi))
          clear hpi
          go_wp2_with fail
          exact ⟨rfl, .inr ⟨HN.out, rfl, hFk.trans hF2⟩⟩
      · obtain rfl : k = n := by omega
        have hm' := HPT.out.many
        have hfl : (fns L).length = k := by simp only [fns, List.length_map]; exact HLK.out
        rw [hfl] at hm'
        have HM := Lib.hid (HPC.out.trans hm')
        clear hm' hfl
        go_wp2_with fail
        go_ret
        refine .inl ⟨L, rk, w1.heap.size, HM.out, by rw [HLK.out]; rfl, ?_, HGD.out, hF1.size, hRk, hFk⟩
        simpa using hB

set_option maxHeartbeats 4000000 in
theorem rprogram_any (w : World) (Q : Nat → Prop) (p : Nat) (bs : List Int) (hR : RdIs w Q p bs) :
    Calls Try.prog 21 #[.pointer (some ⟨p, 0, none⟩)] w fun e w' =>
      (∃ L r g, pProg bs = some (fns L, r) ∧ e = .returned (.slice (some ⟨g, 0, none⟩) L.length L.length) ∧ Blk w' g 47 (L.flatMap LFn.cells).toArray ∧ (∀ x ∈ L, Good w' w.heap.size x) ∧ w.heap.size ≤ g ∧ RdIs w' Q p r ∧ Fr (One p) w w') ∨
      (pProg bs = none ∧ e = short ∧ Fr (One p) w w') := by
  go_enter Try.func21, Try.ntmps21
  go_wp2_with fail
  refine (takeF_any w Q p bs hR).mono ?_
  rintro e w1 (⟨L, r, g, h1, rfl, h2, h3, h4, h5, h6⟩ | ⟨h1, rfl, h2⟩)
  · have H1 := Lib.hid h1
    have H3 := Lib.hid h3
    clear h1 h3
    go_wp2_with fail
    go_ret
    exact .inl ⟨L, r, g, H1.out, rfl, h2, H3.out, h4, h5, h6⟩
  · have H1 := Lib.hid h1
    clear h1
    go_wp2_with fail
    exact ⟨rfl, .inr ⟨H1.out, rfl, h2⟩⟩
end Go.Proofs.Ytahojahplpcbiaa
