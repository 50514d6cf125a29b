/-
  What the reader does with an instruction, and with a row of them.
-/
import Derived.Test.YtahojahplpcbiaaRea
namespace Go.Proofs.Ytahojahplpcbiaa
open Go.RowKit

theorem fr_not {w : World} {Q : Nat → Prop} {p : Nat} {bs : List Int} (h : RdIs w Q p bs) : p < w.heap.size := by
  obtain ⟨A, c, h1, _⟩ := h.row
  exact h1.lt

set_option maxHeartbeats 4000000 in
theorem rins_ok (w : World) (Q : Nat → Prop) (p : Nat) (bs : List Int) (hR : RdIs w Q p bs) (x : Ins) (r : List Int) (hx : pIns bs = some (x, r)) :
    Calls Try.prog 31 #[.pointer (some ⟨p, 0, none⟩)] w fun e w' => e = .returned (.agg #[.int .i64 x.op, .int .i64 x.a, .int .i64 x.b, .int .i64 x.c, .int .i64 x.k]) ∧ RdIs w' Q p r ∧ Fr (One p) w w' := by
  match bs, hx, hR with
  | o :: a :: b :: c :: k0 :: k1 :: k2 :: k3 :: r', hx, hR =>
    simp only [pIns, Option.some.injEq, Prod.mk.injEq] at hx
    obtain ⟨rfl, rfl⟩ := hx
    have hpl := fr_not hR
    have hX := Blk.new w 44 #[.int .i64 0, .int .i64 0, .int .i64 0, .int .i64 0, .int .i64 0]
    have hnp : ¬ One p w.heap.size := fun h => by have : w.heap.size = p := h; omega
    have HX := Lib.hid hX
    clear hX
    go_enter Try.func31, Try.ntmps31
    go_wp2_with fail
    refine (rsmall_ok _ Q p _ _ (hR.alloc _)).mono ?_
    rintro e w1 ⟨rfl, hR1, hF1⟩
    go_wp2_with fail
    refine (rsmall_ok w1 Q p _ _ hR1).mono ?_
    rintro e w2 ⟨rfl, hR2, hF2⟩
    go_wp2_with fail
    refine (rsmall_ok w2 Q p _ _ hR2).mono ?_
    rintro e w3 ⟨rfl, hR3, hF3⟩
    go_wp2_with fail
    refine (rsmall_ok w3 Q p _ _ hR3).mono ?_
    rintro e w4 ⟨rfl, hR4, hF4⟩
    go_wp2_with fail
    refine (rwide_ok w4 Q p _ _ _ _ _ hR4).mono ?_
    rintro e w5 ⟨rfl, hR5, hF5⟩
    have hX5 := HX.out.fr ((((hF1.trans hF2).trans hF3).trans hF4).trans hF5) hnp
    have c0 : w5.cell? ⟨w.heap.size, 0, none⟩ = some (.int .i64 0) := by rw [hX5.cell]; rfl
    have c1 : w5.cell? ⟨w.heap.size, 1, none⟩ = some (.int .i64 0) := by rw [hX5.cell]; rfl
    have c2 : w5.cell? ⟨w.heap.size, 2, none⟩ = some (.int .i64 0) := by rw [hX5.cell]; rfl
    have c3 : w5.cell? ⟨w.heap.size, 3, none⟩ = some (.int .i64 0) := by rw [hX5.cell]; rfl
    have c4 : w5.cell? ⟨w.heap.size, 4, none⟩ = some (.int .i64 0) := by rw [hX5.cell]; rfl
    have g0 := hX5.frozen 0
    have g1 := hX5.frozen 1
    have g2 := hX5.frozen 2
    have g3 := hX5.frozen 3
    have g4 := hX5.frozen 4
    go_wp2_with fail
    refine bodyPost_ret (v := .agg #[.int .i64 o, .int .i64 a, .int .i64 b, .int .i64 c, .int .i64 (kval k0 k1 k2 k3)]) ?_ rfl ⟨rfl, ?_, ?_⟩
    · simp [results, Try.results31, go_sem, c0, c1, c2, c3, c4]
    · refine hR5.fr (B := fun k => k = w.heap.size) (((((Fr.refl (fun k => k = w.heap.size) w5).setCell (.inl rfl) _).setCell (.inl rfl) _).setCell (.inl rfl) _).setCell (.inl rfl) _ |>.setCell (.inl rfl) _) (fun h => by omega) (fun b' hb' h => by have := hR.low b' hb'; omega)
    · have h6 := ((((Fr.refl (One p) w).alloc _).trans hF1).trans hF2 |>.trans hF3 |>.trans hF4).trans hF5
      exact (((h6.setCell (.inr (Nat.le_refl _)) _).setCell (.inr (Nat.le_refl _)) _).setCell (.inr (Nat.le_refl _)) _).setCell (.inr (Nat.le_refl _)) _ |>.setCell (.inr (Nat.le_refl _)) _

set_option maxHeartbeats 4000000 in
theorem rins_no (w : World) (Q : Nat → Prop) (p : Nat) (bs : List Int) (hR : RdIs w Q p bs) (hx : pIns bs = none) :
    Calls Try.prog 31 #[.pointer (some ⟨p, 0, none⟩)] w fun e w' => e = short ∧ Fr (One p) w w' := by
  match bs, hx, hR with
  | [], _, hR =>
    go_enter Try.func31, Try.ntmps31
    go_wp2_with fail
    refine (rsmall_no _ Q p (hR.alloc _)).mono ?_
    rintro e w1 ⟨rfl, rfl⟩
    go_wp2_with fail
    exact ⟨rfl, rfl, (Fr.refl _ _).alloc _⟩
  | [o], _, hR =>
    go_enter Try.func31, Try.ntmps31
    go_wp2_with fail
    refine (rsmall_ok _ Q p _ _ (hR.alloc _)).mono ?_
    rintro e w1 ⟨rfl, hR1, hF1⟩
    go_wp2_with fail
    refine (rsmall_no _ Q p hR1).mono ?_
    rintro e w2 ⟨rfl, rfl⟩
    go_wp2_with fail
    exact ⟨rfl, rfl, ((Fr.refl _ _).alloc _).trans hF1⟩
  | [o, a], _, hR =>
    go_enter Try.func31, Try.ntmps31
    go_wp2_with fail
    refine (rsmall_ok _ Q p _ _ (hR.alloc _)).mono ?_
    rintro e w1 ⟨rfl, hR1, hF1⟩
    go_wp2_with fail
    refine (rsmall_ok w1 Q p _ _ hR1).mono ?_
    rintro e w2 ⟨rfl, hR2, hF2⟩
    go_wp2_with fail
    refine (rsmall_no _ Q p hR2).mono ?_
    rintro e w3 ⟨rfl, rfl⟩
    go_wp2_with fail
    exact ⟨rfl, rfl, (((Fr.refl _ _).alloc _).trans hF1).trans hF2⟩
  | [o, a, b], _, hR =>
    go_enter Try.func31, Try.ntmps31
    go_wp2_with fail
    refine (rsmall_ok _ Q p _ _ (hR.alloc _)).mono ?_
    rintro e w1 ⟨rfl, hR1, hF1⟩
    go_wp2_with fail
    refine (rsmall_ok w1 Q p _ _ hR1).mono ?_
    rintro e w2 ⟨rfl, hR2, hF2⟩
    go_wp2_with fail
    refine (rsmall_ok w2 Q p _ _ hR2).mono ?_
    rintro e w3 ⟨rfl, hR3, hF3⟩
    go_wp2_with fail
    refine (rsmall_no _ Q p hR3).mono ?_
    rintro e w4 ⟨rfl, rfl⟩
    go_wp2_with fail
    exact ⟨rfl, rfl, ((((Fr.refl _ _).alloc _).trans hF1).trans hF2).trans hF3⟩
  | o :: a :: b :: c :: r, hx, hR =>
    have hl : r.length < 4 := by
      match r, hx with
      | [], _ => simp
      | [_], _ => simp
      | [_, _], _ => simp
      | [_, _, _], _ => simp
      | _ :: _ :: _ :: _ :: _, hx => simp [pIns] at hx
    go_enter Try.func31, Try.ntmps31
    go_wp2_with fail
    refine (rsmall_ok _ Q p _ _ (hR.alloc _)).mono ?_
    rintro e w1 ⟨rfl, hR1, hF1⟩
    go_wp2_with fail
    refine (rsmall_ok w1 Q p _ _ hR1).mono ?_
    rintro e w2 ⟨rfl, hR2, hF2⟩
    go_wp2_with fail
    refine (rsmall_ok w2 Q p _ _ hR2).mono ?_
    rintro e w3 ⟨rfl, hR3, hF3⟩
    go_wp2_with fail
    refine (rsmall_ok w3 Q p _ _ hR3).mono ?_
    rintro e w4 ⟨rfl, hR4, hF4⟩
    go_wp2_with fail
    refine (rwide_no w4 Q p r hR4 hl).mono ?_
    rintro e w5 ⟨rfl, hF5⟩
    go_wp2_with fail
    exact ⟨rfl, rfl, (((((Fr.refl _ _).alloc _).trans hF1).trans hF2).trans hF3 |>.trans hF4).trans hF5⟩

/-- The row of zero instructions that make lays. -/
def zeroI : Ins := ⟨0, 0, 0, 0, 0⟩
theorem mod5 (n : Nat) : madeCells #[Value.int .i64 0, Value.int .i64 0, Value.int .i64 0, Value.int .i64 0, Value.int .i64 0] (n * 5) = ((List.replicate n zeroI).flatMap Ins.cells).toArray := by
  have h1 : ∀ m, madeCells #[Value.int .i64 0, Value.int .i64 0, Value.int .i64 0, Value.int .i64 0, Value.int .i64 0] m = (List.replicate m (Value.int .i64 0)).toArray := by
    intro m
    apply Array.ext_getElem?
    intro i
    by_cases hi : i < m
    · have h5 : i % 5 = 0 ∨ i % 5 = 1 ∨ i % 5 = 2 ∨ i % 5 = 3 ∨ i % 5 = 4 := by omega
      have : (madeCells #[Value.int .i64 0, Value.int .i64 0, Value.int .i64 0, Value.int .i64 0, Value.int .i64 0] m)[i]? = some (#[Value.int .i64 0, Value.int .i64 0, Value.int .i64 0, Value.int .i64 0, Value.int .i64 0][i % 5]!) := by simp [madeCells, hi]
      rw [this, List.getElem?_toArray, List.getElem?_replicate, if_pos hi]
      rcases h5 with h | h | h | h | h <;> rw [h] <;> rfl
    · simp [madeCells, hi]
  rw [h1]
  congr 1
  induction n with
  | zero => rfl
  | succ n ih =>
    rw [List.replicate_succ, List.flatMap_cons, ← ih, show (n + 1) * 5 = 5 + n * 5 by omega, ← List.replicate_append_replicate]
    rfl
theorem make_ins (n : Nat) (hn : n ≤ 255) (w : World) : (Instr.makeSlice 45 (.int .i64 (n : Int)) (.int .i64 (n : Int))).run Try.prog w = .ok (.slice (some ⟨w.heap.size, 0, none⟩) n n) (w.alloc (.cells ((List.replicate n zeroI).flatMap Ins.cells).toArray 44)) := by
  have hr := run_make (P := Try.prog) w 45 44 _ (.agg #[.int .i64 0, .int .i64 0, .int .i64 0, .int .i64 0, .int .i64 0]) Try.underlying45 rfl rfl .i64 .i64 (n : Int) (n : Int) (by omega) (by omega) (by show (40 : Int) * _ ≤ _; omega) (by omega)
  rw [hr]
  simp only [Int.toNat_natCast]
  rw [← mod5]
  rfl

/-- Element k of a row of instructions is stored. -/
theorem cells_set5 (l : List Ins) (k : Nat) (x : Ins) (hk : k < l.length) :
    (((((l.flatMap Ins.cells).set (k * 5) (.int .i64 x.op)).set (k * 5 + 1) (.int .i64 x.a)).set (k * 5 + 2) (.int .i64 x.b)).set (k * 5 + 3) (.int .i64 x.c)).set (k * 5 + 4) (.int .i64 x.k) = (l.set k x).flatMap Ins.cells := by
  induction l generalizing k with
  | nil => simp at hk
  | cons y r ih =>
    cases k with
    | zero => simp [List.flatMap_cons, Ins.cells]
    | succ k =>
      have e : ∀ j, (k + 1) * 5 + j = (k * 5 + j) + 5 := fun j => by omega
      have e0 : (k + 1) * 5 = k * 5 + 5 := by omega
      rw [List.flatMap_cons, e, e, e, e, e0]
      have hy : y.cells = [.int .i64 y.op, .int .i64 y.a, .int .i64 y.b, .int .i64 y.c, .int .i64 y.k] := rfl
      rw [hy]
      simp only [List.cons_append, List.nil_append, List.set_cons_succ, List.flatMap_cons, hy]
      rw [ih k (by simpa using hk)]

theorem Blk.set5 {w : World} {g : Nat} {l : List Ins} (h : Blk w g 44 (l.flatMap Ins.cells).toArray) (k : Nat) (x : Ins) (hk : k < l.length) :
    Blk (((((w.setCell ⟨g, k * 5, none⟩ (.int .i64 x.op)).setCell ⟨g, k * 5 + 1, none⟩ (.int .i64 x.a)).setCell ⟨g, k * 5 + 2, none⟩ (.int .i64 x.b)).setCell ⟨g, k * 5 + 3, none⟩ (.int .i64 x.c)).setCell ⟨g, k * 5 + 4, none⟩ (.int .i64 x.k)) g 44 ((l.set k x).flatMap Ins.cells).toArray := by
  have := ((((h.set_ (k * 5) (.int .i64 x.op)).set_ (k * 5 + 1) (.int .i64 x.a)).set_ (k * 5 + 2) (.int .i64 x.b)).set_ (k * 5 + 3) (.int .i64 x.c)).set_ (k * 5 + 4) (.int .i64 x.k)
  simp only [List.setIfInBounds_toArray] at this
  rwa [cells_set5 l k x hk] at this
theorem Blk.get5 {w : World} {g : Nat} {l : List Ins} (h : Blk w g 44 (l.flatMap Ins.cells).toArray) {k : Nat} {x : Ins} (hx : l[k]? = some x) (j : Nat) (hj : j < 5) : w.cell? ⟨g, k * 5 + j, none⟩ = x.cells[j]? := by
  rw [h.cell, List.getElem?_toArray, flat_at Ins.cells 5 Ins.cells_length l k j x hx hj]

set_option maxHeartbeats 4000000 in
theorem takeI_any (w : World) (Q : Nat → Prop) (p : Nat) (bs : List Int) (hR : RdIs w Q p bs) :
    Calls Try.prog 30 #[.func (.func 25) #[.pointer (some ⟨p, 0, none⟩)] #[], .func (.func 31) #[.pointer (some ⟨p, 0, none⟩)] #[]] w fun e w' =>
      (∃ l r g, pCode bs = some (l, r) ∧ e = .returned (.slice (some ⟨g, 0, none⟩) l.length l.length) ∧ Blk w' g 44 (l.flatMap Ins.cells).toArray ∧ w.heap.size ≤ g ∧ RdIs w' Q p r ∧ Fr (One p) w w') ∨
      (pCode bs = none ∧ e = short ∧ Fr (One p) w w') := by
  cases bs with
  | nil =>
    go_enter Try.func30, Try.ntmps30
    go_wp2_with fail
    refine (rsmall_no _ Q p hR).mono ?_
    rintro e w1 ⟨rfl, rfl⟩
    go_wp2_with fail
    exact ⟨rfl, .inr ⟨rfl, rfl, Fr.refl _ _⟩⟩
  | cons m r =>
    have hm := hR.fits.head
    obtain ⟨n, rfl⟩ := Int.eq_ofNat_of_zero_le hm.1
    have hmk := make_ins n (by omega)
    have hpc : pCode ((n : Int) :: r) = pMany pIns n r := by simp [pCode]
    have HPC := Lib.hid hpc
    clear hpc
    go_enter Try.func30, Try.ntmps30
    go_wp2_with fail
    refine (rsmall_ok _ Q p _ _ hR).mono ?_
    rintro e w1 ⟨rfl, hR1, hF1⟩
    have hp1 := fr_not hR1
    go_wp2_with fail
    go_loopw [12] (fun i wr => ∃ k : Nat, k ≤ n ∧ i = .int .i64 k ∧ ∃ l rk, l.length = k ∧ Part pIns r l rk ∧ Blk wr w1.heap.size 44 ((l ++ List.replicate (n - k) zeroI).flatMap Ins.cells).toArray ∧ RdIs wr Q p rk ∧ Fr (One p) w wr) (fun i _ => n - (intOf i).toNat)
    case atStart => exact ⟨0, by omega, rfl, [], r, rfl, rfl, by simpa using Blk.new w1 44 ((List.replicate n zeroI).flatMap Ins.cells).toArray, hR1.alloc _, hF1.alloc _⟩
    case round =>
      obtain ⟨k, hk, rfl, l, rk, hlk, hpart, hB, hRk, hFk⟩ := hrel
      have hgp : ¬ One p w1.heap.size := fun h => by have : w1.heap.size = p := h; omega
      have HLK := Lib.hid hlk
      have HPT := Lib.hid hpart
      clear hlk hpart
      by_cases hlt : k < n
      · go_wp2_with fail
        cases hpi : pIns rk with
        | some xr =>
          obtain ⟨x, r'⟩ := xr
          refine (rins_ok wr Q p rk hRk x r' hpi).mono ?_
          rintro e w2 ⟨rfl, hR2, hF2⟩
          have hB2 := hB.fr hF2 hgp
          have hz : (l ++ List.replicate (n - k) zeroI)[k]? = some zeroI := by
            rw [List.getElem?_append_right (by rw [HLK.out]; omega), HLK.out, List.getElem?_replicate, if_pos (by omega)]
          have c0 : w2.cell? ⟨w1.heap.size, k * 5, none⟩ = some (.int .i64 0) := hB2.get5 hz 0 (by omega)
          have c1 : w2.cell? ⟨w1.heap.size, k * 5 + 1, none⟩ = some (.int .i64 0) := hB2.get5 hz 1 (by omega)
          have c2 : w2.cell? ⟨w1.heap.size, k * 5 + 2, none⟩ = some (.int .i64 0) := hB2.get5 hz 2 (by omega)
          have c3 : w2.cell? ⟨w1.heap.size, k * 5 + 3, none⟩ = some (.int .i64 0) := hB2.get5 hz 3 (by omega)
          have c4 : w2.cell? ⟨w1.heap.size, k * 5 + 4, none⟩ = some (.int .i64 0) := hB2.get5 hz 4 (by omega)
          have g0 := hB2.frozen (k * 5)
          have g1 := hB2.frozen (k * 5 + 1)
          have g2 := hB2.frozen (k * 5 + 2)
          have g3 := hB2.frozen (k * 5 + 3)
          have g4 := hB2.frozen (k * 5 + 4)
          have HPI := Lib.hid hpi
          clear hz hpi
          go_wp2_with fail
          have hset := hB2.set5 k x (by rw [List.length_append, HLK.out, List.length_replicate]; omega)
          have hl2 : (l ++ List.replicate (n - k) zeroI).set k x = (l ++ [x]) ++ List.replicate (n - (k + 1)) zeroI := by
            rw [List.set_append_right _ _ (by rw [HLK.out]; omega), HLK.out, Nat.sub_self, show n - k = (n - (k + 1)) + 1 by omega, List.replicate_succ]
            simp
          rw [hl2] at hset
          refine ⟨⟨k + 1, by omega, by go_num, l ++ [x], r', by rw [List.length_append, HLK.out]; rfl, HPT.out.snoc HPI.out, hset, ?_, ?_⟩, by simp [intOf]; omega⟩
          · exact hR2.fr (B := fun j => j = w1.heap.size) (((((Fr.refl (fun j => j = w1.heap.size) w2).setCell (.inl rfl) _).setCell (.inl rfl) _).setCell (.inl rfl) _).setCell (.inl rfl) _ |>.setCell (.inl rfl) _) (fun h => by omega) (fun b' hb' h => by have := hR.low b' hb'; omega)
          · have hs1 := hF1.size
            have h6 := hFk.trans hF2
            exact (((h6.setCell (.inr hs1) _).setCell (.inr hs1) _).setCell (.inr hs1) _).setCell (.inr hs1) _ |>.setCell (.inr hs1) _
        | none =>
          refine (rins_no wr Q p rk hRk hpi).mono ?_
          rintro e w2 ⟨rfl, hF2⟩
          have HN := Lib.hid (HPC.out.trans (HPT.out.none (by rw [HLK.out]; exact hlt) hpi))
          clear hpi
          go_wp2_with fail
          exact ⟨rfl, .inr ⟨HN.out, rfl, hFk.trans hF2⟩⟩
      · obtain rfl : k = n := by omega
        have hm' := HPT.out.many
        rw [HLK.out] at hm'
        have HM := Lib.hid (HPC.out.trans hm')
        clear hm'
        go_wp2_with fail
        go_ret
        refine .inl ⟨l, rk, w1.heap.size, HM.out, by rw [HLK.out]; rfl, ?_, hF1.size, hRk, hFk⟩
        simpa using hB
end Go.Proofs.Ytahojahplpcbiaa
