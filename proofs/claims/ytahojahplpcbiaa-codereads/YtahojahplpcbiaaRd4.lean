/-
  code.Read: the program of bytes, or which error.
-/
import Derived.Test.YtahojahplpcbiaaRea3
namespace Go.Proofs.Ytahojahplpcbiaa
open Go.RowKit

set_option maxHeartbeats 1000000 in
theorem rcatch_panicking (b1 b2 : Nat) (vb ve : Value) (n : Int) (older : List PanicEntry) (w : World) (hne : b1 ≠ b2) (hc : w.cell? ⟨b1, 0, none⟩ = some vb) (hc2 : w.cell? ⟨b2, 0, none⟩ = some ve) (hz : w.frozen? ⟨b1, 0, none⟩ = false) (hz2 : w.frozen? ⟨b2, 0, none⟩ = false) :
    CallsD Try.prog 20 #[.pointer (some ⟨b1, 0, none⟩), .pointer (some ⟨b2, 0, none⟩)] (.panicking ({ v := .iface 25 (.int .i64 n), recovered := false } :: older)) w fun e u' w' =>
      e = .returned (.tuple #[]) ∧ u' = .panicking ({ v := .iface 25 (.int .i64 n), recovered := true } :: older) ∧ w' = ((w.setCell ⟨b1, 0, none⟩ (.slice none 0 0)).setCell ⟨b2, 0, none⟩ (.int .i64 n)).drew := by
  have hta : ∀ W : World, (Instr.typeAssert (.iface 25 (.int .i64 n)) 20 25 false).run Try.prog W = .ok (.int .i64 n) W := fun _ => by kernel_rfl
  refine callsD_of_wpS Try.func20 rfl fun c₀ cs hu => ?_
  apply wpS_seq
  apply wpS_region
  simp [wpOpsS, go_sem, recoverD, hu, Try.ntmps20, Exit.thenS]
  refine wpS_of_wp ?_
  change Code.wp _ _ _ { tmps := #[.pointer (some ⟨b1, 0, none⟩), .pointer (some ⟨b2, 0, none⟩), .iface 25 (.int .i64 n), .iface 25 (.int .i64 n), undef, undef, undef, undef], defers := [] } _
  go_wp2
  go_region
  all_goals go_wp2
  all_goals simp [bodyPostS, results, Try.results20]

theorem rcatch_idle (a1 a2 : Addr) (w : World) :
    CallsD Try.prog 20 #[.pointer (some a1), .pointer (some a2)] .returning w fun e u' w' => e = .returned (.tuple #[]) ∧ u' = .returning ∧ w' = w := by
  refine callsD_of_wpS Try.func20 rfl fun c₀ cs hu => ?_
  apply wpS_seq
  apply wpS_region
  simp [wpOpsS, go_sem, recoverD, hu, Try.ntmps20, Exit.thenS]
  refine wpS_of_wp ?_
  change Code.wp _ _ _ { tmps := #[.pointer (some a1), .pointer (some a2), .nilIface, .nilIface, undef, undef, undef, undef], defers := [] } _
  go_wp2
  cases c₀
  simp_all [bodyPostS, results, Try.results20]

/-- Which error bytes have: 0 if there is none. -/
def readE : List Int → Int
  | [] => 4
  | x :: t => if x = 72 then
      match pProg t with
      | none => 2
      | some (_, []) => 0
      | some (_, _ :: _) => 3
    else 4

/-- What Read comes to. -/
def RePost (w : World) (bs : List Int) (e : Ending) (w' : World) : Prop :=
  (∃ t L g, bs = 72 :: t ∧ pProg t = some (fns L, []) ∧ e = .returned (.tuple #[.slice (some ⟨g, 0, none⟩) L.length L.length, .int .i64 0]) ∧ Blk w' g 47 (L.flatMap LFn.cells).toArray ∧ (∀ x ∈ L, Good w' w.heap.size x) ∧ w.heap.size ≤ g ∧ Fr (fun _ => False) w w') ∨
  (∃ er, readE bs = er ∧ er ≠ 0 ∧ e = .returned (.tuple #[.slice none 0 0, .int .i64 er]) ∧ Fr (fun _ => False) w w')

/-- The door, behind a panic with the error n. -/
theorem rdoor_bad {w w1 : World} {bs : List Int} {n : Int} {tmps : Array Value} {vb ve : Value} (hB : Blk w1 w.heap.size 28 #[vb]) (hE : Blk w1 (w.heap.size + 1) 25 #[ve]) (hF : Fr (fun _ => False) w w1) (he : readE bs = n) (hn : n ≠ 0)
    (h2 : tmps[2]? = some (.pointer (some ⟨w.heap.size, 0, none⟩))) (h3 : tmps[3]? = some (.pointer (some ⟨w.heap.size + 1, 0, none⟩))) :
    Leaves Try.prog Try.f14 tmps (RePost w bs) [{ target := .fn (.func 20) #[.pointer (some ⟨w.heap.size, 0, none⟩), .pointer (some ⟨w.heap.size + 1, 0, none⟩)], args := #[] }] (.panicking [{ v := .iface 25 (.int .i64 n), recovered := false }]) w1 := by
  have c1 : w1.cell? ⟨w.heap.size, 0, none⟩ = some vb := by rw [hB.cell]; rfl
  have c2 : w1.cell? ⟨w.heap.size + 1, 0, none⟩ = some ve := by rw [hE.cell]; rfl
  refine leaves_cons (f := 20) (args := #[.pointer (some ⟨w.heap.size, 0, none⟩), .pointer (some ⟨w.heap.size + 1, 0, none⟩)]) (by simp) (by simp [go_sem]) ?_
  refine (rcatch_panicking w.heap.size (w.heap.size + 1) _ _ n [] w1 (by simp) c1 c2 (hB.frozen 0) (hE.frozen 0)).mono ?_
  rintro e u' w'' ⟨rfl, rfl, rfl⟩
  have d1 : ((w1.setCell ⟨w.heap.size, 0, none⟩ (.slice none 0 0)).setCell ⟨w.heap.size + 1, 0, none⟩ (.int .i64 n)).drew.cell? ⟨w.heap.size, 0, none⟩ = some (.slice none 0 0) := by
    rw [((hB.set_ 0 (.slice none 0 0)).far (p := ⟨w.heap.size + 1, 0, none⟩) (by simp) (.int .i64 n)).drew.cell]; rfl
  have d2 : ((w1.setCell ⟨w.heap.size, 0, none⟩ (.slice none 0 0)).setCell ⟨w.heap.size + 1, 0, none⟩ (.int .i64 n)).drew.cell? ⟨w.heap.size + 1, 0, none⟩ = some (.int .i64 n) := by
    rw [((hE.far (p := ⟨w.heap.size, 0, none⟩) (by simp) (.slice none 0 0)).set_ 0 (.int .i64 n)).drew.cell]; rfl
  refine ⟨.tuple #[.slice none 0 0, .int .i64 n], ?_, .inr ⟨n, he, hn, rfl, ?_⟩⟩
  · simp only [results, Try.results14]
    simp [go_sem, d1, d2, h2, h3]
  · exact ((hF.setCell (.inr (Nat.le_refl _)) _).setCell (.inr (by simp)) _).drew

/-- The door, behind a return. -/
theorem rdoor_ok {w w1 : World} {t : List Int} {L : List LFn} {g : Nat} {tmps : Array Value} (hB : Blk w1 w.heap.size 28 #[.slice (some ⟨g, 0, none⟩) L.length L.length]) (hE : Blk w1 (w.heap.size + 1) 25 #[.int .i64 0]) (hF : Fr (fun _ => False) w w1)
    (h1 : pProg t = some (fns L, [])) (hG : Blk w1 g 47 (L.flatMap LFn.cells).toArray) (hgood : ∀ x ∈ L, Good w1 w.heap.size x) (hg : w.heap.size ≤ g)
    (h2 : tmps[2]? = some (.pointer (some ⟨w.heap.size, 0, none⟩))) (h3 : tmps[3]? = some (.pointer (some ⟨w.heap.size + 1, 0, none⟩))) :
    Leaves Try.prog Try.f14 tmps (RePost w (72 :: t)) [{ target := .fn (.func 20) #[.pointer (some ⟨w.heap.size, 0, none⟩), .pointer (some ⟨w.heap.size + 1, 0, none⟩)], args := #[] }] .returning w1 := by
  have c1 : w1.cell? ⟨w.heap.size, 0, none⟩ = some (.slice (some ⟨g, 0, none⟩) L.length L.length) := by rw [hB.cell]; rfl
  have c2 : w1.cell? ⟨w.heap.size + 1, 0, none⟩ = some (.int .i64 0) := by rw [hE.cell]; rfl
  refine leaves_cons (f := 20) (args := #[.pointer (some ⟨w.heap.size, 0, none⟩), .pointer (some ⟨w.heap.size + 1, 0, none⟩)]) (by simp) (by simp [go_sem]) ?_
  refine (rcatch_idle _ _ _).mono ?_
  rintro e u' w'' ⟨rfl, rfl, rfl⟩
  refine ⟨.tuple #[.slice (some ⟨g, 0, none⟩) L.length L.length, .int .i64 0], ?_, .inl ⟨t, L, g, rfl, h1, rfl, hG, hgood, hg, hF⟩⟩
  simp only [results, Try.results14]
  simp [go_sem, c1, c2, h2, h3]

theorem rstart (w : World) : Blk ((w.alloc (.cells #[.slice none 0 0] 28)).alloc (.cells #[.int .i64 0] 25)) w.heap.size 28 #[.slice none 0 0] ∧ Blk ((w.alloc (.cells #[.slice none 0 0] 28)).alloc (.cells #[.int .i64 0] 25)) (w.heap.size + 1) 25 #[.int .i64 0] ∧ Fr (fun _ => False) w ((w.alloc (.cells #[.slice none 0 0] 28)).alloc (.cells #[.int .i64 0] 25)) := by
  refine ⟨(Blk.new w _ _).alloc _, ?_, ((Fr.refl _ _).alloc _).alloc _⟩
  have := Blk.new (w.alloc (.cells #[.slice none 0 0] 28)) 25 #[.int .i64 0]
  simpa using this

set_option maxHeartbeats 4000000 in
theorem read_any (w : World) (A : Option Addr) (c : Nat) (bs : List Int) (hR : Rd w (fun b => b < w.heap.size) 1 A bs.length (by8 bs)) (hfit : AllB bs) (hc : bs.length ≤ c) (hc2 : c ≤ maxLen) :
    Calls Try.prog 14 #[.slice A bs.length c] w (RePost w bs) := by
  have hmf : ∀ (fn : Go.Fn) (first cap : Array Value) (w : World), (Instr.makeFunc fn first cap).run Try.prog w = .ok (.func fn first cap) w := fun _ _ _ _ => rfl
  obtain ⟨hB3, hE3, hF3⟩ := rstart w
  have HB3 := Lib.hid hB3
  have HE3 := Lib.hid hE3
  have HF3 := Lib.hid hF3
  clear hB3 hE3 hF3
  cases bs with
  | nil =>
    go_enter_defers Try.func14, Try.ntmps14
    go_wp2_with fail
    exact rdoor_bad HB3.out HE3.out HF3.out rfl (by decide) rfl rfl
  | cons x t =>
    have hx := hfit.head
    have hcut := cut1 A t.length c
    have htl := hR.tail hc
    obtain ⟨b, off, rfl, hbq, hcell⟩ := hR.at_ (by simp)
    have d0 : w.cell? ⟨b, off, none⟩ = some (.int .u8 x) := hcell 0 _ rfl
    have hb1 : b < w.heap.size + 1 := by omega
    by_cases h72 : x = 72
    · subst h72
      have hxn : ((72 : Int) != 72) = false := rfl
      clear hcell
      generalize hA : (if c = 1 then some ⟨b, off, none⟩ else (some (⟨b, off, none⟩ : Addr)).map (·.add 1)) = A' at *
      have hpB : Blk (((w.alloc (.cells #[.slice none 0 0] 28)).alloc (.cells #[.int .i64 0] 25)).alloc (.cells #[.slice A' t.length (c - 1)] 60)) (w.heap.size + 1 + 1) 60 #[.slice A' t.length (c - 1)] := by
        have := Blk.new ((w.alloc (.cells #[.slice none 0 0] 28)).alloc (.cells #[.int .i64 0] 25)) 60 #[.slice A' t.length (c - 1)]
        simpa using this
      have hRd : RdIs (((w.alloc (.cells #[.slice none 0 0] 28)).alloc (.cells #[.int .i64 0] 25)).alloc (.cells #[.slice A' t.length (c - 1)] 60)) (fun b => b < w.heap.size) (w.heap.size + 1 + 1) t :=
        ⟨⟨A', c - 1, hpB, (htl.fr HF3.out (fun _ _ h => h)).alloc _, by simp at hc; omega, by omega⟩, hfit.tail, fun b' hb' => by omega⟩
      have HRd := Lib.hid hRd
      clear hA hpB hRd htl hR
      go_enter_defers Try.func14, Try.ntmps14
      go_wp2_with fail
      refine (rprogram_any _ _ _ t HRd.out).mono ?_
      have nb : ¬ One (w.heap.size + 1 + 1) w.heap.size := fun h => by have : w.heap.size = w.heap.size + 1 + 1 := h; omega
      have ne : ¬ One (w.heap.size + 1 + 1) (w.heap.size + 1) := fun h => by have : w.heap.size + 1 = w.heap.size + 1 + 1 := h; omega
      have nB : ∀ i, One (w.heap.size + 1 + 1) i → False ∨ w.heap.size ≤ i := fun i hi => .inr (by have : i = w.heap.size + 1 + 1 := hi; omega)
      rintro e w1 (⟨L, r, g, h1, rfl, h2, h3, h4, h5, h6⟩ | ⟨h1, rfl, h6⟩)
      · have hB1 := (HB3.out.alloc _).fr h6 nb
        have hE1 := (HE3.out.alloc _).fr h6 ne
        have hF1 := (HF3.out.alloc _).then h6 nB
        have hbase : w.heap.size ≤ (((w.alloc (.cells #[.slice none 0 0] 28)).alloc (.cells #[.int .i64 0] 25)).alloc (.cells #[.slice A' t.length (c - 1)] 60)).heap.size := by simp; omega
        have hgb : g ≠ w.heap.size := fun h => by subst h; exact h2.ne_ hB1 (by decide) rfl
        have hge : g ≠ w.heap.size + 1 := fun h => by subst h; exact h2.ne_ hE1 (by decide) rfl
        have hgood : ∀ x ∈ L, Good w1 w.heap.size x := fun x hx => by
          obtain ⟨g', q1, q2, q3, q4⟩ := h3 x hx
          exact ⟨g', q1, q2, Nat.le_trans hbase q3, q4⟩
        have hgw : w.heap.size ≤ g := Nat.le_trans hbase h4
        obtain ⟨A5, c5, hp5, hr5, hl5, hm5⟩ := h5.row
        have hpb : w.heap.size + 1 + 1 ≠ w.heap.size := by omega
        have hpe : w.heap.size + 1 + 1 ≠ w.heap.size + 1 := by omega
        have c1 : w1.cell? ⟨w.heap.size, 0, none⟩ = some (.slice none 0 0) := by rw [hB1.cell]; rfl
        have c2 : w1.cell? ⟨w.heap.size + 1, 0, none⟩ = some (.int .i64 0) := by rw [hE1.cell]; rfl
        have c3 : w1.cell? ⟨w.heap.size + 1 + 1, 0, none⟩ = some (.slice A5 r.length c5) := by rw [hp5.cell]; rfl
        have f1 := hB1.frozen 0
        have f2 := hE1.frozen 0
        have H1 := Lib.hid h1
        have HG := Lib.hid hgood
        have HF := Lib.hid hF1
        have H2 := Lib.hid h2
        clear h1 h2 h3 h4 h5 h6 hgood hF1 nb ne nB HB3 HE3 HF3 HRd hcut hr5
        cases r with
        | nil =>
          go_wp2_with fail
          have hS1 : ∀ x ∈ L, Good (((w1.setCell ⟨w.heap.size, 0, none⟩ (.slice (some ⟨g, 0, none⟩) L.length L.length)).setCell ⟨w.heap.size, 0, none⟩ (.slice (some ⟨g, 0, none⟩) L.length L.length)).setCell ⟨w.heap.size + 1, 0, none⟩ (.int .i64 0)) w.heap.size x := fun x hx =>
            (HG.out x hx).fr (B := fun k => k = w.heap.size ∨ k = w.heap.size + 1) ((((Fr.refl (fun k => k = w.heap.size ∨ k = w.heap.size + 1) w1).setCell (p := ⟨w.heap.size, 0, none⟩) (.inl (.inl rfl)) _).setCell (p := ⟨w.heap.size, 0, none⟩) (.inl (.inl rfl)) _).setCell (p := ⟨w.heap.size + 1, 0, none⟩) (.inl (.inr rfl)) _) (fun g' cs' h' hh => by
              rcases hh with hh | hh
              · exact h'.ne_ hB1 (by decide) hh
              · exact h'.ne_ hE1 (by decide) hh)
          have hB2 : Blk (((w1.setCell ⟨w.heap.size, 0, none⟩ (.slice (some ⟨g, 0, none⟩) L.length L.length)).setCell ⟨w.heap.size, 0, none⟩ (.slice (some ⟨g, 0, none⟩) L.length L.length)).setCell ⟨w.heap.size + 1, 0, none⟩ (.int .i64 0)) w.heap.size 28 #[.slice (some ⟨g, 0, none⟩) L.length L.length] :=
            ((hB1.set_ 0 (.slice (some ⟨g, 0, none⟩) L.length L.length)).set_ 0 (.slice (some ⟨g, 0, none⟩) L.length L.length)).far (p := ⟨w.heap.size + 1, 0, none⟩) (by simp) (.int .i64 0)
          have hE2 : Blk (((w1.setCell ⟨w.heap.size, 0, none⟩ (.slice (some ⟨g, 0, none⟩) L.length L.length)).setCell ⟨w.heap.size, 0, none⟩ (.slice (some ⟨g, 0, none⟩) L.length L.length)).setCell ⟨w.heap.size + 1, 0, none⟩ (.int .i64 0)) (w.heap.size + 1) 25 #[.int .i64 0] :=
            ((hE1.far (p := ⟨w.heap.size, 0, none⟩) (by simp) (.slice (some ⟨g, 0, none⟩) L.length L.length)).far (p := ⟨w.heap.size, 0, none⟩) (by simp) (.slice (some ⟨g, 0, none⟩) L.length L.length)).set_ 0 (.int .i64 0)
          have hF2 : Fr (fun _ => False) w (((w1.setCell ⟨w.heap.size, 0, none⟩ (.slice (some ⟨g, 0, none⟩) L.length L.length)).setCell ⟨w.heap.size, 0, none⟩ (.slice (some ⟨g, 0, none⟩) L.length L.length)).setCell ⟨w.heap.size + 1, 0, none⟩ (.int .i64 0)) :=
            ((HF.out.setCell (p := ⟨w.heap.size, 0, none⟩) (.inr (Nat.le_refl _)) _).setCell (p := ⟨w.heap.size, 0, none⟩) (.inr (Nat.le_refl _)) _).setCell (p := ⟨w.heap.size + 1, 0, none⟩) (.inr (by simp)) _
          have hG2 := ((H2.out.far (p := ⟨w.heap.size, 0, none⟩) hgb (.slice (some ⟨g, 0, none⟩) L.length L.length)).far (p := ⟨w.heap.size, 0, none⟩) hgb (.slice (some ⟨g, 0, none⟩) L.length L.length)).far (p := ⟨w.heap.size + 1, 0, none⟩) hge (.int .i64 0)
          exact rdoor_ok hB2 hE2 hF2 H1.out hG2 hS1 hgw rfl rfl
        | cons y r =>
          have hre : readE (72 :: t) = 3 := by simp only [readE, if_true, H1.out]
          have HRE := Lib.hid hre
          clear hre
          go_wp2_with fail
          refine rdoor_bad (hB1.set_ 0 (.slice (some ⟨g, 0, none⟩) L.length L.length)) (hE1.far (p := ⟨w.heap.size, 0, none⟩) (by simp) _) (HF.out.setCell (.inr (Nat.le_refl _)) _) HRE.out (by decide) rfl rfl
      · have hB1 := (HB3.out.alloc _).fr h6 nb
        have hE1 := (HE3.out.alloc _).fr h6 ne
        have hF1 := (HF3.out.alloc _).then h6 nB
        have hre : readE (72 :: t) = 2 := by simp only [readE, if_true, h1]
        have HRE := Lib.hid hre
        have HF := Lib.hid hF1
        clear hre h1 h6 hF1 nb ne nB HB3 HE3 HF3 HRd hcut
        go_wp2_with fail
        exact rdoor_bad hB1 hE1 HF.out HRE.out (by decide) rfl rfl
    · have hxn : (x != 72) = true := by simp [h72]
      have hre : readE (x :: t) = 4 := by simp [readE, h72]
      have HRE := Lib.hid hre
      clear hre hcell htl hcut h72
      go_enter_defers Try.func14, Try.ntmps14
      go_wp2_with fail
      exact rdoor_bad HB3.out HE3.out HF3.out HRE.out (by decide) rfl rfl
end Go.Proofs.Ytahojahplpcbiaa
