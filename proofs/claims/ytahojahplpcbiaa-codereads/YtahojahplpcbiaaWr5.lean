/-
  code.Write: the bytes of a program, or ErrRange and nil.
-/
import Derived.Test.YtahojahplpcbiaaWri4
import Derived.Defers
import Derived.Recover
import Derived.RegionTactic
namespace Go.Proofs.Ytahojahplpcbiaa
open Go.RowKit

set_option maxHeartbeats 1000000 in
theorem wcatch_panicking (b1 b2 : Nat) (vb ve : Value) (n : Int) (older : List PanicEntry) (w : World) (hne : b1 ≠ b2) (hc : w.cell? ⟨b1, 0, none⟩ = some vb) (hc2 : w.cell? ⟨b2, 0, none⟩ = some ve) (hz : w.frozen? ⟨b1, 0, none⟩ = false) (hz2 : w.frozen? ⟨b2, 0, none⟩ = false) :
    CallsD Try.prog 17 #[.pointer (some ⟨b1, 0, none⟩), .pointer (some ⟨b2, 0, none⟩)] (.panicking ({ v := .iface 25 (.int .i64 n), recovered := false } :: older)) w fun e u' w' =>
      e = .returned (.tuple #[]) ∧ u' = .panicking ({ v := .iface 25 (.int .i64 n), recovered := true } :: older) ∧ w' = ((w.setCell ⟨b1, 0, none⟩ (.slice none 0 0)).setCell ⟨b2, 0, none⟩ (.int .i64 n)).drew := by
  have hta : ∀ W : World, (Instr.typeAssert (.iface 25 (.int .i64 n)) 20 25 false).run Try.prog W = .ok (.int .i64 n) W := fun _ => by kernel_rfl
  refine callsD_of_wpS Try.func17 rfl fun c₀ cs hu => ?_
  apply wpS_seq
  apply wpS_region
  simp [wpOpsS, go_sem, recoverD, hu, Try.ntmps17, Exit.thenS]
  refine wpS_of_wp ?_
  change Code.wp _ _ _ { tmps := #[.pointer (some ⟨b1, 0, none⟩), .pointer (some ⟨b2, 0, none⟩), .iface 25 (.int .i64 n), .iface 25 (.int .i64 n), undef, undef, undef, undef], defers := [] } _
  go_wp2
  go_region
  all_goals go_wp2
  all_goals simp [bodyPostS, results, Try.results17]

theorem wcatch_idle (a1 a2 : Addr) (w : World) :
    CallsD Try.prog 17 #[.pointer (some a1), .pointer (some a2)] .returning w fun e u' w' => e = .returned (.tuple #[]) ∧ u' = .returning ∧ w' = w := by
  refine callsD_of_wpS Try.func17 rfl fun c₀ cs hu => ?_
  apply wpS_seq
  apply wpS_region
  simp [wpOpsS, go_sem, recoverD, hu, Try.ntmps17, Exit.thenS]
  refine wpS_of_wp ?_
  change Code.wp _ _ _ { tmps := #[.pointer (some a1), .pointer (some a2), .nilIface, .nilIface, undef, undef, undef, undef], defers := [] } _
  go_wp2
  cases c₀
  simp_all [bodyPostS, results, Try.results17]

/-- What Write comes to. -/
def WrPost (w : World) (l : List Fn) (e : Ending) (w' : World) : Prop :=
  (progOk l ∧ ∃ v, e = .returned (.tuple #[v, .int .i64 0]) ∧ w'.ownsRow w.heap.size 5 1 v (1 + (progBytes l).length) (by8 (72 :: progBytes l)) ∧ Fr (fun _ => False) w w') ∨
  (¬ progOk l ∧ e = .returned (.tuple #[.slice none 0 0, .int .i64 6]) ∧ Fr (fun _ => False) w w')

theorem start (w : World) : WrIs ((((w.alloc (.cells #[.slice none 0 0] 24)).alloc (.cells #[.int .i64 0] 25)).alloc (.cells #[.int .u8 72] 5)).alloc (.cells #[.slice (some ⟨w.heap.size + 1 + 1, 0, none⟩) 1 1] 54)) w.heap.size (w.heap.size + 1 + 1 + 1) (.slice (some ⟨w.heap.size + 1 + 1, 0, none⟩) 1 1) [72] ∧
    Blk ((((w.alloc (.cells #[.slice none 0 0] 24)).alloc (.cells #[.int .i64 0] 25)).alloc (.cells #[.int .u8 72] 5)).alloc (.cells #[.slice (some ⟨w.heap.size + 1 + 1, 0, none⟩) 1 1] 54)) w.heap.size 24 #[.slice none 0 0] ∧ Blk ((((w.alloc (.cells #[.slice none 0 0] 24)).alloc (.cells #[.int .i64 0] 25)).alloc (.cells #[.int .u8 72] 5)).alloc (.cells #[.slice (some ⟨w.heap.size + 1 + 1, 0, none⟩) 1 1] 54)) (w.heap.size + 1) 25 #[.int .i64 0] ∧ Fr (fun _ => False) w ((((w.alloc (.cells #[.slice none 0 0] 24)).alloc (.cells #[.int .i64 0] 25)).alloc (.cells #[.int .u8 72] 5)).alloc (.cells #[.slice (some ⟨w.heap.size + 1 + 1, 0, none⟩) 1 1] 54)) := by
  refine ⟨⟨?_, ?_, by simp, by simp; omega⟩, (((Blk.new w _ _).alloc _).alloc _).alloc _, ?_, ((((Fr.refl _ _).alloc _).alloc _).alloc _).alloc _⟩
  · have := Blk.new (((w.alloc (.cells #[.slice none 0 0] 24)).alloc (.cells #[.int .i64 0] 25)).alloc (.cells #[.int .u8 72] 5)) 54 #[.slice (some ⟨w.heap.size + 1 + 1, 0, none⟩) 1 1]
    simpa using this
  · refine ⟨rfl, .inr ⟨w.heap.size + 1 + 1, 1, #[.int .u8 72], rfl, by omega, ?_, by simp, by unfold maxLen; omega, rfl, rfl⟩⟩
    have := (Blk.new ((w.alloc (.cells #[.slice none 0 0] 24)).alloc (.cells #[.int .i64 0] 25)) 5 #[.int .u8 72]).alloc (.cells #[.slice (some ⟨w.heap.size + 1 + 1, 0, none⟩) 1 1] 54)
    have e : (((w.alloc (.cells #[.slice none 0 0] 24)).alloc (.cells #[.int .i64 0] 25)).heap.size) = w.heap.size + 1 + 1 := by simp
    rw [e] at this
    exact this
  · have := ((Blk.new (w.alloc (.cells #[.slice none 0 0] 24)) 25 #[.int .i64 0]).alloc (.cells #[.int .u8 72] 5)).alloc (.cells #[.slice (some ⟨w.heap.size + 1 + 1, 0, none⟩) 1 1] 54)
    simpa using this

set_option maxHeartbeats 4000000 in
theorem write_any (w : World) (A : Option Addr) (c : Nat) (L : List LFn) (hR : FnRow w (fun b => b < w.heap.size) A L) (hl : room L < 900000) (hL : L.length < 1000000) :
    Calls Try.prog 10 #[.slice A L.length c] w (WrPost w (fns L)) := by
  have hmf : ∀ (fn : Go.Fn) (first cap : Array Value) (w : World), (Instr.makeFunc fn first cap).run Try.prog w = .ok (.func fn first cap) w := fun _ _ _ _ => rfl
  have HR := Lib.hid hR
  clear hR
  have HST := Lib.hid (start w)
  go_enter_defers Try.func10, Try.ntmps10
  go_wp2_with fail
  obtain ⟨hW4, hB4, hE4, hF4⟩ := HST.out
  have hR4 : FnRow _ (Safe _ _ _) A L := (HR.out.fr hF4 (fun _ _ h => h)).mono (fun b hb => (⟨Nat.lt_of_lt_of_le hb hF4.size, (by
    rintro (h | h)
    · omega
    · have : w.heap.size + 1 + 1 = b := by simpa [Value.ownBlock] using h
      omega)⟩ : Safe _ (w.heap.size + 1 + 1 + 1) (.slice (some ⟨w.heap.size + 1 + 1, 0, none⟩) 1 1) b))
  refine (program_any _ w.heap.size _ _ _ hW4 A c L hR4 (by simp only [List.length_cons, List.length_nil]; omega) hL).mono ?_
  have nb : ¬ (w.heap.size = w.heap.size + 1 + 1 + 1 ∨ (Value.slice (some ⟨w.heap.size + 1 + 1, 0, none⟩) 1 1).ownBlock = some w.heap.size) := by
    rintro (h | h)
    · omega
    · simp [Value.ownBlock] at h; omega
  have ne : ¬ (w.heap.size + 1 = w.heap.size + 1 + 1 + 1 ∨ (Value.slice (some ⟨w.heap.size + 1 + 1, 0, none⟩) 1 1).ownBlock = some (w.heap.size + 1)) := by
    rintro (h | h)
    · omega
    · simp [Value.ownBlock] at h
  have nB : ∀ i, (i = w.heap.size + 1 + 1 + 1 ∨ (Value.slice (some ⟨w.heap.size + 1 + 1, 0, none⟩) 1 1).ownBlock = some i) → False ∨ w.heap.size ≤ i := by
    rintro i (h | h)
    · exact .inr (by omega)
    · have : w.heap.size + 1 + 1 = i := by simpa [Value.ownBlock] using h
      exact .inr (by omega)
  rintro e w1 (⟨hok, rfl, v1, hW1, hS1⟩ | ⟨hno, rfl, v1, hS1⟩)
  · have HOK := Lib.hid hok
    have hB1 := hB4.fr hS1.fr nb
    have hE1 := hE4.fr hS1.fr ne
    have hF1 := hF4.then hS1.fr nB
    have HS := Lib.hid hS1
    have c0 : w1.cell? ⟨w.heap.size + 1 + 1 + 1, 0, none⟩ = some v1 := by rw [hW1.hp.cell]; rfl
    have c1 : w1.cell? ⟨w.heap.size, 0, none⟩ = some (.slice none 0 0) := by rw [hB1.cell]; rfl
    have c2 : w1.cell? ⟨w.heap.size + 1, 0, none⟩ = some (.int .i64 0) := by rw [hE1.cell]; rfl
    have f1 := hB1.frozen 0
    have f2 := hE1.frozen 0
    obtain ⟨g, cap, rfl, hg1, hg2⟩ := hW1.own.form (by simp)
    have hgb : g ≠ w.heap.size := fun h => by subst h; exact own_ne hW1.own hB1 (by decide) rfl
    have hge : g ≠ w.heap.size + 1 := fun h => by subst h; exact own_ne hW1.own hE1 (by decide) rfl
    have hown := hW1.own
    obtain ⟨N, hN⟩ : ∃ N, N = ([72] ++ progBytes (fns L)).length := ⟨_, rfl⟩
    rw [← hN] at c0 hown
    have HN := Lib.hid hN
    have HO := Lib.hid hown
    have HF := Lib.hid hF1
    clear hok hS1 hR4 hW4 hB4 hE4 hF4 nb ne nB HS hN hown hW1 hF1 HST HR
    go_wp2
    refine leaves_cons (f := 17) (args := #[.pointer (some ⟨w.heap.size, 0, none⟩), .pointer (some ⟨w.heap.size + 1, 0, none⟩)]) (by simp) (by simp [go_sem]) ?_
    refine (wcatch_idle _ _ _).mono ?_
    rintro e u' w'' ⟨rfl, rfl, rfl⟩
    have d1 : ((w1.setCell ⟨w.heap.size, 0, none⟩ (.slice (some ⟨g, 0, none⟩) N cap)).setCell ⟨w.heap.size + 1, 0, none⟩ (.int .i64 0)).cell? ⟨w.heap.size, 0, none⟩ = some (.slice (some ⟨g, 0, none⟩) N cap) := by
      rw [((hB1.set_ 0 (.slice (some ⟨g, 0, none⟩) N cap)).far (p := ⟨w.heap.size + 1, 0, none⟩) (by simp) (.int .i64 0)).cell]; rfl
    have d2 : ((w1.setCell ⟨w.heap.size, 0, none⟩ (.slice (some ⟨g, 0, none⟩) N cap)).setCell ⟨w.heap.size + 1, 0, none⟩ (.int .i64 0)).cell? ⟨w.heap.size + 1, 0, none⟩ = some (.int .i64 0) := by
      rw [((hE1.far (p := ⟨w.heap.size, 0, none⟩) (by simp) (.slice (some ⟨g, 0, none⟩) N cap)).set_ 0 (.int .i64 0)).cell]; rfl
    refine ⟨.tuple #[.slice (some ⟨g, 0, none⟩) N cap, .int .i64 0], ?_, .inl ⟨HOK.out, _, rfl, ?_, ?_⟩⟩
    · simp [results, Try.results10, go_sem, d1, d2]
    · have h1 := own_fr HO.out (B := fun k => k = w.heap.size ∨ k = w.heap.size + 1) (((Fr.refl (fun k => k = w.heap.size ∨ k = w.heap.size + 1) w1).setCell (p := ⟨w.heap.size, 0, none⟩) (.inl (.inl rfl)) (.slice (some ⟨g, 0, none⟩) N cap)).setCell (p := ⟨w.heap.size + 1, 0, none⟩) (.inl (.inr rfl)) (.int .i64 0)) (fun g' h' hp' => by
        have : g = g' := by simpa [Value.ownBlock] using h'
        subst this
        exact hp'.elim hgb hge)
      have e : N = 1 + (progBytes (fns L)).length := by rw [HN.out]; simp; omega
      rw [e] at h1 ⊢
      exact h1
    · exact (HF.out.setCell (.inr (Nat.le_refl _)) _).setCell (.inr (by simp)) _
  · have HNO := Lib.hid hno
    have hB1 := hB4.fr hS1.fr nb
    have hE1 := hE4.fr hS1.fr ne
    have hF1 := hF4.then hS1.fr nB
    have c1 : w1.cell? ⟨w.heap.size, 0, none⟩ = some (.slice none 0 0) := by rw [hB1.cell]; rfl
    have c2 : w1.cell? ⟨w.heap.size + 1, 0, none⟩ = some (.int .i64 0) := by rw [hE1.cell]; rfl
    have f1 := hB1.frozen 0
    have f2 := hE1.frozen 0
    have HF := Lib.hid hF1
    clear hno hS1 hR4 hW4 hB4 hE4 hF4 nb ne nB hF1 HST HR
    go_wp2
    refine leaves_cons (f := 17) (args := #[.pointer (some ⟨w.heap.size, 0, none⟩), .pointer (some ⟨w.heap.size + 1, 0, none⟩)]) (by simp) (by simp [go_sem]) ?_
    refine (wcatch_panicking w.heap.size (w.heap.size + 1) _ _ 6 [] w1 (by simp) c1 c2 f1 f2).mono ?_
    rintro e u' w'' ⟨rfl, rfl, rfl⟩
    have d1 : ((w1.setCell ⟨w.heap.size, 0, none⟩ (.slice none 0 0)).setCell ⟨w.heap.size + 1, 0, none⟩ (.int .i64 6)).drew.cell? ⟨w.heap.size, 0, none⟩ = some (.slice none 0 0) := by
      rw [((hB1.set_ 0 (.slice none 0 0)).far (p := ⟨w.heap.size + 1, 0, none⟩) (by simp) (.int .i64 6)).drew.cell]; rfl
    have d2 : ((w1.setCell ⟨w.heap.size, 0, none⟩ (.slice none 0 0)).setCell ⟨w.heap.size + 1, 0, none⟩ (.int .i64 6)).drew.cell? ⟨w.heap.size + 1, 0, none⟩ = some (.int .i64 6) := by
      rw [((hE1.far (p := ⟨w.heap.size, 0, none⟩) (by simp) (.slice none 0 0)).set_ 0 (.int .i64 6)).drew.cell]; rfl
    refine ⟨.tuple #[.slice none 0 0, .int .i64 6], ?_, .inr ⟨HNO.out, rfl, ?_⟩⟩
    · simp only [results, Try.results10]
      simp [go_sem, d1, d2]
    · exact ((HF.out.setCell (.inr (Nat.le_refl _)) _).setCell (.inr (by simp)) _).drew
end Go.Proofs.Ytahojahplpcbiaa
