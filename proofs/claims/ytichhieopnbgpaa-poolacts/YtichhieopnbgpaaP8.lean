/-
  Package pool: which shapes there may be, how many words they have. No condition.
-/
import Derived.Test.YtichhieopnbgpaaP7
namespace Go.Proofs.Ytichhieopnbgpaa
open Go.RowKit

/-- A shape of whatever numbers: workers, sizes, how many. -/
structure ShI where
  k : Int
  s0 : Int
  s1 : Int
  s2 : Int
  m0 : Int
  m1 : Int
  m2 : Int
def ShI.cells (z : ShI) : Array Value := #[.int .i64 z.k, .int .i64 z.s0, .int .i64 z.s1, .int .i64 z.s2, .int .i64 z.m0, .int .i64 z.m1, .int .i64 z.m2]
def okC (s m : Int) : Bool := decide (1 ≤ s) && decide (s ≤ 64) && decide (0 ≤ m) && decide (m ≤ 1000)
def ShI.ok (z : ShI) : Bool := decide (1 ≤ z.k) && decide (z.k ≤ 64) && okC z.s0 z.m0 && okC z.s1 z.m1 && okC z.s2 z.m2
def Shp.i (S : Shp) : ShI := ⟨S.k, S.s0, S.s1, S.s2, S.m0, S.m1, S.m2⟩
theorem okC_iff (s m : Int) : okC s m = true ↔ 1 ≤ s ∧ s ≤ 64 ∧ 0 ≤ m ∧ m ≤ 1000 := by
  simp only [okC, Bool.and_eq_true, decide_eq_true_eq]; omega
theorem ShI.ok_iff (z : ShI) : z.ok = true ↔ (1 ≤ z.k ∧ z.k ≤ 64) ∧ okC z.s0 z.m0 = true ∧ okC z.s1 z.m1 = true ∧ okC z.s2 z.m2 = true := by
  simp only [ShI.ok, Bool.and_eq_true, decide_eq_true_eq]
  constructor
  · rintro ⟨⟨⟨⟨a, b⟩, c⟩, d⟩, e⟩; exact ⟨⟨a, b⟩, c, d, e⟩
  · rintro ⟨⟨a, b⟩, c, d, e⟩; exact ⟨⟨⟨⟨a, b⟩, c⟩, d⟩, e⟩
theorem Shp.Ok.i {S : Shp} (h : S.Ok) : S.i.ok = true := by
  have a0 := h.a0; have a1 := h.a1; have a2 := h.a2; have b0 := h.b0; have b1 := h.b1; have b2 := h.b2; have k1 := h.k1; have k2 := h.k2
  rw [ShI.ok_iff]
  simp only [okC_iff, Shp.i]
  omega
theorem shp_of {z : ShI} (h : z.ok = true) : ∃ S : Shp, z = S.i ∧ S.Ok := by
  rw [ShI.ok_iff] at h
  simp only [okC_iff] at h
  obtain ⟨k, s0, s1, s2, m0, m1, m2⟩ := z
  simp only at h
  refine ⟨⟨k.toNat, s0.toNat, s1.toNat, s2.toNat, m0.toNat, m1.toNat, m2.toNat⟩, ?_, ⟨by simp only; omega, by simp only; omega, by simp only; omega, by simp only; omega, by simp only; omega, by simp only; omega, by simp only; omega, by simp only; omega⟩⟩
  simp only [Shp.i, ShI.mk.injEq]
  omega

set_option maxHeartbeats 8000000 in
set_option maxRecDepth 100000 in
theorem maybe_any (w : World) (z : ShI) : Calls Try.prog 33 #[.agg z.cells] w fun e w' => e = .returned (.bool z.ok) ∧ Fr F0 w w' := by
  obtain ⟨k, s0, s1, s2, m0, m1, m2⟩ := z
  obtain ⟨r, hr⟩ : ∃ r, r = ShI.ok ⟨k, s0, s1, s2, m0, m1, m2⟩ := ⟨_, rfl⟩
  rw [← hr]
  have HR := Lib.hid hr
  have HFA : Hid (Fr F0 w (w.alloc (.cells #[.int .i64 k, .int .i64 s0, .int .i64 s1, .int .i64 s2, .int .i64 m0, .int .i64 m1, .int .i64 m2] 36))) := (Fr.refl _ _).alloc _
  have hB := Blk.new w 36 #[.int .i64 k, .int .i64 s0, .int .i64 s1, .int .i64 s2, .int .i64 m0, .int .i64 m1, .int .i64 m2]
  have HB := Lib.hid hB
  clear hr hB
  simp only [ShI.cells]
  by_cases hk1 : k < 1
  · have d : decide (k < 1) = true := decide_eq_true hk1
    have HV : Hid (r = false) := Lib.hid (by rw [HR.out, ShI.ok, decide_eq_false (show ¬ 1 ≤ k by omega)]; rfl)
    go_enter Try.func33, Try.ntmps33
    go_wp2_with fail
    go_ret
    exact ⟨by rw [HV.out]; rfl, HFA.out⟩
  have d1 : decide (k < 1) = false := decide_eq_false hk1
  by_cases hk2 : 64 < k
  · have d2 : decide (64 < k) = true := decide_eq_true hk2
    have HV : Hid (r = false) := Lib.hid (by rw [HR.out, ShI.ok, decide_eq_false (show ¬ k ≤ 64 by omega), Bool.and_false]; rfl)
    go_enter Try.func33, Try.ntmps33
    go_wp2_with fail
    go_ret
    exact ⟨by rw [HV.out]; rfl, HFA.out⟩
  have d2 : decide (64 < k) = false := decide_eq_false hk2
  have HK : Hid (1 ≤ k ∧ k ≤ 64) := Lib.hid ⟨by omega, by omega⟩
  go_enter Try.func33, Try.ntmps33
  go_wp2_with fail
  clear d1 d2 hk1 hk2
  go_loopw [12] (fun i wx => ((i = .int .i64 0 ∧ Hid True) ∨ (i = .int .i64 1 ∧ Hid (okC s0 m0 = true)) ∨ (i = .int .i64 2 ∧ Hid (okC s0 m0 = true ∧ okC s1 m1 = true)) ∨ (i = .int .i64 3 ∧ Hid (okC s0 m0 = true ∧ okC s1 m1 = true ∧ okC s2 m2 = true))) ∧ Hid (wx = w.alloc (.cells #[.int .i64 k, .int .i64 s0, .int .i64 s1, .int .i64 s2, .int .i64 m0, .int .i64 m1, .int .i64 m2] 36))) (fun i _ => 4 - (intOf i).toNat)
  case atStart => exact ⟨.inl ⟨rfl, trivial⟩, Lib.hid rfl⟩
  case round =>
    obtain ⟨hi, HW⟩ := hrel
    have HFW : Hid (Fr F0 w wr) := Lib.hid (by rw [HW.out]; exact HFA.out)
    have HBW : Hid (Blk wr w.heap.size 36 #[.int .i64 k, .int .i64 s0, .int .i64 s1, .int .i64 s2, .int .i64 m0, .int .i64 m1, .int .i64 m2]) := Lib.hid (by rw [HW.out]; exact HB.out)
    rcases hi with ⟨rfl, HO⟩ | ⟨rfl, HO⟩ | ⟨rfl, HO⟩ | ⟨rfl, HO⟩
    · have cs : wr.cell? ⟨w.heap.size, 1, none⟩ = some (.int .i64 s0) := by rw [HBW.out.cell]; rfl
      have cm : wr.cell? ⟨w.heap.size, 4, none⟩ = some (.int .i64 m0) := by rw [HBW.out.cell]; rfl
      by_cases a1 : s0 < 1
      · have e1 : decide (s0 < 1) = true := decide_eq_true a1
        have HV : Hid (r = false) := Lib.hid (by
          cases hrr : r with
          | false => rfl
          | true =>
            have h1 := HR.out
            rw [hrr] at h1
            have h2 := (ShI.ok_iff _).1 h1.symm
            have h3 := (okC_iff s0 m0).1 h2.2.1
            omega)
        go_wp2_with fail
        go_ret
        exact ⟨by rw [HV.out]; rfl, HFW.out⟩
      have e1 : decide (s0 < 1) = false := decide_eq_false a1
      by_cases a2 : 64 < s0
      · have e2 : decide (64 < s0) = true := decide_eq_true a2
        have HV : Hid (r = false) := Lib.hid (by
          cases hrr : r with
          | false => rfl
          | true =>
            have h1 := HR.out
            rw [hrr] at h1
            have h2 := (ShI.ok_iff _).1 h1.symm
            have h3 := (okC_iff s0 m0).1 h2.2.1
            omega)
        go_wp2_with fail
        go_ret
        exact ⟨by rw [HV.out]; rfl, HFW.out⟩
      have e2 : decide (64 < s0) = false := decide_eq_false a2
      by_cases a3 : m0 < 0
      · have e3 : decide (m0 < 0) = true := decide_eq_true a3
        have HV : Hid (r = false) := Lib.hid (by
          cases hrr : r with
          | false => rfl
          | true =>
            have h1 := HR.out
            rw [hrr] at h1
            have h2 := (ShI.ok_iff _).1 h1.symm
            have h3 := (okC_iff s0 m0).1 h2.2.1
            omega)
        go_wp2_with fail
        go_ret
        exact ⟨by rw [HV.out]; rfl, HFW.out⟩
      have e3 : decide (m0 < 0) = false := decide_eq_false a3
      by_cases a4 : 1000 < m0
      · have e4 : decide (1000 < m0) = true := decide_eq_true a4
        have HV : Hid (r = false) := Lib.hid (by
          cases hrr : r with
          | false => rfl
          | true =>
            have h1 := HR.out
            rw [hrr] at h1
            have h2 := (ShI.ok_iff _).1 h1.symm
            have h3 := (okC_iff s0 m0).1 h2.2.1
            omega)
        go_wp2_with fail
        go_ret
        exact ⟨by rw [HV.out]; rfl, HFW.out⟩
      have e4 : decide (1000 < m0) = false := decide_eq_false a4
      have HC : okC s0 m0 = true := (okC_iff _ _).2 (by omega)
      have HO2 : Hid (okC s0 m0 = true) := Lib.hid HC
      clear HC
      go_wp2_with fail
      exact ⟨⟨.inr (.inl ⟨rfl, HO2⟩), HW⟩, by simp [intOf]⟩
    · have cs : wr.cell? ⟨w.heap.size, 2, none⟩ = some (.int .i64 s1) := by rw [HBW.out.cell]; rfl
      have cm : wr.cell? ⟨w.heap.size, 5, none⟩ = some (.int .i64 m1) := by rw [HBW.out.cell]; rfl
      by_cases a1 : s1 < 1
      · have e1 : decide (s1 < 1) = true := decide_eq_true a1
        have HV : Hid (r = false) := Lib.hid (by
          cases hrr : r with
          | false => rfl
          | true =>
            have h1 := HR.out
            rw [hrr] at h1
            have h2 := (ShI.ok_iff _).1 h1.symm
            have h3 := (okC_iff s1 m1).1 h2.2.2.1
            omega)
        go_wp2_with fail
        go_ret
        exact ⟨by rw [HV.out]; rfl, HFW.out⟩
      have e1 : decide (s1 < 1) = false := decide_eq_false a1
      by_cases a2 : 64 < s1
      · have e2 : decide (64 < s1) = true := decide_eq_true a2
        have HV : Hid (r = false) := Lib.hid (by
          cases hrr : r with
          | false => rfl
          | true =>
            have h1 := HR.out
            rw [hrr] at h1
            have h2 := (ShI.ok_iff _).1 h1.symm
            have h3 := (okC_iff s1 m1).1 h2.2.2.1
            omega)
        go_wp2_with fail
        go_ret
        exact ⟨by rw [HV.out]; rfl, HFW.out⟩
      have e2 : decide (64 < s1) = false := decide_eq_false a2
      by_cases a3 : m1 < 0
      · have e3 : decide (m1 < 0) = true := decide_eq_true a3
        have HV : Hid (r = false) := Lib.hid (by
          cases hrr : r with
          | false => rfl
          | true =>
            have h1 := HR.out
            rw [hrr] at h1
            have h2 := (ShI.ok_iff _).1 h1.symm
            have h3 := (okC_iff s1 m1).1 h2.2.2.1
            omega)
        go_wp2_with fail
        go_ret
        exact ⟨by rw [HV.out]; rfl, HFW.out⟩
      have e3 : decide (m1 < 0) = false := decide_eq_false a3
      by_cases a4 : 1000 < m1
      · have e4 : decide (1000 < m1) = true := decide_eq_true a4
        have HV : Hid (r = false) := Lib.hid (by
          cases hrr : r with
          | false => rfl
          | true =>
            have h1 := HR.out
            rw [hrr] at h1
            have h2 := (ShI.ok_iff _).1 h1.symm
            have h3 := (okC_iff s1 m1).1 h2.2.2.1
            omega)
        go_wp2_with fail
        go_ret
        exact ⟨by rw [HV.out]; rfl, HFW.out⟩
      have e4 : decide (1000 < m1) = false := decide_eq_false a4
      have HC : okC s1 m1 = true := (okC_iff _ _).2 (by omega)
      have HO2 : Hid (okC s0 m0 = true ∧ okC s1 m1 = true) := Lib.hid ⟨HO.out, HC⟩
      clear HC
      go_wp2_with fail
      exact ⟨⟨.inr (.inr (.inl ⟨rfl, HO2⟩)), HW⟩, by simp [intOf]⟩
    · have cs : wr.cell? ⟨w.heap.size, 3, none⟩ = some (.int .i64 s2) := by rw [HBW.out.cell]; rfl
      have cm : wr.cell? ⟨w.heap.size, 6, none⟩ = some (.int .i64 m2) := by rw [HBW.out.cell]; rfl
      by_cases a1 : s2 < 1
      · have e1 : decide (s2 < 1) = true := decide_eq_true a1
        have HV : Hid (r = false) := Lib.hid (by
          cases hrr : r with
          | false => rfl
          | true =>
            have h1 := HR.out
            rw [hrr] at h1
            have h2 := (ShI.ok_iff _).1 h1.symm
            have h3 := (okC_iff s2 m2).1 h2.2.2.2
            omega)
        go_wp2_with fail
        go_ret
        exact ⟨by rw [HV.out]; rfl, HFW.out⟩
      have e1 : decide (s2 < 1) = false := decide_eq_false a1
      by_cases a2 : 64 < s2
      · have e2 : decide (64 < s2) = true := decide_eq_true a2
        have HV : Hid (r = false) := Lib.hid (by
          cases hrr : r with
          | false => rfl
          | true =>
            have h1 := HR.out
            rw [hrr] at h1
            have h2 := (ShI.ok_iff _).1 h1.symm
            have h3 := (okC_iff s2 m2).1 h2.2.2.2
            omega)
        go_wp2_with fail
        go_ret
        exact ⟨by rw [HV.out]; rfl, HFW.out⟩
      have e2 : decide (64 < s2) = false := decide_eq_false a2
      by_cases a3 : m2 < 0
      · have e3 : decide (m2 < 0) = true := decide_eq_true a3
        have HV : Hid (r = false) := Lib.hid (by
          cases hrr : r with
          | false => rfl
          | true =>
            have h1 := HR.out
            rw [hrr] at h1
            have h2 := (ShI.ok_iff _).1 h1.symm
            have h3 := (okC_iff s2 m2).1 h2.2.2.2
            omega)
        go_wp2_with fail
        go_ret
        exact ⟨by rw [HV.out]; rfl, HFW.out⟩
      have e3 : decide (m2 < 0) = false := decide_eq_false a3
      by_cases a4 : 1000 < m2
      · have e4 : decide (1000 < m2) = true := decide_eq_true a4
        have HV : Hid (r = false) := Lib.hid (by
          cases hrr : r with
          | false => rfl
          | true =>
            have h1 := HR.out
            rw [hrr] at h1
            have h2 := (ShI.ok_iff _).1 h1.symm
            have h3 := (okC_iff s2 m2).1 h2.2.2.2
            omega)
        go_wp2_with fail
        go_ret
        exact ⟨by rw [HV.out]; rfl, HFW.out⟩
      have e4 : decide (1000 < m2) = false := decide_eq_false a4
      have HC : okC s2 m2 = true := (okC_iff _ _).2 (by omega)
      have HO2 : Hid (okC s0 m0 = true ∧ okC s1 m1 = true ∧ okC s2 m2 = true) := Lib.hid ⟨HO.out.1, HO.out.2, HC⟩
      clear HC
      go_wp2_with fail
      exact ⟨⟨.inr (.inr (.inr ⟨rfl, HO2⟩)), HW⟩, by simp [intOf]⟩
    · have HV : Hid (r = true) := Lib.hid (by
        rw [HR.out, ShI.ok_iff]
        exact ⟨HK.out, HO.out⟩)
      go_wp2_with fail
      go_ret
      exact ⟨by rw [HV.out]; rfl, HFW.out⟩

set_option maxHeartbeats 8000000 in
set_option maxRecDepth 100000 in
theorem words_ok (w : World) (S : Shp) (hS : S.Ok) : Calls Try.prog 34 #[.agg S.i.cells] w fun e w' => e = .returned (.int .i64 ((S.words : Nat) : Int)) ∧ Fr F0 w w' := by
  obtain ⟨hq0, hq1, hq2⟩ := hS.q
  obtain ⟨hr0, hr1, hr2⟩ := hS.r
  obtain ⟨hk2, hm0, hm1, hm2⟩ : S.k ≤ 64 ∧ S.m0 ≤ 1000 ∧ S.m1 ≤ 1000 ∧ S.m2 ≤ 1000 := ⟨hS.k2, hS.b0, hS.b1, hS.b2⟩
  have p0 : (S.k : Int) * (S.m0 : Int) = (S.q0 : Int) := by rw [← Int.natCast_mul]; rfl
  have x0 : IntKind.i64.wrap ((S.k : Int) * (S.m0 : Int)) = (S.q0 : Int) := (IntWalk.i64_in _ (by omega)).trans p0
  have t0 : (S.q0 : Int) * (S.s0 : Int) = (S.r0 : Int) := by rw [← Int.natCast_mul]; rfl
  have y0 : IntKind.i64.wrap ((S.q0 : Int) * (S.s0 : Int)) = (S.r0 : Int) := (IntWalk.i64_in _ (by omega)).trans t0
  have p1 : (S.k : Int) * (S.m1 : Int) = (S.q1 : Int) := by rw [← Int.natCast_mul]; rfl
  have x1 : IntKind.i64.wrap ((S.k : Int) * (S.m1 : Int)) = (S.q1 : Int) := (IntWalk.i64_in _ (by omega)).trans p1
  have t1 : (S.q1 : Int) * (S.s1 : Int) = (S.r1 : Int) := by rw [← Int.natCast_mul]; rfl
  have y1 : IntKind.i64.wrap ((S.q1 : Int) * (S.s1 : Int)) = (S.r1 : Int) := (IntWalk.i64_in _ (by omega)).trans t1
  have p2 : (S.k : Int) * (S.m2 : Int) = (S.q2 : Int) := by rw [← Int.natCast_mul]; rfl
  have x2 : IntKind.i64.wrap ((S.k : Int) * (S.m2 : Int)) = (S.q2 : Int) := (IntWalk.i64_in _ (by omega)).trans p2
  have t2 : (S.q2 : Int) * (S.s2 : Int) = (S.r2 : Int) := by rw [← Int.natCast_mul]; rfl
  have y2 : IntKind.i64.wrap ((S.q2 : Int) * (S.s2 : Int)) = (S.r2 : Int) := (IntWalk.i64_in _ (by omega)).trans t2
  have HW : Hid (S.words = S.r0 + S.r1 + S.r2) := Lib.hid rfl
  obtain ⟨R1, hR1⟩ : ∃ R1, R1 = S.r0 + S.r1 := ⟨_, rfl⟩
  obtain ⟨R2, hR2⟩ : ∃ R2, R2 = S.r0 + S.r1 + S.r2 := ⟨_, rfl⟩
  have HR1 := Lib.hid hR1
  have HR2 := Lib.hid hR2
  have n1 : (S.r0 : Int) + (S.r1 : Int) = (R1 : Int) := by omega
  have n2 : (R1 : Int) + (S.r2 : Int) = (R2 : Int) := by omega
  have w1 : IntKind.i64.wrap ((S.r0 : Int) + (S.r1 : Int)) = (R1 : Int) := (IntWalk.i64_in _ (by omega)).trans n1
  have w2 : IntKind.i64.wrap ((R1 : Int) + (S.r2 : Int)) = (R2 : Int) := (IntWalk.i64_in _ (by omega)).trans n2
  have w0 : IntKind.i64.wrap (S.r0 : Int) = (S.r0 : Int) := IntWalk.i64_in _ (by omega)
  have HFA : Hid (Fr F0 w (w.alloc (.cells S.i.cells 36))) := (Fr.refl _ _).alloc _
  have HB := Lib.hid (Blk.new w 36 S.i.cells)
  simp only [ShI.cells, Shp.i] at HFA HB ⊢
  clear hR1 hR2 hS
  go_enter Try.func34, Try.ntmps34
  go_wp2_with fail
  go_loopw [2, 4] (fun s i wx => ((i = .int .i64 0 ∧ s = .int .i64 0) ∨ (i = .int .i64 1 ∧ s = .int .i64 (S.r0 : Int)) ∨ (i = .int .i64 2 ∧ s = .int .i64 (R1 : Int)) ∨ (i = .int .i64 3 ∧ s = .int .i64 (R2 : Int))) ∧ Hid (Fr F0 w wx) ∧ Hid (Blk wx w.heap.size 36 #[.int .i64 (S.k : Int), .int .i64 (S.s0 : Int), .int .i64 (S.s1 : Int), .int .i64 (S.s2 : Int), .int .i64 (S.m0 : Int), .int .i64 (S.m1 : Int), .int .i64 (S.m2 : Int)])) (fun _ i _ => 4 - (intOf i).toNat)
  case atStart => exact ⟨.inl ⟨rfl, rfl⟩, HFA, HB⟩
  case round =>
    obtain ⟨hi, HF, HBW⟩ := hrel
    have ck : wr.cell? ⟨w.heap.size, 0, none⟩ = some (.int .i64 (S.k : Int)) := by rw [HBW.out.cell]; rfl
    have hbl := HBW.out.lt
    have HFD : Hid (∀ q, Fr F0 w (wr.drewN q)) := Lib.hid (fun q => HF.out.drewN q)
    have HBD : Hid (∀ q, Blk (wr.drewN q) w.heap.size 36 #[.int .i64 (S.k : Int), .int .i64 (S.s0 : Int), .int .i64 (S.s1 : Int), .int .i64 (S.s2 : Int), .int .i64 (S.m0 : Int), .int .i64 (S.m1 : Int), .int .i64 (S.m2 : Int)]) := Lib.hid (fun q => HBW.out.drewN q)
    rcases hi with ⟨rfl, rfl⟩ | ⟨rfl, rfl⟩ | ⟨rfl, rfl⟩ | ⟨rfl, rfl⟩
    · have cs : wr.cell? ⟨w.heap.size, 1, none⟩ = some (.int .i64 (S.s0 : Int)) := by rw [HBW.out.cell]; rfl
      have cm : wr.cell? ⟨w.heap.size, 4, none⟩ = some (.int .i64 (S.m0 : Int)) := by rw [HBW.out.cell]; rfl
      go_wp2_with fail
      go_quiet (fail)
      go_wp2_with fail
      exact ⟨⟨.inr (.inl ⟨rfl, rfl⟩), Lib.hid (HFD.out _), Lib.hid (HBD.out _)⟩, by simp [intOf]⟩
    · have cs : wr.cell? ⟨w.heap.size, 2, none⟩ = some (.int .i64 (S.s1 : Int)) := by rw [HBW.out.cell]; rfl
      have cm : wr.cell? ⟨w.heap.size, 5, none⟩ = some (.int .i64 (S.m1 : Int)) := by rw [HBW.out.cell]; rfl
      go_wp2_with fail
      go_quiet (fail)
      go_wp2_with fail
      exact ⟨⟨.inr (.inr (.inl ⟨rfl, rfl⟩)), Lib.hid (HFD.out _), Lib.hid (HBD.out _)⟩, by simp [intOf]⟩
    · have cs : wr.cell? ⟨w.heap.size, 3, none⟩ = some (.int .i64 (S.s2 : Int)) := by rw [HBW.out.cell]; rfl
      have cm : wr.cell? ⟨w.heap.size, 6, none⟩ = some (.int .i64 (S.m2 : Int)) := by rw [HBW.out.cell]; rfl
      go_wp2_with fail
      go_quiet (fail)
      go_wp2_with fail
      exact ⟨⟨.inr (.inr (.inr ⟨rfl, rfl⟩)), Lib.hid (HFD.out _), Lib.hid (HBD.out _)⟩, by simp [intOf]⟩
    · go_wp2_with fail
      go_ret
      refine ⟨?_, HF.out⟩
      rw [HW.out, ← HR2.out]
      rfl
end Go.Proofs.Ytichhieopnbgpaa
