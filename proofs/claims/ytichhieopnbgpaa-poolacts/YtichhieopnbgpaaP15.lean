/-
  The document's Right. No condition.
-/
import Derived.Test.YtichhieopnbgpaaP14
namespace Go.Proofs.Ytichhieopnbgpaa
open Go.RowKit

set_option maxHeartbeats 8000000 in
set_option maxRecDepth 100000 in
theorem dright_any (w : World) (z : ShI) : Calls Try.prog 32 #[.agg z.cells] w fun e w' => e = .returned (.bool z.ok) ∧ Fr F0 w w' := by
  obtain ⟨k, s0, s1, s2, m0, m1, m2⟩ := z
  obtain ⟨r, hr⟩ : ∃ r, r = ShI.ok ⟨k, s0, s1, s2, m0, m1, m2⟩ := ⟨_, rfl⟩
  rw [← hr]
  have HR := Lib.hid hr
  have HFA : Hid (Fr F0 w (w.alloc (.cells #[.int .i64 k, .int .i64 s0, .int .i64 s1, .int .i64 s2, .int .i64 m0, .int .i64 m1, .int .i64 m2] 26))) := (Fr.refl _ _).alloc _
  have hB := Blk.new w 26 #[.int .i64 k, .int .i64 s0, .int .i64 s1, .int .i64 s2, .int .i64 m0, .int .i64 m1, .int .i64 m2]
  have HB := Lib.hid hB
  clear hr hB
  simp only [ShI.cells]
  by_cases hk1 : k < 1
  · have d : decide (k < 1) = true := decide_eq_true hk1
    have HV : Hid (r = false) := Lib.hid (by rw [HR.out, ShI.ok, decide_eq_false (show ¬ 1 ≤ k by omega)]; rfl)
    go_enter Try.func32, Try.ntmps32
    go_wp2_with fail
    go_ret
    exact ⟨by rw [HV.out]; rfl, HFA.out⟩
  have d1 : decide (k < 1) = false := decide_eq_false hk1
  by_cases hk2 : 64 < k
  · have d2 : decide (64 < k) = true := decide_eq_true hk2
    have HV : Hid (r = false) := Lib.hid (by rw [HR.out, ShI.ok, decide_eq_false (show ¬ k ≤ 64 by omega), Bool.and_false]; rfl)
    go_enter Try.func32, Try.ntmps32
    go_wp2_with fail
    go_ret
    exact ⟨by rw [HV.out]; rfl, HFA.out⟩
  have d2 : decide (64 < k) = false := decide_eq_false hk2
  have HK : Hid (1 ≤ k ∧ k ≤ 64) := Lib.hid ⟨by omega, by omega⟩
  go_enter Try.func32, Try.ntmps32
  go_wp2_with fail
  clear d1 d2 hk1 hk2
  go_loopw [3] (fun i wx => ((i = .int .i64 0 ∧ Hid True) ∨ (i = .int .i64 1 ∧ Hid (okC s0 m0 = true)) ∨ (i = .int .i64 2 ∧ Hid (okC s0 m0 = true ∧ okC s1 m1 = true)) ∨ (i = .int .i64 3 ∧ Hid (okC s0 m0 = true ∧ okC s1 m1 = true ∧ okC s2 m2 = true))) ∧ Hid (wx = w.alloc (.cells #[.int .i64 k, .int .i64 s0, .int .i64 s1, .int .i64 s2, .int .i64 m0, .int .i64 m1, .int .i64 m2] 26))) (fun i _ => 4 - (intOf i).toNat)
  case atStart => exact ⟨.inl ⟨rfl, trivial⟩, Lib.hid rfl⟩
  case round =>
    obtain ⟨hi, HW⟩ := hrel
    have HFW : Hid (Fr F0 w wr) := Lib.hid (by rw [HW.out]; exact HFA.out)
    have HBW : Hid (Blk wr w.heap.size 26 #[.int .i64 k, .int .i64 s0, .int .i64 s1, .int .i64 s2, .int .i64 m0, .int .i64 m1, .int .i64 m2]) := Lib.hid (by rw [HW.out]; exact HB.out)
    rcases hi with ⟨rfl, HO⟩ | ⟨rfl, HO⟩ | ⟨rfl, HO⟩ | ⟨rfl, HO⟩
    · have cs : wr.cell? ⟨w.heap.size, 1, none⟩ = some (.int .i64 s0) := by rw [HBW.out.cell]; rfl
      have cm : wr.cell? ⟨w.heap.size, 4, none⟩ = some (.int .i64 m0) := by rw [HBW.out.cell]; rfl
      by_cases a1 : s0 < 1
      · have e1 : decide (s0 < 1) = true := decide_eq_true a1
        have HV : Hid (r = false) := Lib.hid (by
          cases hrr : r with
          | false => rfl
          | true =>
            have h1 := HR.out
            rw [hrr] at h1
            have h2 := (ShI.ok_iff _).1 h1.symm
            have h3 := (okC_iff s0 m0).1 h2.2.1
            omega)
        go_wp2_with fail
        go_ret
        exact ⟨by rw [HV.out]; rfl, HFW.out⟩
      have e1 : decide (s0 < 1) = false := decide_eq_false a1
      by_cases a2 : 64 < s0
      · have e2 : decide (64 < s0) = true := decide_eq_true a2
        have HV : Hid (r = false) := Lib.hid (by
          cases hrr : r with
          | false => rfl
          | true =>
            have h1 := HR.out
            rw [hrr] at h1
            have h2 := (ShI.ok_iff _).1 h1.symm
            have h3 := (okC_iff s0 m0).1 h2.2.1
            omega)
        go_wp2_with fail
        go_ret
        exact ⟨by rw [HV.out]; rfl, HFW.out⟩
      have e2 : decide (64 < s0) = false := decide_eq_false a2
      by_cases a3 : m0 < 0
      · have e3 : decide (m0 < 0) = true := decide_eq_true a3
        have HV : Hid (r = false) := Lib.hid (by
          cases hrr : r with
          | false => rfl
          | true =>
            have h1 := HR.out
            rw [hrr] at h1
            have h2 := (ShI.ok_iff _).1 h1.symm
            have h3 := (okC_iff s0 m0).1 h2.2.1
            omega)
        go_wp2_with fail
        go_ret
        exact ⟨by rw [HV.out]; rfl, HFW.out⟩
      have e3 : decide (m0 < 0) = false := decide_eq_false a3
      by_cases a4 : 1000 < m0
      · have e4 : decide (1000 < m0) = true := decide_eq_true a4
        have HV : Hid (r = false) := Lib.hid (by
          cases hrr : r with
          | false => rfl
          | true =>
            have h1 := HR.out
            rw [hrr] at h1
            have h2 := (ShI.ok_iff _).1 h1.symm
            have h3 := (okC_iff s0 m0).1 h2.2.1
            omega)
        go_wp2_with fail
        go_ret
        exact ⟨by rw [HV.out]; rfl, HFW.out⟩
      have e4 : decide (1000 < m0) = false := decide_eq_false a4
      have HC : okC s0 m0 = true := (okC_iff _ _).2 (by omega)
      have HO2 : Hid (okC s0 m0 = true) := Lib.hid HC
      clear HC
      go_wp2_with fail
      exact ⟨⟨.inr (.inl ⟨rfl, HO2⟩), HW⟩, by simp [intOf]⟩
    · have cs : wr.cell? ⟨w.heap.size, 2, none⟩ = some (.int .i64 s1) := by rw [HBW.out.cell]; rfl
      have cm : wr.cell? ⟨w.heap.size, 5, none⟩ = some (.int .i64 m1) := by rw [HBW.out.cell]; rfl
      by_cases a1 : s1 < 1
      · have e1 : decide (s1 < 1) = true := decide_eq_true a1
        have HV : Hid (r = false) := Lib.hid (by
          cases hrr : r with
          | false => rfl
          | true =>
            have h1 := HR.out
            rw [hrr] at h1
            have h2 := (ShI.ok_iff _).1 h1.symm
            have h3 := (okC_iff s1 m1).1 h2.2.2.1
            omega)
        go_wp2_with fail
        go_ret
        exact ⟨by rw [HV.out]; rfl, HFW.out⟩
      have e1 : decide (s1 < 1) = false := decide_eq_false a1
      by_cases a2 : 64 < s1
      · have e2 : decide (64 < s1) = true := decide_eq_true a2
        have HV : Hid (r = false) := Lib.hid (by
          cases hrr : r with
          | false => rfl
          | true =>
            have h1 := HR.out
            rw [hrr] at h1
            have h2 := (ShI.ok_iff _).1 h1.symm
            have h3 := (okC_iff s1 m1).1 h2.2.2.1
            omega)
        go_wp2_with fail
        go_ret
        exact ⟨by rw [HV.out]; rfl, HFW.out⟩
      have e2 : decide (64 < s1) = false := decide_eq_false a2
      by_cases a3 : m1 < 0
      · have e3 : decide (m1 < 0) = true := decide_eq_true a3
        have HV : Hid (r = false) := Lib.hid (by
          cases hrr : r with
          | false => rfl
          | true =>
            have h1 := HR.out
            rw [hrr] at h1
            have h2 := (ShI.ok_iff _).1 h1.symm
            have h3 := (okC_iff s1 m1).1 h2.2.2.1
            omega)
        go_wp2_with fail
        go_ret
        exact ⟨by rw [HV.out]; rfl, HFW.out⟩
      have e3 : decide (m1 < 0) = false := decide_eq_false a3
      by_cases a4 : 1000 < m1
      · have e4 : decide (1000 < m1) = true := decide_eq_true a4
        have HV : Hid (r = false) := Lib.hid (by
          cases hrr : r with
          | false => rfl
          | true =>
            have h1 := HR.out
            rw [hrr] at h1
            have h2 := (ShI.ok_iff _).1 h1.symm
            have h3 := (okC_iff s1 m1).1 h2.2.2.1
            omega)
        go_wp2_with fail
        go_ret
        exact ⟨by rw [HV.out]; rfl, HFW.out⟩
      have e4 : decide (1000 < m1) = false := decide_eq_false a4
      have HC : okC s1 m1 = true := (okC_iff _ _).2 (by omega)
      have HO2 : Hid (okC s0 m0 = true ∧ okC s1 m1 = true) := Lib.hid ⟨HO.out, HC⟩
      clear HC
      go_wp2_with fail
      exact ⟨⟨.inr (.inr (.inl ⟨rfl, HO2⟩)), HW⟩, by simp [intOf]⟩
    · have cs : wr.cell? ⟨w.heap.size, 3, none⟩ = some (.int .i64 s2) := by rw [HBW.out.cell]; rfl
      have cm : wr.cell? ⟨w.heap.size, 6, none⟩ = some (.int .i64 m2) := by rw [HBW.out.cell]; rfl
      by_cases a1 : s2 < 1
      · have e1 : decide (s2 < 1) = true := decide_eq_true a1
        have HV : Hid (r = false) := Lib.hid (by
          cases hrr : r with
          | false => rfl
          | true =>
            have h1 := HR.out
            rw [hrr] at h1
            have h2 := (ShI.ok_iff _).1 h1.symm
            have h3 := (okC_iff s2 m2).1 h2.2.2.2
            omega)
        go_wp2_with fail
        go_ret
        exact ⟨by rw [HV.out]; rfl, HFW.out⟩
      have e1 : decide (s2 < 1) = false := decide_eq_false a1
      by_cases a2 : 64 < s2
      · have e2 : decide (64 < s2) = true := decide_eq_true a2
        have HV : Hid (r = false) := Lib.hid (by
          cases hrr : r with
          | false => rfl
          | true =>
            have h1 := HR.out
            rw [hrr] at h1
            have h2 := (ShI.ok_iff _).1 h1.symm
            have h3 := (okC_iff s2 m2).1 h2.2.2.2
            omega)
        go_wp2_with fail
        go_ret
        exact ⟨by rw [HV.out]; rfl, HFW.out⟩
      have e2 : decide (64 < s2) = false := decide_eq_false a2
      by_cases a3 : m2 < 0
      · have e3 : decide (m2 < 0) = true := decide_eq_true a3
        have HV : Hid (r = false) := Lib.hid (by
          cases hrr : r with
          | false => rfl
          | true =>
            have h1 := HR.out
            rw [hrr] at h1
            have h2 := (ShI.ok_iff _).1 h1.symm
            have h3 := (okC_iff s2 m2).1 h2.2.2.2
            omega)
        go_wp2_with fail
        go_ret
        exact ⟨by rw [HV.out]; rfl, HFW.out⟩
      have e3 : decide (m2 < 0) = false := decide_eq_false a3
      by_cases a4 : 1000 < m2
      · have e4 : decide (1000 < m2) = true := decide_eq_true a4
        have HV : Hid (r = false) := Lib.hid (by
          cases hrr : r with
          | false => rfl
          | true =>
            have h1 := HR.out
            rw [hrr] at h1
            have h2 := (ShI.ok_iff _).1 h1.symm
            have h3 := (okC_iff s2 m2).1 h2.2.2.2
            omega)
        go_wp2_with fail
        go_ret
        exact ⟨by rw [HV.out]; rfl, HFW.out⟩
      have e4 : decide (1000 < m2) = false := decide_eq_false a4
      have HC : okC s2 m2 = true := (okC_iff _ _).2 (by omega)
      have HO2 : Hid (okC s0 m0 = true ∧ okC s1 m1 = true ∧ okC s2 m2 = true) := Lib.hid ⟨HO.out.1, HO.out.2, HC⟩
      clear HC
      go_wp2_with fail
      exact ⟨⟨.inr (.inr (.inr ⟨rfl, HO2⟩)), HW⟩, by simp [intOf]⟩
    · have HV : Hid (r = true) := Lib.hid (by
        rw [HR.out, ShI.ok_iff]
        exact ⟨HK.out, HO.out⟩)
      go_wp2_with fail
      go_ret
      exact ⟨by rw [HV.out]; rfl, HFW.out⟩

end Go.Proofs.Ytichhieopnbgpaa
