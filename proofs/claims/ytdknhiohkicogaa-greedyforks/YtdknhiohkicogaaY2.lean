/-
  greedy.may, greedy.upTo, what asks from when on a step is free; light, graphs of natural numbers. No condition.
-/
import Derived.Test.YtdknhiohkicogaaY1
namespace Go.Proofs.Ytdknhiohkicogaa
open Go.RowKit

def ni (l : List Nat) : List Int := l.map (fun (a : Nat) => (a : Int))
def gi (G : List (List Nat)) : List (List Int) := G.map ni
theorem ni_at {l : List Nat} {i a : Nat} (h : l[i]? = some a) : (ni l)[i]? = some (a : Int) := by simp [ni, h]
theorem ni_length (l : List Nat) : (ni l).length = l.length := by simp [ni]
theorem gi_at {G : List (List Nat)} {i : Nat} {r : List Nat} (h : G[i]? = some r) : (gi G)[i]? = some (ni r) := by simp [gi, h]
theorem gi_length (G : List (List Nat)) : (gi G).length = G.length := by simp [gi]

theorem rowB_nat {s : Nat} : ∀ (row : List Int) (ls : Int), 0 ≤ ls → rowB (s : Int) ls row = true → ∃ r : List Nat, row = ni r ∧ ∀ a ∈ r, a < s
  | [], _, _, _ => ⟨[], rfl, fun a h => by cases h⟩
  | z :: row, ls, hl, h => by
    simp only [rowB, Bool.and_eq_true, decide_eq_true_eq] at h
    obtain ⟨r, h1, h2⟩ := rowB_nat row (z + 1) (by omega) h.2
    refine ⟨z.toNat :: r, ?_, fun a ha => ?_⟩
    · rw [h1]; simp only [ni, List.map_cons]; congr 1; omega
    · rcases List.mem_cons.1 ha with rfl | ha
      · omega
      · exact h2 a ha
theorem rightFrom_nat : ∀ (g : List (List Int)) (s : Nat), rightFrom s g = true → ∃ G, g = gi G ∧ ∀ (n : Nat) (row : List Nat), G[n]? = some row → ∀ a ∈ row, a < s + n
  | [], _, _ => ⟨[], rfl, fun n row h => by simp at h⟩
  | row :: g, s, h => by
    simp only [rightFrom, Bool.and_eq_true] at h
    obtain ⟨r, h1, h2⟩ := rowB_nat row 0 (by omega) h.1
    obtain ⟨G, h3, h4⟩ := rightFrom_nat g (s + 1) h.2
    refine ⟨r :: G, by rw [h1, h3]; rfl, fun n row' hr a ha => ?_⟩
    cases n with
    | zero => simp at hr; subst hr; exact h2 a ha
    | succ n => simp at hr; have := h4 n row' hr a ha; omega
theorem right_nat {g : List (List Int)} (h : rightB g = true) : ∃ G, g = gi G ∧ Ahead G := by
  obtain ⟨G, h1, h2⟩ := rightFrom_nat g 0 h
  exact ⟨G, h1, fun n row hr a ha => by have := h2 n row hr a ha; omega⟩

def mayB (k : Int) (g : List (List Int)) : Bool := decide (1 ≤ k) && decide (k ≤ 64) && rightB g

set_option maxHeartbeats 4000000 in
theorem may_any (w : World) (Q : Nat → Prop) (A : Option Addr) (c : Nat) (g : List (List Int)) (k : Int) (hg : GrAt w Q A g) (hF : Few g) :
    Calls Try.prog 21 #[.agg #[.slice A g.length c], .int .i64 k] w fun e w' => e = .returned (.bool (mayB k g)) ∧ Fr F0 w w' := by
  obtain ⟨n, hn⟩ : ∃ n, n = g.length := ⟨_, rfl⟩
  obtain ⟨rb, hrb⟩ : ∃ rb, rb = mayB k g := ⟨_, rfl⟩
  have HR := Lib.hid (right_any (w.alloc (.cells #[.slice A n c] 29)) Q A c g (hg.f0 ((Fr.refl _ _).alloc _)) hF)
  rw [← hn, ← hrb]
  rw [← hn] at HR
  have HRB := Lib.hid hrb
  clear hg hF hn hrb
  by_cases h1 : 1 ≤ k
  · by_cases h2 : k ≤ 64
    · have d1 : decide (1 ≤ k) = true := decide_eq_true h1
      have d2 : decide (k ≤ 64) = true := decide_eq_true h2
      have HV : Hid (rb = rightB g) := Lib.hid (by rw [HRB.out, mayB, d1, d2]; rfl)
      clear HRB
      go_enter Try.func21, Try.ntmps21
      go_wp2_with fail
      refine HR.out.mono ?_
      rintro e w1 ⟨rfl, hF1⟩
      have HF1 := Lib.hid (((Fr.refl F0 w).alloc _).trans hF1)
      clear hF1
      go_wp2_with fail
      go_ret
      exact ⟨by rw [HV.out]; rfl, HF1.out⟩
    · have d1 : decide (1 ≤ k) = true := decide_eq_true h1
      have d2 : decide (k ≤ 64) = false := decide_eq_false h2
      have HV : Hid (rb = false) := Lib.hid (by rw [HRB.out, mayB, d1, d2]; rfl)
      clear HRB
      go_enter Try.func21, Try.ntmps21
      go_wp2_with fail
      go_ret
      exact ⟨by rw [HV.out]; rfl, (Fr.refl F0 w).alloc _⟩
  · have d1 : decide (1 ≤ k) = false := decide_eq_false h1
    have HV : Hid (rb = false) := Lib.hid (by rw [HRB.out, mayB, d1]; rfl)
    clear HRB
    go_enter Try.func21, Try.ntmps21
    go_wp2_with fail
    go_ret
    exact ⟨by rw [HV.out]; rfl, (Fr.refl F0 w).alloc _⟩

/-! ### A new row of numbers -/
theorem make_ints (n : Nat) (hn : n ≤ 65536) (w : World) : (Instr.makeSlice 24 (.int .i64 (n : Int)) (.int .i64 (n : Int))).run Try.prog w = .ok (.slice (some ⟨w.heap.size, 0, none⟩) n n) (w.alloc (.cells (ic (ni (List.replicate n 0))).toArray 3)) := by
  have hr := run_make (P := Try.prog) w 24 3 _ (.int .i64 0) Try.underlying24 rfl rfl .i64 .i64 (n : Int) (n : Int) (by omega) (by omega) (by show (8 : Int) * _ ≤ _; omega) (by omega)
  rw [hr]
  simp only [Int.toNat_natCast]
  have e : (madeCells (Value.int .i64 0).cells (n * 1)) = (ic (ni (List.replicate n 0))).toArray := by
    apply Array.ext'
    show (madeCells #[Value.int .i64 0] (n * 1)).toList = _
    rw [toList_madeCells_one]
    simp [ic, ni]
  rw [← e]
  rfl

/-- A block of numbers. -/
abbrev Nb (w : World) (g : Nat) (l : List Nat) : Prop := Blk w g 3 (ic (ni l)).toArray
section
variable {w : World} {g : Nat} {l : List Nat}
theorem Nb.at_ (h : Nb w g l) {i a : Nat} (hi : l[i]? = some a) : w.cell? ⟨g, i, none⟩ = some (.int .i64 (a : Int)) := by
  rw [Blk.cell h]; simp [ic, ni, hi]
theorem Nb.set (h : Nb w g l) (i a : Nat) : Nb (w.setCell ⟨g, i, none⟩ (.int .i64 (a : Int))) g (l.set i a) := by
  have h1 := Blk.set_ h i (.int .i64 (a : Int))
  rw [List.setIfInBounds_toArray] at h1
  have h2 : (ic (ni l)).set i (.int .i64 (a : Int)) = ic (ni (l.set i a)) := by simp [ic, ni, List.map_set]
  rw [h2] at h1
  exact h1
theorem Nb.rd (h : Nb w g l) {Q : Nat → Prop} (hQ : Q g) : Rd w Q 1 (some ⟨g, 0, none⟩) l.length (ic (ni l)) := Rd.of_blk h (by simp [ic, ni]) hQ
end

set_option maxHeartbeats 4000000 in
theorem upto_any (w : World) (n : Nat) (hn : n ≤ 1000) (N : Nat) (hN : N = n + 1) :
    Calls Try.prog 23 #[.int .i64 (n : Int)] w fun e w' => e = .returned (.slice (some ⟨w.heap.size, 0, none⟩) N N) ∧ Nb w' w.heap.size (List.range N) ∧ Fr F0 w w' := by
  have hmk := make_ints N (by omega) w
  have hw : IntKind.i64.wrap ((n : Int) + 1) = (N : Int) := (IntWalk.i64_in _ (by omega)).trans (by omega)
  have hw2 : wrap64 ((n : Int) + 1) = (N : Int) := by rw [hN]; unfold wrap64; omega
  have HB0 : Hid (Nb (w.alloc (.cells (ic (ni (List.replicate N 0))).toArray 3)) w.heap.size (List.replicate N 0)) := Blk.new _ _ _
  have HF0 : Hid (Fr F0 w (w.alloc (.cells (ic (ni (List.replicate N 0))).toArray 3))) := (Fr.refl _ _).alloc _
  have hN1 : N ≤ 1001 := by omega
  obtain ⟨W0, hW0⟩ : ∃ W0, W0 = w.alloc (.cells (ic (ni (List.replicate N 0))).toArray 3) := ⟨_, rfl⟩
  rw [← hW0] at hmk HB0 HF0
  clear hW0 hN
  go_enter Try.func23, Try.ntmps23
  go_wp2_with fail
  clear hw hw2
  go_loopw [10] (fun i wx => ∃ k : Nat, k ≤ N ∧ i = .int .i64 (k : Int) ∧ Hid (Nb wx w.heap.size (List.range k ++ List.replicate (N - k) 0)) ∧ Hid (Fr F0 w wx)) (fun i _ => N - (intOf i).toNat)
  case atStart => exact ⟨0, by omega, rfl, by simpa using HB0, HF0⟩
  case round =>
    obtain ⟨k, hkn, rfl, HB, HF⟩ := hrel
    by_cases hk : k < N
    · have g1 : (k : Int) < (N : Int) := by omega
      have c1 := Nb.at_ HB.out (i := k) (a := 0) (by rw [List.getElem?_append_right (by simp), List.length_range, Nat.sub_self, List.getElem?_replicate, if_pos (by omega)])
      have f1 := Blk.frozen HB.out k
      go_wp2_with fail
      refine ⟨⟨k + 1, by omega, by go_num, Lib.hid ?_, Lib.hid (HF.out.setCell (.inr (Nat.le_refl _)) _)⟩, by simp [intOf]; omega⟩
      have := Nb.set HB.out k k
      rw [List.set_append_right _ _ (by simp)] at this
      simp only [List.length_range, Nat.sub_self] at this
      rw [show N - k = (N - (k + 1)) + 1 by omega, List.replicate_succ, List.set_cons_zero] at this
      rw [List.range_succ, List.append_assoc]
      exact this
    · obtain rfl : k = N := by omega
      go_wp2_with fail
      go_ret
      exact ⟨rfl, by simpa using HB.out, HF.out⟩

set_option maxHeartbeats 4000000 in
theorem free_any (w : World) (Q : Nat → Prop) (A : Option Addr) (c n n2 x y g : Nat) (G : List (List Nat)) (W : List Nat) (s : Nat) (row : List Nat) (hG : GrAt w Q A (gi G)) (hx : w.cell? ⟨x, 0, none⟩ = some (.slice A n c)) (hn : n = G.length) (hs : G[s]? = some row)
    (hy : w.cell? ⟨y, 0, none⟩ = some (.slice (some ⟨g, 0, none⟩) n n2)) (hW : Nb w g W) (hWn : W.length = n) (hA : ∀ a ∈ row, a < n) (hr : row.length ≤ 1000) (hw : ∀ a ∈ W, a ≤ 1000) :
    Calls Try.prog 22 #[.int .i64 (s : Int), .pointer (some ⟨x, 0, none⟩), .pointer (some ⟨y, 0, none⟩)] w fun e w' => e = .returned (.int .i64 ((fre W row : Nat) : Int)) ∧ Fr F0 w w' := by
  obtain ⟨b, off, A', c', hAe, hQb, hcell, hrd⟩ := hG s _ (gi_at hs)
  subst hAe
  have hsn : s < n := by have := lt_of hs; omega
  have g0 : (s : Int) < (n : Int) := by omega
  have hxl : x < w.heap.size := cell_lt hx
  have hyl : y < w.heap.size := cell_lt hy
  have hgl : g < w.heap.size := hW.lt
  obtain ⟨m, hm⟩ : ∃ m, m = (ni row).length := ⟨_, rfl⟩
  have hml : m = row.length := by rw [hm, ni_length]
  rw [← hm] at hcell hrd
  have hm1 : m ≤ 1000 := by omega
  have HRD := Lib.hid hrd
  have HM := Lib.hid hm
  have HML := Lib.hid hml
  have HX := Lib.hid hx
  have HY := Lib.hid hy
  have HW := Lib.hid hW
  have HWN := Lib.hid hWn
  have HA := Lib.hid hA
  have HWW := Lib.hid hw
  clear hrd hm hml hG hs hW hWn hA hw hr hn hy
  go_enter Try.func22, Try.ntmps22
  go_wp2_with fail
  go_loopw [5, 14] (fun m0 i wx => ∃ j : Nat, j ≤ m ∧ i = .int .i64 (j : Int) ∧ m0 = .int .i64 ((fre W (row.take j) : Nat) : Int) ∧ fre W (row.take j) ≤ 1001 ∧ Hid (Fr F0 w wx)) (fun _ i _ => m - (intOf i).toNat)
  case atStart => exact ⟨0, by omega, rfl, rfl, by simp [fre, mx], Lib.hid (Fr.refl _ _)⟩
  case round =>
    obtain ⟨j, hj, rfl, rfl, hm0, HF⟩ := hrel
    by_cases hjm : j < m
    · have g2 : (j : Int) < (m : Int) := by omega
      obtain ⟨z, hz⟩ := of_lt (show j < row.length by have := HML.out; omega)
      have hrd2 := HRD.out
      rw [HM.out] at hrd2
      obtain ⟨b2, off2, hAe2, _, hcell2⟩ := Rd.int_at hrd2 (ni_at hz)
      subst hAe2
      clear hrd2
      have hza := HA.out z (List.mem_of_getElem? hz)
      obtain ⟨u, hu⟩ := of_lt (show z < W.length by have := HWN.out; omega)
      have hu1 := HWW.out u (List.mem_of_getElem? hu)
      have c1 := HF.out.held hcell2 (fun h => h)
      have c2 := HF.out.held HY.out (fun h => h)
      have c3 := HF.out.held (Nb.at_ HW.out hu) (fun h => h)
      have g3 : (z : Int) < (n : Int) := by omega
      have e1 : fre W (row.take (j + 1)) = max (fre W (row.take j)) (u + 1) := by
        rw [take_snoc hz]
        unfold fre
        rw [mx_snoc, getD_of hu]
      have HE1 := Lib.hid e1
      obtain ⟨f0, hf0⟩ : ∃ f0, f0 = fre W (row.take j) := ⟨_, rfl⟩
      rw [← hf0] at hm0 HE1 ⊢
      have e2 : max (f0 : Int) ((u : Int) + 1) = ((max f0 (u + 1) : Nat) : Int) := by omega
      clear hz hu hcell2 e1 hf0
      go_wp2_with fail
      refine ⟨⟨j + 1, by omega, by go_num, ?_, ?_, HF⟩, by simp [intOf]; omega⟩
      · rw [HE1.out, ← e2]
        congr 1
        split <;> omega
      · rw [HE1.out]; omega
    · have HJ := Lib.hid (show j = m by omega)
      go_wp2_with fail
      go_ret
      refine ⟨?_, HF.out⟩
      have : row.take j = row := by rw [HJ.out, HML.out, List.take_length]
      rw [this]
      rfl
end Go.Proofs.Ytdknhiohkicogaa
