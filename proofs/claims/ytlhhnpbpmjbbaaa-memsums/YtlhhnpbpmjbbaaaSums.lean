/-
  haymowlaw01.MemSums returns true for every list of 64-bit numbers, and the argument reads as it did. No condition.
-/
import Derived.Test.YtlhhnpbpmjbbaaaEasy
import Derived.Test.YtlhhnpbpmjbbaaaArgs
import Derived.Test.YtlhhnpbpmjbbaaaRows
import Derived.ProofKit
import Derived.OpenShut
import Derived.ShutString
import Derived.ChangeOld
namespace Go.Proofs.Ytlhhnpbpmjbbaaa.memSums
open Go.ChangeShapes Go.WideShapes Go.ChangeAt Go.RowKit
open Go.ChangeMaps (open_string shut_string)

def sumI : List Int → Int
  | [] => 0
  | x :: r => x + sumI r
theorem sumI_append (a b : List Int) : sumI (a ++ b) = sumI a + sumI b := by
  induction a with
  | nil => simp [sumI]
  | cons x r ih => simp [sumI, ih]; omega
theorem wrap_add (a b : Int) : wrap64 (wrap64 a + b) = wrap64 (a + b) := by unfold wrap64; omega
/-- The sum of the first j of len, and of the last j. -/
def fst_ (zs : List Int) (j : Nat) : Int := wrap64 (sumI (zs.take j))
def lst_ (zs : List Int) (len j : Nat) : Int := wrap64 (sumI ((zs.take len).drop (len - j)))
theorem fst_zero (zs : List Int) : fst_ zs 0 = 0 := by simp [fst_, sumI]; unfold wrap64; omega
theorem lst_zero (zs : List Int) (len : Nat) : lst_ zs len 0 = 0 := by
  have : (zs.take len).drop (len - 0) = [] := by rw [List.drop_eq_nil_iff]; simp; omega
  unfold lst_; rw [this]; simp [sumI]; unfold wrap64; omega
theorem fst_succ (zs : List Int) (j : Nat) (h : j < zs.length) : wrap64 (fst_ zs j + zs[j]?.getD 0) = fst_ zs (j + 1) := by
  unfold fst_
  rw [wrap_add, List.take_succ_eq_append_getElem h, sumI_append]
  simp [sumI, h]
theorem lst_succ (zs : List Int) (len j : Nat) (h : len ≤ zs.length) (hj : j < len) : wrap64 (lst_ zs len j + zs[len - 1 - j]?.getD 0) = lst_ zs len (j + 1) := by
  unfold lst_
  have hl : (zs.take len).length = len := by simp; omega
  rw [wrap_add, List.drop_eq_getElem_cons (i := len - (j + 1)) (by omega), show len - (j + 1) + 1 = len - j from by omega]
  simp only [sumI]
  congr 1
  have e : zs[len - 1 - j]?.getD 0 = (zs.take len)[len - (j + 1)]'(by omega) := by
    rw [List.getElem_take, List.getElem?_eq_getElem (by omega)]
    simp only [Option.getD_some]
    congr 1
    omega
  rw [e]; omega
theorem ends (zs : List Int) (len : Nat) : lst_ zs len len = fst_ zs len := by unfold lst_ fst_; simp

set_option maxHeartbeats 1000000 in
theorem long (a0 : Option Addr) (len0 cap0 : Nat) (h : 100 < len0) (w : World) :
    Calls Try.prog 7 #[.slice a0 len0 cap0] w fun e w' => e = .returned (.bool true) ∧ Below w.heap.size w w' := by
  have h1 : (100 : Int) < (len0 : Int) := by omega
  go_enter Try.func7, Try.ntmps7
  go_wp2_with fail
  go_ret
  exact ⟨rfl, Below.refl _ _⟩

set_option maxHeartbeats 2000000 in
theorem few (a0 : Option Addr) (len0 cap0 : Nat) (zs : List Int) (w : World) (w0 : IsRow .i64 w a0 len0 cap0 zs) (h : len0 ≤ 100) :
    Calls Try.prog 7 #[.slice a0 len0 cap0] w fun e w' => e = .returned (.bool true) ∧ Below w.heap.size w w' := by
  have h1 : ¬ (100 : Int) < (len0 : Int) := by omega
  have hB : ∀ i, Two (w.heap.size + 1) w.heap.size i → False ∨ w.heap.size ≤ i := by
    rintro i (rfl | rfl)
    · exact .inr (by omega)
    · exact .inr (by omega)
  have HB := Lib.hid hB
  have hlz := w0.len_le
  have W0 := Lib.hid w0
  clear w0 hB
  have F0 := Lib.hid (fst_zero zs)
  have L0 := Lib.hid (lst_zero zs len0)
  have FS := Lib.hid (fst_succ zs)
  have LS := Lib.hid (lst_succ zs len0)
  have EN := Lib.hid (ends zs len0)
  go_enter Try.func7, Try.ntmps7
  go_wp2_with (go_at_call 10; refine (new_yes 2 (by omega) w).mono ?_; rintro e w1 ⟨rfl, hM1, hF1⟩)
  refine (live_ok w1 _ _ _ _ hM1 _ _ 0 2 rfl rfl (by rw [List.length_replicate]; omega) (by rw [List.length_replicate]; omega) (fun j hj => ⟨0, by rw [List.getElem?_replicate, if_pos (by omega)]⟩)).mono ?_
  rintro e w2 ⟨rfl, hM2, hF2⟩
  go_wp2_with fail
  go_loopw [5] (fun i wr => ∃ j : Nat, j ≤ len0 ∧ i = .int .i64 j ∧ MemIs wr (w.heap.size + 1) w.heap.size [(true, fst_ zs j), (true, lst_ zs len0 j)] (2 * j) ∧ Fr (fun _ => False) w wr) (fun i _ => len0 - (intOf i).toNat)
  case atStart => exact ⟨0, by omega, rfl, by rw [F0.out, L0.out]; exact hM2, hF1.then hF2 HB.out⟩
  case round =>
    obtain ⟨j, hj, rfl, hMr, hFr⟩ := hrel
    by_cases hlt : j < len0
    · obtain ⟨b, off, rfl, hc⟩ := W0.out.at_ hlt
      obtain ⟨b', off', hbo, hc'⟩ := W0.out.at_ (show len0 - 1 - j < len0 by omega)
      obtain ⟨rfl, rfl⟩ : b = b' ∧ off = off' := by simpa using hbo
      have hbl : b < w.heap.size := cell_lt hc
      have d1 := hFr.held hc (by simp)
      have d2 := hFr.held hc' (by simp)
      clear hc hc' hbo
      go_wp2_with fail
      refine (add_ok wr _ _ _ _ hMr 0 (fst_ zs j) (zs[j]?.getD 0) rfl (by omega) (by omega)).mono ?_
      rintro e w3 ⟨rfl, hM3, hF3⟩
      rw [FS.out j (by omega)] at hM3 ⊢
      have d3 := hF3.held d2 (by simp; omega)
      have e1 : ((len0 : Int) - 1 - (j : Int)).toNat = len0 - 1 - j := by omega
      go_wp2_with fail
      clear e1
      refine (add_ok w3 _ _ _ _ hM3 1 (lst_ zs len0 j) (zs[len0 - 1 - j]?.getD 0) rfl (by omega) (by omega)).mono ?_
      rintro e w4 ⟨rfl, hM4, hF4⟩
      rw [LS.out j (by omega) (by omega)] at hM4 ⊢
      go_wp2_with fail
      refine ⟨⟨j + 1, by omega, by go_num, ?_, (hFr.then hF3 HB.out).then hF4 HB.out⟩, by simp [intOf]; omega⟩
      rw [show 2 * ((j + 1 : Nat) : Int) = 2 * (j : Int) + 1 + 1 by omega]
      exact hM4
    · obtain rfl : j = len0 := by omega
      rw [EN.out] at hMr
      have s1 : ((2 * (j : Int) + 1 + 1) == 2 * (j : Int) + 2) = true := by simp; omega
      go_wp2_with fail
      refine (load_ok wr _ _ _ _ hMr 0 (fst_ zs j) rfl (by omega) (by omega)).mono ?_
      rintro e w3 ⟨rfl, hM3, hF3⟩
      go_wp2_with fail
      refine (load_ok w3 _ _ _ _ hM3 1 (fst_ zs j) rfl (by omega) (by omega)).mono ?_
      rintro e w4 ⟨rfl, hM4, hF4⟩
      go_wp2_with fail
      refine (steps_any w4 _ _ _ _ hM4).mono ?_
      rintro e w5 ⟨rfl, rfl⟩
      go_wp2_with fail
      refine (awake_any w4).mono ?_
      rintro e w6 ⟨rfl, hF6⟩
      go_wp2_with fail
      go_ret
      exact ⟨rfl, (((hFr.then hF3 HB.out).then hF4 HB.out).trans hF6).below (Nat.le_refl _) (fun _ h => h.elim)⟩

theorem walk (a0 : Option Addr) (len0 cap0 : Nat) (z0 : List Int) (w : World) (w0 : IsRow .i64 w a0 len0 cap0 z0) :
    Calls Try.prog 7 #[.slice a0 len0 cap0] w fun e w' => e = .returned (.bool true) ∧ Below w.heap.size w w' := by
  by_cases h : 100 < len0
  · exact long a0 len0 cap0 h w
  · exact few a0 len0 cap0 z0 w w0 (by omega)


/-! ### The row's step -/
theorem own : ownKnob Try.prog.godebug = none := by kernel_rfl
theorem laidOut : laidOutB Try.prog = true := by kernel_rfl

set_option maxRecDepth 100000 in
theorem lifted (os : Os) (started : os.Started) (H : Type) (enc : TypeId × Value → H) :
    ReturnsInHanded {} Try.checked os 7 .any (Rows.memSumsSpec.pre6 enc Try.prog Try.f7 Rows.memSumsRow.domain false) (Rows.memSumsSpec.post enc Try.prog Try.f7 false true false false) := by
  refine returnsInHanded_of_change (C := Try.checked) own started (by kernel_rfl) Try.func7
    (ChangeSpec.witness6 (enc := enc) (C := Try.checked) false ⟨#[], #[.slice none 0 0], []⟩ 8 (by kernel_rfl) (by kernel_rfl) (by kernel_rfl) (by kernel_rfl)) ?_
  intro W base args ds gs before hval0 hW hcnd _
  have hval : ∀ (j : Nat) t v, Try.f7.params[j]? = some t → args[j]? = some v → Value.okWide Try.prog W .any base t v := hval0
  have hW' := hW
  obtain ⟨p, q, hA0, hV, rfl, hfz, hnd⟩ := hW
  have hA : DataW.TrodAll enc Try.prog W 0 (fun _ => true) true Try.f7.params.toList args.toList ds p := hA0
  rw [Try.params7] at hA hval
  obtain ⟨v0, vs0, d0, ds0, p0, q0, hargs, rfl, rfl, h0, r0⟩ := trodAll_cons hA
  obtain ⟨rfl, rfl, rfl⟩ := trodAll_nil r0
  obtain rfl : args = #[v0] := by cases args; simp_all
  obtain ⟨rfl, rfl⟩ := trodVars_none hV
  obtain ⟨a0, len0, cap0, rfl⟩ := okWide_slice Try.underlying34 (hval 0 34 v0 rfl rfl)
  have k0 := h0
  have lt0 : ∀ x ∈ p0, x.block < W.heap.size := by obtain ⟨m, hm⟩ := k0; exact DataW.trod_lt m _ _ _ hm
  obtain ⟨z0, w0⟩ : ∃ zs, IsRow .i64 W a0 len0 cap0 zs := by
    obtain ⟨fuel, hf⟩ := h0
    rcases open_ints Try.underlying34 Try.underlying2 (by kernel_rfl) hf with ⟨hcs, _⟩ | ⟨x, l, c, zs, hcs, _, hl, hm, hz, _, hcell, hwz⟩
    · simp [Value.cells] at hcs
      obtain ⟨rfl, rfl, rfl⟩ := hcs
      exact ⟨[], .inl ⟨rfl, rfl, rfl, rfl⟩⟩
    · simp [Value.cells] at hcs
      obtain ⟨rfl, rfl, rfl⟩ := hcs
      exact ⟨zs, .inr ⟨_, rfl, hl, hm, by simpa using hz, hcell, hwz⟩⟩
  clear hA0 hval0
  refine (walk a0 len0 cap0 z0 W w0).mono fun e W' ⟨he, bel⟩ => ?_
  subst he
  exact ⟨_, rfl, _, _, _, [], _, [], hW', trodAll_mk1 (shut_bool Try.underlying4 _), (trodAll_cons_mk (Below.trod laidOut (by kernel_rfl) (of_decide_eq_true (by kernel_rfl)) k0 bel lt0) trodAll_mk0), rfl, bel.frame _, fun h => by cases h⟩

theorem over : Rows.memSumsRow.holds Try.pinned (OpenSpec.ofChange Rows.memSumsSpec) :=
  OpenClaim.holds_of_wide 7 Try.f7 rfl rfl rfl rfl rfl rfl rfl ⟨rfl, rfl, rfl, rfl, rfl⟩ rfl rfl rfl rfl rfl (by kernel_rfl) Try.func7 (by kernel_rfl)
    (of_decide_eq_true (by kernel_rfl)) (by unfold Func.isWrapper; first | (rw [if_pos (by decide +kernel)]; kernel_rfl) | (rw [if_neg (by decide +kernel)]; exact ⟨rfl, rfl⟩))
    (fun os started H enc _ => lifted os started H enc)

/-- The statement. -/
theorem proved : Rows.MemSumsSaid := over
#print axioms proved
end Go.Proofs.Ytlhhnpbpmjbbaaa.memSums
