/-
  Layer 13: what the chapter's example says (awake).
-/
import Derived.Test.YtldcffgjkfocoaaCl8
namespace Go.Proofs.Ytldcffgjkfocoaa
open Go.RowKit

/-- The example's three operations in memory. -/
structure AwIs (w0 w : World) (P S G : Nat) (O A : Nat → Nat) (ops : Nat → PO) (m : List Int) (b : Nat) : Prop where
  hM : MI w P S m b
  hG : Blk w G 38 #[.pointer (some ⟨O 0, 0, none⟩), .pointer (some ⟨O 1, 0, none⟩), .pointer (some ⟨O 2, 0, none⟩)]
  hO : ∀ k, k < 3 → OpAt w (O k) (A k) (ops k)
  sep : ∀ i j, i < 3 → j < 3 → i ≠ j → O i ≠ O j ∧ A i ≠ A j
  new : w0.heap.size ≤ P ∧ w0.heap.size ≤ S ∧ w0.heap.size ≤ G
  newo : ∀ k, k < 3 → w0.heap.size ≤ O k ∧ w0.heap.size ≤ A k
  fr : Fr F0 w0 w
  len : m.length = 9
  sta : ∀ k, k < 3 → (ops k).base = 0 ∧ (ops k).lk < 9
  wf : ∀ k, k < 3 → WF (ops k)
theorem AwIs.f0 {w0 w w' : World} {P S G : Nat} {O A : Nat → Nat} {ops : Nat → PO} {m : List Int} {b : Nat} (h : AwIs w0 w P S G O A ops m b) (hf : Fr F0 w w') : AwIs w0 w' P S G O A ops m b :=
  ⟨h.hM.fr hf (fun h => h) (fun h => h), h.hG.fr hf (fun h => h), fun k hk => (h.hO k hk).fr hf (fun h => h) (fun h => h), h.sep, h.new, h.newo, h.fr.trans hf, h.len, h.sta, h.wf⟩
theorem AwIs.move {w0 w : World} {P S G : Nat} {O A : Nat → Nat} {ops : Nat → PO} {m : List Int} {b : Nat} (h : AwIs w0 w P S G O A ops m b) (k : Nat) (hk : k < 3) (hb : b < 900000) :
    Calls Try.prog 17 #[.pointer (some ⟨O k, 0, none⟩), .pointer (some ⟨P, 0, none⟩)] w fun e w' => e = .returned (.bool (stp (ops k) m).1.ended) ∧ AwIs w0 w' P S G O A (upd ops k (stp (ops k) m).1) (stp (ops k) m).2 (b + 1) := by
  obtain ⟨s1, s2⟩ := h.sta k hk
  have hst : (stp (ops k) m).1.base = (ops k).base ∧ (stp (ops k) m).1.lk = (ops k).lk := by
    unfold stp
    (repeat' split) <;> exact ⟨rfl, rfl⟩
  have hOk := h.hO k hk
  refine (move_any w (O k) (A k) P S (ops k) m b hOk h.hM hb (h.wf k hk) (by rw [s1]; omega) (by rw [s1, h.len]; omega) (by rw [h.len]; exact s2)).mono ?_
  rintro e w' ⟨rfl, hO', hM', hf⟩
  refine ⟨rfl, hM', four_away h.hG hOk h.hM hf (by decide) (by decide) (by decide) (by decide) (by decide), fun i hi => ?_, h.sep, h.new, h.newo, ?_, by rw [stp_len]; exact h.len, fun i hi => ?_, fun i hi => ?_⟩
  · by_cases hik : i = k
    · subst hik; rw [upd_eq]; exact hO'
    · rw [upd_ne ops _ hik]
      have hOi := h.hO i hi
      obtain ⟨t1, t2⟩ := h.sep i k hi hk hik
      obtain ⟨p1, p2⟩ := MI.ne hOi.ho h.hM (by decide) (by decide)
      have n1 : O i ≠ A k := by
        cases hv : (ops k).fil with
        | true => exact Blk.ne_ hOi.ho (hOk.hf hv) (by decide)
        | false => exact Blk.ne_ hOi.ho (hOk.hw hv) (by decide)
      have n2 : A i ≠ O k ∧ A i ≠ P ∧ A i ≠ S := by
        cases hv : (ops i).fil with
        | true => exact ⟨Blk.ne_ (hOi.hf hv) hOk.ho (by decide), MI.ne (hOi.hf hv) h.hM (by decide) (by decide)⟩
        | false => exact ⟨Blk.ne_ (hOi.hw hv) hOk.ho (by decide), MI.ne (hOi.hw hv) h.hM (by decide) (by decide)⟩
      exact hOi.fr hf (fun h => h.elim t1 (fun h => h.elim n1 (fun h => h.elim p1 p2))) (fun h => h.elim n2.1 (fun h => h.elim t2 (fun h => h.elim n2.2.1 n2.2.2)))
  · obtain ⟨q1, q2, q3⟩ := h.new
    obtain ⟨q4, q5⟩ := h.newo k hk
    exact h.fr.then hf (fun i hi => .inr (by rcases hi with rfl | rfl | rfl | rfl <;> assumption))
  · by_cases hik : i = k
    · subst hik; rw [upd_eq, hst.1, hst.2]; exact h.sta i hi
    · rw [upd_ne ops _ hik]; exact h.sta i hi
  · by_cases hik : i = k
    · subst hik; rw [upd_eq]; exact (h.wf i hi).stp m
    · rw [upd_ne ops _ hik]; exact h.wf i hi

/-- So many moves of one. -/
def iter : Nat → PO × List Int → PO × List Int
  | 0, x => x
  | n + 1, x => stp (iter n x).1 (iter n x).2
theorem iter_over {x : PO × List Int} : ∀ {n k : Nat}, (iter n x).1.ended = true → iter (n + k) x = iter n x
  | _, 0, _ => rfl
  | n, k + 1, h => by
    show stp (iter (n + k) x).1 (iter (n + k) x).2 = _
    rw [iter_over h]
    unfold stp
    rw [if_pos h]
/-- The example's operations, one behind the other. -/
def aw : Nat → (Nat → PO) × List Int
  | 0 => (fun k => if k = 0 then wait0 0 7 5 else if k = 1 then fill0 0 5 0 else wait0 0 8 6, List.replicate 9 0)
  | k + 1 => let x := iter 9 ((aw k).1 k, (aw k).2); (upd (aw k).1 k x.1, x.2)
theorem upd_upd (ops : Nat → PO) (k : Nat) (a b : PO) : upd (upd ops k a) k b = upd ops k b := by
  funext i
  unfold upd
  split <;> rfl
theorem live_9 : (turnR (List.replicate 9 (false, (0 : Int))) 0 9 true) = (0, lv (List.replicate 9 0)) := by decide

set_option maxHeartbeats 16000000 in
set_option maxRecDepth 100000 in
theorem awake_any (w0 : World) : Calls Try.prog 10 #[] w0 fun e w' => e = .returned (.bool true) ∧ Fr F0 w0 w' := by
  have HN := Lib.hid (new_yes 9 (by decide) w0)
  go_enter Try.func10, Try.ntmps10
  go_wp2_with fail
  refine HN.out.mono ?_
  rintro e w1 ⟨rfl, hM1, hF1⟩
  obtain ⟨P, hP⟩ : ∃ P, P = w0.heap.size + 1 := ⟨_, rfl⟩
  obtain ⟨S, hS⟩ : ∃ S, S = w0.heap.size := ⟨_, rfl⟩
  rw [← hP, ← hS] at hM1
  rw [← hP]
  have hnP : w0.heap.size ≤ P := by omega
  have hnS : w0.heap.size ≤ S := by omega
  have hlv := live_any w1 P S _ 0 hM1 0 9 (by rw [List.length_replicate]; decide) (by decide)
  rw [live_9] at hlv
  have HLV := Lib.hid hlv
  have HF1 := Lib.hid hF1
  clear hM1 hF1 hlv hP hS HN
  go_wp2_with fail
  refine HLV.out.mono ?_
  rintro e w2 ⟨rfl, hM2, hF2⟩
  have HM2 : Hid (MI w2 P S (List.replicate 9 0) 0) := Lib.hid ⟨0, hM2, by omega, by omega⟩
  have HF2 : Hid (Fr F0 w0 w2) := Lib.hid (Fr.then HF1.out hF2 (fun i hi => .inr (by rcases hi with rfl | rfl <;> assumption)))
  clear hM2 hF2 HLV HF1
  go_wp2_with fail
  refine (at_any w2 0).mono ?_
  rintro e w3 ⟨rfl, hf3⟩
  have hf4 : Fr F0 w3 (w3.alloc (.cells #[.int .i64 0] 34)) := (Fr.refl _ _).alloc _
  have HM3 := Lib.hid ((HM2.out.fr hf3 (fun h => h) (fun h => h)).fr hf4 (fun h => h) (fun h => h))
  have HF3 := Lib.hid ((HF2.out.trans hf3).trans hf4)
  have c3 : (w3.alloc (.cells #[.int .i64 0] 34)).cell? ⟨w3.heap.size, 0, none⟩ = some (.int .i64 0) := by rw [(Blk.new w3 34 #[.int .i64 0]).cell]; rfl
  clear HM2 HF2 hf3 hf4
  go_wp2_with fail
  generalize hWc : w3.alloc (.cells #[.int .i64 0] 34) = w4 at *
  clear hWc
  obtain ⟨C, hC⟩ : ∃ C, C = w3.heap.size := ⟨_, rfl⟩
  rw [← hC] at c3 ⊢
  clear hC
  refine region_K 8 (fun w' : World => w'.cell? ⟨C, 0, none⟩ = some (.int .i64 0)) (by kernel_rfl) ?_
  have HS : (fun w' : World => w'.cell? ⟨C, 0, none⟩ = some (.int .i64 0)) (w4).drew := c3
  refine AnyK.take (i := 0) rfl (by decide) (by kernel_rfl) (by kernel_rfl) (by kernel_rfl) (fun _ _ _ _ h => h) HS (fun K hK => ?_)
  go_simp
  refine hK.out _ ⟨_, by rfl, Or.inl ⟨by rfl, by intro w hSw; (try dsimp only at hSw); go_simp⟩, ?_⟩
  clear hK K
  refine AnyK.take (i := 2) rfl (by decide) (by kernel_rfl) (by kernel_rfl) (by kernel_rfl) (fun _ _ _ _ h => h) HS (fun K hK => ?_)
  go_simp
  refine hK.out _ ⟨_, by rfl, Or.inl ⟨by rfl, by intro w hSw; (try dsimp only at hSw); go_simp⟩, ?_⟩
  clear hK K
  refine AnyK.take (i := 4) rfl (by decide) (by kernel_rfl) (by kernel_rfl) (by kernel_rfl) (fun _ _ _ _ h => h) HS (fun K hK => ?_)
  go_simp
  refine hK.out _ ⟨_, by rfl, Or.inl ⟨by rfl, by intro w hSw; (try dsimp only at hSw); go_simp⟩, ?_⟩
  clear hK K
  refine AnyK.one (i := 1) rfl (by kernel_rfl) (fun K hK => ?_)
  go_simp
  go_simp
  refine (wait_any (w4.drew) 0 7 5).mono ?_
  rintro e w1x ⟨rfl, hO1, hf1⟩
  obtain ⟨o1, ho1⟩ : ∃ o, o = (w4.drew).heap.size + 2 := ⟨_, rfl⟩
  obtain ⟨a1, ha1⟩ : ∃ a, a = (w4.drew).heap.size + 1 := ⟨_, rfl⟩
  rw [← ho1, ← ha1] at hO1
  rw [← ho1]
  have HO1_0 := Lib.hid hO1
  have HM1x := Lib.hid (HM3.out.drew.fr hf1 (fun h => h) (fun h => h))
  have HF1x := Lib.hid (HF3.out.drew.trans hf1)
  have hsz1 := hf1.size
  have hlt1 := hO1.lt
  have HZ1 := Lib.hid (show (w4.drew).heap.size < o1 ∧ (w4.drew).heap.size < a1 ∧ o1 < w1x.heap.size ∧ a1 < w1x.heap.size ∧ (w4.drew).heap.size ≤ w1x.heap.size from ⟨by omega, by omega, hlt1.1, hlt1.2, hsz1⟩)
  have HS : (fun w' : World => w'.cell? ⟨C, 0, none⟩ = some (.int .i64 0)) w1x := hf1.held HS (fun h => h)
  clear hO1 hf1 ho1 ha1 hsz1 hlt1
  refine hK.out _ _ (fun _ => HS) ?_
  clear hK K
  refine AnyK.one (i := 3) rfl (by kernel_rfl) (fun K hK => ?_)
  go_simp
  go_simp
  refine (fill_any (w1x) 0 5 0).mono ?_
  rintro e w2x ⟨rfl, hO2, hf2⟩
  obtain ⟨o2, ho2⟩ : ∃ o, o = (w1x).heap.size + 2 := ⟨_, rfl⟩
  obtain ⟨a2, ha2⟩ : ∃ a, a = (w1x).heap.size + 1 := ⟨_, rfl⟩
  rw [← ho2, ← ha2] at hO2
  rw [← ho2]
  have HO2_0 := Lib.hid (HO1_0.out.fr hf2 (fun h => h) (fun h => h))
  have HO2_1 := Lib.hid hO2
  have HM2x := Lib.hid (HM1x.out.fr hf2 (fun h => h) (fun h => h))
  have HF2x := Lib.hid (HF1x.out.trans hf2)
  have hsz2 := hf2.size
  have hlt2 := hO2.lt
  have HZ2 := Lib.hid (show (w1x).heap.size < o2 ∧ (w1x).heap.size < a2 ∧ o2 < w2x.heap.size ∧ a2 < w2x.heap.size ∧ (w1x).heap.size ≤ w2x.heap.size from ⟨by omega, by omega, hlt2.1, hlt2.2, hsz2⟩)
  have HS : (fun w' : World => w'.cell? ⟨C, 0, none⟩ = some (.int .i64 0)) w2x := hf2.held HS (fun h => h)
  clear hO2 hf2 ho2 ha2 hsz2 hlt2
  refine hK.out _ _ (fun _ => HS) ?_
  clear hK K
  refine AnyK.one (i := 5) rfl (by kernel_rfl) (fun K hK => ?_)
  go_simp
  go_simp
  refine (wait_any (w2x) 0 8 6).mono ?_
  rintro e w3x ⟨rfl, hO3, hf3⟩
  obtain ⟨o3, ho3⟩ : ∃ o, o = (w2x).heap.size + 2 := ⟨_, rfl⟩
  obtain ⟨a3, ha3⟩ : ∃ a, a = (w2x).heap.size + 1 := ⟨_, rfl⟩
  rw [← ho3, ← ha3] at hO3
  rw [← ho3]
  have HO3_0 := Lib.hid (HO2_0.out.fr hf3 (fun h => h) (fun h => h))
  have HO3_1 := Lib.hid (HO2_1.out.fr hf3 (fun h => h) (fun h => h))
  have HO3_2 := Lib.hid hO3
  have HM3x := Lib.hid (HM2x.out.fr hf3 (fun h => h) (fun h => h))
  have HF3x := Lib.hid (HF2x.out.trans hf3)
  have hsz3 := hf3.size
  have hlt3 := hO3.lt
  have HZ3 := Lib.hid (show (w2x).heap.size < o3 ∧ (w2x).heap.size < a3 ∧ o3 < w3x.heap.size ∧ a3 < w3x.heap.size ∧ (w2x).heap.size ≤ w3x.heap.size from ⟨by omega, by omega, hlt3.1, hlt3.2, hsz3⟩)
  have HS : (fun w' : World => w'.cell? ⟨C, 0, none⟩ = some (.int .i64 0)) w3x := hf3.held HS (fun h => h)
  clear hO3 hf3 ho3 ha3 hsz3 hlt3
  refine hK.out _ _ (fun _ => HS) ?_
  clear hK K
  refine AnyK.one (i := 6) rfl (by kernel_rfl) (fun K hK => ?_)
  go_simp
  go_simp
  have hf5 : Fr F0 w3x (w3x.alloc (.cells #[.pointer (some ⟨o1, 0, none⟩), .pointer (some ⟨o2, 0, none⟩), .pointer (some ⟨o3, 0, none⟩)] 38)) := (Fr.refl _ _).alloc _
  have HA : Hid (AwIs w0 (w3x.alloc (.cells #[.pointer (some ⟨o1, 0, none⟩), .pointer (some ⟨o2, 0, none⟩), .pointer (some ⟨o3, 0, none⟩)] 38)) P S w3x.heap.size (fun k => if k = 0 then o1 else if k = 1 then o2 else o3) (fun k => if k = 0 then a1 else if k = 1 then a2 else a3) (aw 0).1 (aw 0).2 0) := by
    obtain ⟨z1, z2, z3, z4, z5⟩ := HZ1.out
    obtain ⟨y1, y2, y3, y4, y5⟩ := HZ2.out
    obtain ⟨x1, x2, x3, x4, x5⟩ := HZ3.out
    have hs0 : w0.heap.size ≤ w4.heap.size := HF3.out.size
    have hdr : w4.drew.heap.size = w4.heap.size := rfl
    refine Lib.hid ⟨HM3x.out.fr hf5 (fun h => h) (fun h => h), Blk.new _ _ _, fun k hk => ?_, fun i j hi hj hij => ?_, ⟨hnP, hnS, by omega⟩, fun k hk => ?_, HF3x.out.trans hf5, rfl, fun k hk => ?_, fun k hk => ?_⟩
    · have : k = 0 ∨ k = 1 ∨ k = 2 := by omega
      rcases this with rfl | rfl | rfl
      · exact HO3_0.out.fr hf5 (fun h => h) (fun h => h)
      · exact HO3_1.out.fr hf5 (fun h => h) (fun h => h)
      · exact HO3_2.out.fr hf5 (fun h => h) (fun h => h)
    · have h1 : i = 0 ∨ i = 1 ∨ i = 2 := by omega
      have h2 : j = 0 ∨ j = 1 ∨ j = 2 := by omega
      rcases h1 with rfl | rfl | rfl <;> rcases h2 with rfl | rfl | rfl <;> first | exact absurd rfl hij | (constructor <;> (simp only [if_pos, reduceIte, Nat.reduceEqDiff]; omega))
    · have : k = 0 ∨ k = 1 ∨ k = 2 := by omega
      rcases this with rfl | rfl | rfl <;> (constructor <;> (simp only [if_pos, reduceIte, Nat.reduceEqDiff]; omega))
    · have : k = 0 ∨ k = 1 ∨ k = 2 := by omega
      rcases this with rfl | rfl | rfl <;> exact ⟨rfl, by decide⟩
    · have : k = 0 ∨ k = 1 ∨ k = 2 := by omega
      rcases this with rfl | rfl | rfl
      · exact wf_wait _ _ _
      · exact wf_fill _ _ _
      · exact wf_wait _ _ _
  have HS : (fun w' : World => w'.cell? ⟨C, 0, none⟩ = some (.int .i64 0)) (w3x.alloc (.cells #[.pointer (some ⟨o1, 0, none⟩), .pointer (some ⟨o2, 0, none⟩), .pointer (some ⟨o3, 0, none⟩)] 38)) := hf5.held HS (fun h => h)
  clear hf5
  refine hK.out _ _ (fun _ => HS) ?_
  clear hK K
  refine AnyK.take (i := 7) rfl (by decide) (by kernel_rfl) (by kernel_rfl) (by kernel_rfl) (fun _ _ _ _ h => h) HS (fun K hK => ?_)
  go_simp
  refine hK.out _ ⟨_, by rfl, Or.inl ⟨by rfl, by intro w hSw; (try dsimp only at hSw); go_simp⟩, ?_⟩
  clear hK K
  refine AnyK.done (by kernel_rfl) ?_ _
  obtain ⟨G, hG⟩ : ∃ G, G = w3x.heap.size := ⟨_, rfl⟩
  obtain ⟨O, hO⟩ : ∃ O : Nat → Nat, O = (fun k => if k = 0 then o1 else if k = 1 then o2 else o3) := ⟨_, rfl⟩
  obtain ⟨A, hA⟩ : ∃ A : Nat → Nat, A = (fun k => if k = 0 then a1 else if k = 1 then a2 else a3) := ⟨_, rfl⟩
  rw [← hG, ← hO, ← hA] at HA
  rw [← hG]
  clear hG hO hA HS HZ1 HZ2 HZ3 HM1x HM2x HM3x HF1x HF2x HF3x HO1_0 HO2_0 HO2_1 HO3_0 HO3_1 HO3_2 HM3 HF3 c3
  go_wp2_with fail
  go_loopw [5, 6] (fun iv _ wx => ∃ (k b : Nat), k ≤ 3 ∧ b ≤ 9 * k ∧ iv = .int .i64 (k : Int) ∧ Hid (AwIs w0 wx P S G O A (aw k).1 (aw k).2 b)) (fun iv _ _ => 3 - (intOf iv).toNat)
  case atStart => exact ⟨0, 0, by omega, by omega, rfl, HA⟩
  case round =>
    clear HA
    obtain ⟨k, b, hk3, hbk, rfl, HA⟩ := hrel
    by_cases hk : k < 3
    · have g1 : (k : Int) < 3 := by omega
      go_wp2_with fail
      go_loopw [6] (fun iv wx => ∃ (i c : Nat), i ≤ 9 ∧ c ≤ b + i ∧ iv = .int .i64 (i : Int) ∧ Hid (AwIs w0 wx P S G O A (upd (aw k).1 k (iter i ((aw k).1 k, (aw k).2)).1) (iter i ((aw k).1 k, (aw k).2)).2 c)) (fun iv _ => 9 - (intOf iv).toNat)
      case atStart => exact ⟨0, b, by omega, by omega, rfl, by show Hid (AwIs _ _ _ _ _ _ _ (upd (aw k).1 k ((aw k).1 k)) _ _); rw [upd_same]; exact HA⟩
      case round =>
        clear HA
        obtain ⟨i, c, hi9, hci, rfl, HB⟩ := hrel
        by_cases hi : i < 9
        · have g2 : (i : Int) < 9 := by omega
          have hmv := HB.out.move k hk (by omega)
          rw [upd_eq, upd_upd] at hmv
          have hv2 : ∃ v' m', stp (iter i ((aw k).1 k, (aw k).2)).1 (iter i ((aw k).1 k, (aw k).2)).2 = (v', m') := ⟨_, _, rfl⟩
          obtain ⟨v', m', hs⟩ := hv2
          rw [hs] at hmv
          dsimp only at hmv
          have HMV := Lib.hid hmv
          have HSS := Lib.hid hs
          have gk : wr.cell? ⟨G, k, none⟩ = some (.pointer (some ⟨O k, 0, none⟩)) := by
            rw [HB.out.hG.cell]
            have : k = 0 ∨ k = 1 ∨ k = 2 := by omega
            rcases this with rfl | rfl | rfl <;> rfl
          clear hmv hs
          go_wp2_with fail
          refine HMV.out.mono ?_
          rintro e w6 ⟨rfl, hA6⟩
          have HA6 := Lib.hid hA6
          clear hA6 HMV HB gk
          cases hen : v'.ended with
          | false =>
            have HEN := Lib.hid hen
            clear hen
            go_wp2_with fail
            exact ⟨⟨i + 1, c + 1, by omega, by omega, by go_num, by
              show Hid (AwIs _ _ _ _ _ _ _ (upd _ _ (stp (iter i _).1 (iter i _).2).1) (stp (iter i _).1 (iter i _).2).2 _)
              rw [HSS.out]; exact HA6⟩, by simp [intOf]; omega⟩
          | true =>
            have HE : Hid (iter 9 ((aw k).1 k, (aw k).2) = (v', m')) := by
              have h1 : iter (i + 1) ((aw k).1 k, (aw k).2) = (v', m') := HSS.out
              have h2 := iter_over (n := i + 1) (k := 9 - (i + 1)) (x := ((aw k).1 k, (aw k).2)) (by rw [h1]; exact hen)
              rw [show i + 1 + (9 - (i + 1)) = 9 by omega, h1] at h2
              exact Lib.hid h2
            have HEN := Lib.hid hen
            clear hen
            go_wp2_with fail
            exact ⟨⟨k + 1, c + 1, by omega, by omega, by go_num, by
              show Hid (AwIs _ _ _ _ _ _ _ (upd _ _ (iter 9 _).1) (iter 9 _).2 _)
              rw [HE.out]; exact HA6⟩, by simp [intOf]; omega⟩
        · obtain rfl : i = 9 := by omega
          go_wp2_with fail
          exact ⟨⟨k + 1, c, by omega, by omega, by go_num, HB⟩, by simp [intOf]; omega⟩
    · obtain rfl : k = 3 := by omega
      have gk0 : wr.cell? ⟨G, 0, none⟩ = some (.pointer (some ⟨O 0, 0, none⟩)) := by rw [HA.out.hG.cell]; rfl
      have HE0 := Lib.hid (fun (W : World) (h : AwIs w0 W P S G O A (aw 3).1 (aw 3).2 b) => end_yes W (O 0) _ true 0 0 0 (h.hO 0 (by decide)).ho)
      have HE1 := Lib.hid (fun (W : World) (h : AwIs w0 W P S G O A (aw 3).1 (aw 3).2 b) => end_yes W (O 1) _ false 0 0 7 (h.hO 1 (by decide)).ho)
      have HE2 := Lib.hid (fun (W : World) (h : AwIs w0 W P S G O A (aw 3).1 (aw 3).2 b) => end_yes W (O 2) _ false 5 0 0 (h.hO 2 (by decide)).ho)
      go_wp2_with fail
      refine (HE0.out _ HA.out).mono ?_
      rintro e w6 ⟨rfl, hf6⟩
      have hf6' : Fr F0 w6 (w6.alloc (.cells #[.bool true, .int .i64 0, .int .i64 0, .int .i64 0] 45)) := (Fr.refl _ _).alloc _
      have HA6 := Lib.hid ((HA.out.f0 hf6).f0 hf6')
      have HB6 := Lib.hid (Blk.new w6 45 #[.bool true, .int .i64 0, .int .i64 0, .int .i64 0])
      have gk1 : (w6.alloc (.cells #[.bool true, .int .i64 0, .int .i64 0, .int .i64 0] 45)).cell? ⟨G, 1, none⟩ = some (.pointer (some ⟨O 1, 0, none⟩)) := by rw [HA6.out.hG.cell]; rfl
      clear hf6 hf6' gk0 HA
      go_wp2_with fail
      refine (HE1.out _ HA6.out).mono ?_
      rintro e w7 ⟨rfl, hf7⟩
      have hf7' : Fr F0 w7 (w7.alloc (.cells #[.bool false, .int .i64 0, .int .i64 0, .int .i64 7] 45)) := (Fr.refl _ _).alloc _
      have HA7 := Lib.hid ((HA6.out.f0 hf7).f0 hf7')
      have HB7a := Lib.hid ((HB6.out.fr hf7 (fun h => h)).fr hf7' (fun h => h))
      have HB7 := Lib.hid (Blk.new w7 45 #[.bool false, .int .i64 0, .int .i64 0, .int .i64 7])
      have gk2 : (w7.alloc (.cells #[.bool false, .int .i64 0, .int .i64 0, .int .i64 7] 45)).cell? ⟨G, 2, none⟩ = some (.pointer (some ⟨O 2, 0, none⟩)) := by rw [HA7.out.hG.cell]; rfl
      clear hf7 hf7' gk1 HA6 HB6
      go_wp2_with fail
      refine (HE2.out _ HA7.out).mono ?_
      rintro e w8 ⟨rfl, hf8⟩
      have hf8' : Fr F0 w8 (w8.alloc (.cells #[.bool false, .int .i64 5, .int .i64 0, .int .i64 0] 45)) := (Fr.refl _ _).alloc _
      have HFE := Lib.hid (((HA7.out.f0 hf8).f0 hf8').fr)
      have HB8a := Lib.hid ((HB7a.out.fr hf8 (fun h => h)).fr hf8' (fun h => h))
      have HB8b := Lib.hid ((HB7.out.fr hf8 (fun h => h)).fr hf8' (fun h => h))
      have y1 : (w8.alloc (.cells #[.bool false, .int .i64 5, .int .i64 0, .int .i64 0] 45)).cell? ⟨w6.heap.size, 0, none⟩ = some (.bool true) := by rw [HB8a.out.cell]; rfl
      have y2 : (w8.alloc (.cells #[.bool false, .int .i64 5, .int .i64 0, .int .i64 0] 45)).cell? ⟨w7.heap.size, 3, none⟩ = some (.int .i64 7) := by rw [HB8b.out.cell]; rfl
      clear hf8 hf8' gk2 HA7 HB7 HB7a HE0 HE1 HE2
      go_wp2_with fail
      go_ret
      exact ⟨rfl, HFE.out⟩
end Go.Proofs.Ytldcffgjkfocoaa
