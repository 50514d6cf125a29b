/-
  The document's Read comes to readL, as path.Read does.
-/
import Derived.Test.YtafchncdolagdaaDoorTxtR
import Derived.Laws.DeepStrings4
namespace Go.Proofs.YtafchncdolagdaaDoor
open Go.RowKit

/-- The part of a text from a up to k. -/
def prt (s : ByteArray) (a k : Nat) : ByteArray := s.extract a k
theorem prt_list (s : ByteArray) (a k : Nat) : (prt s a k).data.toList = (s.data.toList.drop a).take (k - a) := by
  unfold prt
  simp
theorem prt_size (s : ByteArray) (a k : Nat) (h : k ≤ s.size) : (prt s a k).size = k - a := by
  have h1 : (prt s a k).data.toList.length = (prt s a k).size := Array.length_toList
  have h2 : s.data.toList.length = s.size := Array.length_toList
  rw [← h1, prt_list, List.length_take, List.length_drop]
  omega
theorem prt_byts (s : ByteArray) (a k : Nat) : byts (prt s a k) = fgs ((s.data.toList.drop a).take (k - a)) := by
  unfold byts fgs
  rw [prt_list]
theorem prt_run (w : World) (s : ByteArray) (a k : Nat) (h1 : a ≤ k) (h2 : k ≤ s.size) : (Instr.slice 9 (.string s) (some (.int .i64 (a : Int))) (some (.int .i64 (k : Int))) none).run Tryd.prog w = .ok (.string (prt s a k)) w := by
  have h := run_slice_string_if (P := Tryd.prog) w 9 s .i64 .i64 (a : Int) (k : Int) Tryd.underlying9
  rw [h, if_pos ⟨by omega, by omega⟩, if_pos ⟨by omega, by omega⟩]
  rfl

theorem okP_iff (s : ByteArray) (a k : Nat) : okP ((s.data.toList.drop a).take (k - a)) ↔ figOk (byts (prt s a k)) 6 := by rw [prt_byts]; rfl
theorem at_byte (s : ByteArray) (k : Nat) (h : k < s.size) : s.data.toList[k]? = some s[k] := by
  rw [List.getElem?_eq_getElem (by simpa using h)]
  rfl

set_option maxHeartbeats 8000000 in
set_option maxRecDepth 100000 in
theorem rread_any (w : World) (s : ByteArray) (hs : s.size ≤ 900) : Calls Tryd.prog 15 #[.string s] w (ReadPost w s.data.toList) := by
  by_cases hd : s = ⟨#[46]⟩
  · subst hd
    go_enter Tryd.func15, Tryd.ntmps15
    go_wp2_with fail
    go_ret2
    exact ⟨none, 0, 0, rfl, Ints.nil, Fr.refl _ _⟩
  · have e1 : (s.toList == [46]) = false := by
      rw [beq_eq_false_iff_ne]
      intro h
      apply hd
      apply WideShapes.bytes_inj
      rw [← Lib.toList_data]
      exact h
    have HNE : Hid (s.data.toList ≠ [46]) := Lib.hid (fun h => hd (WideShapes.bytes_inj h))
    have HSL : Hid (s.data.toList.length = s.size) := Lib.hid Array.length_toList
    clear hd
    go_enter Tryd.func15, Tryd.ntmps15
    go_wp2_with fail
    go_loopw [4, 5, 6] (fun v at_ i wx => ∃ k a : Nat, k ≤ s.size + 1 ∧ i = .int .i64 k ∧ at_ = .int .i64 a ∧ ∃ pre, pre.length ≤ k ∧ Hid (RdInv s.data.toList k a pre) ∧ Hid (∀ q ∈ pre, okP q) ∧ Hid (wx.ownsRow w.heap.size 3 1 v pre.length (ic (pre.map valP))) ∧ Hid (Fr (fun _ => False) w wx)) (fun _ _ i _ => s.size + 1 - (intOf i).toNat)
    case atStart => exact ⟨0, 0, by omega, rfl, rfl, [], by simp, Lib.hid (inv_start _), Lib.hid (fun q hq => by simp at hq), Lib.hid ⟨rfl, .inl ⟨rfl, rfl⟩⟩, Lib.hid (Fr.refl _ _)⟩
    case round =>
      obtain ⟨k, a, hk, rfl, rfl, pre, hpl, HI, HOK, HO, HF⟩ := hrel
      by_cases hkl : k ≤ s.size
      · have key : (k = s.size ∨ ∃ h : k < s.size, s[k] = 46) ∨ ∃ h : k < s.size, s[k] ≠ 46 := by
          rcases Nat.lt_or_ge k s.size with h | h
          · by_cases h2 : s[k] = 46
            · exact .inl (.inr ⟨h, h2⟩)
            · exact .inr ⟨h, h2⟩
          · exact .inl (.inl (by omega))
        rcases key with key | ⟨hlt, hne⟩
        · obtain ⟨hak, hI2, rest, hrest⟩ := inv_part HI.out (by rw [HSL.out]; exact hkl) (by
            rcases key with h | ⟨h, h2⟩
            · left; rw [HSL.out]; exact h
            · right; rw [at_byte s k h, h2])
          have HI2 := Lib.hid hI2
          have HB : Hid (¬ figOk (byts (prt s a k)) 6 → readL s.data.toList = ([], 4)) := Lib.hid (fun h => readL_bad HNE.out hrest (fun h' => h ((okP_iff s a k).1 h')))
          have HG : Hid (figOk (byts (prt s a k)) 6 → okP ((s.data.toList.drop a).take (k - a))) := Lib.hid (okP_iff s a k).2
          have HV : Hid (valP ((s.data.toList.drop a).take (k - a)) = figV (byts (prt s a k))) := Lib.hid (by rw [prt_byts]; rfl)
          have hsl := prt_run wr s a k hak hkl
          have hps := prt_size s a k hkl
          obtain ⟨P, hP⟩ : ∃ P, prt s a k = P := ⟨_, rfl⟩
          rw [hP] at HB HG HV hsl hps
          obtain ⟨pt, hpt⟩ : ∃ pt, (s.data.toList.drop a).take (k - a) = pt := ⟨_, rfl⟩
          rw [hpt] at HG HV HI2
          have HPL := Lib.hid (byts_length P)
          clear hP hpt hI2 hrest hps
          rcases key with hks | ⟨hlt, h46⟩
          · have c1 : ¬ ((k : Int) < (s.size : Int)) := by omega
            clear hks
            by_cases m0 : P.size = 0
            · have hP0 : P = ⟨#[]⟩ := by
                have : P.data.toList = [] := List.length_eq_zero_iff.1 (by rw [Array.length_toList]; exact m0)
                exact WideShapes.bytes_inj this
              have HBD := Lib.hid (HB.out (fun h' => h'.1 (List.length_eq_zero_iff.1 (by rw [HPL.out]; exact m0))))
              subst hP0
              clear m0
              go_wp2_with fail
              go_ret2
              refine ⟨none, 0, 0, ?_, ?_, HF.out⟩
              · rw [HBD.out]; rfl
              · rw [HBD.out]; exact Ints.nil
            have p0 : (0 : Int) < (P.size : Int) := by omega
            have p0' : 0 < P.size := by omega
            have b1 := ne_of_size (s := P) p0'
            have b0 : P.toList.isEmpty = false := by simpa using b1
            have b2 : ((P.size : Int) == 0) = false := by rw [beq_eq_false_iff_ne]; omega
            by_cases m6 : 6 < P.size
            · have g6 : (6 : Int) < (P.size : Int) := by omega
              have HBD := Lib.hid (HB.out (fun h' => by have := h'.2.1; rw [HPL.out] at this; omega))
              clear m0
              go_wp2_with fail
              go_ret2
              refine ⟨none, 0, 0, ?_, ?_, HF.out⟩
              · rw [HBD.out]; rfl
              · rw [HBD.out]; exact Ints.nil
            have g6 : ¬ (6 : Int) < (P.size : Int) := by omega
            clear m0
            by_cases hz : (P[0].toNat : Int) = 48
            · have z1 : ((P[0].toNat : Int) == 48) = true := by simpa using hz
              by_cases m1 : 1 < P.size
              · have g1 : (1 : Int) < (P.size : Int) := by omega
                have HBD := Lib.hid (HB.out (fun h' => h'.2.2.1 (by rw [HPL.out]; exact m1) (by rw [List.getD_eq_getElem?_getD, byts_at P 0 p0']; exact hz)))
                clear hz
                go_wp2_with fail
                go_ret2
                refine ⟨none, 0, 0, ?_, ?_, HF.out⟩
                · rw [HBD.out]; rfl
                · rw [HBD.out]; exact Ints.nil
              have g1 : ¬ (1 : Int) < (P.size : Int) := by omega
              have HZ : Hid (1 < (byts P).length → (byts P).getD 0 0 ≠ 48) := Lib.hid (fun h => by rw [HPL.out] at h; omega)
              clear hz
              go_wp2_with fail
              go_loopw [8, 9] (fun n i wx => ∃ j : Nat, j ≤ P.size ∧ i = .int .i64 j ∧ n = .int .i64 (figV ((byts P).take j)) ∧ Hid (∀ d ∈ (byts P).take j, isFig d) ∧ wx = wr) (fun n i _ => P.size - (intOf i).toNat)
              case atStart => exact ⟨0, by omega, rfl, by simp [figV], Lib.hid (fun d hd => by simp at hd), rfl⟩
              case round =>
                obtain ⟨j, hj, rfl, rfl, HD, rfl⟩ := hrel
                have hbd := figV_ten ((byts P).take j) HD.out (by have := List.length_take_le j (byts P); omega)
                by_cases hjl : j < P.size
                · have HSN := Lib.hid (take_snoc' (byts P) j _ (byts_at P j hjl))
                  have HMEM := Lib.hid (List.mem_of_getElem? (byts_at P j hjl))
                  have hu := P[j].toNat_lt
                  by_cases hf : isFig ((P[j].toNat : Nat) : Int)
                  · obtain ⟨hf1, hf2⟩ := hf
                    have j9 : j ≤ 9 := by omega
                    go_wp2_with fail
                    refine ⟨⟨j + 1, by omega, by go_num, ?_, Lib.hid ?_, trivial⟩, by simp [intOf]; omega⟩
                    · rw [HSN.out, figV_snoc, Int.mul_comm]
                    · rw [HSN.out]
                      intro x hx
                      rcases List.mem_append.1 hx with hx | hx
                      · exact HD.out x hx
                      · rw [List.mem_singleton.1 hx]; exact ⟨hf1, hf2⟩
                  · have HBD := Lib.hid (HB.out (fun h' => hf (h'.2.2.2 _ HMEM.out)))
                    by_cases hf1 : ((P[j].toNat : Nat) : Int) < 48
                    · clear hf
                      go_wp2_with fail
                      go_ret2
                      refine ⟨none, 0, 0, ?_, ?_, HF.out⟩
                      · rw [HBD.out]; rfl
                      · rw [HBD.out]; exact Ints.nil
                    · have hf2 : 57 < ((P[j].toNat : Nat) : Int) := by unfold isFig at hf; omega
                      clear hf
                      go_wp2_with fail
                      go_ret2
                      refine ⟨none, 0, 0, ?_, ?_, HF.out⟩
                      · rw [HBD.out]; rfl
                      · rw [HBD.out]; exact Ints.nil
                · obtain rfl : j = P.size := by omega
                  have htk : (byts P).take P.size = byts P := List.take_of_length_le (by rw [HPL.out]; omega)
                  rw [htk] at HD hbd ⊢
                  clear htk
                  have hfo : figOk (byts P) 6 := ⟨fun e => by have h3 := HPL.out; rw [e] at h3; simp at h3; omega, by rw [HPL.out]; omega, HZ.out, HD.out⟩
                  have HOK2 : Hid (∀ q ∈ pre ++ [pt], okP q) := Lib.hid (by
                    intro q hq
                    rcases List.mem_append.1 hq with hq | hq
                    · exact HOK.out q hq
                    · rw [List.mem_singleton.1 hq]; exact HG.out hfo)
                  obtain ⟨y, hy⟩ : ∃ y, figV (byts P) = y := ⟨_, rfl⟩
                  rw [hy] at HV hbd ⊢
                  have own2 := own_fr' HO.out ((Fr.refl None' wr).alloc (.cells #[.int .i64 (y : Int)] 3)) (fun _ _ h => h)
                  have hr1 := (ints1 wr [(y : Int)] #[.int .i64 (y : Int)] rfl 1 rfl).1
                  have hsz : w.heap.size ≤ (wr.alloc (.cells #[.int .i64 (y : Int)] 3)).heap.size := by have := HF.out.size; simp; omega
                  clear hfo hy hsl
                  go_wp2_with (at_builtin; refine app_int rfl (.tmp 76) (.tmp 78) rfl w.heap.size _ pre.length (pre.map valP) rfl own2 _ 1 _ [(y : Int)] rfl hr1 (by omega) hsz ?_)
                  intro A1 c1 w1 own3 hF3
                  have HF3 := Lib.hid (hF3 _ (Nat.le_refl _) (HF.out.alloc _))
                  have HO3 : Hid (w1.ownsRow w.heap.size 3 1 (.slice A1 (pre.length + 1) c1) (pre ++ [pt]).length (ic ((pre ++ [pt]).map valP))) := Lib.hid (by
                    simpa [ic, HV.out] using own3)
                  clear own2 hr1 hsz own3 hF3
                  go_wp2_with fail
                  exact ⟨⟨k + 1, k + 1, by omega, by go_num, by go_num, pre ++ [pt], by simp; omega, HI2, HOK2, HO3, HF3⟩, by simp [intOf]; omega⟩
            · have z1 : ((P[0].toNat : Int) == 48) = false := by simpa using hz
              have HZ : Hid (1 < (byts P).length → (byts P).getD 0 0 ≠ 48) := Lib.hid (fun _ => by rw [List.getD_eq_getElem?_getD, byts_at P 0 p0']; exact hz)
              clear hz
              go_wp2_with fail
              go_loopw [8, 9] (fun n i wx => ∃ j : Nat, j ≤ P.size ∧ i = .int .i64 j ∧ n = .int .i64 (figV ((byts P).take j)) ∧ Hid (∀ d ∈ (byts P).take j, isFig d) ∧ wx = wr) (fun n i _ => P.size - (intOf i).toNat)
              case atStart => exact ⟨0, by omega, rfl, by simp [figV], Lib.hid (fun d hd => by simp at hd), rfl⟩
              case round =>
                obtain ⟨j, hj, rfl, rfl, HD, rfl⟩ := hrel
                have hbd := figV_ten ((byts P).take j) HD.out (by have := List.length_take_le j (byts P); omega)
                by_cases hjl : j < P.size
                · have HSN := Lib.hid (take_snoc' (byts P) j _ (byts_at P j hjl))
                  have HMEM := Lib.hid (List.mem_of_getElem? (byts_at P j hjl))
                  have hu := P[j].toNat_lt
                  by_cases hf : isFig ((P[j].toNat : Nat) : Int)
                  · obtain ⟨hf1, hf2⟩ := hf
                    have j9 : j ≤ 9 := by omega
                    go_wp2_with fail
                    refine ⟨⟨j + 1, by omega, by go_num, ?_, Lib.hid ?_, trivial⟩, by simp [intOf]; omega⟩
                    · rw [HSN.out, figV_snoc, Int.mul_comm]
                    · rw [HSN.out]
                      intro x hx
                      rcases List.mem_append.1 hx with hx | hx
                      · exact HD.out x hx
                      · rw [List.mem_singleton.1 hx]; exact ⟨hf1, hf2⟩
                  · have HBD := Lib.hid (HB.out (fun h' => hf (h'.2.2.2 _ HMEM.out)))
                    by_cases hf1 : ((P[j].toNat : Nat) : Int) < 48
                    · clear hf
                      go_wp2_with fail
                      go_ret2
                      refine ⟨none, 0, 0, ?_, ?_, HF.out⟩
                      · rw [HBD.out]; rfl
                      · rw [HBD.out]; exact Ints.nil
                    · have hf2 : 57 < ((P[j].toNat : Nat) : Int) := by unfold isFig at hf; omega
                      clear hf
                      go_wp2_with fail
                      go_ret2
                      refine ⟨none, 0, 0, ?_, ?_, HF.out⟩
                      · rw [HBD.out]; rfl
                      · rw [HBD.out]; exact Ints.nil
                · obtain rfl : j = P.size := by omega
                  have htk : (byts P).take P.size = byts P := List.take_of_length_le (by rw [HPL.out]; omega)
                  rw [htk] at HD hbd ⊢
                  clear htk
                  have hfo : figOk (byts P) 6 := ⟨fun e => by have h3 := HPL.out; rw [e] at h3; simp at h3; omega, by rw [HPL.out]; omega, HZ.out, HD.out⟩
                  have HOK2 : Hid (∀ q ∈ pre ++ [pt], okP q) := Lib.hid (by
                    intro q hq
                    rcases List.mem_append.1 hq with hq | hq
                    · exact HOK.out q hq
                    · rw [List.mem_singleton.1 hq]; exact HG.out hfo)
                  obtain ⟨y, hy⟩ : ∃ y, figV (byts P) = y := ⟨_, rfl⟩
                  rw [hy] at HV hbd ⊢
                  have own2 := own_fr' HO.out ((Fr.refl None' wr).alloc (.cells #[.int .i64 (y : Int)] 3)) (fun _ _ h => h)
                  have hr1 := (ints1 wr [(y : Int)] #[.int .i64 (y : Int)] rfl 1 rfl).1
                  have hsz : w.heap.size ≤ (wr.alloc (.cells #[.int .i64 (y : Int)] 3)).heap.size := by have := HF.out.size; simp; omega
                  clear hfo hy hsl
                  go_wp2_with (at_builtin; refine app_int rfl (.tmp 76) (.tmp 78) rfl w.heap.size _ pre.length (pre.map valP) rfl own2 _ 1 _ [(y : Int)] rfl hr1 (by omega) hsz ?_)
                  intro A1 c1 w1 own3 hF3
                  have HF3 := Lib.hid (hF3 _ (Nat.le_refl _) (HF.out.alloc _))
                  have HO3 : Hid (w1.ownsRow w.heap.size 3 1 (.slice A1 (pre.length + 1) c1) (pre ++ [pt]).length (ic ((pre ++ [pt]).map valP))) := Lib.hid (by
                    simpa [ic, HV.out] using own3)
                  clear own2 hr1 hsz own3 hF3
                  go_wp2_with fail
                  exact ⟨⟨k + 1, k + 1, by omega, by go_num, by go_num, pre ++ [pt], by simp; omega, HI2, HOK2, HO3, HF3⟩, by simp [intOf]; omega⟩
          · have c1 : (k : Int) < (s.size : Int) := by omega
            have c2 : ((s[k].toNat : Int) == 46) = true := by rw [h46]; rfl
            have c3 : ((s[k].toNat : Int) != 46) = false := by simp [bne, c2]
            clear h46
            by_cases m0 : P.size = 0
            · have hP0 : P = ⟨#[]⟩ := by
                have : P.data.toList = [] := List.length_eq_zero_iff.1 (by rw [Array.length_toList]; exact m0)
                exact WideShapes.bytes_inj this
              have HBD := Lib.hid (HB.out (fun h' => h'.1 (List.length_eq_zero_iff.1 (by rw [HPL.out]; exact m0))))
              subst hP0
              clear m0
              go_wp2_with fail
              go_ret2
              refine ⟨none, 0, 0, ?_, ?_, HF.out⟩
              · rw [HBD.out]; rfl
              · rw [HBD.out]; exact Ints.nil
            have p0 : (0 : Int) < (P.size : Int) := by omega
            have p0' : 0 < P.size := by omega
            have b1 := ne_of_size (s := P) p0'
            have b0 : P.toList.isEmpty = false := by simpa using b1
            have b2 : ((P.size : Int) == 0) = false := by rw [beq_eq_false_iff_ne]; omega
            by_cases m6 : 6 < P.size
            · have g6 : (6 : Int) < (P.size : Int) := by omega
              have HBD := Lib.hid (HB.out (fun h' => by have := h'.2.1; rw [HPL.out] at this; omega))
              clear m0
              go_wp2_with fail
              go_ret2
              refine ⟨none, 0, 0, ?_, ?_, HF.out⟩
              · rw [HBD.out]; rfl
              · rw [HBD.out]; exact Ints.nil
            have g6 : ¬ (6 : Int) < (P.size : Int) := by omega
            clear m0
            by_cases hz : (P[0].toNat : Int) = 48
            · have z1 : ((P[0].toNat : Int) == 48) = true := by simpa using hz
              by_cases m1 : 1 < P.size
              · have g1 : (1 : Int) < (P.size : Int) := by omega
                have HBD := Lib.hid (HB.out (fun h' => h'.2.2.1 (by rw [HPL.out]; exact m1) (by rw [List.getD_eq_getElem?_getD, byts_at P 0 p0']; exact hz)))
                clear hz
                go_wp2_with fail
                go_ret2
                refine ⟨none, 0, 0, ?_, ?_, HF.out⟩
                · rw [HBD.out]; rfl
                · rw [HBD.out]; exact Ints.nil
              have g1 : ¬ (1 : Int) < (P.size : Int) := by omega
              have HZ : Hid (1 < (byts P).length → (byts P).getD 0 0 ≠ 48) := Lib.hid (fun h => by rw [HPL.out] at h; omega)
              clear hz
              go_wp2_with fail
              go_loopw [8, 9] (fun n i wx => ∃ j : Nat, j ≤ P.size ∧ i = .int .i64 j ∧ n = .int .i64 (figV ((byts P).take j)) ∧ Hid (∀ d ∈ (byts P).take j, isFig d) ∧ wx = wr) (fun n i _ => P.size - (intOf i).toNat)
              case atStart => exact ⟨0, by omega, rfl, by simp [figV], Lib.hid (fun d hd => by simp at hd), rfl⟩
              case round =>
                obtain ⟨j, hj, rfl, rfl, HD, rfl⟩ := hrel
                have hbd := figV_ten ((byts P).take j) HD.out (by have := List.length_take_le j (byts P); omega)
                by_cases hjl : j < P.size
                · have HSN := Lib.hid (take_snoc' (byts P) j _ (byts_at P j hjl))
                  have HMEM := Lib.hid (List.mem_of_getElem? (byts_at P j hjl))
                  have hu := P[j].toNat_lt
                  by_cases hf : isFig ((P[j].toNat : Nat) : Int)
                  · obtain ⟨hf1, hf2⟩ := hf
                    have j9 : j ≤ 9 := by omega
                    go_wp2_with fail
                    refine ⟨⟨j + 1, by omega, by go_num, ?_, Lib.hid ?_, trivial⟩, by simp [intOf]; omega⟩
                    · rw [HSN.out, figV_snoc, Int.mul_comm]
                    · rw [HSN.out]
                      intro x hx
                      rcases List.mem_append.1 hx with hx | hx
                      · exact HD.out x hx
                      · rw [List.mem_singleton.1 hx]; exact ⟨hf1, hf2⟩
                  · have HBD := Lib.hid (HB.out (fun h' => hf (h'.2.2.2 _ HMEM.out)))
                    by_cases hf1 : ((P[j].toNat : Nat) : Int) < 48
                    · clear hf
                      go_wp2_with fail
                      go_ret2
                      refine ⟨none, 0, 0, ?_, ?_, HF.out⟩
                      · rw [HBD.out]; rfl
                      · rw [HBD.out]; exact Ints.nil
                    · have hf2 : 57 < ((P[j].toNat : Nat) : Int) := by unfold isFig at hf; omega
                      clear hf
                      go_wp2_with fail
                      go_ret2
                      refine ⟨none, 0, 0, ?_, ?_, HF.out⟩
                      · rw [HBD.out]; rfl
                      · rw [HBD.out]; exact Ints.nil
                · obtain rfl : j = P.size := by omega
                  have htk : (byts P).take P.size = byts P := List.take_of_length_le (by rw [HPL.out]; omega)
                  rw [htk] at HD hbd ⊢
                  clear htk
                  have hfo : figOk (byts P) 6 := ⟨fun e => by have h3 := HPL.out; rw [e] at h3; simp at h3; omega, by rw [HPL.out]; omega, HZ.out, HD.out⟩
                  have HOK2 : Hid (∀ q ∈ pre ++ [pt], okP q) := Lib.hid (by
                    intro q hq
                    rcases List.mem_append.1 hq with hq | hq
                    · exact HOK.out q hq
                    · rw [List.mem_singleton.1 hq]; exact HG.out hfo)
                  obtain ⟨y, hy⟩ : ∃ y, figV (byts P) = y := ⟨_, rfl⟩
                  rw [hy] at HV hbd ⊢
                  have own2 := own_fr' HO.out ((Fr.refl None' wr).alloc (.cells #[.int .i64 (y : Int)] 3)) (fun _ _ h => h)
                  have hr1 := (ints1 wr [(y : Int)] #[.int .i64 (y : Int)] rfl 1 rfl).1
                  have hsz : w.heap.size ≤ (wr.alloc (.cells #[.int .i64 (y : Int)] 3)).heap.size := by have := HF.out.size; simp; omega
                  clear hfo hy hsl
                  go_wp2_with (at_builtin; refine app_int rfl (.tmp 76) (.tmp 78) rfl w.heap.size _ pre.length (pre.map valP) rfl own2 _ 1 _ [(y : Int)] rfl hr1 (by omega) hsz ?_)
                  intro A1 c1 w1 own3 hF3
                  have HF3 := Lib.hid (hF3 _ (Nat.le_refl _) (HF.out.alloc _))
                  have HO3 : Hid (w1.ownsRow w.heap.size 3 1 (.slice A1 (pre.length + 1) c1) (pre ++ [pt]).length (ic ((pre ++ [pt]).map valP))) := Lib.hid (by
                    simpa [ic, HV.out] using own3)
                  clear own2 hr1 hsz own3 hF3
                  go_wp2_with fail
                  exact ⟨⟨k + 1, k + 1, by omega, by go_num, by go_num, pre ++ [pt], by simp; omega, HI2, HOK2, HO3, HF3⟩, by simp [intOf]; omega⟩
            · have z1 : ((P[0].toNat : Int) == 48) = false := by simpa using hz
              have HZ : Hid (1 < (byts P).length → (byts P).getD 0 0 ≠ 48) := Lib.hid (fun _ => by rw [List.getD_eq_getElem?_getD, byts_at P 0 p0']; exact hz)
              clear hz
              go_wp2_with fail
              go_loopw [8, 9] (fun n i wx => ∃ j : Nat, j ≤ P.size ∧ i = .int .i64 j ∧ n = .int .i64 (figV ((byts P).take j)) ∧ Hid (∀ d ∈ (byts P).take j, isFig d) ∧ wx = wr) (fun n i _ => P.size - (intOf i).toNat)
              case atStart => exact ⟨0, by omega, rfl, by simp [figV], Lib.hid (fun d hd => by simp at hd), rfl⟩
              case round =>
                obtain ⟨j, hj, rfl, rfl, HD, rfl⟩ := hrel
                have hbd := figV_ten ((byts P).take j) HD.out (by have := List.length_take_le j (byts P); omega)
                by_cases hjl : j < P.size
                · have HSN := Lib.hid (take_snoc' (byts P) j _ (byts_at P j hjl))
                  have HMEM := Lib.hid (List.mem_of_getElem? (byts_at P j hjl))
                  have hu := P[j].toNat_lt
                  by_cases hf : isFig ((P[j].toNat : Nat) : Int)
                  · obtain ⟨hf1, hf2⟩ := hf
                    have j9 : j ≤ 9 := by omega
                    go_wp2_with fail
                    refine ⟨⟨j + 1, by omega, by go_num, ?_, Lib.hid ?_, trivial⟩, by simp [intOf]; omega⟩
                    · rw [HSN.out, figV_snoc, Int.mul_comm]
                    · rw [HSN.out]
                      intro x hx
                      rcases List.mem_append.1 hx with hx | hx
                      · exact HD.out x hx
                      · rw [List.mem_singleton.1 hx]; exact ⟨hf1, hf2⟩
                  · have HBD := Lib.hid (HB.out (fun h' => hf (h'.2.2.2 _ HMEM.out)))
                    by_cases hf1 : ((P[j].toNat : Nat) : Int) < 48
                    · clear hf
                      go_wp2_with fail
                      go_ret2
                      refine ⟨none, 0, 0, ?_, ?_, HF.out⟩
                      · rw [HBD.out]; rfl
                      · rw [HBD.out]; exact Ints.nil
                    · have hf2 : 57 < ((P[j].toNat : Nat) : Int) := by unfold isFig at hf; omega
                      clear hf
                      go_wp2_with fail
                      go_ret2
                      refine ⟨none, 0, 0, ?_, ?_, HF.out⟩
                      · rw [HBD.out]; rfl
                      · rw [HBD.out]; exact Ints.nil
                · obtain rfl : j = P.size := by omega
                  have htk : (byts P).take P.size = byts P := List.take_of_length_le (by rw [HPL.out]; omega)
                  rw [htk] at HD hbd ⊢
                  clear htk
                  have hfo : figOk (byts P) 6 := ⟨fun e => by have h3 := HPL.out; rw [e] at h3; simp at h3; omega, by rw [HPL.out]; omega, HZ.out, HD.out⟩
                  have HOK2 : Hid (∀ q ∈ pre ++ [pt], okP q) := Lib.hid (by
                    intro q hq
                    rcases List.mem_append.1 hq with hq | hq
                    · exact HOK.out q hq
                    · rw [List.mem_singleton.1 hq]; exact HG.out hfo)
                  obtain ⟨y, hy⟩ : ∃ y, figV (byts P) = y := ⟨_, rfl⟩
                  rw [hy] at HV hbd ⊢
                  have own2 := own_fr' HO.out ((Fr.refl None' wr).alloc (.cells #[.int .i64 (y : Int)] 3)) (fun _ _ h => h)
                  have hr1 := (ints1 wr [(y : Int)] #[.int .i64 (y : Int)] rfl 1 rfl).1
                  have hsz : w.heap.size ≤ (wr.alloc (.cells #[.int .i64 (y : Int)] 3)).heap.size := by have := HF.out.size; simp; omega
                  clear hfo hy hsl
                  go_wp2_with (at_builtin; refine app_int rfl (.tmp 76) (.tmp 78) rfl w.heap.size _ pre.length (pre.map valP) rfl own2 _ 1 _ [(y : Int)] rfl hr1 (by omega) hsz ?_)
                  intro A1 c1 w1 own3 hF3
                  have HF3 := Lib.hid (hF3 _ (Nat.le_refl _) (HF.out.alloc _))
                  have HO3 : Hid (w1.ownsRow w.heap.size 3 1 (.slice A1 (pre.length + 1) c1) (pre ++ [pt]).length (ic ((pre ++ [pt]).map valP))) := Lib.hid (by
                    simpa [ic, HV.out] using own3)
                  clear own2 hr1 hsz own3 hF3
                  go_wp2_with fail
                  exact ⟨⟨k + 1, k + 1, by omega, by go_num, by go_num, pre ++ [pt], by simp; omega, HI2, HOK2, HO3, HF3⟩, by simp [intOf]; omega⟩
        · have hne2 : ((s[k].toNat : Int) == 46) = false := by
            rw [beq_eq_false_iff_ne]
            intro h
            apply hne
            apply UInt8.toNat_inj.1
            have : (46 : UInt8).toNat = 46 := rfl
            omega
          have hne3 : ((s[k].toNat : Int) != 46) = true := by simp [bne, hne2]
          have HI2 := Lib.hid (inv_skip HI.out (at_byte s k hlt) hne)
          clear hne
          go_wp2_with fail
          exact ⟨⟨k + 1, a, by omega, by go_num, rfl, pre, by omega, HI2, HOK, HO, HF⟩, by simp [intOf]; omega⟩
      · obtain rfl : k = s.size + 1 := by omega
        have hE : splitD 46 s.data.toList = pre := inv_end (a := a) (by rw [HSL.out]; exact HI.out)
        obtain ⟨A1, c1, rfl⟩ := own_slice' HO.out
        by_cases h30 : 30 < pre.length
        · have HR := Lib.hid (readL_long HNE.out hE HOK.out h30)
          have g30 : (30 : Int) < (pre.length : Int) := by omega
          clear hE
          go_wp2_with fail
          go_ret2
          refine ⟨none, 0, 0, ?_, ?_, HF.out⟩
          · rw [HR.out]; rfl
          · rw [HR.out]; exact Ints.nil
        · have HR := Lib.hid (readL_ok HNE.out hE HOK.out h30)
          have g30 : ¬ (30 : Int) < (pre.length : Int) := by omega
          clear hE
          go_wp2_with fail
          go_ret2
          refine ⟨A1, pre.length, c1, ?_, ?_, HF.out⟩
          · rw [HR.out]; rfl
          · rw [HR.out]; exact Ints.of_own HO.out
end Go.Proofs.YtafchncdolagdaaDoor
