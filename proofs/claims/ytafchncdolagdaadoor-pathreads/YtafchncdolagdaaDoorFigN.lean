/-
  figures.Natural: the number of plain figures, or none.
-/
import Derived.Test.YtafchncdolagdaaDoorBase
import Derived.Test.YtafchncdolagdaaDoorPureN
import Derived.Test.YtafchncdolagdaaDoorProg
import Derived.Outline
import Derived.KernelRfl
import Derived.WalkLawsBesides
import Derived.Lib.ConvBytes
import Derived.Lib.Strings
import Derived.WideShapes
namespace Go.Proofs.YtafchncdolagdaaDoor
open Go.RowKit

theorem take_snoc' (l : List Int) (k : Nat) (x : Int) (h : l[k]? = some x) : l.take (k + 1) = l.take k ++ [x] := by
  rw [List.take_add_one, h]; rfl

theorem bytesWorld_fr (w : World) (e : TypeId) (s : ByteArray) : Fr (fun _ => False) w (Lib.bytesWorld w e s) :=
  ⟨rfl, rfl, rfl, by rw [Lib.bytesWorld_size]; omega, fun k hk _ => Lib.bytesWorld_at_old w e s k hk⟩
theorem conv_str (w : World) (s : ByteArray) : (convert 9 53 (.string s)).run Tryd.prog w = .ok (.slice (some ⟨w.heap.size, 0, none⟩) s.size (grownCap w s.size 0 5)) (Lib.bytesWorld w 5 s) :=
  Lib.run_convert_string_bytes w 9 53 5 s Tryd.underlying9 Tryd.underlying53 Tryd.underlying5

theorem ne_of_size {s : ByteArray} (h : 0 < s.size) : ¬ s.toList = [] := fun e => by
  have h1 : s.data.toList.length = 0 := by rw [← Lib.toList_data, e]; rfl
  have h2 : s.data.toList.length = s.size := Array.length_toList
  omega


theorem bytes_cells (w : World) (s : ByteArray) : ∀ k d, (byts s)[k]? = some d → (Lib.bytesWorld w 5 s).cell? ⟨w.heap.size, k, none⟩ = some (.int .u8 d) ∧ 0 ≤ d ∧ d ≤ 255 := by
  intro k d hd
  have hk : k < s.size := by have := (List.getElem?_eq_some_iff.1 hd).1; rwa [byts_length] at this
  rw [Lib.bytesWorld_cell w 5 s k hk]
  unfold byts at hd
  rw [List.getElem?_map] at hd
  rw [List.getD_eq_getElem?_getD]
  cases hc : s.data.toList[k]? with
  | none => rw [hc] at hd; cases hd
  | some c =>
    rw [hc] at hd
    simp only [Option.map_some, Option.some.injEq] at hd
    subst hd
    have := c.toNat_lt
    exact ⟨by simp, by omega, by omega⟩

/-- What Natural comes to. -/
def NPost (w : World) (l : List Int) (m : Nat) (e : Ending) (w' : World) : Prop :=
  (figOk l m ∧ e = .returned (.tuple #[.int .i64 (figV l), .bool true]) ∧ Fr (fun _ => False) w w') ∨ (¬ figOk l m ∧ e = .returned (.tuple #[.int .i64 0, .bool false]) ∧ Fr (fun _ => False) w w')

set_option maxHeartbeats 2000000 in
theorem natural_empty (w : World) (m : Nat) : Calls Tryd.prog 22 #[.string ⟨#[]⟩, .int .i64 (m : Int)] w (NPost w [] m) := by
  go_enter Tryd.func22, Tryd.ntmps22
  go_wp2_with fail
  go_ret2
  exact .inr ⟨fun h => h.1 rfl, rfl, Fr.refl _ _⟩

set_option maxHeartbeats 2000000 in
theorem natural_long (w : World) (s : ByteArray) (m : Nat) (h : m < s.size) : Calls Tryd.prog 22 #[.string s, .int .i64 (m : Int)] w (NPost w (byts s) m) := by
  have h1 : (m : Int) < (s.size : Int) := by omega
  have HL := Lib.hid (byts_length s)
  have b1 := ne_of_size (s := s) (by omega)
  have b0 : s.toList.isEmpty = false := by simpa using b1
  go_enter Tryd.func22, Tryd.ntmps22
  go_wp2_with fail
  go_ret2
  exact .inr ⟨fun h' => by have := h'.2.1; rw [HL.out] at this; omega, rfl, Fr.refl _ _⟩

set_option maxHeartbeats 2000000 in
theorem natural_zero (w : World) (s : ByteArray) (m : Nat) (h1 : 1 < s.size) (h2 : s.size ≤ m) (h0 : s[0].toNat = 48) : Calls Tryd.prog 22 #[.string s, .int .i64 (m : Int)] w (NPost w (byts s) m) := by
  have g1 : (1 : Int) < (s.size : Int) := by omega
  have g2 : ¬ (m : Int) < (s.size : Int) := by omega
  have HB : Hid ((byts s).getD 0 0 = 48) := Lib.hid (by rw [List.getD_eq_getElem?_getD, byts_at s 0 (by omega), h0]; rfl)
  have HL := Lib.hid (byts_length s)
  have b1 := ne_of_size (s := s) (by omega)
  have b0 : s.toList.isEmpty = false := by simpa using b1
  go_enter Tryd.func22, Tryd.ntmps22
  go_wp2_with fail
  go_ret2
  exact .inr ⟨fun h' => h'.2.2.1 (by rw [HL.out]; exact h1) HB.out, rfl, Fr.refl _ _⟩

set_option maxHeartbeats 4000000 in
theorem natural_main (w : World) (s : ByteArray) (m : Nat) (hm : m ≤ 10) (h1 : 0 < s.size) (h2 : s.size ≤ m) (h0 : 1 < s.size → (s[0]'h1).toNat ≠ 48) : Calls Tryd.prog 22 #[.string s, .int .i64 (m : Int)] w (NPost w (byts s) m) := by
  have g2 : ¬ (m : Int) < (s.size : Int) := by omega
  have HL := Lib.hid (byts_length s)
  have b1 := ne_of_size (s := s) (by omega)
  have b0 : s.toList.isEmpty = false := by simpa using b1
  have hcv := conv_str w s
  have HH : Hid ((byts s) ≠ [] ∧ (1 < (byts s).length → (byts s).getD 0 0 ≠ 48)) := Lib.hid ⟨fun e => by have h3 := byts_length s; rw [e] at h3; exact absurd h3 (by rw [List.length_nil]; omega), fun h => by
    rw [byts_length] at h
    rw [List.getD_eq_getElem?_getD, byts_at s 0 (by omega)]
    have := h0 h
    simp only [Option.getD_some]
    exact fun e => this (by omega)⟩
  by_cases hs1 : 1 < s.size
  · have g1 : (1 : Int) < (s.size : Int) := by omega
    have g3 : (((s[0]'(by omega)).toNat : Int) == 48) = false := by have := h0 hs1; simp; omega
    clear h0
    go_enter Tryd.func22, Tryd.ntmps22
    go_wp2_with fail
    generalize hW : Lib.bytesWorld w 5 s = W
    have HFW : Hid (Fr (fun _ => False) w W) := Lib.hid (by rw [← hW]; exact bytesWorld_fr w 5 s)
    have HCW : Hid (∀ k d, (byts s)[k]? = some d → W.cell? ⟨w.heap.size, k, none⟩ = some (.int .u8 d) ∧ 0 ≤ d ∧ d ≤ 255) := Lib.hid (by rw [← hW]; exact bytes_cells w s)
    clear hcv hW b0 b1
    go_loopw [6, 30] (fun n i wx => ∃ k : Nat, k ≤ s.size ∧ i = .int .i64 k ∧ n = .int .i64 (figV ((byts s).take k)) ∧ Hid (∀ d ∈ (byts s).take k, isFig d) ∧ wx = W) (fun n i _ => s.size - (intOf i).toNat)
    case atStart => exact ⟨0, by omega, rfl, by simp [figV], Lib.hid (fun d hd => by simp at hd), rfl⟩
    case round =>
      obtain ⟨k, hk, rfl, rfl, HD, rfl⟩ := hrel
      have hbd := figV_ten ((byts s).take k) HD.out (by have := List.length_take_le k (byts s); omega)
      by_cases hkl : k < s.size
      · obtain ⟨d, hd⟩ : ∃ d, (byts s)[k]? = some d := ⟨_, List.getElem?_eq_getElem (by rw [HL.out]; exact hkl)⟩
        obtain ⟨hc, hd0, hd1⟩ := HCW.out k d hd
        have HSN := Lib.hid (take_snoc' (byts s) k d hd)
        have HMEM := Lib.hid (List.mem_of_getElem? hd)
        clear hd
        by_cases hf : isFig d
        · obtain ⟨hf1, hf2⟩ := hf
          have k9 : k ≤ 9 := by omega
          go_wp2_with fail
          refine ⟨⟨k + 1, by omega, by go_num, ?_, Lib.hid ?_, trivial⟩, by simp [intOf]; omega⟩
          · rw [HSN.out, figV_snoc]
          · rw [HSN.out]
            intro x hx
            rcases List.mem_append.1 hx with hx | hx
            · exact HD.out x hx
            · rw [List.mem_singleton.1 hx]; exact ⟨hf1, hf2⟩
        · have HNF := Lib.hid hf
          by_cases hf1 : d < 48
          · clear hf
            go_wp2_with fail
            go_ret2
            exact .inr ⟨fun h' => HNF.out (h'.2.2.2 d HMEM.out), rfl, HFW.out⟩
          · have hf2 : 57 < d := by unfold isFig at hf; omega
            clear hf
            go_wp2_with fail
            go_ret2
            exact .inr ⟨fun h' => HNF.out (h'.2.2.2 d HMEM.out), rfl, HFW.out⟩
      · obtain rfl : k = s.size := by omega
        have htk : (byts s).take s.size = byts s := List.take_of_length_le (by rw [HL.out]; omega)
        rw [htk] at HD ⊢
        clear htk hbd
        go_wp2_with fail
        go_ret2
        exact .inl ⟨⟨HH.out.1, by rw [HL.out]; omega, HH.out.2, HD.out⟩, rfl, HFW.out⟩
  · have g1 : ¬ (1 : Int) < (s.size : Int) := by omega
    clear h0
    go_enter Tryd.func22, Tryd.ntmps22
    go_wp2_with fail
    generalize hW : Lib.bytesWorld w 5 s = W
    have HFW : Hid (Fr (fun _ => False) w W) := Lib.hid (by rw [← hW]; exact bytesWorld_fr w 5 s)
    have HCW : Hid (∀ k d, (byts s)[k]? = some d → W.cell? ⟨w.heap.size, k, none⟩ = some (.int .u8 d) ∧ 0 ≤ d ∧ d ≤ 255) := Lib.hid (by rw [← hW]; exact bytes_cells w s)
    clear hcv hW b0 b1
    go_loopw [6, 30] (fun n i wx => ∃ k : Nat, k ≤ s.size ∧ i = .int .i64 k ∧ n = .int .i64 (figV ((byts s).take k)) ∧ Hid (∀ d ∈ (byts s).take k, isFig d) ∧ wx = W) (fun n i _ => s.size - (intOf i).toNat)
    case atStart => exact ⟨0, by omega, rfl, by simp [figV], Lib.hid (fun d hd => by simp at hd), rfl⟩
    case round =>
      obtain ⟨k, hk, rfl, rfl, HD, rfl⟩ := hrel
      have hbd := figV_ten ((byts s).take k) HD.out (by have := List.length_take_le k (byts s); omega)
      by_cases hkl : k < s.size
      · obtain ⟨d, hd⟩ : ∃ d, (byts s)[k]? = some d := ⟨_, List.getElem?_eq_getElem (by rw [HL.out]; exact hkl)⟩
        obtain ⟨hc, hd0, hd1⟩ := HCW.out k d hd
        have HSN := Lib.hid (take_snoc' (byts s) k d hd)
        have HMEM := Lib.hid (List.mem_of_getElem? hd)
        clear hd
        by_cases hf : isFig d
        · obtain ⟨hf1, hf2⟩ := hf
          have k9 : k ≤ 9 := by omega
          go_wp2_with fail
          refine ⟨⟨k + 1, by omega, by go_num, ?_, Lib.hid ?_, trivial⟩, by simp [intOf]; omega⟩
          · rw [HSN.out, figV_snoc]
          · rw [HSN.out]
            intro x hx
            rcases List.mem_append.1 hx with hx | hx
            · exact HD.out x hx
            · rw [List.mem_singleton.1 hx]; exact ⟨hf1, hf2⟩
        · have HNF := Lib.hid hf
          by_cases hf1 : d < 48
          · clear hf
            go_wp2_with fail
            go_ret2
            exact .inr ⟨fun h' => HNF.out (h'.2.2.2 d HMEM.out), rfl, HFW.out⟩
          · have hf2 : 57 < d := by unfold isFig at hf; omega
            clear hf
            go_wp2_with fail
            go_ret2
            exact .inr ⟨fun h' => HNF.out (h'.2.2.2 d HMEM.out), rfl, HFW.out⟩
      · obtain rfl : k = s.size := by omega
        have htk : (byts s).take s.size = byts s := List.take_of_length_le (by rw [HL.out]; omega)
        rw [htk] at HD ⊢
        clear htk hbd
        go_wp2_with fail
        go_ret2
        exact .inl ⟨⟨HH.out.1, by rw [HL.out]; omega, HH.out.2, HD.out⟩, rfl, HFW.out⟩

theorem natural_any (w : World) (s : ByteArray) (m : Nat) (hm : m ≤ 10) : Calls Tryd.prog 22 #[.string s, .int .i64 (m : Int)] w (NPost w (byts s) m) := by
  by_cases h : s.size = 0
  · have hs : s = ⟨#[]⟩ := by
      have : s.data.toList = [] := List.length_eq_zero_iff.1 (by rw [Array.length_toList]; exact h)
      exact WideShapes.bytes_inj this
    subst hs
    exact natural_empty w m
  · by_cases h2 : s.size ≤ m
    · by_cases h0 : 1 < s.size ∧ (s[0]'(by omega)).toNat = 48
      · exact natural_zero w s m h0.1 h2 h0.2
      · exact natural_main w s m hm (by omega) h2 (fun h1 e => h0 ⟨h1, e⟩)
    · exact natural_long w s m (by omega)
end Go.Proofs.YtafchncdolagdaaDoor
