/-
  strings.Cut at a separator of one byte: what stands ahead of it, behind it, and whether it is there.
-/
import Derived.Test.YtafchncdolagdaaDoorBase
import Derived.Test.YtafchncdolagdaaDoorShelf
import Derived.Test.YtafchncdolagdaaDoorProg
import Derived.Outline
import Derived.KernelRfl
import Derived.RegionTactic
import Derived.BigRegion
import Derived.Deep.QuietTactic
import Derived.BigQuiet
import Derived.Lib.IndexLaws
import Derived.WideShapes
import Derived.Handy
namespace Go.Proofs.YtafchncdolagdaaDoor
open Go.RowKit

def cut1 (c : UInt8) : List UInt8 → List UInt8 × List UInt8 × Bool
  | [] => ([], [], false)
  | b :: l => if b = c then ([], l, true) else (b :: (cut1 c l).1, (cut1 c l).2.1, (cut1 c l).2.2)

theorem cut1_none (c : UInt8) : ∀ l : List UInt8, Lib.indexByte l c = -1 → cut1 c l = (l, [], false)
  | [], _ => rfl
  | b :: l, h => by
    unfold Lib.indexByte at h
    split at h
    · omega
    · rename_i hb
      split at h
      · rename_i h1
        rw [cut1, if_neg (by simpa using hb), cut1_none c l (by simpa using h1)]
      · have := Lib.indexByte_ge l c
        omega
theorem cut1_some (c : UInt8) : ∀ (l : List UInt8) (o : Nat), Lib.indexByte l c = o → o < l.length ∧ cut1 c l = (l.take o, l.drop (o + 1), true)
  | [], o, h => by unfold Lib.indexByte at h; omega
  | b :: l, o, h => by
    unfold Lib.indexByte at h
    split at h
    · rename_i hb
      obtain rfl : o = 0 := by omega
      rw [cut1, if_pos (by simpa using hb)]
      simp
    · rename_i hb
      split at h
      · omega
      · have hge := Lib.indexByte_ge l c
        have h1 : ¬ Lib.indexByte l c = -1 := by simpa using ‹¬ (Lib.indexByte l c == -1) = true›
        obtain ⟨p, hp⟩ : ∃ p : Nat, Lib.indexByte l c = p := ⟨(Lib.indexByte l c).toNat, by omega⟩
        obtain ⟨hl, hc⟩ := cut1_some c l p hp
        obtain rfl : o = p + 1 := by omega
        rw [cut1, if_neg (by simpa using hb), hc]
        simp; omega

theorem ext_take (s : ByteArray) (i : Nat) : (s.extract 0 i) = ⟨(s.data.toList.take i).toArray⟩ := by
  apply WideShapes.bytes_inj
  simp
theorem ext_drop (s : ByteArray) (i : Nat) : (s.extract i s.size) = ⟨(s.data.toList.drop i).toArray⟩ := by
  apply WideShapes.bytes_inj
  have h : s.data.toList.length = s.size := Array.length_toList
  simp
  rw [List.take_of_length_le]
  rw [List.length_drop, h]
  exact Nat.le_refl _

abbrev cutV (c : UInt8) (s : ByteArray) : Value := .tuple #[.string ⟨(cut1 c s.data.toList).1.toArray⟩, .string ⟨(cut1 c s.data.toList).2.1.toArray⟩, .bool (cut1 c s.data.toList).2.2]

set_option maxHeartbeats 4000000 in
theorem cutL_any (w : World) (s : ByteArray) (c : UInt8) (hs : s.size ≤ 1000000) :
    Calls Tryd.prog 34 #[.string s, .string ⟨#[c]⟩] w fun e w' => e = .returned (cutV c s) ∧ ∃ q, w' = w.drewN q := by
  go_enter Tryd.func34, Tryd.ntmps34
  go_wp2_with fail
  refine (Tryd.stringslite_Index_one s c w).mono ?_
  rintro e w1 ⟨rfl, rfl⟩
  by_cases h : Lib.indexByte s.data.toList c = -1
  · have HC := Lib.hid (cut1_none c _ h)
    rw [h]
    go_wp2_with fail
    go_ret3
    refine ⟨?_, 0, rfl⟩
    unfold cutV
    rw [HC.out]
    rfl
  · have hge := Lib.indexByte_ge s.data.toList c
    obtain ⟨o, ho⟩ : ∃ o : Nat, Lib.indexByte s.data.toList c = o := ⟨(Lib.indexByte s.data.toList c).toNat, by omega⟩
    obtain ⟨hl, hc⟩ := cut1_some c _ o ho
    rw [Array.length_toList] at hl
    have hl' : o < s.size := hl
    have HC := Lib.hid hc
    rw [ho]
    clear ho h hge hc hl
    have g0 : (0 : Int) ≤ (o : Int) := by omega
    have g3 : (0 : Int) ≤ (o : Int) + 1 := by omega
    have g1 : (o : Int) ≤ (s.size : Int) := by omega
    have g2 : (o : Int) + 1 ≤ (s.size : Int) := by omega
    go_wp2_with fail
    go_region
    go_wp2_with fail
    go_ret3
    refine ⟨?_, _, rfl⟩
    unfold cutV
    rw [HC.out, ← ext_take, ← ext_drop]
    rfl

theorem cut_any (w : World) (s : ByteArray) (c : UInt8) (hs : s.size ≤ 1000000) :
    Calls Tryd.prog 28 #[.string s, .string ⟨#[c]⟩] w fun e w' => e = .returned (cutV c s) ∧ ∃ q, w' = w.drewN q := by
  go_enter Tryd.func28, Tryd.ntmps28
  go_wp2_with fail
  refine (cutL_any w s c hs).mono ?_
  rintro e w1 ⟨rfl, q, rfl⟩
  go_wp2_with fail
  go_ret3
  exact ⟨rfl, _, rfl⟩
end Go.Proofs.YtafchncdolagdaaDoor
