/-
  path.Text comes to the numbers' digits with dots between (or the lone dot), whatever tells the digits of each.
-/
import Derived.Test.YtafchncdolagdaaDoorUnd
import Derived.Test.YtafchncdolagdaaDoorShelf
namespace Go.Proofs.YtafchncdolagdaaDoor
open Go.RowKit

theorem make_strs (n : Nat) (hn : n ≤ 1000) (w : World) : (Instr.makeSlice 46 (.int .i64 (n : Int)) (.int .i64 (n : Int))).run Tryd.prog w = .ok (.slice (some ⟨w.heap.size, 0, none⟩) n n) (w.alloc (.cells (Array.replicate n (Value.string ⟨#[]⟩)) 9)) := by
  have hr := run_make (P := Tryd.prog) w 46 9 _ (.string ⟨#[]⟩) Tryd.underlying46 rfl rfl .i64 .i64 (n : Int) (n : Int) (by omega) (by omega) (by show (16 : Int) * _ ≤ _; omega) (by omega)
  rw [hr]
  simp only [Int.toNat_natCast]
  have e : madeCells (Value.string ⟨#[]⟩).cells (n * Tryd.prog.types[9].size) = (Array.replicate n (Value.string ⟨#[]⟩)) := by
    rw [show Tryd.prog.types[9].size = 1 from rfl, Nat.mul_one]
    apply Array.ext_getElem?
    intro i
    by_cases hi : i < n
    · simp [madeCells, Value.cells, Nat.mod_one, hi]
    · simp [madeCells, Value.cells, Nat.mod_one, hi]
  rw [e]

def strs (xs : List Int) (k : Nat) : List Value := (xs.take k).map (fun x => Value.string ⟨(Lib.itoa x).toArray⟩) ++ List.replicate (xs.length - k) (Value.string ⟨#[]⟩)
theorem strs_zero (xs : List Int) : strs xs 0 = List.replicate xs.length (Value.string ⟨#[]⟩) := by simp [strs]
theorem strs_set (xs : List Int) (k : Nat) (x : Int) (hx : xs[k]? = some x) : (strs xs k).toArray.setIfInBounds k (Value.string ⟨(Lib.itoa x).toArray⟩) = (strs xs (k + 1)).toArray := by
  have hk := (List.getElem?_eq_some_iff.1 hx).1
  unfold strs
  rw [List.setIfInBounds_toArray, List.set_append_right _ _ (by simp; omega)]
  congr 1
  rw [List.take_add_one, hx, show xs.length - k = (xs.length - (k + 1)) + 1 by omega, List.replicate_succ]
  simp [Nat.min_eq_left (Nat.le_of_lt hk)]
theorem strs_all (xs : List Int) : strs xs xs.length = xs.map (fun x => Value.string ⟨(Lib.itoa x).toArray⟩) := by simp [strs]

theorem Ints.of_blk {w : World} {g : Nat} {xs : List Int} (h : Blk w g 3 (xs.map fun x => Value.int .i64 x).toArray) : Ints w (some ⟨g, 0, none⟩) xs.length xs :=
  ⟨rfl, fun _ => ⟨g, 0, rfl, fun j x hx => by rw [Nat.zero_add, h.cell, List.getElem?_toArray, List.getElem?_map, hx]; rfl⟩⟩

/-- What tells digits, from a world on. -/
def Tells (w : World) (xs : List Int) : Prop := ∀ wx, Fr (fun _ => False) w wx → ∀ x ∈ xs, Calls Tryd.prog 23 #[.int .i64 x] wx fun e w' => e = .returned (.string ⟨(Lib.itoa x).toArray⟩) ∧ Fr (fun _ => False) wx w'

/-- A path's text. -/
def txt (xs : List Int) : List UInt8 := if xs = [] then [46] else Lib.join (xs.map Lib.itoa) [46]

theorem join_any (w : World) (g : Nat) (xs : List Int) (hb : Blk w g 9 (xs.map fun x => Value.string ⟨(Lib.itoa x).toArray⟩).toArray) (n : Nat) (hn : xs.length = n) (hn2 : n ≤ 1000)
    (hlen : (Lib.join (xs.map Lib.itoa) [46]).length ≤ 1000000) :
    Calls Tryd.prog 24 #[.slice (some ⟨g, 0, none⟩) n n, .string ⟨#[46]⟩] w fun e w' => e = .returned (.string ⟨(Lib.join (xs.map Lib.itoa) [46]).toArray⟩) ∧ Fr (fun _ => False) w w' := by
  subst hn
  have e1 : ((xs.map fun x => (⟨(Lib.itoa x).toArray⟩ : ByteArray)).map (·.data.toList)) = xs.map Lib.itoa := by
    rw [List.map_map]; rfl
  have h := Tryd.strings_Join g 0 xs.length (xs.map fun x => (⟨(Lib.itoa x).toArray⟩ : ByteArray)) ⟨#[46]⟩ w (fun j x hx => by
    rw [Nat.zero_add, hb.cell, List.getElem?_toArray]
    rw [List.getElem?_map] at hx ⊢
    cases hc : xs[j]? with
    | none => rw [hc] at hx; cases hx
    | some y => rw [hc] at hx; simp only [Option.map_some, Option.some.injEq] at hx ⊢; rw [hx]) hb.lt (by rw [List.length_map]; omega) (by rw [List.length_map]; exact Nat.le_refl _) (by rw [e1]; exact Nat.le_trans hlen (by decide))
  rw [e1, List.length_map] at h
  exact h.mono fun e w' ⟨he, hb⟩ => ⟨he, Fr.of_below hb⟩

set_option maxHeartbeats 4000000 in
theorem text_any (w : World) (A : Option Addr) (c : Nat) (xs : List Int) (n : Nat) (hx : Ints w A n xs) (hn : n ≤ 1000) (hT : Tells w xs) (hlen : (txt xs).length ≤ 1000000) :
    Calls Tryd.prog 17 #[.slice A n c] w fun e w' => e = .returned (.string ⟨(txt xs).toArray⟩) ∧ Fr (fun _ => False) w w' := by
  have HX := Lib.hid hx
  have hxl := hx.1
  have HT := Lib.hid hT
  clear hx hT
  by_cases h0 : n = 0
  · subst h0
    have HE : Hid (txt xs = [46]) := Lib.hid (by unfold txt; rw [if_pos (List.length_eq_zero_iff.1 hxl)])
    go_enter Tryd.func17, Tryd.ntmps17
    go_wp2_with fail
    go_ret
    exact ⟨by rw [HE.out]; rfl, Fr.refl _ _⟩
  · have HE : Hid (txt xs = Lib.join (xs.map Lib.itoa) [46]) := Lib.hid (by unfold txt; rw [if_neg (fun e => h0 (by rw [← hxl, e]; rfl))])
    have e0 : ((n : Int) == 0) = false := by simp; omega
    have hmk := make_strs n hn w
    have hfr := (Fr.refl (fun _ => False) w).alloc (.cells (Array.replicate n (Value.string ⟨#[]⟩)) 9)
    have hz : (strs xs 0).toArray = Array.replicate n (Value.string ⟨#[]⟩) := by rw [strs_zero, hxl, List.toArray_replicate]
    have HB : Hid (Blk (w.alloc (.cells (Array.replicate n (Value.string ⟨#[]⟩)) 9)) w.heap.size 9 (strs xs 0).toArray) := Lib.hid (by
      rw [hz]; exact Blk.new w 9 _)
    have HF := Lib.hid hfr
    clear hz hfr
    go_enter Tryd.func17, Tryd.ntmps17
    go_wp2_with fail
    generalize hW : w.alloc (.cells (Array.replicate n (Value.string ⟨#[]⟩)) 9) = W at HB HF ⊢
    have hWs : w.heap.size < W.heap.size := HB.out.lt
    clear hW hmk
    go_loopw [14] (fun i wx => ∃ k : Nat, k ≤ n ∧ i = .int .i64 k ∧ Hid (Fr (fun _ => False) w wx) ∧ Hid (Blk wx w.heap.size 9 (strs xs k).toArray)) (fun i _ => n - (intOf i).toNat)
    case atStart => exact ⟨0, by omega, rfl, HF, HB⟩
    case round =>
      obtain ⟨k, hk, rfl, HFk, HBk⟩ := hrel
      by_cases hkl : k < n
      · obtain ⟨x, hx⟩ : ∃ x, xs[k]? = some x := ⟨_, List.getElem?_eq_getElem (by omega)⟩
        obtain ⟨b, off, rfl, hc⟩ := (HX.out.fr HFk.out).at_ hx
        have HS := Lib.hid (strs_set xs k x hx)
        have HM := Lib.hid (List.mem_of_getElem? hx)
        clear hx
        obtain ⟨wo, hwo⟩ : ∃ wo, wo = wr := ⟨_, rfl⟩
        subst hwo
        go_wp2_with fail
        refine (HT.out _ HFk.out x HM.out).mono ?_
        rintro e w1 ⟨rfl, hF1⟩
        have hB1 := HBk.out.fr hF1 (fun h => h)
        have hcl : w1.cell? ⟨w.heap.size, k, none⟩ = some (.string ⟨#[]⟩) := by
          rw [hB1.cell, List.getElem?_toArray]
          unfold strs
          rw [List.getElem?_append_right (by simp; omega)]
          rw [List.getElem?_replicate, if_pos (by simp; omega)]
        have hfz := hB1.frozen k
        have HB1 := Lib.hid hB1
        have HF1 := Lib.hid (HFk.out.trans hF1)
        clear hB1 hF1
        go_wp2_with fail
        refine ⟨⟨k + 1, by omega, by go_num, Lib.hid ?_, Lib.hid ?_⟩, by simp [intOf]; omega⟩
        · exact HF1.out.setCell (.inr (Nat.le_refl _)) _
        · have := HB1.out.set_ k (Value.string ⟨(Lib.itoa x).toArray⟩)
          rw [HS.out] at this
          exact this
      · obtain rfl : k = n := by omega
        have hb := HBk.out
        rw [← hxl, strs_all] at hb
        have HJ := Lib.hid (join_any wr w.heap.size xs hb k (by omega) (by omega) (by rw [← HE.out]; omega))
        clear hb
        go_wp2_with fail
        refine HJ.out.mono ?_
        rintro e w1 ⟨rfl, hF1⟩
        have HF1 := Lib.hid (HFk.out.trans hF1)
        clear hF1
        go_wp2_with fail
        go_ret
        exact ⟨by rw [HE.out]; rfl, HF1.out⟩
end Go.Proofs.YtafchncdolagdaaDoor
