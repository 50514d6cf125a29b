/-
  The document's Text tells a path's numbers with dots between.
-/
import Derived.Test.YtafchncdolagdaaDoorDigR
namespace Go.Proofs.YtafchncdolagdaaDoor
open Go.RowKit

theorem join_step (xs : List Int) (k : Nat) (x : Int) (h1 : 1 ≤ k) (hx : xs[k]? = some x) (sb sv : ByteArray) (hb : sb = ⟨(Lib.join ((xs.take k).map Lib.itoa) [46]).toArray⟩) (hv : (⟨(Lib.itoa x).toArray⟩ : ByteArray) = sv) :
    sb ++ ((⟨#[46]⟩ : ByteArray) ++ sv) = ⟨(Lib.join ((xs.take (k + 1)).map Lib.itoa) [46]).toArray⟩ := by
  have hk := (List.getElem?_eq_some_iff.1 hx).1
  rw [List.take_add_one, hx, hb, ← hv, List.map_append, show (Option.toList (some x)).map Lib.itoa = [Lib.itoa x] from rfl, join_snoc _ _ (by
    intro e
    have hl : ((xs.take k).map Lib.itoa).length = k := by rw [List.length_map, List.length_take]; omega
    rw [e, List.length_nil] at hl
    omega)]
  apply WideShapes.bytes_inj
  simp [ByteArray.data_append]

set_option maxHeartbeats 4000000 in
theorem rtext_any (w : World) (A : Option Addr) (c : Nat) (xs : List Int) (n : Nat) (hx : Ints w A n xs) (hn : n ≤ 30) (hp : ∀ x ∈ xs, 0 ≤ x ∧ x < 9223372036854775808) :
    Calls Tryd.prog 18 #[.slice A n c] w fun e w' => e = .returned (.string ⟨(txt xs).toArray⟩) ∧ ∃ q, w' = w.drewN q := by
  have HX := Lib.hid hx
  have hxl := hx.1
  have HP := Lib.hid hp
  clear hx hp
  by_cases h0 : n = 0
  · subst h0
    have HE : Hid (txt xs = [46]) := Lib.hid (by unfold txt; rw [if_pos (List.length_eq_zero_iff.1 hxl)])
    go_enter Tryd.func18, Tryd.ntmps18
    go_wp2_with fail
    go_ret
    exact ⟨by rw [HE.out]; rfl, 0, rfl⟩
  · have HE : Hid (txt xs = Lib.join (xs.map Lib.itoa) [46]) := Lib.hid (by unfold txt; rw [if_neg (fun e => h0 (by rw [← hxl, e]; rfl))])
    have e0 : ((n : Int) == 0) = false := by simp; omega
    have hn0 : 0 < n := by omega
    have key : Hid (∀ (k : Nat) (x : Int), xs[k]? = some x → ∃ (sv : ByteArray), sv.size ≤ 20 ∧ Hid ((⟨(Lib.itoa x).toArray⟩ : ByteArray) = sv) ∧ Hid (∀ w : World, Calls Tryd.prog 25 #[.int .i64 x] w fun e w' => e = .returned (.string sv) ∧ ∃ q, w' = w.drewN q)) := Lib.hid (by
      intro k x hx
      obtain ⟨b0, b1⟩ := HP.out x (List.mem_of_getElem? hx)
      obtain ⟨u, rfl⟩ := Int.eq_ofNat_of_zero_le b0
      refine ⟨_, ?_, Lib.hid rfl, Lib.hid (rdig_any u (by omega))⟩
      show (Lib.itoa (u : Int)).toArray.size ≤ 20
      rw [List.size_toArray]
      exact itoa_len _ (by omega) (by omega))
    obtain ⟨x0, hx0⟩ : ∃ x, xs[0]? = some x := ⟨_, List.getElem?_eq_getElem (by omega)⟩
    obtain ⟨b, off, rfl, hc⟩ := HX.out.at_ hx0
    rw [Nat.add_zero] at hc
    obtain ⟨s0, hs0, HS0, HD0⟩ := key.out 0 x0 hx0
    have HJ0 : Hid (s0 = ⟨(Lib.join ((xs.take 1).map Lib.itoa) [46]).toArray⟩) := Lib.hid (by
      rw [← HS0.out, List.take_add_one, hx0]
      simp only [List.take_zero, List.nil_append, Option.toList, List.map_cons, List.map_nil, join_one])
    clear hx0
    go_enter Tryd.func18, Tryd.ntmps18
    go_wp2_with fail
    refine (HD0.out _).mono ?_
    rintro e w1 ⟨rfl, q, rfl⟩
    go_wp2_with fail
    go_loopw [3, 4] (fun s i wx => ∃ k : Nat, 1 ≤ k ∧ k ≤ n ∧ i = .int .i64 k ∧ ∃ sb : ByteArray, s = .string sb ∧ sb.size ≤ k * 21 ∧ Hid (sb = ⟨(Lib.join ((xs.take k).map Lib.itoa) [46]).toArray⟩) ∧ ∃ q, wx = w.drewN q) (fun _ i _ => n - (intOf i).toNat)
    case atStart => exact ⟨1, by omega, by omega, rfl, s0, rfl, by omega, HJ0, q, rfl⟩
    case round =>
      obtain ⟨k, hk1, hk, rfl, sb, rfl, hsb, HSB, q2, rfl⟩ := hrel
      by_cases hkl : k < n
      · obtain ⟨x, hx⟩ : ∃ x, xs[k]? = some x := ⟨_, List.getElem?_eq_getElem (by omega)⟩
        obtain ⟨b', off', hA, hc'⟩ := HX.out.at_ hx
        obtain ⟨rfl, rfl⟩ : b = b' ∧ off = off' := by simpa using hA
        obtain ⟨sv, hsv, HSV, HD⟩ := key.out k x hx
        have HST := Lib.hid (join_step xs k x hk1 hx sb sv HSB.out HSV.out)
        clear hA hx
        have l1 : ¬ (9223372036854775807 < 1 + sv.size) := by omega
        have l2 : ¬ (9223372036854775807 < sb.size + (1 + sv.size)) := by omega
        go_wp2_with fail
        refine (HD.out _).mono ?_
        rintro e w1 ⟨rfl, q3, rfl⟩
        go_wp2_with fail
        refine ⟨⟨k + 1, by omega, by omega, by go_num, _, rfl, ?_, HST, by first | exact ⟨_, rfl⟩ | (simp only [World.drewN_drewN]; exact ⟨_, rfl⟩)⟩, by simp [intOf]; omega⟩
        rw [ByteArray.size_append, ByteArray.size_append]
        show sb.size + (1 + sv.size) ≤ _
        omega
      · obtain rfl : k = n := by omega
        have HT : Hid (sb = ⟨(txt xs).toArray⟩) := Lib.hid (by rw [HSB.out, HE.out, List.take_of_length_le (by omega)])
        go_wp2_with fail
        go_ret
        exact ⟨by rw [← HT.out]; rfl, _, rfl⟩
end Go.Proofs.YtafchncdolagdaaDoor
