/-
  What the document's Write comes to.
-/
import Derived.Test.YtlpmnapjipfakaaTold
import Derived.RegionTactic
import Derived.BigRegion
import Derived.Deep.QuietTactic
import Derived.BigQuiet
import Derived.StillTailTactics
namespace Go.Proofs.Ytlpmnapjipfakaa
open Go.RowKit

theorem fits_any (w : World) (n : Int) (t : Bool) (ht : t = decide (fit8 n)) : Calls Try.prog 19 #[.int .i64 n] w fun e w' => e = .returned (.bool t) ∧ w' = w := by
  subst ht
  by_cases h0 : 0 ≤ n
  · by_cases h1 : n ≤ 255
    · have hd : decide (fit8 n) = true := by simp [fit8, h0, h1]
      rw [hd]
      go_enter Try.func19, Try.ntmps19
      go_wp2_with fail
      go_ret
      exact ⟨rfl, rfl⟩
    · have hd : decide (fit8 n) = false := decide_eq_false (fun h => by unfold fit8 at h; omega)
      rw [hd]
      go_enter Try.func19, Try.ntmps19
      go_wp2_with fail
      go_ret
      exact ⟨rfl, rfl⟩
  · have hd : decide (fit8 n) = false := decide_eq_false (fun h => by unfold fit8 at h; omega)
    rw [hd]
    go_enter Try.func19, Try.ntmps19
    go_wp2_with fail
    go_ret
    exact ⟨rfl, rfl⟩

/-- The bytes of the first k functions. -/
def soFar (L : List LFn) (k : Nat) : List Int := 72 :: (L.length : Int) :: (L.take k).flatMap fun x => x.f.bytes
theorem soFar_len (L : List LFn) (k : Nat) : (soFar L k).length ≤ 2 + 2 * L.length + 8 * parts L := by
  have h1 : room (L.take k) + room (L.drop k) = room L := by
    have : room (L.take k ++ L.drop k) = room (L.take k) + room (L.drop k) := by simp only [room, List.map_append, List.sum_append]
    rw [← this, List.take_append_drop]
  have h2 := bytes_room (L.take k)
  have h3 := room_parts L
  simp only [soFar, List.length_cons]
  omega

/-- .. and of function x as far as its instruction j. -/
def inBy (L : List LFn) (k : Nat) (x : LFn) (j : Nat) : List Int := soFar L k ++ ([x.f.arity, (x.f.code.length : Int)] ++ (x.f.code.take j).flatMap Ins.bytes)
theorem inBy_len (L : List LFn) (k : Nat) (x : LFn) (j : Nat) (hj : j ≤ x.f.code.length) : (inBy L k x j).length = (soFar L k).length + 2 + 8 * j := by
  simp only [inBy, List.length_append, List.length_cons, List.length_nil, flat_length Ins.bytes 8 Ins.bytes_length, List.length_take]
  omega
theorem inBy_snoc (L : List LFn) (k : Nat) (x : LFn) (j : Nat) (y : Ins) (hy : x.f.code[j]? = some y) : by8 (inBy L k x (j + 1)) = by8 (inBy L k x j) ++ by8 y.bytes := by
  simp only [inBy, flat_snoc Ins.bytes x.f.code j y hy, by8, List.map_append, List.append_assoc]
theorem soFar_snoc (L : List LFn) (k : Nat) (x : LFn) (hx : L[k]? = some x) : soFar L (k + 1) = inBy L k x x.f.code.length := by
  simp only [soFar, inBy, flat_snoc (fun x : LFn => x.f.bytes) L k x hx, List.take_length, List.cons_append]
  rfl
theorem bytes_pos (o a b c k : Int) (h0 : 0 ≤ k) (h1 : k ≤ 2147483647) : by8 (Ins.bytes ⟨o, a, b, c, k⟩) = [.int .u8 o, .int .u8 a, .int .u8 b, .int .u8 c, .int .u8 (k % 256), .int .u8 (k / 256 % 256), .int .u8 (k / 65536 % 256), .int .u8 (k / 16777216)] := by
  have e0 : kb k 0 = k % 256 := by simp [kb]
  have e1 : kb k 1 = k / 256 % 256 := by simp [kb]
  have e2 : kb k 2 = k / 65536 % 256 := by simp [kb]
  have e3 : kb k 3 = k / 16777216 := by
    have : kb k 3 = k / 16777216 % 256 := by simp [kb]
    omega
  simp only [Ins.bytes, by8, List.map_cons, List.map_nil, e0, e1, e2, e3]
theorem bytes_neg (o a b c k : Int) (h0 : k < 0) (h1 : -2147483648 ≤ k) : by8 (Ins.bytes ⟨o, a, b, c, k⟩) = [.int .u8 o, .int .u8 a, .int .u8 b, .int .u8 c, .int .u8 ((k + 4294967296) % 256), .int .u8 ((k + 4294967296) / 256 % 256), .int .u8 ((k + 4294967296) / 65536 % 256), .int .u8 ((k + 4294967296) / 16777216)] := by
  have e0 : kb k 0 = (k + 4294967296) % 256 := by
    have : kb k 0 = k % 256 := by simp [kb]
    omega
  have e1 : kb k 1 = (k + 4294967296) / 256 % 256 := by
    have : kb k 1 = k / 256 % 256 := by simp [kb]
    omega
  have e2 : kb k 2 = (k + 4294967296) / 65536 % 256 := by
    have : kb k 2 = k / 65536 % 256 := by simp [kb]
    omega
  have e3 : kb k 3 = (k + 4294967296) / 16777216 := by
    have : kb k 3 = k / 16777216 % 256 := by simp [kb]
    omega
  simp only [Ins.bytes, by8, List.map_cons, List.map_nil, e0, e1, e2, e3]

def RwPost (w : World) (l : List Fn) (e : Ending) (w' : World) : Prop :=
  (progOk l ∧ ∃ v, e = .returned (.tuple #[v, .bool true]) ∧ w'.ownsRow w.heap.size 5 1 v (1 + (progBytes l).length) (by8 (72 :: progBytes l)) ∧ Fr (fun _ => False) w w') ∨
  (¬ progOk l ∧ e = .returned (.tuple #[.slice none 0 0, .bool false]) ∧ Fr (fun _ => False) w w')

set_option maxHeartbeats 8000000 in
set_option maxRecDepth 100000 in
theorem refWrite_any (w : World) (A : Option Addr) (c : Nat) (L : List LFn) (hR : FnRow w (fun b => b < w.heap.size) A L) (hl : L.length ≤ 300) (hp : parts L ≤ 600) :
    Calls Try.prog 12 #[.slice A L.length c] w (RwPost w (fns L)) := by
  obtain ⟨i0, hi, hz0, hz1, hz2⟩ := info_parts info_u8
  have HR := Lib.hid hR
  clear hR
  by_cases h255 : 255 < L.length
  · have h1 : (255 : Int) < (L.length : Int) := by omega
    go_enter Try.func12, Try.ntmps12
    go_wp2_with fail
    go_ret2
    exact .inr ⟨fun h => by have := h.1; simp only [fns, List.length_map] at this; omega, rfl, Fr.refl _ _⟩
  · have h1 : ¬ (255 : Int) < (L.length : Int) := by omega
    go_enter Try.func12, Try.ntmps12
    go_wp2_with fail
    have hst : (w.alloc (.cells #[.int .u8 72, .int .u8 (L.length : Int)] 5)).ownsRow w.heap.size 5 1 (.slice (some ⟨w.heap.size, 0, none⟩) 2 2) 2 (by8 (soFar L 0)) := World.ownsRow_lit w _ 2 (Nat.le_refl _) (by unfold maxLen; omega) rfl
    go_loopw [4, 5] (fun v i wx => ∃ k : Nat, k ≤ L.length ∧ i = .int .i64 k ∧ AllFn L k ∧ wx.ownsRow w.heap.size 5 1 v (soFar L k).length (by8 (soFar L k)) ∧ Fr (fun _ => False) w wx) (fun v i _ => L.length - (intOf i).toNat)
    case atStart => exact ⟨0, by omega, rfl, (fun x hx => by simp at hx), hst, (Fr.refl _ _).alloc _⟩
    case round =>
      clear hst
      obtain ⟨k, hk, rfl, hall, hown, hF⟩ := hrel
      have HALL := Lib.hid hall
      have HOW := Lib.hid hown
      have HF := Lib.hid hF
      have hlen := soFar_len L k
      clear hall hown hF
      by_cases hkl : k < L.length
      · obtain ⟨x, hx⟩ : ∃ x, L[k]? = some x := ⟨_, List.getElem?_eq_getElem hkl⟩
        have HX := Lib.hid hx
        have hxm : x ∈ L := List.mem_of_getElem? hx
        have hxl := len_parts hxm
        have HRk := Lib.hid (HR.out.fr HF.out (fun _ _ h => h))
        obtain ⟨b, off, rfl, hbq, d0, d1, _⟩ := HRk.out.at_ hx
        have hbw := HF.out.size
        obtain ⟨wo, hwo⟩ : ∃ wo, wo = wr := ⟨_, rfl⟩
        subst hwo
        clear hx
        by_cases ha : fit8 x.f.arity
        · have ta : Hid (true = decide (fit8 x.f.arity)) := Lib.hid (by simp [ha])
          obtain ⟨ha0, ha1⟩ := ha
          by_cases hcl : x.f.code.length ≤ 255
          · have g1 : ¬ (255 : Int) < (x.f.code.length : Int) := by omega
            go_wp2_with fail
            refine (fits_any _ _ _ ta.out).mono ?_
            rintro e _ ⟨rfl, rfl⟩
            have hnb : ((wo.alloc (.cells #[.int .i64 x.f.arity, .slice x.A x.f.code.length x.c] 51)).alloc (.cells #[.int .u8 x.f.arity, .int .u8 (x.f.code.length : Int)] 5)).heap[wo.heap.size + 1]? = some (.cells #[.int .u8 x.f.arity, .int .u8 (x.f.code.length : Int)] 5) := by
              have := heap_alloc_new (wo.alloc (.cells #[.int .i64 x.f.arity, .slice x.A x.f.code.length x.c] 51)) (.cells #[.int .u8 x.f.arity, .int .u8 (x.f.code.length : Int)] 5)
              simpa using this
            have HNB := Lib.hid hnb
            have HOB := Lib.hid (Blk.new wo 51 #[.int .i64 x.f.arity, .slice x.A x.f.code.length x.c])
            clear hnb
            go_wp2_with (at_builtin; refine wpList_append_lies _ rfl (.tmp 37) (.tmp 45) 24 rfl w.heap.size 5 i0 (.int .u8 0) 1 1 Try.underlying24 hi hz0 hz1 hz2 rfl (by decide) _ _ _ rfl (own_fr HOW.out (((Fr.refl (fun _ => False) _).alloc _).alloc _) (fun _ _ h => h)) ⟨wo.heap.size + 1, 0, none⟩ 2 2 [.int .u8 x.f.arity, .int .u8 (x.f.code.length : Int)] rfl rfl ?c1 ?c2 (by decide) ?c3 ?c4 ?c5 (wo.heap.size + 1 + 1) ?c6 ?_)
            case c1 => intro i u hi; exact World.news_of_block HNB.out i u hi
            case c2 => intro u hu; simp at hu; rcases hu with rfl | rfl <;> rfl
            case c3 => unfold maxLen; omega
            case c4 => omega
            case c5 => simp; omega
            case c6 => simp
            intro g cap w1 hown1 hg1 hor hlt1
            have HO1 := Lib.hid hor
            have HG1 := Lib.hid hg1
            have HW1 := Lib.hid hown1
            clear hor hg1 hown1
            go_wp2_with fail
            have hneo : u4.ownBlock ≠ some wo.heap.size := own_ne (own_fr HOW.out ((Fr.refl (fun _ => False) _).alloc _) (fun _ _ h => h)) HOB.out (by decide)
            have hBw : Blk w1 wo.heap.size 51 #[.int .i64 x.f.arity, .slice x.A x.f.code.length x.c] := (HG1.out.block wo.heap.size (by simp; omega) (fun h => hneo h.symm)).trans (HOB.out.alloc _)
            have hFw : Fr (fun _ => False) w w1 := ((HF.out.alloc _).alloc _).grow HG1.out (own_low HOW.out)
            have hst : w1.ownsRow w.heap.size 5 1 (.slice (some ⟨g, 0, none⟩) ((soFar L k).length + 2) cap) (inBy L k x 0).length (by8 (inBy L k x 0)) := by
              have := HW1.out
              rw [inBy_len L k x 0 (by omega)]
              simpa [inBy, by8] using this
            go_loopw [4, 7] (fun v i wx => ∃ j : Nat, j ≤ x.f.code.length ∧ i = .int .i64 j ∧ (∀ y ∈ x.f.code.take j, y.ok) ∧ wx.ownsRow w.heap.size 5 1 v (inBy L k x j).length (by8 (inBy L k x j)) ∧ Blk wx wo.heap.size 51 #[.int .i64 x.f.arity, .slice x.A x.f.code.length x.c] ∧ Fr (fun _ => False) w wx) (fun v i _ => x.f.code.length - (intOf i).toNat)
            case atStart => exact ⟨0, by omega, rfl, (fun y hy => by simp at hy), hst, hBw, hFw⟩
            case round =>
              clear hst hBw hFw HW1 HG1 HO1 HNB HOB
              obtain ⟨j, hj, rfl, hys, howj, hBj, hFj⟩ := hrel
              have hinl := inBy_len L k x j hj
              have c0 : wr.cell? ⟨wo.heap.size, 0, none⟩ = some (.int .i64 x.f.arity) := by rw [hBj.cell]; rfl
              have c1 : wr.cell? ⟨wo.heap.size, 1, none⟩ = some (.slice x.A x.f.code.length x.c) := by rw [hBj.cell]; rfl
              have hlt : wo.heap.size < wr.heap.size := hBj.lt
              have HYS := Lib.hid hys
              have HWJ := Lib.hid howj
              have HBJ := Lib.hid hBj
              have HFI := Lib.hid hFj
              have HRj := Lib.hid (HR.out.fr hFj (fun _ _ h => h))
              clear hys howj hBj hFj d0 d1
              by_cases hjl : j < x.f.code.length
              · obtain ⟨y, hy⟩ : ∃ y, x.f.code[j]? = some y := ⟨_, List.getElem?_eq_getElem hjl⟩
                have HY := Lib.hid hy
                have hym : y ∈ x.f.code := List.mem_of_getElem? hy
                have NOT : progOk (fns L) → y.ok := fun h => (h.2 x.f (List.mem_map_of_mem hxm)).2.2 y hym
                obtain ⟨b', off', hA', _, y0, y1, y2, y3, y4⟩ := (HRj.out.2 x hxm).at_ hy
                rw [hA'] at c1
                clear hA'
                clear hy hym
                by_cases k1 : fit8 y.op
                · have t1 : Hid (true = decide (fit8 y.op)) := Lib.hid (by simp [k1])
                  obtain ⟨p1, q1⟩ := k1
                  by_cases k2 : fit8 y.a
                  · have t2 : Hid (true = decide (fit8 y.a)) := Lib.hid (by simp [k2])
                    obtain ⟨p2, q2⟩ := k2
                    by_cases k3 : fit8 y.b
                    · have t3 : Hid (true = decide (fit8 y.b)) := Lib.hid (by simp [k3])
                      obtain ⟨p3, q3⟩ := k3
                      by_cases k4 : fit8 y.c
                      · have t4 : Hid (true = decide (fit8 y.c)) := Lib.hid (by simp [k4])
                        obtain ⟨p4, q4⟩ := k4
                        by_cases k5 : y.k < -2147483648
                        · go_wp2_with fail
                          refine (fits_any _ _ _ t1.out).mono ?_
                          rintro e _ ⟨rfl, rfl⟩
                          go_wp2_with fail
                          refine (fits_any _ _ _ t2.out).mono ?_
                          rintro e _ ⟨rfl, rfl⟩
                          go_wp2_with fail
                          refine (fits_any _ _ _ t3.out).mono ?_
                          rintro e _ ⟨rfl, rfl⟩
                          go_wp2_with fail
                          refine (fits_any _ _ _ t4.out).mono ?_
                          rintro e _ ⟨rfl, rfl⟩
                          go_wp2_with fail
                          go_ret2
                          exact .inr ⟨fun h => by have := (NOT h).2.2.2.2.1; omega, rfl, (HFI.out.alloc _)⟩
                        · by_cases k6 : 2147483647 < y.k
                          · go_wp2_with fail
                            refine (fits_any _ _ _ t1.out).mono ?_
                            rintro e _ ⟨rfl, rfl⟩
                            go_wp2_with fail
                            refine (fits_any _ _ _ t2.out).mono ?_
                            rintro e _ ⟨rfl, rfl⟩
                            go_wp2_with fail
                            refine (fits_any _ _ _ t3.out).mono ?_
                            rintro e _ ⟨rfl, rfl⟩
                            go_wp2_with fail
                            refine (fits_any _ _ _ t4.out).mono ?_
                            rintro e _ ⟨rfl, rfl⟩
                            go_wp2_with fail
                            go_ret2
                            exact .inr ⟨fun h => by have := (NOT h).2.2.2.2.2; omega, rfl, (HFI.out.alloc _)⟩
                          · by_cases k7 : y.k < 0
                            · go_wp2_with fail
                              refine (fits_any _ _ _ t1.out).mono ?_
                              rintro e _ ⟨rfl, rfl⟩
                              go_wp2_with fail
                              refine (fits_any _ _ _ t2.out).mono ?_
                              rintro e _ ⟨rfl, rfl⟩
                              go_wp2_with fail
                              refine (fits_any _ _ _ t3.out).mono ?_
                              rintro e _ ⟨rfl, rfl⟩
                              go_wp2_with fail
                              refine (fits_any _ _ _ t4.out).mono ?_
                              rintro e _ ⟨rfl, rfl⟩
                              have hnb : ((wr.alloc (.cells #[.int .i64 y.op, .int .i64 y.a, .int .i64 y.b, .int .i64 y.c, .int .i64 y.k] 56)).alloc (.cells #[.int .u8 y.op, .int .u8 y.a, .int .u8 y.b, .int .u8 y.c, .int .u8 ((y.k + 4294967296) % 256), .int .u8 ((y.k + 4294967296) / 256 % 256), .int .u8 ((y.k + 4294967296) / 65536 % 256), .int .u8 ((y.k + 4294967296) / 16777216)] 5)).heap[wr.heap.size + 1]? = some (.cells #[.int .u8 y.op, .int .u8 y.a, .int .u8 y.b, .int .u8 y.c, .int .u8 ((y.k + 4294967296) % 256), .int .u8 ((y.k + 4294967296) / 256 % 256), .int .u8 ((y.k + 4294967296) / 65536 % 256), .int .u8 ((y.k + 4294967296) / 16777216)] 5) := by
                                have := heap_alloc_new (wr.alloc (.cells #[.int .i64 y.op, .int .i64 y.a, .int .i64 y.b, .int .i64 y.c, .int .i64 y.k] 56)) (.cells #[.int .u8 y.op, .int .u8 y.a, .int .u8 y.b, .int .u8 y.c, .int .u8 ((y.k + 4294967296) % 256), .int .u8 ((y.k + 4294967296) / 256 % 256), .int .u8 ((y.k + 4294967296) / 65536 % 256), .int .u8 ((y.k + 4294967296) / 16777216)] 5)
                                simpa using this
                              have HNB := Lib.hid hnb
                              have HBY := Lib.hid (bytes_neg y.op y.a y.b y.c y.k (by omega) (by omega))
                              clear hnb
                              go_wp2_with (at_builtin; refine wpList_append_lies _ rfl (.tmp 97) (.tmp 124) 24 rfl w.heap.size 5 i0 (.int .u8 0) 1 1 Try.underlying24 hi hz0 hz1 hz2 rfl (by decide) _ _ _ rfl (own_fr HWJ.out (((Fr.refl (fun _ => False) _).alloc _).alloc _) (fun _ _ h => h)) ⟨wr.heap.size + 1, 0, none⟩ 8 8 [.int .u8 y.op, .int .u8 y.a, .int .u8 y.b, .int .u8 y.c, .int .u8 ((y.k + 4294967296) % 256), .int .u8 ((y.k + 4294967296) / 256 % 256), .int .u8 ((y.k + 4294967296) / 65536 % 256), .int .u8 ((y.k + 4294967296) / 16777216)] rfl rfl ?c1 ?c2 (by decide) ?c3 ?c4 ?c5 (wr.heap.size + 1 + 1) ?c6 ?_)
                              case c1 => intro i u hi; exact World.news_of_block HNB.out i u hi
                              case c2 => intro u hu; simp at hu; rcases hu with rfl | rfl | rfl | rfl | rfl | rfl | rfl | rfl <;> rfl
                              case c3 => unfold maxLen; omega
                              case c4 => omega
                              case c5 => simp; omega
                              case c6 => simp
                              intro g cap w1 hown1 hg1 hor hlt1
                              have HG1 := Lib.hid hg1
                              have HW1 := Lib.hid hown1
                              clear hor hg1 hown1
                              go_wp2_with fail
                              have hneo := own_ne HWJ.out HBJ.out (by decide)
                              refine ⟨⟨j + 1, by omega, by go_num, ?_, ?_, (HG1.out.block wo.heap.size (by simp; omega) (fun h => hneo h.symm)).trans ((HBJ.out.alloc _).alloc _), ((HFI.out.alloc _).alloc _).grow HG1.out (own_low HWJ.out)⟩, by simp [intOf]; omega⟩
                              · intro z hz
                                rw [take_snoc _ j y HY.out] at hz
                                rcases List.mem_append.1 hz with hz | hz
                                · exact HYS.out z hz
                                · rw [List.mem_singleton.1 hz]
                                  exact ⟨⟨p1, q1⟩, ⟨p2, q2⟩, ⟨p3, q3⟩, ⟨p4, q4⟩, by unfold fitK; omega⟩
                              · have := HW1.out
                                rw [← HBY.out] at this
                                rw [inBy_snoc L k x j y HY.out, inBy_len L k x (j + 1) (by omega)]
                                rw [show (soFar L k).length + 2 + 8 * (j + 1) = (soFar L k).length + 2 + 8 * j + 8 by omega]
                                exact this
                            · go_wp2_with fail
                              refine (fits_any _ _ _ t1.out).mono ?_
                              rintro e _ ⟨rfl, rfl⟩
                              go_wp2_with fail
                              refine (fits_any _ _ _ t2.out).mono ?_
                              rintro e _ ⟨rfl, rfl⟩
                              go_wp2_with fail
                              refine (fits_any _ _ _ t3.out).mono ?_
                              rintro e _ ⟨rfl, rfl⟩
                              go_wp2_with fail
                              refine (fits_any _ _ _ t4.out).mono ?_
                              rintro e _ ⟨rfl, rfl⟩
                              have hnb : ((wr.alloc (.cells #[.int .i64 y.op, .int .i64 y.a, .int .i64 y.b, .int .i64 y.c, .int .i64 y.k] 56)).alloc (.cells #[.int .u8 y.op, .int .u8 y.a, .int .u8 y.b, .int .u8 y.c, .int .u8 (y.k % 256), .int .u8 (y.k / 256 % 256), .int .u8 (y.k / 65536 % 256), .int .u8 (y.k / 16777216)] 5)).heap[wr.heap.size + 1]? = some (.cells #[.int .u8 y.op, .int .u8 y.a, .int .u8 y.b, .int .u8 y.c, .int .u8 (y.k % 256), .int .u8 (y.k / 256 % 256), .int .u8 (y.k / 65536 % 256), .int .u8 (y.k / 16777216)] 5) := by
                                have := heap_alloc_new (wr.alloc (.cells #[.int .i64 y.op, .int .i64 y.a, .int .i64 y.b, .int .i64 y.c, .int .i64 y.k] 56)) (.cells #[.int .u8 y.op, .int .u8 y.a, .int .u8 y.b, .int .u8 y.c, .int .u8 (y.k % 256), .int .u8 (y.k / 256 % 256), .int .u8 (y.k / 65536 % 256), .int .u8 (y.k / 16777216)] 5)
                                simpa using this
                              have HNB := Lib.hid hnb
                              have HBY := Lib.hid (bytes_pos y.op y.a y.b y.c y.k (by omega) (by omega))
                              clear hnb
                              go_wp2_with (at_builtin; refine wpList_append_lies _ rfl (.tmp 97) (.tmp 124) 24 rfl w.heap.size 5 i0 (.int .u8 0) 1 1 Try.underlying24 hi hz0 hz1 hz2 rfl (by decide) _ _ _ rfl (own_fr HWJ.out (((Fr.refl (fun _ => False) _).alloc _).alloc _) (fun _ _ h => h)) ⟨wr.heap.size + 1, 0, none⟩ 8 8 [.int .u8 y.op, .int .u8 y.a, .int .u8 y.b, .int .u8 y.c, .int .u8 (y.k % 256), .int .u8 (y.k / 256 % 256), .int .u8 (y.k / 65536 % 256), .int .u8 (y.k / 16777216)] rfl rfl ?c1 ?c2 (by decide) ?c3 ?c4 ?c5 (wr.heap.size + 1 + 1) ?c6 ?_)
                              case c1 => intro i u hi; exact World.news_of_block HNB.out i u hi
                              case c2 => intro u hu; simp at hu; rcases hu with rfl | rfl | rfl | rfl | rfl | rfl | rfl | rfl <;> rfl
                              case c3 => unfold maxLen; omega
                              case c4 => omega
                              case c5 => simp; omega
                              case c6 => simp
                              intro g cap w1 hown1 hg1 hor hlt1
                              have HG1 := Lib.hid hg1
                              have HW1 := Lib.hid hown1
                              clear hor hg1 hown1
                              go_wp2_with fail
                              have hneo := own_ne HWJ.out HBJ.out (by decide)
                              refine ⟨⟨j + 1, by omega, by go_num, ?_, ?_, (HG1.out.block wo.heap.size (by simp; omega) (fun h => hneo h.symm)).trans ((HBJ.out.alloc _).alloc _), ((HFI.out.alloc _).alloc _).grow HG1.out (own_low HWJ.out)⟩, by simp [intOf]; omega⟩
                              · intro z hz
                                rw [take_snoc _ j y HY.out] at hz
                                rcases List.mem_append.1 hz with hz | hz
                                · exact HYS.out z hz
                                · rw [List.mem_singleton.1 hz]
                                  exact ⟨⟨p1, q1⟩, ⟨p2, q2⟩, ⟨p3, q3⟩, ⟨p4, q4⟩, by unfold fitK; omega⟩
                              · have := HW1.out
                                rw [← HBY.out] at this
                                rw [inBy_snoc L k x j y HY.out, inBy_len L k x (j + 1) (by omega)]
                                rw [show (soFar L k).length + 2 + 8 * (j + 1) = (soFar L k).length + 2 + 8 * j + 8 by omega]
                                exact this
                      · have t4 : Hid (false = decide (fit8 y.c)) := Lib.hid (by simp [k4])
                        have HK := Lib.hid k4
                        clear k4
                        go_wp2_with fail
                        refine (fits_any _ _ _ t1.out).mono ?_
                        rintro e _ ⟨rfl, rfl⟩
                        go_wp2_with fail
                        refine (fits_any _ _ _ t2.out).mono ?_
                        rintro e _ ⟨rfl, rfl⟩
                        go_wp2_with fail
                        refine (fits_any _ _ _ t3.out).mono ?_
                        rintro e _ ⟨rfl, rfl⟩
                        go_wp2_with fail
                        refine (fits_any _ _ _ t4.out).mono ?_
                        rintro e _ ⟨rfl, rfl⟩
                        go_wp2_with fail
                        go_ret2
                        exact .inr ⟨fun h => HK.out (NOT h).2.2.2.1, rfl, (HFI.out.alloc _)⟩
                    · have t3 : Hid (false = decide (fit8 y.b)) := Lib.hid (by simp [k3])
                      have HK := Lib.hid k3
                      clear k3
                      go_wp2_with fail
                      refine (fits_any _ _ _ t1.out).mono ?_
                      rintro e _ ⟨rfl, rfl⟩
                      go_wp2_with fail
                      refine (fits_any _ _ _ t2.out).mono ?_
                      rintro e _ ⟨rfl, rfl⟩
                      go_wp2_with fail
                      refine (fits_any _ _ _ t3.out).mono ?_
                      rintro e _ ⟨rfl, rfl⟩
                      go_wp2_with fail
                      go_ret2
                      exact .inr ⟨fun h => HK.out (NOT h).2.2.1, rfl, (HFI.out.alloc _)⟩
                  · have t2 : Hid (false = decide (fit8 y.a)) := Lib.hid (by simp [k2])
                    have HK := Lib.hid k2
                    clear k2
                    go_wp2_with fail
                    refine (fits_any _ _ _ t1.out).mono ?_
                    rintro e _ ⟨rfl, rfl⟩
                    go_wp2_with fail
                    refine (fits_any _ _ _ t2.out).mono ?_
                    rintro e _ ⟨rfl, rfl⟩
                    go_wp2_with fail
                    go_ret2
                    exact .inr ⟨fun h => HK.out (NOT h).2.1, rfl, (HFI.out.alloc _)⟩
                · have t1 : Hid (false = decide (fit8 y.op)) := Lib.hid (by simp [k1])
                  have HK := Lib.hid k1
                  clear k1
                  go_wp2_with fail
                  refine (fits_any _ _ _ t1.out).mono ?_
                  rintro e _ ⟨rfl, rfl⟩
                  go_wp2_with fail
                  go_ret2
                  exact .inr ⟨fun h => HK.out (NOT h).1, rfl, (HFI.out.alloc _)⟩
              · obtain rfl : j = x.f.code.length := by omega
                go_wp2_with fail
                refine ⟨⟨k + 1, by omega, by go_num, ?_, by rw [soFar_snoc L k x HX.out]; exact HWJ.out, HFI.out⟩, by simp [intOf]; omega⟩
                exact allFn_snoc HALL.out HX.out ⟨⟨ha0, ha1⟩, hcl, fun y hy => HYS.out y (by rw [List.take_length]; exact hy)⟩
          · have g1 : (255 : Int) < (x.f.code.length : Int) := by omega
            go_wp2_with fail
            refine (fits_any _ _ _ ta.out).mono ?_
            rintro e _ ⟨rfl, rfl⟩
            go_wp2_with fail
            go_ret2
            exact .inr ⟨fun h => hcl (h.2 x.f (List.mem_map_of_mem hxm)).2.1, rfl, HF.out.alloc _⟩
        · have ta : Hid (false = decide (fit8 x.f.arity)) := Lib.hid (by simp [ha])
          have HA := Lib.hid ha
          clear ha
          go_wp2_with fail
          refine (fits_any _ _ _ ta.out).mono ?_
          rintro e _ ⟨rfl, rfl⟩
          go_wp2_with fail
          go_ret2
          exact .inr ⟨fun h => HA.out (h.2 x.f (List.mem_map_of_mem hxm)).1, rfl, HF.out.alloc _⟩
      · obtain rfl : k = L.length := by omega
        go_wp2_with fail
        go_ret2
        have hfull : soFar L L.length = 72 :: progBytes (fns L) := by
          simp [soFar, progBytes, fns, List.flatMap_map]
        have := HOW.out
        rw [hfull] at this
        refine .inl ⟨⟨by simp only [fns, List.length_map]; omega, fun f hf => ?_⟩, _, rfl, ?_, HF.out⟩
        · obtain ⟨x, hx, rfl⟩ := List.mem_map.1 hf
          exact HALL.out x (by rw [List.take_length]; exact hx)
        · rw [List.length_cons, Nat.add_comm] at this
          exact this
end Go.Proofs.Ytlpmnapjipfakaa
