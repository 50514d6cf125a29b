/-
  What light and of come to: where light says true, the parts are few; the document's program as the program's, in new memory.
-/
import Derived.Test.YtadcenaafoemmaaDoorOwnR
import Derived.Test.YtadcenaafoemmaaDoorPu
namespace Go.Proofs.YtadcenaafoemmaaDoor
open Go.RowKit

set_option maxHeartbeats 4000000 in
set_option maxRecDepth 100000 in
theorem light_any (w : World) (Q : Nat → Prop) (A : Option Addr) (c : Nat) (L : List LFn) (hR : FnRow w Q A L) :
    Calls Tryd.prog 9 #[.slice A L.length c] w fun e w' => ∃ t, e = .returned (.bool t) ∧ (t = true → L.length ≤ 20 ∧ ∀ x ∈ L, x.f.code.length ≤ 70) ∧ w' = w := by
  have HR := Lib.hid hR
  clear hR
  by_cases hl : 20 < L.length
  · have h1 : (20 : Int) < (L.length : Int) := by omega
    go_enter Tryd.func9, Tryd.ntmps9
    go_wp2_with fail
    go_ret
    exact ⟨false, rfl, (fun h => by cases h), rfl⟩
  · have h1 : ¬ (20 : Int) < (L.length : Int) := by omega
    go_enter Tryd.func9, Tryd.ntmps9
    go_wp2_with fail
    go_loopw [3] (fun i wx => ∃ k : Nat, k ≤ L.length ∧ i = .int .i64 k ∧ Hid (∀ x ∈ L.take k, x.f.code.length ≤ 70) ∧ wx = w) (fun i _ => L.length - (intOf i).toNat)
    case atStart => exact ⟨0, by omega, rfl, Lib.hid (fun x hx => by simp at hx), rfl⟩
    case round =>
      obtain ⟨k, hk, rfl, HP, rfl⟩ := hrel
      by_cases hkl : k < L.length
      · obtain ⟨x, hx⟩ : ∃ x, L[k]? = some x := ⟨_, List.getElem?_eq_getElem hkl⟩
        obtain ⟨b, off, rfl, _, _, d1, _⟩ := HR.out.at_ hx
        by_cases hx3 : 70 < x.f.code.length
        · have g1 : (70 : Int) < (x.f.code.length : Int) := by omega
          clear hx
          go_wp2_with fail
          go_ret
          exact ⟨false, rfl, (fun h => by cases h), rfl⟩
        · have g1 : ¬ (70 : Int) < (x.f.code.length : Int) := by omega
          have HX := Lib.hid hx
          clear hx
          go_wp2_with fail
          refine ⟨⟨k + 1, by omega, by go_num, Lib.hid ?_, trivial⟩, by simp [intOf]; omega⟩
          rw [take_snoc L k x HX.out]
          intro y hy
          rcases List.mem_append.1 hy with hy | hy
          · exact HP.out y hy
          · rw [List.mem_singleton.1 hy]; omega
      · obtain rfl : k = L.length := by omega
        rw [List.take_length] at HP
        go_wp2_with fail
        go_ret
        exact ⟨true, rfl, fun _ => ⟨by omega, HP.out⟩, rfl⟩

/-- A program that of has made so far. -/
def Made (w : World) (base : Nat) (v : Value) (L : List LFn) : Prop :=
  w.ownsRow base 101 2 v L.length (L.flatMap LFn.cells) ∧ ∀ x ∈ L, w.ownsRow base 98 5 (.slice x.A x.f.code.length x.c) x.f.code.length (x.f.code.flatMap Ins.cells)

set_option maxHeartbeats 8000000 in
set_option maxRecDepth 100000 in
theorem of_any (w : World) (A : Option Addr) (c : Nat) (L : List LFn) (hR : FnRow w (fun b => b < w.heap.size) A L) (hl : L.length ≤ 300) (hp : ∀ x ∈ L, x.f.code.length ≤ 600) :
    Calls Tryd.prog 12 #[.slice A L.length c] w fun e w' => ∃ v L', e = .returned v ∧ fns L' = fns L ∧ Made w' w.heap.size v L' ∧ Fr (fun _ => False) w w' := by
  obtain ⟨i5, hi5, hz50, hz51, hz52⟩ := info_parts info_ins
  obtain ⟨i2, hi2, hz20, hz21, hz22⟩ := info_parts info_fn
  have HR := Lib.hid hR
  have HP := Lib.hid hp
  clear hR hp
  go_enter Tryd.func12, Tryd.ntmps12
  go_wp2_with fail
  go_loopw [3, 4] (fun v i wx => ∃ k : Nat, k ≤ L.length ∧ i = .int .i64 k ∧ ∃ L', fns L' = fns (L.take k) ∧ Made wx w.heap.size v L' ∧ Fr (fun _ => False) w wx) (fun v i _ => L.length - (intOf i).toNat)
  case atStart => exact ⟨0, by omega, rfl, [], by simp [fns], ⟨⟨rfl, .inl ⟨rfl, rfl⟩⟩, (fun x hx => by cases hx)⟩, Fr.refl _ _⟩
  case round =>
    obtain ⟨k, hk, rfl, L', hfn, hM, hF⟩ := hrel
    have HM := Lib.hid hM
    have HFN := Lib.hid hfn
    have HF := Lib.hid hF
    clear hM hfn hF
    by_cases hkl : k < L.length
    · obtain ⟨x, hx⟩ : ∃ x, L[k]? = some x := ⟨_, List.getElem?_eq_getElem hkl⟩
      have HX := Lib.hid hx
      have hxm : x ∈ L := List.mem_of_getElem? hx
      have hxl := HP.out x hxm
      have HRk := Lib.hid (HR.out.fr HF.out (fun _ _ h => h))
      obtain ⟨b, off, rfl, hbq, d0, d1, _⟩ := HRk.out.at_ hx
      obtain ⟨wo, hwo⟩ : ∃ wo, wo = wr := ⟨_, rfl⟩
      subst hwo
      clear hx
      go_wp2_with fail
      have hO : Blk (wo.alloc (.cells #[.int .i64 x.f.arity, .slice none 0 0] 101)) wo.heap.size 101 #[.int .i64 x.f.arity, .slice none 0 0] := Blk.new _ _ _
      go_loopw [6] (fun i wx => ∃ j : Nat, j ≤ x.f.code.length ∧ i = .int .i64 j ∧ ∃ v, Blk wx wo.heap.size 101 #[.int .i64 x.f.arity, v] ∧ wx.ownsRow wo.heap.size 98 5 v j ((x.f.code.take j).flatMap Ins.cells) ∧ Fr (fun _ => False) wo wx) (fun i _ => x.f.code.length - (intOf i).toNat)
      case atStart => exact ⟨0, by omega, rfl, _, hO, ⟨by simp, .inl ⟨rfl, rfl⟩⟩, (Fr.refl _ _).alloc _⟩
      case round =>
        obtain ⟨j, hj, rfl, v, hB, hown, hFi⟩ := hrel
        have d0' := hFi.held d0 (fun h => h)
        have d1' := hFi.held d1 (fun h => h)
        have HRi := Lib.hid (HRk.out.fr hFi (fun _ _ h => h))
        have c0 : wr.cell? ⟨wo.heap.size, 0, none⟩ = some (.int .i64 x.f.arity) := by rw [hB.cell]; rfl
        have c1 : wr.cell? ⟨wo.heap.size, 1, none⟩ = some v := by rw [hB.cell]; rfl
        have f1 : wr.frozen? ⟨wo.heap.size, 1, none⟩ = false := hB.frozen 1
        have hlt : wo.heap.size < wr.heap.size := hB.lt
        have HB := Lib.hid hB
        have HOW := Lib.hid hown
        have HFI := Lib.hid hFi
        clear hB hown hFi hO d0 d1
        by_cases hjl : j < x.f.code.length
        · obtain ⟨y, hy⟩ : ∃ y, x.f.code[j]? = some y := ⟨_, List.getElem?_eq_getElem hjl⟩
          have HY := Lib.hid hy
          obtain ⟨b', off', hA', _, y0, y1, y2, y3, y4⟩ := (HRi.out.2 x hxm).at_ hy
          rw [hA'] at d1'
          clear hy
          have hnb : ((wr.alloc (.cells y.cells.toArray 94)).alloc (.cells y.cells.toArray 98)).heap[wr.heap.size + 1]? = some (.cells y.cells.toArray 98) := by
            have := heap_alloc_new (wr.alloc (.cells y.cells.toArray 94)) (.cells y.cells.toArray 98)
            simpa using this
          have HNB := Lib.hid hnb
          clear hnb
          go_wp2_with (at_builtin; refine wpList_append_lies _ rfl (.tmp 39) (.tmp 51) 99 rfl wo.heap.size 98 i5 (.agg #[.int .i64 0, .int .i64 0, .int .i64 0, .int .i64 0, .int .i64 0]) 5 40 Tryd.underlying99 hi5 hz50 hz51 hz52 rfl (by decide) v j _ rfl (own_fr HOW.out (((Fr.refl (fun _ => False) _).alloc _).alloc _) (fun _ _ h => h)) ⟨wr.heap.size + 1, 0, none⟩ 1 1 y.cells rfl rfl ?c1 ?c2 (by decide) ?c3 ?c4 ?c5 (wr.heap.size + 1 + 1) ?c6 ?_)
          case c1 => intro i u hi; exact World.news_of_block HNB.out i u hi
          case c2 => intro u hu; simp [Ins.cells] at hu; rcases hu with rfl | rfl | rfl | rfl | rfl <;> rfl
          case c3 => unfold maxLen; omega
          case c4 => omega
          case c5 => simp; omega
          case c6 => simp
          intro g cap w1 hown1 hg1 hor hlt1
          have HO1 := Lib.hid hor
          have HG1 := Lib.hid hg1
          have HW1 := Lib.hid hown1
          have hne := own_ne HOW.out HB.out (by decide)
          have hcf : w1.cell? ⟨wo.heap.size, 1, none⟩ = some v := hg1.cell (by rw [World.cell?_alloc_lt _ _ _ (by simp; omega), World.cell?_alloc_lt _ _ _ hlt]; exact c1) (fun h => hne h.symm)
          have hff : w1.frozen? ⟨wo.heap.size, 1, none⟩ = false := by
            rw [World.frozen?_of_block (hg1.block wo.heap.size (by simp; omega) (fun h => hne h.symm))]
            exact ((HB.out.alloc _).alloc _).frozen 1
          clear hor hg1 hown1
          go_wp2_with fail
          have hBw : Blk w1 wo.heap.size 101 #[.int .i64 x.f.arity, v] := (HG1.out.block wo.heap.size (by simp; omega) (fun h => hne h.symm)).trans ((HB.out.alloc _).alloc _)
          have hxs := flat_snoc Ins.cells x.f.code j y HY.out
          refine ⟨⟨j + 1, by omega, by go_num, _, hBw.set_ 1 _, ?_, (((HFI.out.alloc _).alloc _).grow HG1.out (own_low HOW.out)).setCell (.inr (Nat.le_refl _)) _⟩, by simp [intOf]; omega⟩
          rw [hxs]
          exact own_fr HW1.out ((Fr.refl (fun b => b = wo.heap.size) w1).setCell (.inl rfl) _) (fun g' hg' h => own_ne HW1.out hBw (by decide) (by rw [hg', h]))
        · obtain rfl : j = x.f.code.length := by omega
          rw [List.take_length] at HOW
          obtain ⟨vA, vc, rfl⟩ := own_slice HOW.out
          have hMo := own_fr HM.out.1 HFI.out (fun _ _ h => h)
          have hnb : (wr.alloc (.cells #[.int .i64 x.f.arity, .slice vA x.f.code.length vc] 101)).heap[wr.heap.size]? = some (.cells #[.int .i64 x.f.arity, .slice vA x.f.code.length vc] 101) := heap_alloc_new _ _
          have HNB := Lib.hid hnb
          have HMO := Lib.hid hMo
          have hLl : L'.length = k := by
            have := congrArg List.length HFN.out
            simp [fns] at this
            omega
          have hbw := HF.out.size
          clear hnb hMo
          go_wp2_with (at_builtin; refine wpList_append_lies _ rfl (.tmp 54) (.tmp 56) 40 rfl w.heap.size 101 i2 (.agg #[.int .i64 0, .slice none 0 0]) 2 32 Tryd.underlying40 hi2 hz20 hz21 hz22 rfl (by decide) _ _ _ rfl (own_fr HMO.out ((Fr.refl (fun _ => False) _).alloc _) (fun _ _ h => h)) ⟨wr.heap.size, 0, none⟩ 1 1 [.int .i64 x.f.arity, .slice vA x.f.code.length vc] rfl rfl ?c1 ?c2 (by decide) ?c3 ?c4 ?c5 (wr.heap.size + 1) ?c6 ?_)
          case c1 => intro i u hi; exact World.news_of_block HNB.out i u hi
          case c2 => intro u hu; simp at hu; rcases hu with rfl | rfl <;> rfl
          case c3 => unfold maxLen; omega
          case c4 => omega
          case c5 => simp; omega
          case c6 => simp
          intro g cap w1 hown1 hg1 hor hlt1
          have HO1 := Lib.hid hor
          have HG1 := Lib.hid hg1
          have HW1 := Lib.hid hown1
          clear hor hg1 hown1
          go_wp2_with fail
          have hfr1 : Fr (fun b => some b = u3.ownBlock) wr w1 := ((Fr.refl _ _).alloc _).trans (Fr.grown HG1.out)
          refine ⟨⟨k + 1, by omega, by go_num, L' ++ [⟨x.f, vA, vc⟩], ?_, ⟨?_, fun z hz => ?_⟩, ((HF.out.trans HFI.out).alloc _).grow HG1.out (own_low HMO.out)⟩, by simp [intOf]; omega⟩
          · rw [take_snoc L k x HX.out]
            have := HFN.out
            simp only [fns, List.map_append, List.map_cons, List.map_nil] at this ⊢
            rw [this]
          · have := HW1.out
            rw [List.length_append, List.flatMap_append]
            simpa [LFn.cells, hLl] using this
          · rcases List.mem_append.1 hz with hz | hz
            · have hrow := own_fr (HM.out.2 z hz) HFI.out (fun _ _ h => h)
              exact own_fr hrow hfr1 (fun g' hg' h => own_apart hrow HMO.out (by decide) g' hg' h.symm)
            · rw [List.mem_singleton.1 hz]
              exact own_fr (own_down HOW.out hbw) hfr1 (fun g' hg' h => own_apart HOW.out HMO.out (by decide) g' hg' h.symm)
    · obtain rfl : k = L.length := by omega
      rw [List.take_length] at HFN
      go_wp2_with fail
      go_ret
      exact ⟨_, L', rfl, HFN.out, HM.out, HF.out⟩
end Go.Proofs.YtadcenaafoemmaaDoor
