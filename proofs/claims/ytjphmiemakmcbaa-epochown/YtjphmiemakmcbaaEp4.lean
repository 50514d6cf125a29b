/-
  Package epoch: cut, which takes what is ready off the front of a worker's row.
-/
import Derived.Test.YtjphmiemakmcbaaEp3
namespace Go.Proofs.Ytjphmiemakmcbaa
open Go.RowKit

abbrev ic (xs : List Int) : List Value := xs.map fun x => Value.int .i64 x
theorem ob (A : Option Addr) (n c m d : Nat) : (Value.slice A n c).ownBlock = (Value.slice A m d).ownBlock := by cases A <;> rfl
/-- Is a thing ready? -/
def rdy (now : Nat) (t : Int × Nat) : Bool := decide (t.2 + 2 ≤ now)

/-- What cut comes to: so many things were ready, the next one is not. -/
def CutP (w : World) (base g o : Nat) (lv : Value) (l : List (Int × Nat)) (now : Nat) (e : Ending) (w' : World) : Prop :=
  ∃ v lv' w1 k, e = .returned v ∧ w' = w1.setCell ⟨g, o + 1, none⟩ lv' ∧ k ≤ l.length ∧ (∀ t ∈ l.take k, rdy now t = true) ∧ (∀ t, l[k]? = some t → rdy now t = false) ∧
    w1.ownsRow w.heap.size 3 1 v k (ic ((l.take k).map Prod.fst)) ∧ w1.ownsRow base 60 2 lv' (l.drop k).length (pc (thC (l.drop k))) ∧ lv'.ownBlock = lv.ownBlock ∧ Fr (fun q => lv.ownBlock = some q) w w1

set_option maxHeartbeats 4000000 in
theorem cut_any (w : World) (base g o : Nat) (lv : Value) (l : List (Int × Nat)) (hl : w.ownsRow base 60 2 lv l.length (pc (thC l))) (hcell : w.cell? ⟨g, o + 1, none⟩ = some lv) (hfz : w.frozen? ⟨g, o + 1, none⟩ = false) (hne : lv.ownBlock ≠ some g)
    (hlen : l.length ≤ 1000000) (c x now : Nat) (hnow : now ≤ 1000000) (hat : ∀ t ∈ l, t.2 ≤ now) (hc : w.cell? ⟨c, 0, none⟩ = some (.pointer (some ⟨x, 0, none⟩))) (hx : w.cell? ⟨x, 0, none⟩ = some (.int .i64 (now : Int))) :
    Calls Try.prog 23 #[.pointer (some ⟨g, o, none⟩), .func (.func 22) #[] #[.pointer (some ⟨c, 0, none⟩)]] w (CutP w base g o lv l now) := by
  obtain ⟨i0, hi0, hz0, hz1, hz2⟩ := info_parts info_int
  obtain ⟨lA, lc, rfl⟩ := own_slice hl
  obtain ⟨n, hnn⟩ : ∃ n, n = l.length := ⟨_, rfl⟩
  have HGL := Lib.hid (cell_lt hcell)
  have HL := Lib.hid hl
  have HC := Lib.hid hc
  have HX := Lib.hid hx
  have HNN := Lib.hid hnn
  have HAT := Lib.hid hat
  have HCELL := Lib.hid hcell
  have HFZ := Lib.hid hfz
  have HNE := Lib.hid hne
  rw [← hnn] at hcell
  clear hl hc hx hnn hat hne hfz
  go_enter Try.func23, Try.ntmps23
  go_wp2_with fail
  go_loopw [12, 4] (fun i gv wx => ∃ k : Nat, k ≤ n ∧ i = .int .i64 (k : Int) ∧ Hid (∀ t ∈ l.take k, rdy now t = true) ∧ Hid (wx.ownsRow w.heap.size 3 1 gv k (ic ((l.take k).map Prod.fst))) ∧ Hid (Fr F0 w wx)) (fun i _ _ => n - (intOf i).toNat)
  case atStart => exact ⟨0, by omega, rfl, Lib.hid (fun t ht => by simp at ht), Lib.hid (by simpa using World.ownsRow_nil w w.heap.size 3 1), Lib.hid (Fr.refl _ _)⟩
  case round =>
    obtain ⟨k, hkn0, rfl, HRD, HG, HF⟩ := hrel
    have hkn : k ≤ l.length := by have := HNN.out; omega
    by_cases hk : k < n
    · have g1 : (k : Int) < (n : Int) := by omega
      obtain ⟨q, hq⟩ : ∃ q, l[k]? = some q := ⟨_, List.getElem?_eq_getElem (by have := HNN.out; omega)⟩
      have hq0 : Hid (l[k]? = some q) := hq
      obtain ⟨b, cap, hv, hb, hkn', hnc, hcm, hc1, hc2, hfz'⟩ := own_pair (own_fr HL.out HF.out (fun _ _ h => h)) (thC_at hq)
      injection hv with hv1 _ hv3
      subst hv1; subst hv3
      obtain ⟨gA, gc, rfl⟩ := own_slice HG.out
      have hwl : w.heap.size ≤ wr.heap.size := HF.out.size
      have hbl : b < wr.heap.size := cell_lt hc1
      have HXX := Lib.hid (HF.out.held HX.out (fun h => h))
      have HCX := Lib.hid (HF.out.held HC.out (fun h => h))
      have hfA : Fr F0 wr (wr.alloc (.cells #[.int .i64 q.1, .int .i64 (q.2 : Int)] 60)) := (Fr.refl _ _).alloc _
      have HRY := Lib.hid (ready_any _ q.1 q.2 c x now hnow (HAT.out q (List.mem_of_getElem? hq)) (hfA.held HCX.out (fun h => h)) (hfA.held HXX.out (fun h => h)))
      have HFA := Lib.hid hfA
      have HBA := Lib.hid (Blk.new wr 60 #[.int .i64 q.1, .int .i64 (q.2 : Int)])
      clear hq hfz' hnc hcm hfA
      obtain ⟨rr, hrr⟩ : ∃ rr, rr = decide (q.2 + 2 ≤ now) := ⟨_, rfl⟩
      rw [← hrr] at HRY
      have HRR := Lib.hid hrr
      clear hrr
      cases rr with
      | true =>
        clear hcell
        go_wp2_with fail
        refine HRY.out.mono ?_
        rintro e w1 ⟨rfl, hF1⟩
        have hx1 : w1.cell? ⟨wr.heap.size, 0, none⟩ = some (.int .i64 q.1) := by rw [(HBA.out.fr hF1 (fun h => h)).cell]; rfl
        have hF2 := HFA.out.trans hF1
        have hs2 : wr.heap.size < w1.heap.size := (HBA.out.fr hF1 (fun h => h)).lt
        have hown2 := own_fr HG.out (hF2.alloc (.cells #[.int .i64 q.1] 3)) (fun _ _ h => h)
        have hnb : (w1.alloc (.cells #[.int .i64 q.1] 3)).heap[w1.heap.size]? = some (.cells #[.int .i64 q.1] 3) := heap_alloc_new _ _
        have HOWN2 := Lib.hid hown2
        have HNB := Lib.hid hnb
        have HF2 := Lib.hid hF2
        clear hF1 hF2 hown2 hnb HRY HFA HBA hc1 hc2
        go_wp2_with (at_builtin; refine wpList_append_lies _ rfl (.tmp 20) (.tmp 23) 33 rfl w.heap.size 3 i0 (.int .i64 0) 1 8 Try.underlying33 hi0 hz0 hz1 hz2 rfl (by decide) _ k _ rfl HOWN2.out ⟨w1.heap.size, 0, none⟩ 1 1 [.int .i64 q.1] rfl rfl ?c1 ?c2 (by decide) ?c3 ?c4 ?c5 (w1.heap.size + 1) ?c6 ?_)
        case c1 => intro i u hi; exact World.news_of_block HNB.out i u hi
        case c2 => intro u hu; simp at hu; rcases hu with rfl; rfl
        case c3 => unfold maxLen; omega
        case c4 => omega
        case c5 => simp; omega
        case c6 => simp
        intro g' cap' w3 hown3 hg3 hor3 hlt3
        have HF3 : Hid (Fr F0 w w3) := Fr.then ((HF.out.trans HF2.out).alloc _) (Fr.grown hg3) (fun i hi => .inr (own_low HG.out i hi.symm))
        have HW3 := Lib.hid hown3
        clear hown3 hg3 hor3 hlt3
        go_wp2_with fail
        have hsplit : l.take (k + 1) = l.take k ++ [q] := by rw [List.take_add_one, hq0.out]; rfl
        refine ⟨⟨k + 1, by omega, by go_num, Lib.hid ?_, Lib.hid ?_, HF3⟩, by simp [intOf]; omega⟩
        · intro t ht
          rw [hsplit, List.mem_append] at ht
          rcases ht with ht | ht
          · exact HRD.out t ht
          · rw [List.mem_singleton] at ht
            rw [ht]
            exact HRR.out.symm
        · rw [hsplit]
          simpa [ic, List.map_take] using HW3.out
      | false =>
        have hcw : wr.cell? ⟨g, o + 1, none⟩ = some (.slice (some ⟨b, 0, none⟩) n lc) := HF.out.held hcell (fun h => h)
        have HHC := Lib.hid hcw
        clear hcell hcw
        go_wp2_with fail
        refine HRY.out.mono ?_
        rintro e w1 ⟨rfl, hF1⟩
        have HF2 := Lib.hid (HF.out.trans (HFA.out.trans hF1))
        have HG2 := Lib.hid (own_fr HG.out (HFA.out.trans hF1) (fun _ _ h => h))
        clear hF1 HRY HFA HBA hc1 hc2
        have hcn : w1.cell? ⟨g, o + 1, none⟩ = some (.slice (some ⟨b, 0, none⟩) n lc) := by rw [HNN.out]; exact HF2.out.held HCELL.out (fun h => h)
        have HDL := Lib.hid (del_any w1 base (.slice (some ⟨b, 0, none⟩) l.length lc) (l.take k) (l.drop k) (by rw [List.take_append_drop]; exact own_fr HL.out HF2.out (fun _ _ h => h)))
        rw [List.length_take, Nat.min_eq_left hkn, ← HNN.out] at HDL
        have HFF : Hid (w1.frozen? ⟨g, o + 1, none⟩ = false) := (World.frozen?_of_block (a := ⟨g, o + 1, none⟩) (HF2.out.block g HGL.out (fun h => h))).trans HFZ.out
        have HCN := Lib.hid hcn
        go_wp2_with fail
        refine HDL.out.mono ?_
        rintro e w5 ⟨lv', rfl, hD1, hD2, hD3⟩
        have hnb : ¬ (Value.slice (some ⟨b, 0, none⟩) n lc).ownBlock = some g := by rw [ob (some ⟨b, 0, none⟩) n lc l.length lc]; exact HNE.out
        have hgl : g < w1.heap.size := Nat.lt_of_lt_of_le HGL.out HF2.out.size
        have hc5 : w5.cell? ⟨g, o + 1, none⟩ = some (.slice (some ⟨b, 0, none⟩) n lc) := Fr.held hD3 HCN.out hnb
        have hf5 : w5.frozen? ⟨g, o + 1, none⟩ = false := (World.frozen?_of_block (a := ⟨g, o + 1, none⟩) (hD3.block g hgl hnb)).trans HFF.out
        have HD1 := Lib.hid hD1
        have HD2 := Lib.hid hD2
        have HD3 := Lib.hid hD3
        obtain ⟨lA', lc', rfl⟩ := own_slice hD1
        clear hD1 hD2 hD3
        go_wp2_with fail
        go_ret
        refine ⟨_, _, w5, k, rfl, rfl, hkn, HRD.out, ?_, own_fr HG2.out HD3.out ?_, (by have h := HD1.out; rw [List.length_drop] at h ⊢; exact h), (by have h := HD2.out; rw [List.length_drop] at h; rw [h]; exact ob _ _ _ _ _), (Fr.f0 HF2.out).trans (HD3.out.mono (fun q hq => by rw [ob (some ⟨b, 0, none⟩) l.length lc n lc]; exact hq))⟩
        · intro t ht
          have h1 := hq0.out
          rw [ht] at h1
          injection h1 with h1
          rw [h1]
          exact HRR.out.symm
        · intro q' hq' hq2
          have h1 := own_low HG2.out q' hq'
          have h2 := own_lt HL.out q' (by rw [ob (some ⟨b, 0, none⟩) l.length lc n lc]; exact hq2)
          omega
    · obtain rfl : k = n := by omega
      have HF2 := HF
      have HG2 := HG
      have hcn : wr.cell? ⟨g, o + 1, none⟩ = some (.slice lA k lc) := by rw [HNN.out]; exact HF2.out.held HCELL.out (fun h => h)
      have HDL := Lib.hid (del_any wr base (.slice lA l.length lc) (l.take k) (l.drop k) (by rw [List.take_append_drop]; exact own_fr HL.out HF2.out (fun _ _ h => h)))
      rw [List.length_take, Nat.min_eq_left hkn, ← HNN.out] at HDL
      have HFF : Hid (wr.frozen? ⟨g, o + 1, none⟩ = false) := (World.frozen?_of_block (a := ⟨g, o + 1, none⟩) (HF2.out.block g HGL.out (fun h => h))).trans HFZ.out
      have HCN := Lib.hid hcn
      obtain ⟨gA, gc, rfl⟩ := own_slice HG.out
      clear hcell
      go_wp2_with fail
      refine HDL.out.mono ?_
      rintro e w5 ⟨lv', rfl, hD1, hD2, hD3⟩
      have hnb : ¬ (Value.slice lA k lc).ownBlock = some g := by rw [ob lA k lc l.length lc]; exact HNE.out
      have hgl : g < wr.heap.size := Nat.lt_of_lt_of_le HGL.out HF2.out.size
      have hc5 : w5.cell? ⟨g, o + 1, none⟩ = some (.slice lA k lc) := Fr.held hD3 HCN.out hnb
      have hf5 : w5.frozen? ⟨g, o + 1, none⟩ = false := (World.frozen?_of_block (a := ⟨g, o + 1, none⟩) (hD3.block g hgl hnb)).trans HFF.out
      have HD1 := Lib.hid hD1
      have HD2 := Lib.hid hD2
      have HD3 := Lib.hid hD3
      obtain ⟨lA', lc', rfl⟩ := own_slice hD1
      clear hD1 hD2 hD3
      go_wp2_with fail
      go_ret
      refine ⟨_, _, w5, k, rfl, rfl, hkn, HRD.out, ?_, own_fr HG2.out HD3.out ?_, (by have h := HD1.out; rw [List.length_drop] at h ⊢; exact h), (by have h := HD2.out; rw [List.length_drop] at h; rw [h]; exact ob _ _ _ _ _), (Fr.f0 HF2.out).trans (HD3.out.mono (fun q hq => by rw [ob lA l.length lc k lc]; exact hq))⟩
      · intro t ht
        rw [List.getElem?_eq_none (by have := HNN.out; omega)] at ht
        cases ht
      · intro q' hq' hq2
        have h1 := own_low HG2.out q' hq'
        have h2 := own_lt HL.out q' (by rw [ob lA l.length lc k lc]; exact hq2)
        omega
end Go.Proofs.Ytjphmiemakmcbaa
