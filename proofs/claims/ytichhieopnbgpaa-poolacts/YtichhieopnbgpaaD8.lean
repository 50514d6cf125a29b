/-
  The document's Drain. No condition.
-/
import Derived.Test.YtichhieopnbgpaaD6
namespace Go.Proofs.Ytichhieopnbgpaa
open Go.RowKit

/-- One more goes home. -/
def dh1 (S : Shp) (i : Nat) (fl : List (List Nat)) (n : Nat) : List (List Nat) := fl.set (i * 3 + cls S n) (n :: fl.getD (i * 3 + cls S n) [])
theorem dh1_length (S : Shp) (i : Nat) (bk : List Nat) (fl : List (List Nat)) : (bk.foldl (dh1 S i) fl).length = fl.length := by
  induction bk generalizing fl with
  | nil => rfl
  | cons n r ih => rw [List.foldl_cons, ih]; simp [dh1]
section
variable {w : World} {Q : Nat → Prop} {x D fb rb : Nat} {S : Shp} {fv : List Value} {fl : List (List Nat)} {rv : List Value} {rl : List (List Nat)} {tv : Value} {tk : List Bool}
set_option maxHeartbeats 4000000 in
theorem ddrain_no (h : DR w Q x D fb rb S fv fl rv rl tv tk) (i : Int) (hi : i < 0 ∨ (S.k : Int) ≤ i) :
    Calls Try.prog 20 #[.pointer (some ⟨D, 0, none⟩), .int .i64 i] w fun e w' => e = .returned (.int .i64 0) ∧ w' = w := by
  have HWK := Lib.hid (dworker_no w D S.k h.cells.1 i hi)
  clear h hi
  go_enter Try.func20, Try.ntmps20
  go_wp2_with fail
  refine HWK.out.mono ?_
  rintro e w2 ⟨rfl, rfl⟩
  go_wp2_with fail
  go_ret
  exact ⟨rfl, rfl⟩

set_option maxHeartbeats 8000000 in
set_option maxRecDepth 100000 in
theorem ddrain_yes (h : DR w Q x D fb rb S fv fl rv rl tv tk) (hk : Small S) (i : Nat) (hi : i < S.k) (bk : List Nat) (hbk : rl[i]? = some bk) (hbl : bk.length ≤ 500) (hlen : ∀ l ∈ fl, l.length ≤ 500) (hin : ∀ n ∈ bk, ∃ a z c, whr S n = some (a, z, i, c)) :
    Calls Try.prog 20 #[.pointer (some ⟨D, 0, none⟩), .int .i64 (i : Int)] w fun e w' => e = .returned (.int .i64 (bk.length : Int)) ∧ DStep w Q x D fb rb S rv tv (bk.foldl (dh1 S i) fl) (rl.set i []) tk w' := by
  have hk4 := hk.k
  have HWK := Lib.hid (dworker_yes w D S.k h.cells.1 i hi)
  obtain ⟨-, -, k8, -⟩ := h.cells
  obtain ⟨v, hv⟩ := of_lt (show i < rv.length by have := h.rr.len; have := h.rll; omega)
  have hown := h.rr.own i v bk hv hbk
  obtain ⟨A, cp, rfl⟩ := own_slice hown
  obtain ⟨L, hL⟩ : ∃ L, L = bk.length := ⟨_, rfl⟩
  have cr : w.cell? ⟨rb, i, none⟩ = some (.slice A L cp) := by rw [hL, h.hr.cell, List.getElem?_toArray, hv]
  have zr : w.frozen? ⟨rb, i, none⟩ = false := h.hr.frozen _
  have g1 : (i : Int) < (S.k : Int) := by omega
  have HD2 := Lib.hid (h.setback (nv := .slice none 0 0) (l' := []) hv (Fr.refl _ _) (World.ownsRow_nil _ _ _ _) (fun k hk => by cases hk))
  obtain ⟨w2, hw2⟩ : ∃ w2, w2 = w.setCell ⟨rb, i, none⟩ (.slice none 0 0) := ⟨_, rfl⟩
  have HF2 : Hid (Fr (fun k => k = rb) w w2) := Lib.hid (by rw [hw2]; exact (Fr.refl (fun k => k = rb) w).setCell (p := ⟨rb, i, none⟩) (.inl rfl) _)
  rw [← hw2] at HD2
  have HOWN := Lib.hid (own_fr hown HF2.out (fun g hg e => by subst e; exact own_ne hown h.hr (by decide) hg))
  have HNF : Hid ((Value.slice A bk.length cp).ownBlock ≠ some fb) := Lib.hid (fun e => own_ne hown h.hf (by decide) e)
  rw [← hL] at HOWN HNF hbl
  have HV := Lib.hid hv
  have HL := Lib.hid hL
  have HK := Lib.hid hk
  have HIN := Lib.hid hin
  have HLN := Lib.hid hlen
  have HFL : Hid (fl.length = 3 * S.k) := h.fl3
  have HI := Lib.hid hi
  clear h hk hbk hlen hin hv hown
  rw [← hL]
  clear hL
  go_enter Try.func20, Try.ntmps20
  go_wp2_with fail
  refine HWK.out.mono ?_
  rintro e w1 ⟨rfl, rfl⟩
  go_wp2_with fail
  rw [← hw2]
  clear hw2 k8 cr zr HWK
  go_loopw [6] (fun jv wx => ∃ (j : Nat) (Qx : Nat → Prop) (fvx : List Value) (flx : List (List Nat)), j ≤ L ∧ jv = .int .i64 (j : Int) ∧ Hid (flx = (bk.take j).foldl (dh1 S i) fl) ∧ Hid (∀ l ∈ flx, l.length ≤ 500 + j) ∧ Hid (DR wx Qx x D fb rb S fvx flx (rv.set i (.slice none 0 0)) (rl.set i []) tv tk) ∧ Hid (Fr (fun k => k = fb) w2 wx) ∧ Hid (∀ b, Qx b → Q b ∨ w2.heap.size ≤ b)) (fun jv _ => L - (intOf jv).toNat)
  case atStart => exact ⟨0, Q, fv, fl, by omega, rfl, Lib.hid (by simp), HLN, HD2, Lib.hid (Fr.refl _ _), Lib.hid (fun b h => .inl h)⟩
  case round =>
    obtain ⟨j, Qx, fvx, flx, hj, rfl, HE, HLX, HD, HF, HQ⟩ := hrel
    by_cases hjL : j < L
    · have g2 : (j : Int) < (L : Int) := by omega
      obtain ⟨n, hn⟩ := of_lt (show j < bk.length by have := HL.out; omega)
      obtain ⟨a, z, c, hw⟩ := HIN.out n (List.mem_of_getElem? hn)
      have hcl := cls_of hw
      have hc3 := (whr_at hw).cls
      have ho := own_fr HOWN.out HF.out (fun g hg e => by subst e; exact HNF.out hg)
      obtain ⟨g, rfl, hcn⟩ := own_at ho (i := j) (u := .int .i64 (n : Int)) (nc_at hn)
      obtain ⟨l, hl⟩ := of_lt (show i * 3 + c < flx.length by have := HD.out.fl3; have := HI.out; omega)
      have hll := HLX.out l (List.mem_of_getElem? hl)
      have HH := Lib.hid (dhome_any HD.out HK.out n a z i c hw l hl (by omega))
      have HE2 : Hid (flx.set (i * 3 + c) (n :: l) = (bk.take (j + 1)).foldl (dh1 S i) fl) := Lib.hid (by
        rw [foldl_take _ _ _ _ hn, ← HE.out, dh1, hcl, getDL hl])
      have HLX2 : Hid (∀ l' ∈ flx.set (i * 3 + c) (n :: l), l'.length ≤ 500 + (j + 1)) := Lib.hid (fun l' hl' => by
        obtain ⟨q, hq⟩ := List.getElem?_of_mem hl'
        rcases set_at hq with ⟨_, rfl⟩ | ⟨_, hq⟩
        · simp; omega
        · have := HLX.out l' (List.mem_of_getElem? hq); omega)
      clear hn hw hcl hc3 ho hl hll
      go_wp2_with fail
      refine HH.out.mono ?_
      rintro e w3 ⟨rfl, Q', fv', hD3, hF3, hQ3, hQ4⟩
      have HD3 := Lib.hid hD3
      have HF3 := Lib.hid (HF.out.trans hF3)
      have HQ3 : Hid (∀ b, Q' b → Q b ∨ w2.heap.size ≤ b) := Lib.hid (fun b hb => by
        rcases hQ3 b hb with h1 | h1
        · exact HQ.out b h1
        · have := HF.out.size; exact .inr (by omega))
      clear hD3 hF3 hQ3 hQ4 HH hcn
      go_wp2_with fail
      exact ⟨⟨j + 1, Q', fv', _, by omega, by go_num, HE2, HLX2, HD3, HF3, HQ3⟩, by simp [intOf]; omega⟩
    · have HJ : Hid (j = L) := Lib.hid (by omega)
      have g2 : ¬ (j : Int) < (L : Int) := by omega
      have HE3 : Hid (flx = bk.foldl (dh1 S i) fl) := Lib.hid (by
        rw [HE.out, HJ.out, HL.out, List.take_length])
      clear HE
      go_wp2_with fail
      go_ret
      refine ⟨rfl, Qx, fvx, _, by rw [← HE3.out]; exact HD.out, ?_, fun k hk => ?_⟩
      · exact (HF2.out.mono (fun k hk => .inr (.inr (.inl hk)))).trans (HF.out.mono (fun k hk => .inr (.inl hk)))
      · have hs := HF2.out.size
        have hd : DB Q D fb rb rv tv k ∨ w1.heap.size ≤ k := by
          rcases hk with hk | hk | hk | hk | hk | hk
          · exact .inl (.inl hk)
          · exact .inl (.inr (.inl hk))
          · exact .inl (.inr (.inr (.inl hk)))
          · exact .inl (.inr (.inr (.inr (.inl hk))))
          · rcases HQ.out k hk with h1 | h1
            · exact .inl (.inr (.inr (.inr (.inr (.inl h1)))))
            · exact .inr (by omega)
          · exact DB.set (Q := Q) (D := D) (fb := fb) (rb := rb) (tv := tv) HV.out (nv := .slice none 0 0) (m := w1.heap.size) (fun k hk => by cases hk) (.inr (.inr (.inr (.inr (.inr hk)))))
        exact hd
end
end Go.Proofs.Ytichhieopnbgpaa
