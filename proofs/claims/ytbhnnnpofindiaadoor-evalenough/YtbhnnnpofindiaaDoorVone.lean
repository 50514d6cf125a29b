/-
  What the checker does with a function, and with a program.
-/
import Derived.Test.YtbhnnnpofindiaaDoorVin
namespace Go.Proofs.YtbhnnnpofindiaaDoor
open Go.RowKit


theorem FnRow.far {w w' : World} {p : Nat} {A : Option Addr} {L : List LFn} (h : FnRow w (fun b => b < w.heap.size ∧ b ≠ p) A L) (hf : Fr (At p) w w') : FnRow w' (fun b => b < w'.heap.size ∧ b ≠ p) A L :=
  (h.fr hf (fun _ hb h => hb.2 h)).mono (fun _ hb => ⟨Nat.lt_of_lt_of_le hb.1 hf.size, hb.2⟩)
theorem InsRow.far {w w' : World} {p : Nat} {A : Option Addr} {l : List Ins} (h : InsRow w (fun b => b < w.heap.size ∧ b ≠ p) A l) (hf : Fr (At p) w w') : InsRow w' (fun b => b < w'.heap.size ∧ b ≠ p) A l :=
  Rd.mono (h.fr hf (fun _ hb h => hb.2 h)) (fun _ hb => ⟨Nat.lt_of_lt_of_le hb.1 hf.size, hb.2⟩)

/-- What a call comes to that may turn the checker's place. -/
def OPost (w : World) (p : Nat) (A : Option Addr) (n c : Nat) (f i e : Int) (r : Ending) (w' : World) : Prop :=
  (e = 0 ∧ r = .returned (.tuple #[]) ∧ (∃ i', CkIs w' p A n c f i' 0) ∧ Fr (At p) w w') ∨ (e ≠ 0 ∧ r = fault f i e ∧ Fr (At p) w w')

theorem fnE_arity {fs : List Fn} {f : Fn} (h : ¬ (0 ≤ f.arity ∧ f.arity ≤ 4)) : fnE fs f = (0, 6) := by unfold fnE; rw [if_neg h]
theorem fnE_len {fs : List Fn} {f : Fn} (h : 0 ≤ f.arity ∧ f.arity ≤ 4) (h2 : ¬ (1 ≤ f.code.length ∧ f.code.length ≤ 64)) : fnE fs f = (0, 3) := by unfold fnE; rw [if_pos h, if_neg h2]
theorem fnE_ins {fs : List Fn} {f : Fn} (h : 0 ≤ f.arity ∧ f.arity ≤ 4) (h2 : 1 ≤ f.code.length ∧ f.code.length ≤ 64) {k : Nat} {x : Ins} (hx : f.code[k]? = some x) (h0 : ∀ y ∈ f.code.take k, insE fs f.code.length y = 0) (h1 : insE fs f.code.length x ≠ 0) : fnE fs f = (k, insE fs f.code.length x) := by
  have := codeE_bad fs f.code.length f.code 0 k x hx h0 h1
  rw [Nat.zero_add] at this
  unfold fnE; rw [if_pos h, if_pos h2, this, if_neg h1]
theorem fnE_last {fs : List Fn} {f : Fn} (h : 0 ≤ f.arity ∧ f.arity ≤ 4) (h2 : 1 ≤ f.code.length ∧ f.code.length ≤ 64) (h0 : ∀ y ∈ f.code, insE fs f.code.length y = 0) : fnE fs f = if lastOk f.code then (0, 0) else (f.code.length - 1, 11) := by
  have := codeE_ok fs f.code.length f.code 0 h0
  unfold fnE; rw [if_pos h, if_pos h2, this]; rfl

set_option maxHeartbeats 8000000 in
set_option maxRecDepth 100000 in
theorem one_any (w : World) (p : Nat) (A : Option Addr) (c : Nat) (fi : Int) (L : List LFn) (hC : CkIs w p A L.length c fi 0 0) (hR : FnRow w (fun b => b < w.heap.size ∧ b ≠ p) A L) (hT : FieldsAt w) (hp : p ≠ 0) (fn : Fn) (yA : Option Addr) (yc : Nat) (hY : InsRow w (fun b => b < w.heap.size ∧ b ≠ p) yA fn.code) :
    Calls Tryd.prog 56 #[.pointer (some ⟨p, 0, none⟩), .agg #[.int .i64 fn.arity, .slice yA fn.code.length yc]] w (OPost w p A L.length c fi (fnE (fns L) fn).1 (fnE (fns L) fn).2) := by
  have HC := Lib.hid hC
  have HR := Lib.hid hR
  have HT := Lib.hid hT
  have HY := Lib.hid hY
  clear hC hR hT hY
  have hpl : p < w.heap.size := Blk.lt HC.out
  go_enter Tryd.func56, Tryd.ntmps56
  go_wp2_with fail
  refine (within_any _ p A L.length c fi 0 0 6 (Blk.alloc HC.out _) (by decide) fn.arity 0 5).mono ?_
  rintro r w1 (⟨h0, rfl, hF1⟩ | ⟨h0, rfl, hF1⟩)
  · have ha := rngE_zero (by decide) h0
    have HA : Hid (0 ≤ fn.arity ∧ fn.arity ≤ 4) := Lib.hid ⟨ha.1, by omega⟩
    have hX : Blk w1 w.heap.size 58 #[.int .i64 fn.arity, .slice yA fn.code.length yc] := (Blk.new w _ _).fr hF1 (fun h => h)
    have x1 : w1.cell? ⟨w.heap.size, 1, none⟩ = some (.slice yA fn.code.length yc) := by rw [hX.cell]; rfl
    have HX := Lib.hid hX
    have HF1 := Lib.hid hF1
    clear h0 ha hX hF1
    go_wp2_with fail
    refine (within_any _ p A L.length c fi 0 0 3 (Blk.fr (Blk.alloc HC.out _) HF1.out (fun h => h)) (by decide) fn.code.length 1 65).mono ?_
    rintro r w2 (⟨h0, rfl, hF2⟩ | ⟨h0, rfl, hF2⟩)
    · have hl := rngE_zero (by decide) h0
      have HL : Hid (1 ≤ fn.code.length ∧ fn.code.length ≤ 64) := Lib.hid (by omega)
      have hl1 : 1 ≤ fn.code.length := HL.out.1
      have hl2 : fn.code.length ≤ 64 := HL.out.2
      have hX2 := HX.out.fr hF2 (fun h => h)
      have x1' : w2.cell? ⟨w.heap.size, 1, none⟩ = some (.slice yA fn.code.length yc) := by rw [hX2.cell]; rfl
      have hFw : Fr None' w w2 := (((Fr.refl _ _).alloc _).trans HF1.out).trans hF2
      have HC2 : Hid (CkIs w2 p A L.length c fi 0 0) := Lib.hid (Blk.fr HC.out hFw (fun h => h))
      have HF2 := Lib.hid hFw
      have HX2 := Lib.hid hX2
      clear h0 hl hF2 hFw x1 hX2
      go_wp2_with fail
      go_loopw [19] (fun i wx => ∃ k : Nat, k ≤ fn.code.length ∧ i = .int .i64 k ∧ Hid (∀ z ∈ fn.code.take k, insE (fns L) fn.code.length z = 0) ∧ CkIs wx p A L.length c fi ((k : Int) - if k = 0 then 0 else 1) 0 ∧ Fr (At p) w wx ∧ Fr (At p) w2 wx) (fun i _ => fn.code.length - (intOf i).toNat)
      case atStart => exact ⟨0, by omega, rfl, Lib.hid (fun z hz => by simp at hz), HC2.out, HF2.out.none, Fr.refl _ _⟩
      case round =>
        obtain ⟨k, hk, rfl, HU, hCk, hFk, hFk2⟩ := hrel
        have hXk := HX2.out.fr hFk2 (show ¬ w.heap.size = p by omega)
        have v1 : wr.cell? ⟨w.heap.size, 1, none⟩ = some (.slice yA fn.code.length yc) := by rw [hXk.cell]; rfl
        have hxl := hXk.lt
        have hpl2 : p < wr.heap.size := Blk.lt hCk
        have HCk := Lib.hid hCk
        have HFk := Lib.hid hFk
        have HFk2 := Lib.hid hFk2
        have HXk := Lib.hid hXk
        have hYk := HY.out.far HFk.out
        have HYk := Lib.hid hYk
        clear hCk hFk hFk2 hXk hYk x1'
        by_cases hkl : k < fn.code.length
        · obtain ⟨z, hz⟩ : ∃ z, fn.code[k]? = some z := ⟨_, List.getElem?_eq_getElem hkl⟩
          have HZ := Lib.hid hz
          obtain ⟨b, off, rfl, hbq, d0, d1, d2, d3, d4⟩ := HYk.out.at_ hz
          clear hz
          have c2 : wr.cell? ⟨p, 2, none⟩ = some (.int .i64 ((k : Int) - if k = 0 then 0 else 1)) := by rw [Blk.cell HCk.out]; rfl
          have f2 := Blk.frozen HCk.out 2
          go_wp2_with fail
          have hCk2 : CkIs ((wr.setCell ⟨p, 2, none⟩ (.int .i64 k)).alloc (.cells #[.int .i64 z.op, .int .i64 z.a, .int .i64 z.b, .int .i64 z.c, .int .i64 z.k] 55)) p A L.length c fi k 0 := by
            have := (Blk.set_ HCk.out 2 (.int .i64 k)).alloc (.cells #[.int .i64 z.op, .int .i64 z.a, .int .i64 z.b, .int .i64 z.c, .int .i64 z.k] 55)
            simpa [CkIs] using this
          have hFk3 : Fr (At p) w ((wr.setCell ⟨p, 2, none⟩ (.int .i64 k)).alloc (.cells #[.int .i64 z.op, .int .i64 z.a, .int .i64 z.b, .int .i64 z.c, .int .i64 z.k] 55)) := (HFk.out.setCell (p := ⟨p, 2, none⟩) (.inl rfl) _).alloc _
          have hFk4 : Fr (At p) w2 ((wr.setCell ⟨p, 2, none⟩ (.int .i64 k)).alloc (.cells #[.int .i64 z.op, .int .i64 z.a, .int .i64 z.b, .int .i64 z.c, .int .i64 z.k] 55)) := (HFk2.out.setCell (p := ⟨p, 2, none⟩) (.inl rfl) _).alloc _
          refine (ins_any _ p A c fi k 0 L hCk2 (HR.out.far hFk3) (HT.out.fr hFk3 (fun h => hp h.symm)) hp z fn.code.length).mono ?_
          rintro r w3 (⟨h0, rfl, hF3⟩ | ⟨h0, rfl, hF3⟩)
          · have HU' : Hid (∀ z ∈ fn.code.take (k + 1), insE (fns L) fn.code.length z = 0) := Lib.hid (by
              rw [take_snoc _ k z HZ.out]
              intro u hu
              rcases List.mem_append.1 hu with hu | hu
              · exact HU.out u hu
              · rw [List.mem_singleton.1 hu]; exact h0)
            have HC3 : Hid (CkIs w3 p A L.length c fi k 0) := Lib.hid (Blk.fr hCk2 hF3 (fun h => h))
            have H3 := Lib.hid (hFk3.trans hF3.none)
            have H4 := Lib.hid (hFk4.trans hF3.none)
            clear h0 hCk2 hFk3 hFk4 hF3
            go_wp2_with fail
            exact ⟨⟨k + 1, by omega, by go_num, HU', by simpa using HC3.out, H3.out, H4.out⟩, by simp [intOf]; omega⟩
          · have HN := Lib.hid (fnE_ins HA.out HL.out HZ.out HU.out h0)
            have H0 := Lib.hid h0
            have H3 := Lib.hid (hFk3.trans hF3)
            clear h0 hCk2 hFk3 hFk4 hF3
            go_wp2_with fail
            exact ⟨rfl, .inr ⟨by rw [HN.out]; exact H0.out, by rw [HN.out], H3.out⟩⟩
        · obtain rfl : k = fn.code.length := by omega
          rw [List.take_length] at HU
          obtain ⟨z, hz⟩ : ∃ z, fn.code[fn.code.length - 1]? = some z := ⟨_, List.getElem?_eq_getElem (by omega)⟩
          have HLA := Lib.hid (last_at hz)
          obtain ⟨b, off, rfl, hbq, d0, _, _, _, _⟩ := HYk.out.at_ hz
          have HFE := Lib.hid (fnE_last HA.out HL.out HU.out)
          have HC3 : Hid (CkIs wr p A L.length c fi (fn.code.length - 1 : Nat) 0) := Lib.hid (by have := HCk.out; rw [if_neg (by omega), show (fn.code.length : Int) - 1 = ((fn.code.length - 1 : Nat) : Int) by omega] at this; exact this)
          have hsub : (fn.code.length : Int) - 1 = ((fn.code.length - 1 : Nat) : Int) := by omega
          have hm1 : fn.code.length - 1 < fn.code.length := by omega
          clear hz HU HCk
          by_cases h9 : z.op = 9
          · have HOK : Hid (lastOk fn.code) := Lib.hid (by unfold lastOk; rw [HLA.out]; exact .inl h9)
            rw [h9] at d0
            clear h9 HLA
            go_wp2_with fail
            refine (must_ok _ p 11).mono ?_
            rintro e _ ⟨rfl, rfl⟩
            go_wp2_with fail
            go_end0
            exact .inl ⟨by rw [HFE.out, if_pos HOK.out], rfl, ⟨_, HC3.out⟩, HFk.out⟩
          by_cases h16 : z.op = 16
          · have HOK : Hid (lastOk fn.code) := Lib.hid (by unfold lastOk; rw [HLA.out]; exact .inr (.inl h16))
            rw [h16] at d0
            clear h9 h16 HLA
            go_wp2_with fail
            refine (must_ok _ p 11).mono ?_
            rintro e _ ⟨rfl, rfl⟩
            go_wp2_with fail
            go_end0
            exact .inl ⟨by rw [HFE.out, if_pos HOK.out], rfl, ⟨_, HC3.out⟩, HFk.out⟩
          by_cases h17 : z.op = 17
          · have HOK : Hid (lastOk fn.code) := Lib.hid (by unfold lastOk; rw [HLA.out]; exact .inr (.inr h17))
            rw [h17] at d0
            clear h9 h16 h17 HLA
            go_wp2_with fail
            refine (must_ok _ p 11).mono ?_
            rintro e _ ⟨rfl, rfl⟩
            go_wp2_with fail
            go_end0
            exact .inl ⟨by rw [HFE.out, if_pos HOK.out], rfl, ⟨_, HC3.out⟩, HFk.out⟩
          · have HNO : Hid (¬ lastOk fn.code) := Lib.hid (by unfold lastOk; rw [HLA.out]; rintro (h | h | h) <;> contradiction)
            have b9 : (z.op == 9) = false := by simpa using h9
            have b16 : (z.op == 16) = false := by simpa using h16
            have b17 : (z.op == 17) = false := by simpa using h17
            clear h9 h16 h17 HLA
            go_wp2_with fail
            refine (must_no _ p A L.length c fi _ 0 11 HC3.out).mono ?_
            rintro r w3 ⟨rfl, hF3⟩
            go_wp2_with fail
            exact ⟨rfl, .inr ⟨by rw [HFE.out, if_neg HNO.out]; exact (by decide : (11 : Int) ≠ 0), by rw [HFE.out, if_neg HNO.out], HFk.out.trans hF3⟩⟩
    · have HN : Hid (fnE (fns L) fn = (0, 3)) := Lib.hid (fnE_len HA.out (fun h => h0 (rngE_in (by omega) (by omega))))
      have H3 := Lib.hid (rngE_out (fun h : 1 ≤ (fn.code.length : Int) ∧ (fn.code.length : Int) < 65 => h0 (rngE_in h.1 h.2)) : rngE 1 65 3 fn.code.length = 3)
      clear h0
      go_wp2_with fail
      exact ⟨rfl, .inr ⟨by rw [HN.out]; decide, by rw [HN.out, H3.out]; rfl, (((Fr.refl _ _).alloc _).trans HF1.out.none).trans hF2⟩⟩
  · have HN : Hid (fnE (fns L) fn = (0, 6)) := Lib.hid (fnE_arity (fun h => h0 (rngE_in (by omega) (by omega))))
    have H3 := Lib.hid (rngE_out (fun h : 0 ≤ fn.arity ∧ fn.arity < 5 => h0 (rngE_in h.1 h.2)) : rngE 0 5 6 fn.arity = 6)
    clear h0
    go_wp2_with fail
    exact ⟨rfl, .inr ⟨by rw [HN.out]; decide, by rw [HN.out, H3.out]; rfl, ((Fr.refl _ _).alloc _).trans hF1⟩⟩
end Go.Proofs.YtbhnnnpofindiaaDoor
