/-
  What the checker does with an instruction.
-/
import Derived.Test.YtadcenaafoemmaaDoorTab
import Derived.Test.YtadcenaafoemmaaDoorRowsF
import Derived.IntWalk
import Derived.Defers
import Derived.Recover
namespace Go.Proofs.YtadcenaafoemmaaDoor
open Go.RowKit

theorem hix (op : Nat) (k : Nat) (hk : k < 4) (W : World) : (Instr.index 181 (.agg #[.int .i64 (kdAt op 0 : Nat), .int .i64 (kdAt op 1 : Nat), .int .i64 (kdAt op 2 : Nat), .int .i64 (kdAt op 3 : Nat)]) (.int .i64 k)).run Tryd.prog W = .ok (.int .i64 (kdAt op k : Nat)) W := by
  obtain rfl | rfl | rfl | rfl : k = 0 ∨ k = 1 ∨ k = 2 ∨ k = 3 := by omega
  all_goals kernel_rfl

theorem num_cell {w : World} {g : Nat} {x : Ins} (h : Blk w g 25 #[.int .i64 x.a, .int .i64 x.b, .int .i64 x.c, .int .i64 x.k]) (k : Nat) (hk : k < 4) : w.cell? ⟨g, k, none⟩ = some (.int .i64 (x.num k)) := by
  rw [h.cell]
  obtain rfl | rfl | rfl | rfl : k = 0 ∨ k = 1 ∨ k = 2 ∨ k = 3 := by omega
  all_goals rfl

/-- The blocks of an instruction that is looked at. -/
structure InIs (w : World) (b : Nat) (x : Ins) (op : Nat) (g1 g2 : Nat) : Prop where
  ins : Blk w b 98 #[.int .i64 op, .int .i64 x.a, .int .i64 x.b, .int .i64 x.c, .int .i64 x.k]
  kinds : Blk w g1 181 #[.int .i64 (kdAt op 0 : Nat), .int .i64 (kdAt op 1 : Nat), .int .i64 (kdAt op 2 : Nat), .int .i64 (kdAt op 3 : Nat)]
  nums : Blk w g2 25 #[.int .i64 x.a, .int .i64 x.b, .int .i64 x.c, .int .i64 x.k]
theorem InIs.fr {w w' : World} {b : Nat} {x : Ins} {op g1 g2 : Nat} (h : InIs w b x op g1 g2) (hf : Fr None' w w') : InIs w' b x op g1 g2 := ⟨h.ins.fr hf (fun h => h), h.kinds.fr hf (fun h => h), h.nums.fr hf (fun h => h)⟩

set_option maxHeartbeats 4000000 in
set_option maxRecDepth 100000 in
theorem ins_no (w : World) (p : Nat) (A : Option Addr) (n c : Nat) (f i e0 : Int) (hC : CkIs w p A n c f i e0) (x : Ins) (pl : Nat) (h : ¬ (1 ≤ x.op ∧ x.op ≤ 17)) :
    Calls Tryd.prog 84 #[.pointer (some ⟨p, 0, none⟩), .agg #[.int .i64 x.op, .int .i64 x.a, .int .i64 x.b, .int .i64 x.c, .int .i64 x.k], .int .i64 pl] w (VPost w p f i 4) := by
  have HC := Lib.hid hC
  clear hC
  have H := Lib.hid h
  clear h
  go_enter Tryd.func84, Tryd.ntmps84
  go_wp2_with fail
  refine (known_no _ x.op H.out).mono ?_
  rintro e _ ⟨rfl, rfl⟩
  go_wp2_with fail
  refine (must_no _ p A n c f i e0 4 (Blk.alloc HC.out _)).mono ?_
  rintro r w1 ⟨rfl, hF⟩
  go_wp2_with fail
  exact ⟨rfl, .inr ⟨by decide, rfl, (((Fr.refl _ _).alloc _).trans hF)⟩⟩

theorem unused_yes {x : Ins} {op k : Nat} (h : x.op = op) (hk : kdAt op k ≠ 0 ∨ x.num k = 0) : unusedE x k = 0 := by
  unfold unusedE; rw [h, Int.toNat_natCast]; exact if_pos hk
theorem unused_no {x : Ins} {op k : Nat} (h : x.op = op) (h1 : kdAt op k = 0) (h2 : x.num k ≠ 0) : unusedE x k ≠ 0 := by
  unfold unusedE; rw [h, Int.toNat_natCast, if_neg (by rintro (h | h) <;> contradiction)]; decide
theorem insE_unused {fs : List Fn} {pl : Nat} {x : Ins} (h : 1 ≤ x.op ∧ x.op ≤ 17) {k : Nat} (hk : k < 4) (h0 : ∀ j, j < k → unusedE x j = 0) (h1 : unusedE x k ≠ 0) : insE fs pl x = 4 := by
  unfold insE
  have := firstE_bad (g := unusedE x) 4 0 k (fun i _ h2 => h0 i (by omega)) hk (by rw [Nat.zero_add]; exact h1)
  rw [if_pos h, if_neg (by rw [this, Nat.zero_add]; exact h1)]
theorem insE_field {fs : List Fn} {pl : Nat} {x : Ins} (h : 1 ≤ x.op ∧ x.op ≤ 17) (h0 : ∀ j, j < 4 → unusedE x j = 0) {k : Nat} (hk : k < 4) (h1 : ∀ j, j < k → fieldsE fs.length pl x j = 0) (h2 : fieldsE fs.length pl x k ≠ 0) : insE fs pl x = fieldsE fs.length pl x k := by
  unfold insE
  have := firstE_bad (g := fieldsE fs.length pl x) 4 0 k (fun i _ h2 => h1 i (by omega)) hk (by rw [Nat.zero_add]; exact h2)
  rw [Nat.zero_add] at this
  rw [if_pos h, if_pos (firstE_ok 4 0 (fun i _ h2 => h0 i (by omega))), if_neg (by rw [this]; exact h2), this]
theorem insE_call {fs : List Fn} {pl : Nat} {x : Ins} (h : 1 ≤ x.op ∧ x.op ≤ 17) (h0 : ∀ j, j < 4 → unusedE x j = 0) (h1 : ∀ j, j < 4 → fieldsE fs.length pl x j = 0) : insE fs pl x = callE fs x := by
  unfold insE
  rw [if_pos h, if_pos (firstE_ok 4 0 (fun i _ h2 => h0 i (by omega))), if_pos (firstE_ok 4 0 (fun i _ h2 => h1 i (by omega)))]
theorem field_at {nf pl : Nat} {x : Ins} {op k : Nat} (h : x.op = op) : fieldsE nf pl x k = fieldE nf pl (kdAt op k) (x.num k) := by
  unfold fieldsE; rw [h, Int.toNat_natCast]
theorem fns_length (L : List LFn) : (fns L).length = L.length := by simp [fns]
theorem call_none {fs : List Fn} {x : Ins} {op : Nat} (h : x.op = op) (h1 : op ≠ 11) (h2 : op ≠ 13) : callE fs x = 0 := by
  unfold callE; rw [if_neg (by rw [h]; omega)]
theorem call_at {L : List LFn} {x : Ins} {op j : Nat} {y : LFn} (h : x.op = op) (h1 : op = 11 ∨ op = 13) (hc : x.c = j) (hy : L[j]? = some y) : callE (fns L) x = if y.f.arity ≤ 8 - x.b then 0 else 6 := by
  have : arityAt (fns L) x.c = y.f.arity := by
    unfold arityAt fns
    rw [hc, Int.toNat_natCast, List.getElem?_map, hy]; rfl
  unfold callE
  rw [this]
  by_cases h' : y.f.arity ≤ 8 - x.b
  · rw [if_neg (by omega), if_pos h']
  · rw [if_pos (by rw [h]; omega), if_neg h']

set_option maxHeartbeats 8000000 in
set_option maxRecDepth 100000 in
theorem ins_in (w : World) (p : Nat) (A : Option Addr) (c : Nat) (f i e0 : Int) (L : List LFn) (hC : CkIs w p A L.length c f i e0) (hR : FnRow w (fun b => b < w.heap.size ∧ b ≠ p) A L) (hT : FieldsAt w) (_hp : p ≠ 0) (x : Ins) (op : Nat) (hxo : x.op = op) (pl : Nat) (h1 : 1 ≤ op) (h2 : op ≤ 17) :
    Calls Tryd.prog 84 #[.pointer (some ⟨p, 0, none⟩), .agg #[.int .i64 op, .int .i64 x.a, .int .i64 x.b, .int .i64 x.c, .int .i64 x.k], .int .i64 pl] w (VPost w p f i (insE (fns L) pl x)) := by
  have HC := Lib.hid hC
  have HR := Lib.hid hR
  have HT := Lib.hid hT
  have HXO := Lib.hid hxo
  clear hC hR hT hxo
  go_enter Tryd.func84, Tryd.ntmps84
  go_wp2_with fail
  refine (known_in _ op (by omega) (by omega)).mono ?_
  rintro e _ ⟨rfl, rfl⟩
  go_wp2_with fail
  refine (must_ok _ p 4).mono ?_
  rintro e _ ⟨rfl, rfl⟩
  go_wp2_with fail
  refine (fields_in _ (HT.out.fr ((Fr.refl None' _).alloc _) (fun h => h)) op h1 h2).mono ?_
  rintro e w1 ⟨rfl, hF1⟩
  have hX : Blk w1 w.heap.size 98 #[.int .i64 op, .int .i64 x.a, .int .i64 x.b, .int .i64 x.c, .int .i64 x.k] := (Blk.new w _ _).fr hF1 (fun h => h)
  have x0 : w1.cell? ⟨w.heap.size, 0, none⟩ = some (.int .i64 op) := by rw [hX.cell]; rfl
  have x1 : w1.cell? ⟨w.heap.size, 1, none⟩ = some (.int .i64 x.a) := by rw [hX.cell]; rfl
  have x2 : w1.cell? ⟨w.heap.size, 2, none⟩ = some (.int .i64 x.b) := by rw [hX.cell]; rfl
  have x3 : w1.cell? ⟨w.heap.size, 3, none⟩ = some (.int .i64 x.c) := by rw [hX.cell]; rfl
  have x4 : w1.cell? ⟨w.heap.size, 4, none⟩ = some (.int .i64 x.k) := by rw [hX.cell]; rfl
  have hlt := hX.lt
  have HX := Lib.hid hX
  have HF1 := Lib.hid hF1
  clear hX hF1
  go_wp2_with fail
  go_loopw [30] (fun i wx => ∃ k : Nat, k ≤ 4 ∧ i = .int .i64 k ∧ Hid (∀ j, j < k → unusedE x j = 0) ∧ InIs wx w.heap.size x op w1.heap.size (w1.heap.size + 1) ∧ Fr None' w wx) (fun i _ => 4 - (intOf i).toNat)
  case atStart =>
    refine ⟨0, by omega, rfl, Lib.hid (fun j h => by omega), ⟨(HX.out.alloc _).alloc _, (Blk.new _ _ _).alloc _, ?_⟩, ((((Fr.refl _ _).alloc _).trans HF1.out).alloc _).alloc _⟩
    have := Blk.new (w1.alloc (.cells #[.int .i64 (kdAt op 0 : Nat), .int .i64 (kdAt op 1 : Nat), .int .i64 (kdAt op 2 : Nat), .int .i64 (kdAt op 3 : Nat)] 181)) 25 #[.int .i64 x.a, .int .i64 x.b, .int .i64 x.c, .int .i64 x.k]
    simpa using this
  case round =>
    obtain ⟨k, hk, rfl, HU, hI, hF⟩ := hrel
    have HI := Lib.hid hI
    have HF := Lib.hid hF
    clear hI hF x0 x1 x2 x3 x4
    by_cases hk4 : k < 4
    · have hx := hix op k hk4
      have hn := num_cell HI.out.nums k hk4
      have hu : (kdAt op k ≠ 0 ∨ x.num k = 0) → Hid (∀ j, j < k + 1 → unusedE x j = 0) := fun h => Lib.hid (fun j hj => by
        by_cases e : j = k
        · rw [e]; exact unused_yes HXO.out h
        · exact HU.out j (by omega))
      by_cases h0 : kdAt op k = 0
      · by_cases h3 : x.num k = 0
        · have HU' := hu (.inr h3)
          rw [h0] at hx
          rw [h3] at hn
          clear h0 h3 hu
          go_wp2_with fail
          refine (must_ok _ p 4).mono ?_
          rintro e _ ⟨rfl, rfl⟩
          go_wp2_with fail
          exact ⟨⟨k + 1, by omega, by go_num, HU', HI.out, HF.out⟩, by simp [intOf]; omega⟩
        · have hno := insE_unused (fs := fns L) (pl := pl) (by rw [HXO.out]; omega) hk4 HU.out (unused_no HXO.out h0 h3)
          have HNO := Lib.hid hno
          rw [h0] at hx
          have h3b : (x.num k == 0) = false := by simpa using h3
          clear h0 hu hno h3
          go_wp2_with fail
          refine (must_no _ p A L.length c f i e0 4 (Blk.fr HC.out HF.out (fun h => h))).mono ?_
          rintro r w2 ⟨rfl, hF2⟩
          go_wp2_with fail
          exact ⟨rfl, .inr ⟨by rw [HNO.out]; decide, by rw [HNO.out], HF.out.none.trans hF2⟩⟩
      · have HU' := hu (.inl h0)
        have h0b : ((kdAt op k : Int) == 0) = false := by simp; omega
        clear hu
        go_wp2_with fail
        refine (must_ok _ p 4).mono ?_
        rintro e _ ⟨rfl, rfl⟩
        go_wp2_with fail
        exact ⟨⟨k + 1, by omega, by go_num, HU', HI.out, HF.out⟩, by simp [intOf]; omega⟩
    · obtain rfl : k = 4 := by omega
      rw [show ((4 : Nat) : Int) = 4 from rfl]
      have k0 : wr.cell? ⟨w1.heap.size, 0, none⟩ = some (.int .i64 (kdAt op 0 : Nat)) := by rw [HI.out.kinds.cell]; rfl
      have k1 : wr.cell? ⟨w1.heap.size, 1, none⟩ = some (.int .i64 (kdAt op 1 : Nat)) := by rw [HI.out.kinds.cell]; rfl
      have k2 : wr.cell? ⟨w1.heap.size, 2, none⟩ = some (.int .i64 (kdAt op 2 : Nat)) := by rw [HI.out.kinds.cell]; rfl
      have k3 : wr.cell? ⟨w1.heap.size, 3, none⟩ = some (.int .i64 (kdAt op 3 : Nat)) := by rw [HI.out.kinds.cell]; rfl
      go_wp2_with fail
      clear k0 k1 k2 k3
      obtain ⟨w2, hw2⟩ : ∃ w2, w2 = wr := ⟨_, rfl⟩
      subst hw2
      go_loopw [46] (fun i wx => ∃ k : Nat, k ≤ 4 ∧ i = .int .i64 k ∧ Hid (∀ j, j < k → fieldsE L.length pl x j = 0) ∧ InIs wx w.heap.size x op w1.heap.size (w1.heap.size + 1) ∧ Fr None' w wx) (fun i _ => 4 - (intOf i).toNat)
      case atStart => exact ⟨0, by omega, rfl, Lib.hid (fun j h => by omega), HI.out, HF.out⟩
      case round =>
        clear HI HF
        obtain ⟨k, hk, rfl, HV, hI, hF⟩ := hrel
        have HI := Lib.hid hI
        have HF := Lib.hid hF
        clear hI hF
        by_cases hk4 : k < 4
        · have hx := hix op k hk4
          have hn := num_cell HI.out.nums k hk4
          go_wp2_with fail
          refine (field_any _ p A L.length c f i e0 (Blk.fr HC.out HF.out (fun h => h)) (kdAt op k) (kd_le op (by omega) k hk4) (x.num k) pl).mono ?_
          rintro r w3 (⟨h0, rfl, hF3⟩ | ⟨h0, rfl, hF3⟩)
          · have HV' : Hid (∀ j, j < k + 1 → fieldsE L.length pl x j = 0) := Lib.hid (fun j hj => by
              by_cases e : j = k
              · rw [e, field_at HXO.out]; exact h0
              · exact HV.out j (by omega))
            clear h0
            go_wp2_with fail
            exact ⟨⟨k + 1, by omega, by go_num, HV', HI.out.fr hF3, HF.out.trans hF3⟩, by simp [intOf]; omega⟩
          · have hno := insE_field (fs := fns L) (pl := pl) (x := x) (by rw [HXO.out]; omega) HU.out hk4 (by rw [fns_length]; exact HV.out) (by rw [fns_length, field_at HXO.out]; exact h0)
            rw [fns_length, field_at HXO.out] at hno
            have HNO := Lib.hid hno
            have H0 := Lib.hid h0
            clear hno h0
            go_wp2_with fail
            exact ⟨rfl, .inr ⟨by rw [HNO.out]; exact H0.out, by rw [HNO.out], HF.out.none.trans hF3⟩⟩
        · obtain rfl : k = 4 := by omega
          have hins := insE_call (fs := fns L) (pl := pl) (x := x) (by rw [HXO.out]; omega) HU.out (by rw [fns_length]; exact HV.out)
          have HINS := Lib.hid hins
          clear hins
          have y0 : wr.cell? ⟨w.heap.size, 0, none⟩ = some (.int .i64 op) := by rw [HI.out.ins.cell]; rfl
          have y2 : wr.cell? ⟨w.heap.size, 2, none⟩ = some (.int .i64 x.b) := by rw [HI.out.ins.cell]; rfl
          have y3 : wr.cell? ⟨w.heap.size, 3, none⟩ = some (.int .i64 x.c) := by rw [HI.out.ins.cell]; rfl
          rw [show ((4 : Nat) : Int) = 4 from rfl]
          by_cases hc : op = 11 ∨ op = 13
          · have hf2 := HV.out 2 (by omega)
            rw [field_at HXO.out, (kd_call op (by omega)).1 hc] at hf2
            have hb2 := HV.out 1 (by omega)
            rw [field_at HXO.out, kd_callB op (by omega) hc] at hb2
            have hcr : 0 ≤ x.c ∧ x.c < L.length := rngE_zero (e := 5) (by decide) hf2
            have hbr : 0 ≤ x.b ∧ x.b < 8 := rngE_zero (e := 6) (by decide) hb2
            clear hf2 hb2
            obtain ⟨j, hj⟩ := Int.eq_ofNat_of_zero_le hcr.1
            have hjl : j < L.length := by omega
            obtain ⟨y, hy⟩ : ∃ y, L[j]? = some y := ⟨_, List.getElem?_eq_getElem hjl⟩
            have HCA := Lib.hid (call_at HXO.out hc hj hy)
            obtain ⟨b, off, rfl, hbq, d0, _, _⟩ := (HR.out.fr HF.out (fun _ _ h => h)).at_ hy
            have c0 : wr.cell? ⟨p, 0, none⟩ = some (.slice (some ⟨b, off, none⟩) L.length c) := by rw [(Blk.fr HC.out HF.out (fun h => h)).cell]; rfl
            rw [hj] at y3
            have hCr : CkIs wr p (some ⟨b, off, none⟩) L.length c f i e0 := Blk.fr HC.out HF.out (fun h => h)
            have HCr := Lib.hid hCr
            clear hj hy hcr hCr
            have hwr : IntKind.i64.wrap (8 - x.b) = 8 - x.b := IntWalk.i64_in _ (by omega)
            obtain rfl | rfl := hc
            · rw [show ((11 : Nat) : Int) = 11 from rfl] at *
              by_cases har : y.f.arity ≤ 8 - x.b
              · have HZ : Hid (insE (fns L) pl x = 0) := Lib.hid (by rw [HINS.out, HCA.out, if_pos har])
                clear HINS HCA HV HU HI HR HT HX HF1 HXO hlt hbq h1 h2
                go_wp2_with fail
                go_still_tail 14, (by kernel_rfl)
                change wpList _ _ _ _ _ (World.drew _)
                go_wp2_with fail
                refine (must_ok _ p 6).mono ?_
                rintro e _ ⟨rfl, rfl⟩
                go_wp2_with fail
                go_end0
                exact .inl ⟨HZ.out, rfl, HF.out.drew⟩
              · have HZ : Hid (insE (fns L) pl x = 6) := Lib.hid (by rw [HINS.out, HCA.out, if_neg har])
                have hd : decide (y.f.arity ≤ 8 - x.b) = false := decide_eq_false har
                clear HINS HCA HV HU HI HR HT HX HF1 HXO hlt hbq h1 h2 har
                go_wp2_with fail
                go_still_tail 14, (by kernel_rfl)
                change wpList _ _ _ _ _ (World.drew _)
                go_wp2_with fail
                refine (must_no wr.drew p (some ⟨b, off, none⟩) L.length c f i e0 6 (Blk.drew HCr.out)).mono ?_
                rintro r w3 ⟨rfl, hF3⟩
                go_wp2_with fail
                exact ⟨rfl, .inr ⟨by rw [HZ.out]; decide, by rw [HZ.out], HF.out.drew.none.trans hF3⟩⟩
            · rw [show ((13 : Nat) : Int) = 13 from rfl] at *
              by_cases har : y.f.arity ≤ 8 - x.b
              · have HZ : Hid (insE (fns L) pl x = 0) := Lib.hid (by rw [HINS.out, HCA.out, if_pos har])
                clear HINS HCA HV HU HI HR HT HX HF1 HXO hlt hbq h1 h2
                go_wp2_with fail
                go_still_tail 14, (by kernel_rfl)
                change wpList _ _ _ _ _ (World.drew _)
                go_wp2_with fail
                refine (must_ok _ p 6).mono ?_
                rintro e _ ⟨rfl, rfl⟩
                go_wp2_with fail
                go_end0
                exact .inl ⟨HZ.out, rfl, HF.out.drew⟩
              · have HZ : Hid (insE (fns L) pl x = 6) := Lib.hid (by rw [HINS.out, HCA.out, if_neg har])
                have hd : decide (y.f.arity ≤ 8 - x.b) = false := decide_eq_false har
                clear HINS HCA HV HU HI HR HT HX HF1 HXO hlt hbq h1 h2 har
                go_wp2_with fail
                go_still_tail 14, (by kernel_rfl)
                change wpList _ _ _ _ _ (World.drew _)
                go_wp2_with fail
                refine (must_no wr.drew p (some ⟨b, off, none⟩) L.length c f i e0 6 (Blk.drew HCr.out)).mono ?_
                rintro r w3 ⟨rfl, hF3⟩
                go_wp2_with fail
                exact ⟨rfl, .inr ⟨by rw [HZ.out]; decide, by rw [HZ.out], HF.out.drew.none.trans hF3⟩⟩
          · have g1 : ((op : Int) == 11) = false := by simp; omega
            have g2 : ((op : Int) == 13) = false := by simp; omega
            have HN := Lib.hid (call_none (fs := fns L) HXO.out (by omega) (by omega))
            clear hc
            go_wp2_with fail
            go_end0
            exact .inl ⟨by rw [HINS.out, HN.out], rfl, HF.out⟩

theorem ins_any (w : World) (p : Nat) (A : Option Addr) (c : Nat) (f i e0 : Int) (L : List LFn) (hC : CkIs w p A L.length c f i e0) (hR : FnRow w (fun b => b < w.heap.size ∧ b ≠ p) A L) (hT : FieldsAt w) (hp : p ≠ 0) (x : Ins) (pl : Nat) :
    Calls Tryd.prog 84 #[.pointer (some ⟨p, 0, none⟩), .agg #[.int .i64 x.op, .int .i64 x.a, .int .i64 x.b, .int .i64 x.c, .int .i64 x.k], .int .i64 pl] w (VPost w p f i (insE (fns L) pl x)) := by
  by_cases h : 1 ≤ x.op ∧ x.op ≤ 17
  · obtain ⟨op, ho⟩ := Int.eq_ofNat_of_zero_le (show 0 ≤ x.op by omega)
    have := ins_in w p A c f i e0 L hC hR hT hp x op ho pl (by omega) (by omega)
    rw [← ho] at this
    exact this
  · have e : insE (fns L) pl x = 4 := by unfold insE; exact if_neg h
    rw [e]
    exact ins_no w p A L.length c f i e0 hC x pl h
end Go.Proofs.YtadcenaafoemmaaDoor

/-
  What the checker does with a function, and with a program.
-/
namespace Go.Proofs.YtadcenaafoemmaaDoor
open Go.RowKit


theorem FnRow.far {w w' : World} {p : Nat} {A : Option Addr} {L : List LFn} (h : FnRow w (fun b => b < w.heap.size ∧ b ≠ p) A L) (hf : Fr (At p) w w') : FnRow w' (fun b => b < w'.heap.size ∧ b ≠ p) A L :=
  (h.fr hf (fun _ hb h => hb.2 h)).mono (fun _ hb => ⟨Nat.lt_of_lt_of_le hb.1 hf.size, hb.2⟩)
theorem InsRow.far {w w' : World} {p : Nat} {A : Option Addr} {l : List Ins} (h : InsRow w (fun b => b < w.heap.size ∧ b ≠ p) A l) (hf : Fr (At p) w w') : InsRow w' (fun b => b < w'.heap.size ∧ b ≠ p) A l :=
  Rd.mono (h.fr hf (fun _ hb h => hb.2 h)) (fun _ hb => ⟨Nat.lt_of_lt_of_le hb.1 hf.size, hb.2⟩)

/-- What a call comes to that may turn the checker's place. -/
def OPost (w : World) (p : Nat) (A : Option Addr) (n c : Nat) (f i e : Int) (r : Ending) (w' : World) : Prop :=
  (e = 0 ∧ r = .returned (.tuple #[]) ∧ (∃ i', CkIs w' p A n c f i' 0) ∧ Fr (At p) w w') ∨ (e ≠ 0 ∧ r = fault f i e ∧ Fr (At p) w w')

theorem fnE_arity {fs : List Fn} {f : Fn} (h : ¬ (0 ≤ f.arity ∧ f.arity ≤ 4)) : fnE fs f = (0, 6) := by unfold fnE; rw [if_neg h]
theorem fnE_len {fs : List Fn} {f : Fn} (h : 0 ≤ f.arity ∧ f.arity ≤ 4) (h2 : ¬ (1 ≤ f.code.length ∧ f.code.length ≤ 64)) : fnE fs f = (0, 3) := by unfold fnE; rw [if_pos h, if_neg h2]
theorem fnE_ins {fs : List Fn} {f : Fn} (h : 0 ≤ f.arity ∧ f.arity ≤ 4) (h2 : 1 ≤ f.code.length ∧ f.code.length ≤ 64) {k : Nat} {x : Ins} (hx : f.code[k]? = some x) (h0 : ∀ y ∈ f.code.take k, insE fs f.code.length y = 0) (h1 : insE fs f.code.length x ≠ 0) : fnE fs f = (k, insE fs f.code.length x) := by
  have := codeE_bad fs f.code.length f.code 0 k x hx h0 h1
  rw [Nat.zero_add] at this
  unfold fnE; rw [if_pos h, if_pos h2, this, if_neg h1]
theorem fnE_last {fs : List Fn} {f : Fn} (h : 0 ≤ f.arity ∧ f.arity ≤ 4) (h2 : 1 ≤ f.code.length ∧ f.code.length ≤ 64) (h0 : ∀ y ∈ f.code, insE fs f.code.length y = 0) : fnE fs f = if lastOk f.code then (0, 0) else (f.code.length - 1, 11) := by
  have := codeE_ok fs f.code.length f.code 0 h0
  unfold fnE; rw [if_pos h, if_pos h2, this]; rfl

set_option maxHeartbeats 8000000 in
set_option maxRecDepth 100000 in
theorem one_any (w : World) (p : Nat) (A : Option Addr) (c : Nat) (fi : Int) (L : List LFn) (hC : CkIs w p A L.length c fi 0 0) (hR : FnRow w (fun b => b < w.heap.size ∧ b ≠ p) A L) (hT : FieldsAt w) (hp : p ≠ 0) (fn : Fn) (yA : Option Addr) (yc : Nat) (hY : InsRow w (fun b => b < w.heap.size ∧ b ≠ p) yA fn.code) :
    Calls Tryd.prog 80 #[.pointer (some ⟨p, 0, none⟩), .agg #[.int .i64 fn.arity, .slice yA fn.code.length yc]] w (OPost w p A L.length c fi (fnE (fns L) fn).1 (fnE (fns L) fn).2) := by
  have HC := Lib.hid hC
  have HR := Lib.hid hR
  have HT := Lib.hid hT
  have HY := Lib.hid hY
  clear hC hR hT hY
  have hpl : p < w.heap.size := Blk.lt HC.out
  go_enter Tryd.func80, Tryd.ntmps80
  go_wp2_with fail
  refine (within_any _ p A L.length c fi 0 0 6 (Blk.alloc HC.out _) (by decide) fn.arity 0 5).mono ?_
  rintro r w1 (⟨h0, rfl, hF1⟩ | ⟨h0, rfl, hF1⟩)
  · have ha := rngE_zero (by decide) h0
    have HA : Hid (0 ≤ fn.arity ∧ fn.arity ≤ 4) := Lib.hid ⟨ha.1, by omega⟩
    have hX : Blk w1 w.heap.size 101 #[.int .i64 fn.arity, .slice yA fn.code.length yc] := (Blk.new w _ _).fr hF1 (fun h => h)
    have x1 : w1.cell? ⟨w.heap.size, 1, none⟩ = some (.slice yA fn.code.length yc) := by rw [hX.cell]; rfl
    have HX := Lib.hid hX
    have HF1 := Lib.hid hF1
    clear h0 ha hX hF1
    go_wp2_with fail
    refine (within_any _ p A L.length c fi 0 0 3 (Blk.fr (Blk.alloc HC.out _) HF1.out (fun h => h)) (by decide) fn.code.length 1 65).mono ?_
    rintro r w2 (⟨h0, rfl, hF2⟩ | ⟨h0, rfl, hF2⟩)
    · have hl := rngE_zero (by decide) h0
      have HL : Hid (1 ≤ fn.code.length ∧ fn.code.length ≤ 64) := Lib.hid (by omega)
      have hl1 : 1 ≤ fn.code.length := HL.out.1
      have hl2 : fn.code.length ≤ 64 := HL.out.2
      have hX2 := HX.out.fr hF2 (fun h => h)
      have x1' : w2.cell? ⟨w.heap.size, 1, none⟩ = some (.slice yA fn.code.length yc) := by rw [hX2.cell]; rfl
      have hFw : Fr None' w w2 := (((Fr.refl _ _).alloc _).trans HF1.out).trans hF2
      have HC2 : Hid (CkIs w2 p A L.length c fi 0 0) := Lib.hid (Blk.fr HC.out hFw (fun h => h))
      have HF2 := Lib.hid hFw
      have HX2 := Lib.hid hX2
      clear h0 hl hF2 hFw x1 hX2
      go_wp2_with fail
      go_loopw [19] (fun i wx => ∃ k : Nat, k ≤ fn.code.length ∧ i = .int .i64 k ∧ Hid (∀ z ∈ fn.code.take k, insE (fns L) fn.code.length z = 0) ∧ CkIs wx p A L.length c fi ((k : Int) - if k = 0 then 0 else 1) 0 ∧ Fr (At p) w wx ∧ Fr (At p) w2 wx) (fun i _ => fn.code.length - (intOf i).toNat)
      case atStart => exact ⟨0, by omega, rfl, Lib.hid (fun z hz => by simp at hz), HC2.out, HF2.out.none, Fr.refl _ _⟩
      case round =>
        obtain ⟨k, hk, rfl, HU, hCk, hFk, hFk2⟩ := hrel
        have hXk := HX2.out.fr hFk2 (show ¬ w.heap.size = p by omega)
        have v1 : wr.cell? ⟨w.heap.size, 1, none⟩ = some (.slice yA fn.code.length yc) := by rw [hXk.cell]; rfl
        have hxl := hXk.lt
        have hpl2 : p < wr.heap.size := Blk.lt hCk
        have HCk := Lib.hid hCk
        have HFk := Lib.hid hFk
        have HFk2 := Lib.hid hFk2
        have HXk := Lib.hid hXk
        have hYk := HY.out.far HFk.out
        have HYk := Lib.hid hYk
        clear hCk hFk hFk2 hXk hYk x1'
        by_cases hkl : k < fn.code.length
        · obtain ⟨z, hz⟩ : ∃ z, fn.code[k]? = some z := ⟨_, List.getElem?_eq_getElem hkl⟩
          have HZ := Lib.hid hz
          obtain ⟨b, off, rfl, hbq, d0, d1, d2, d3, d4⟩ := HYk.out.at_ hz
          clear hz
          have c2 : wr.cell? ⟨p, 2, none⟩ = some (.int .i64 ((k : Int) - if k = 0 then 0 else 1)) := by rw [Blk.cell HCk.out]; rfl
          have f2 := Blk.frozen HCk.out 2
          go_wp2_with fail
          have hCk2 : CkIs ((wr.setCell ⟨p, 2, none⟩ (.int .i64 k)).alloc (.cells #[.int .i64 z.op, .int .i64 z.a, .int .i64 z.b, .int .i64 z.c, .int .i64 z.k] 98)) p A L.length c fi k 0 := by
            have := (Blk.set_ HCk.out 2 (.int .i64 k)).alloc (.cells #[.int .i64 z.op, .int .i64 z.a, .int .i64 z.b, .int .i64 z.c, .int .i64 z.k] 98)
            simpa [CkIs] using this
          have hFk3 : Fr (At p) w ((wr.setCell ⟨p, 2, none⟩ (.int .i64 k)).alloc (.cells #[.int .i64 z.op, .int .i64 z.a, .int .i64 z.b, .int .i64 z.c, .int .i64 z.k] 98)) := (HFk.out.setCell (p := ⟨p, 2, none⟩) (.inl rfl) _).alloc _
          have hFk4 : Fr (At p) w2 ((wr.setCell ⟨p, 2, none⟩ (.int .i64 k)).alloc (.cells #[.int .i64 z.op, .int .i64 z.a, .int .i64 z.b, .int .i64 z.c, .int .i64 z.k] 98)) := (HFk2.out.setCell (p := ⟨p, 2, none⟩) (.inl rfl) _).alloc _
          refine (ins_any _ p A c fi k 0 L hCk2 (HR.out.far hFk3) (HT.out.fr hFk3 (fun h => hp h.symm)) hp z fn.code.length).mono ?_
          rintro r w3 (⟨h0, rfl, hF3⟩ | ⟨h0, rfl, hF3⟩)
          · have HU' : Hid (∀ z ∈ fn.code.take (k + 1), insE (fns L) fn.code.length z = 0) := Lib.hid (by
              rw [take_snoc _ k z HZ.out]
              intro u hu
              rcases List.mem_append.1 hu with hu | hu
              · exact HU.out u hu
              · rw [List.mem_singleton.1 hu]; exact h0)
            have HC3 : Hid (CkIs w3 p A L.length c fi k 0) := Lib.hid (Blk.fr hCk2 hF3 (fun h => h))
            have H3 := Lib.hid (hFk3.trans hF3.none)
            have H4 := Lib.hid (hFk4.trans hF3.none)
            clear h0 hCk2 hFk3 hFk4 hF3
            go_wp2_with fail
            exact ⟨⟨k + 1, by omega, by go_num, HU', by simpa using HC3.out, H3.out, H4.out⟩, by simp [intOf]; omega⟩
          · have HN := Lib.hid (fnE_ins HA.out HL.out HZ.out HU.out h0)
            have H0 := Lib.hid h0
            have H3 := Lib.hid (hFk3.trans hF3)
            clear h0 hCk2 hFk3 hFk4 hF3
            go_wp2_with fail
            exact ⟨rfl, .inr ⟨by rw [HN.out]; exact H0.out, by rw [HN.out], H3.out⟩⟩
        · obtain rfl : k = fn.code.length := by omega
          rw [List.take_length] at HU
          obtain ⟨z, hz⟩ : ∃ z, fn.code[fn.code.length - 1]? = some z := ⟨_, List.getElem?_eq_getElem (by omega)⟩
          have HLA := Lib.hid (last_at hz)
          obtain ⟨b, off, rfl, hbq, d0, _, _, _, _⟩ := HYk.out.at_ hz
          have HFE := Lib.hid (fnE_last HA.out HL.out HU.out)
          have HC3 : Hid (CkIs wr p A L.length c fi (fn.code.length - 1 : Nat) 0) := Lib.hid (by have := HCk.out; rw [if_neg (by omega), show (fn.code.length : Int) - 1 = ((fn.code.length - 1 : Nat) : Int) by omega] at this; exact this)
          have hsub : (fn.code.length : Int) - 1 = ((fn.code.length - 1 : Nat) : Int) := by omega
          have hm1 : fn.code.length - 1 < fn.code.length := by omega
          clear hz HU HCk
          by_cases h9 : z.op = 9
          · have HOK : Hid (lastOk fn.code) := Lib.hid (by unfold lastOk; rw [HLA.out]; exact .inl h9)
            rw [h9] at d0
            clear h9 HLA
            go_wp2_with fail
            refine (must_ok _ p 11).mono ?_
            rintro e _ ⟨rfl, rfl⟩
            go_wp2_with fail
            go_end0
            exact .inl ⟨by rw [HFE.out, if_pos HOK.out], rfl, ⟨_, HC3.out⟩, HFk.out⟩
          by_cases h16 : z.op = 16
          · have HOK : Hid (lastOk fn.code) := Lib.hid (by unfold lastOk; rw [HLA.out]; exact .inr (.inl h16))
            rw [h16] at d0
            clear h9 h16 HLA
            go_wp2_with fail
            refine (must_ok _ p 11).mono ?_
            rintro e _ ⟨rfl, rfl⟩
            go_wp2_with fail
            go_end0
            exact .inl ⟨by rw [HFE.out, if_pos HOK.out], rfl, ⟨_, HC3.out⟩, HFk.out⟩
          by_cases h17 : z.op = 17
          · have HOK : Hid (lastOk fn.code) := Lib.hid (by unfold lastOk; rw [HLA.out]; exact .inr (.inr h17))
            rw [h17] at d0
            clear h9 h16 h17 HLA
            go_wp2_with fail
            refine (must_ok _ p 11).mono ?_
            rintro e _ ⟨rfl, rfl⟩
            go_wp2_with fail
            go_end0
            exact .inl ⟨by rw [HFE.out, if_pos HOK.out], rfl, ⟨_, HC3.out⟩, HFk.out⟩
          · have HNO : Hid (¬ lastOk fn.code) := Lib.hid (by unfold lastOk; rw [HLA.out]; rintro (h | h | h) <;> contradiction)
            have b9 : (z.op == 9) = false := by simpa using h9
            have b16 : (z.op == 16) = false := by simpa using h16
            have b17 : (z.op == 17) = false := by simpa using h17
            clear h9 h16 h17 HLA
            go_wp2_with fail
            refine (must_no _ p A L.length c fi _ 0 11 HC3.out).mono ?_
            rintro r w3 ⟨rfl, hF3⟩
            go_wp2_with fail
            exact ⟨rfl, .inr ⟨by rw [HFE.out, if_neg HNO.out]; exact (by decide : (11 : Int) ≠ 0), by rw [HFE.out, if_neg HNO.out], HFk.out.trans hF3⟩⟩
    · have HN : Hid (fnE (fns L) fn = (0, 3)) := Lib.hid (fnE_len HA.out (fun h => h0 (rngE_in (by omega) (by omega))))
      have H3 := Lib.hid (rngE_out (fun h : 1 ≤ (fn.code.length : Int) ∧ (fn.code.length : Int) < 65 => h0 (rngE_in h.1 h.2)) : rngE 1 65 3 fn.code.length = 3)
      clear h0
      go_wp2_with fail
      exact ⟨rfl, .inr ⟨by rw [HN.out]; decide, by rw [HN.out, H3.out]; rfl, (((Fr.refl _ _).alloc _).trans HF1.out.none).trans hF2⟩⟩
  · have HN : Hid (fnE (fns L) fn = (0, 6)) := Lib.hid (fnE_arity (fun h => h0 (rngE_in (by omega) (by omega))))
    have H3 := Lib.hid (rngE_out (fun h : 0 ≤ fn.arity ∧ fn.arity < 5 => h0 (rngE_in h.1 h.2)) : rngE 0 5 6 fn.arity = 6)
    clear h0
    go_wp2_with fail
    exact ⟨rfl, .inr ⟨by rw [HN.out]; decide, by rw [HN.out, H3.out]; rfl, ((Fr.refl _ _).alloc _).trans hF1⟩⟩
end Go.Proofs.YtadcenaafoemmaaDoor

/-
  What Check comes to: the first thing that is wrong, and where.
-/
namespace Go.Proofs.YtadcenaafoemmaaDoor
open Go.RowKit

/-- What the checker comes to with a program. -/
def APost (w : World) (p : Nat) (q : Nat × Nat × Int) (r : Ending) (w' : World) : Prop :=
  (q = (0, 0, 0) ∧ r = .returned (.tuple #[]) ∧ Fr (At p) w w') ∨ (q.2.2 ≠ 0 ∧ r = fault q.1 q.2.1 q.2.2 ∧ Fr (At p) w w')

theorem chk_long {fs : List Fn} (h : ¬ (1 ≤ fs.length ∧ fs.length ≤ 16)) : chk fs = (0, 0, 3) := by unfold chk; rw [if_neg h]
theorem chk_fns {fs : List Fn} (h : 1 ≤ fs.length ∧ fs.length ≤ 16) : chk fs = fnsE fs 0 fs := by unfold chk; rw [if_pos h]
theorem fns_at {L : List LFn} {k : Nat} {y : LFn} (h : L[k]? = some y) : (fns L)[k]? = some y.f := by simp [fns, List.getElem?_map, h]
theorem fns_take (L : List LFn) (k : Nat) : (fns L).take k = fns (L.take k) := by simp [fns, List.map_take]

set_option maxHeartbeats 8000000 in
set_option maxRecDepth 100000 in
theorem all_any (w : World) (p : Nat) (A : Option Addr) (c : Nat) (L : List LFn) (hC : CkIs w p A L.length c 0 0 0) (hR : FnRow w (fun b => b < w.heap.size ∧ b ≠ p) A L) (hT : FieldsAt w) (hp : p ≠ 0) (hL : L.length < 1000000) :
    Calls Tryd.prog 72 #[.pointer (some ⟨p, 0, none⟩)] w (APost w p (chk (fns L))) := by
  have c0 : w.cell? ⟨p, 0, none⟩ = some (.slice A L.length c) := by rw [Blk.cell hC]; rfl
  have HC := Lib.hid hC
  have HR := Lib.hid hR
  have HT := Lib.hid hT
  clear hC hR hT
  go_enter Tryd.func72, Tryd.ntmps72
  go_wp2_with fail
  refine (within_any _ p A L.length c 0 0 0 3 HC.out (by decide) L.length 1 17).mono ?_
  rintro r w1 (⟨h0, rfl, hF1⟩ | ⟨h0, rfl, hF1⟩)
  · have hl := rngE_zero (by decide) h0
    have HL : Hid (chk (fns L) = fnsE (fns L) 0 (fns L)) := Lib.hid (chk_fns (by rw [fns_length]; omega))
    have HC1 : Hid (CkIs w1 p A L.length c 0 0 0) := Lib.hid (Blk.fr HC.out hF1 (fun h => h))
    have c1 : w1.cell? ⟨p, 0, none⟩ = some (.slice A L.length c) := by rw [Blk.cell HC1.out]; rfl
    have HF1 := Lib.hid hF1
    clear h0 hl hF1 c0
    go_wp2_with fail
    go_loopw [16] (fun i wx => ∃ k : Nat, k ≤ L.length ∧ i = .int .i64 k ∧ Hid (∀ z ∈ (fns L).take k, (fnE (fns L) z).2 = 0) ∧ (∃ f' i', CkIs wx p A L.length c f' i' 0) ∧ Fr (At p) w wx) (fun i _ => L.length - (intOf i).toNat)
    case atStart => exact ⟨0, by omega, rfl, Lib.hid (fun z hz => by simp at hz), ⟨_, _, HC1.out⟩, HF1.out.none⟩
    case round =>
      obtain ⟨k, hk, rfl, HU, ⟨f', i', hCk⟩, hFk⟩ := hrel
      have HCk := Lib.hid hCk
      have HFk := Lib.hid hFk
      have hRk := HR.out.far HFk.out
      have HRk := Lib.hid hRk
      have hpl2 : p < wr.heap.size := Blk.lt hCk
      clear hCk hFk hRk c1
      by_cases hkl : k < L.length
      · obtain ⟨y, hy⟩ : ∃ y, L[k]? = some y := ⟨_, List.getElem?_eq_getElem hkl⟩
        have HY := Lib.hid hy
        obtain ⟨b, off, rfl, hbq, d0, d1, hI⟩ := HRk.out.at_ hy
        have HI := Lib.hid hI
        have g1 : wr.cell? ⟨p, 1, none⟩ = some (.int .i64 f') := by rw [Blk.cell HCk.out]; rfl
        have g2 : wr.cell? ⟨p, 2, none⟩ = some (.int .i64 i') := by rw [Blk.cell HCk.out]; rfl
        have g3 : wr.cell? ⟨p, 3, none⟩ = some (.int .i64 0) := by rw [Blk.cell HCk.out]; rfl
        have f1 := Blk.frozen HCk.out 1
        have f2 := Blk.frozen HCk.out 2
        have f3 := Blk.frozen HCk.out 3
        clear hy hI
        go_wp2_with fail
        have hC2 : CkIs ((((wr.setCell ⟨p, 1, none⟩ (.int .i64 k)).setCell ⟨p, 2, none⟩ (.int .i64 0)).setCell ⟨p, 3, none⟩ (.int .i64 0)).alloc (.cells #[.int .i64 y.f.arity, .slice y.A y.f.code.length y.c] 101)) p (some ⟨b, off, none⟩) L.length c k 0 0 := by
          have := (((Blk.set_ HCk.out 1 (.int .i64 k)).set_ 2 (.int .i64 0)).set_ 3 (.int .i64 0)).alloc (.cells #[.int .i64 y.f.arity, .slice y.A y.f.code.length y.c] 101)
          simpa [CkIs] using this
        have hF3 : Fr (At p) w ((((wr.setCell ⟨p, 1, none⟩ (.int .i64 k)).setCell ⟨p, 2, none⟩ (.int .i64 0)).setCell ⟨p, 3, none⟩ (.int .i64 0)).alloc (.cells #[.int .i64 y.f.arity, .slice y.A y.f.code.length y.c] 101)) := (((HFk.out.setCell (p := ⟨p, 1, none⟩) (.inl rfl) _).setCell (p := ⟨p, 2, none⟩) (.inl rfl) _).setCell (p := ⟨p, 3, none⟩) (.inl rfl) _).alloc _
        have hF4 : Fr (At p) wr ((((wr.setCell ⟨p, 1, none⟩ (.int .i64 k)).setCell ⟨p, 2, none⟩ (.int .i64 0)).setCell ⟨p, 3, none⟩ (.int .i64 0)).alloc (.cells #[.int .i64 y.f.arity, .slice y.A y.f.code.length y.c] 101)) := ((((Fr.refl (At p) wr).setCell (p := ⟨p, 1, none⟩) (.inl rfl) _).setCell (p := ⟨p, 2, none⟩) (.inl rfl) _).setCell (p := ⟨p, 3, none⟩) (.inl rfl) _).alloc _
        refine (one_any _ p _ c k L hC2 (HR.out.far hF3) (HT.out.fr hF3 (fun h => hp h.symm)) hp y.f y.A y.c (HI.out.far hF4)).mono ?_
        rintro r w3 (⟨h0, rfl, hC3, hF5⟩ | ⟨h0, rfl, hF5⟩)
        · have HU' : Hid (∀ z ∈ (fns L).take (k + 1), (fnE (fns L) z).2 = 0) := Lib.hid (by
            rw [take_snoc _ k y.f (fns_at HY.out)]
            intro u hu
            rcases List.mem_append.1 hu with hu | hu
            · exact HU.out u hu
            · rw [List.mem_singleton.1 hu]; exact h0)
          have HC3 := Lib.hid hC3
          have H3 := Lib.hid (hF3.trans hF5)
          clear h0 hC2 hF3 hF4 hF5 hC3
          go_wp2_with fail
          obtain ⟨i2, hi2⟩ := HC3.out
          exact ⟨⟨k + 1, by omega, by go_num, HU', ⟨_, _, hi2⟩, H3.out⟩, by simp [intOf]; omega⟩
        · have hN := fnsE_bad (fns L) (fns L) 0 k y.f (fns_at HY.out) HU.out h0
          rw [Nat.zero_add] at hN
          have HN := Lib.hid (HL.out.trans hN)
          have H0 := Lib.hid h0
          have H3 := Lib.hid (hF3.trans hF5)
          clear h0 hC2 hF3 hF4 hF5 hN
          go_wp2_with fail
          exact ⟨rfl, .inr ⟨by rw [HN.out]; exact H0.out, by rw [HN.out], H3.out⟩⟩
      · obtain rfl : k = L.length := by omega
        have HO : Hid (chk (fns L) = (0, 0, 0)) := Lib.hid (by rw [HL.out]; exact fnsE_ok _ _ _ (by have := HU.out; rw [List.take_of_length_le (by rw [fns_length]; omega)] at this; exact this))
        go_wp2_with fail
        go_end0
        exact .inl ⟨HO.out, rfl, HFk.out⟩
  · have HN : Hid (chk (fns L) = (0, 0, 3)) := Lib.hid (chk_long (fun h => h0 (rngE_in (by rw [fns_length] at h; omega) (by rw [fns_length] at h; omega))))
    have H3 := Lib.hid (rngE_out (fun h : 1 ≤ (L.length : Int) ∧ (L.length : Int) < 17 => h0 (rngE_in h.1 h.2)) : rngE 1 17 3 L.length = 3)
    clear h0
    go_wp2_with fail
    exact ⟨rfl, .inr ⟨by rw [HN.out]; decide, by rw [HN.out, H3.out]; rfl, hF1⟩⟩

set_option maxHeartbeats 2000000 in
set_option maxRecDepth 100000 in
theorem vcatch_panicking (b1 b2 b3 : Nat) (v1 v2 v3 : Value) (f i e : Int) (older : List PanicEntry) (w : World) (h12 : b1 ≠ b2) (h13 : b1 ≠ b3) (h23 : b2 ≠ b3) (B1 : Blk w b1 3 #[v1]) (B2 : Blk w b2 3 #[v2]) (B3 : Blk w b3 37 #[v3]) :
    CallsD Tryd.prog 71 #[.pointer (some ⟨b1, 0, none⟩), .pointer (some ⟨b2, 0, none⟩), .pointer (some ⟨b3, 0, none⟩)] (.panicking ({ v := .iface 159 (.agg #[.int .i64 f, .int .i64 i, .int .i64 e]), recovered := false } :: older)) w fun r u' w' =>
      r = .returned (.tuple #[]) ∧ u' = .panicking ({ v := .iface 159 (.agg #[.int .i64 f, .int .i64 i, .int .i64 e]), recovered := true } :: older) ∧ w'.cell? ⟨b1, 0, none⟩ = some (.int .i64 f) ∧ w'.cell? ⟨b2, 0, none⟩ = some (.int .i64 i) ∧ w'.cell? ⟨b3, 0, none⟩ = some (.int .i64 e) ∧ Fr (fun k => k = b1 ∨ k = b2 ∨ k = b3) w w' := by
  have l1 := B1.lt
  have l2 := B2.lt
  have l3 := B3.lt
  have hc1 : w.cell? ⟨b1, 0, none⟩ = some v1 := by rw [B1.cell]; rfl
  have hc2 : w.cell? ⟨b2, 0, none⟩ = some v2 := by rw [B2.cell]; rfl
  have hc3 : w.cell? ⟨b3, 0, none⟩ = some v3 := by rw [B3.cell]; rfl
  have hz1 := B1.frozen 0
  have hz2 := B2.frozen 0
  have hz3 := B3.frozen 0
  have H1 := Lib.hid B1
  have H2 := Lib.hid B2
  have H3 := Lib.hid B3
  clear B1 B2 B3
  have hta : ∀ W : World, (Instr.typeAssert (.iface 159 (.agg #[.int .i64 f, .int .i64 i, .int .i64 e])) 20 159 false).run Tryd.prog W = .ok (.agg #[.int .i64 f, .int .i64 i, .int .i64 e]) W := fun _ => by kernel_rfl
  refine callsD_of_wpS Tryd.func71 rfl fun c₀ cs hu => ?_
  apply wpS_seq
  apply wpS_region
  simp [wpOpsS, go_sem, recoverD, hu, Tryd.ntmps71, Exit.thenS]
  refine wpS_of_wp ?_
  change Code.wp _ _ _ { tmps := #[.pointer (some ⟨b1, 0, none⟩), .pointer (some ⟨b2, 0, none⟩), .pointer (some ⟨b3, 0, none⟩), .iface 159 (.agg #[.int .i64 f, .int .i64 i, .int .i64 e]), undef, .iface 159 (.agg #[.int .i64 f, .int .i64 i, .int .i64 e]), undef, undef, undef, undef, undef, undef, undef, undef, undef, undef], defers := [] } _
  go_wp2
  go_region
  all_goals go_wp2
  all_goals simp [bodyPostS, results, Tryd.results71]
  refine ⟨?_, ?_, ?_, ?_⟩
  · rw [((((H1.out.set_ 0 _).far (p := ⟨b2, 0, none⟩) h12 _).far (p := ⟨b3, 0, none⟩) h13 _).alloc _).cell]; rfl
  · rw [((((H2.out.far (p := ⟨b1, 0, none⟩) h12.symm _).set_ 0 _).far (p := ⟨b3, 0, none⟩) h23 _).alloc _).cell]; rfl
  · rw [((((H3.out.far (p := ⟨b1, 0, none⟩) h13.symm _).far (p := ⟨b2, 0, none⟩) h23.symm _).set_ 0 _).alloc _).cell]; rfl
  · exact (((((Fr.refl _ w).setCell (p := ⟨b1, 0, none⟩) (.inl (.inl rfl)) _).setCell (p := ⟨b2, 0, none⟩) (.inl (.inr (.inl rfl))) _).setCell (p := ⟨b3, 0, none⟩) (.inl (.inr (.inr rfl))) _).alloc _).drew

theorem vcatch_idle (a1 a2 a3 : Addr) (w : World) :
    CallsD Tryd.prog 71 #[.pointer (some a1), .pointer (some a2), .pointer (some a3)] .returning w fun e u' w' => e = .returned (.tuple #[]) ∧ u' = .returning ∧ w' = w := by
  refine callsD_of_wpS Tryd.func71 rfl fun c₀ cs hu => ?_
  apply wpS_seq
  apply wpS_region
  simp [wpOpsS, go_sem, recoverD, hu, Tryd.ntmps71, Exit.thenS]
  refine wpS_of_wp ?_
  change Code.wp _ _ _ { tmps := #[.pointer (some a1), .pointer (some a2), .pointer (some a3), .nilIface, undef, .nilIface, undef, undef, undef, undef, undef, undef, undef, undef, undef, undef], defers := [] } _
  go_wp2
  cases c₀
  simp_all [bodyPostS, results, Tryd.results71]

/-- What Check comes to. -/
def CkPost (w : World) (q : Nat × Nat × Int) (r : Ending) (w' : World) : Prop := r = .returned (.tuple #[.int .i64 q.1, .int .i64 q.2.1, .int .i64 q.2.2]) ∧ Fr None' w w'

abbrev ckW (w : World) (A : Option Addr) (n c : Nat) : World := (((w.alloc (.cells #[.int .i64 0] 3)).alloc (.cells #[.int .i64 0] 3)).alloc (.cells #[.int .i64 0] 37)).alloc (.cells #[.slice A n c, .int .i64 0, .int .i64 0, .int .i64 0] 162)
theorem ck_start (w : World) (A : Option Addr) (n c : Nat) : CkIs (ckW w A n c) (w.heap.size + 1 + 1 + 1) A n c 0 0 0 ∧ Blk (ckW w A n c) w.heap.size 3 #[.int .i64 0] ∧ Blk (ckW w A n c) (w.heap.size + 1) 3 #[.int .i64 0] ∧ Blk (ckW w A n c) (w.heap.size + 1 + 1) 37 #[.int .i64 0] ∧ Fr None' w (ckW w A n c) := by
  refine ⟨?_, (((Blk.new w _ _).alloc _).alloc _).alloc _, ?_, ?_, ((((Fr.refl _ _).alloc _).alloc _).alloc _).alloc _⟩
  · have := Blk.new (((w.alloc (.cells #[.int .i64 0] 3)).alloc (.cells #[.int .i64 0] 3)).alloc (.cells #[.int .i64 0] 37)) 162 #[.slice A n c, .int .i64 0, .int .i64 0, .int .i64 0]
    simpa [CkIs] using this
  · have := ((Blk.new (w.alloc (.cells #[.int .i64 0] 3)) 3 #[.int .i64 0]).alloc (.cells #[.int .i64 0] 37)).alloc (.cells #[.slice A n c, .int .i64 0, .int .i64 0, .int .i64 0] 162)
    simpa using this
  · have := (Blk.new ((w.alloc (.cells #[.int .i64 0] 3)).alloc (.cells #[.int .i64 0] 3)) 37 #[.int .i64 0]).alloc (.cells #[.slice A n c, .int .i64 0, .int .i64 0, .int .i64 0] 162)
    simpa using this

set_option maxHeartbeats 8000000 in
set_option maxRecDepth 100000 in
theorem check_any (w : World) (A : Option Addr) (c : Nat) (L : List LFn) (hR : FnRow w (fun b => b < w.heap.size) A L) (hT : FieldsAt w) (hL : L.length < 1000000) :
    Calls Tryd.prog 42 #[.slice A L.length c] w (CkPost w (chk (fns L))) := by
  have hmf : ∀ (fn : Go.Fn) (first cap : Array Value) (w : World), (Instr.makeFunc fn first cap).run Tryd.prog w = .ok (.func fn first cap) w := fun _ _ _ _ => rfl
  have HR := Lib.hid hR
  have HT := Lib.hid hT
  clear hR hT
  have HST := Lib.hid (ck_start w A L.length c)
  go_enter_defers Tryd.func42, Tryd.ntmps42
  go_wp2_with fail
  obtain ⟨hC4, hB1, hB2, hB3, hF4⟩ := HST.out
  have h0 := HT.out.lt
  have hR4 : FnRow (ckW w A L.length c) (fun b => b < (ckW w A L.length c).heap.size ∧ b ≠ w.heap.size + 1 + 1 + 1) A L := (HR.out.fr hF4 (fun _ _ h => h)).mono (fun b hb => ⟨Nat.lt_of_lt_of_le hb hF4.size, by omega⟩)
  refine (all_any _ (w.heap.size + 1 + 1 + 1) A c L hC4 hR4 (HT.out.fr hF4 (fun h => h)) (by omega) hL).mono ?_
  rintro r w1 (⟨hq, rfl, hF1⟩ | ⟨hq, rfl, hF1⟩)
  · have HQ := Lib.hid hq
    have D1 := hB1.fr hF1 (show ¬ w.heap.size = w.heap.size + 1 + 1 + 1 by omega)
    have D2 := hB2.fr hF1 (show ¬ w.heap.size + 1 = w.heap.size + 1 + 1 + 1 by omega)
    have D3 := hB3.fr hF1 (show ¬ w.heap.size + 1 + 1 = w.heap.size + 1 + 1 + 1 by omega)
    have HF := Lib.hid (hF4.then hF1 (fun i hi => .inr (by have : i = w.heap.size + 1 + 1 + 1 := hi; omega)) : Fr None' w w1)
    have c1 : w1.cell? ⟨w.heap.size, 0, none⟩ = some (.int .i64 0) := by rw [D1.cell]; rfl
    have c2 : w1.cell? ⟨w.heap.size + 1, 0, none⟩ = some (.int .i64 0) := by rw [D2.cell]; rfl
    have c3 : w1.cell? ⟨w.heap.size + 1 + 1, 0, none⟩ = some (.int .i64 0) := by rw [D3.cell]; rfl
    have f1 := D1.frozen 0
    have f2 := D2.frozen 0
    have f3 := D3.frozen 0
    have E1 := Lib.hid D1
    have E2 := Lib.hid D2
    have E3 := Lib.hid D3
    clear hq hF1 hR4 hC4 hB1 hB2 hB3 hF4 HST HR HT D1 D2 D3
    go_wp2
    refine leaves_cons (f := 71) (args := #[.pointer (some ⟨w.heap.size, 0, none⟩), .pointer (some ⟨w.heap.size + 1, 0, none⟩), .pointer (some ⟨w.heap.size + 1 + 1, 0, none⟩)]) (by simp) (by simp [go_sem]) ?_
    refine (vcatch_idle _ _ _ _).mono ?_
    rintro e u' w'' ⟨rfl, rfl, rfl⟩
    have d1 : (((w1.setCell ⟨w.heap.size, 0, none⟩ (.int .i64 0)).setCell ⟨w.heap.size + 1, 0, none⟩ (.int .i64 0)).setCell ⟨w.heap.size + 1 + 1, 0, none⟩ (.int .i64 0)).cell? ⟨w.heap.size, 0, none⟩ = some (.int .i64 0) := by
      rw [(((E1.out.set_ 0 _).far (p := ⟨w.heap.size + 1, 0, none⟩) (by simp) _).far (p := ⟨w.heap.size + 1 + 1, 0, none⟩) (by simp only [ne_eq]; omega) _).cell]; rfl
    have d2 : (((w1.setCell ⟨w.heap.size, 0, none⟩ (.int .i64 0)).setCell ⟨w.heap.size + 1, 0, none⟩ (.int .i64 0)).setCell ⟨w.heap.size + 1 + 1, 0, none⟩ (.int .i64 0)).cell? ⟨w.heap.size + 1, 0, none⟩ = some (.int .i64 0) := by
      rw [(((E2.out.far (p := ⟨w.heap.size, 0, none⟩) (by simp) _).set_ 0 _).far (p := ⟨w.heap.size + 1 + 1, 0, none⟩) (by simp) _).cell]; rfl
    have d3 : (((w1.setCell ⟨w.heap.size, 0, none⟩ (.int .i64 0)).setCell ⟨w.heap.size + 1, 0, none⟩ (.int .i64 0)).setCell ⟨w.heap.size + 1 + 1, 0, none⟩ (.int .i64 0)).cell? ⟨w.heap.size + 1 + 1, 0, none⟩ = some (.int .i64 0) := by
      rw [(((E3.out.far (p := ⟨w.heap.size, 0, none⟩) (by simp only [ne_eq]; omega) _).far (p := ⟨w.heap.size + 1, 0, none⟩) (by simp) _).set_ 0 _).cell]; rfl
    refine ⟨.tuple #[.int .i64 0, .int .i64 0, .int .i64 0], ?_, ?_⟩
    · simp [results, Tryd.results42, go_sem, d1, d2, d3]
    · rw [HQ.out]
      exact ⟨rfl, ((HF.out.setCell (.inr (Nat.le_refl _)) _).setCell (.inr (by simp)) _).setCell (.inr (by simp only; omega)) _⟩
  · have D1 := hB1.fr hF1 (show ¬ w.heap.size = w.heap.size + 1 + 1 + 1 by omega)
    have D2 := hB2.fr hF1 (show ¬ w.heap.size + 1 = w.heap.size + 1 + 1 + 1 by omega)
    have D3 := hB3.fr hF1 (show ¬ w.heap.size + 1 + 1 = w.heap.size + 1 + 1 + 1 by omega)
    have HF := Lib.hid (hF4.then hF1 (fun i hi => .inr (by have : i = w.heap.size + 1 + 1 + 1 := hi; omega)) : Fr None' w w1)
    have E1 := Lib.hid D1
    have E2 := Lib.hid D2
    have E3 := Lib.hid D3
    obtain ⟨q, hqq⟩ : ∃ q, q = chk (fns L) := ⟨_, rfl⟩
    rw [← hqq]
    have HQ := Lib.hid hqq
    clear hq hqq hF1 hR4 hC4 hB1 hB2 hB3 hF4 HST HR HT D1 D2 D3
    go_wp2
    refine leaves_cons (f := 71) (args := #[.pointer (some ⟨w.heap.size, 0, none⟩), .pointer (some ⟨w.heap.size + 1, 0, none⟩), .pointer (some ⟨w.heap.size + 1 + 1, 0, none⟩)]) (by simp) (by simp [go_sem]) ?_
    refine (vcatch_panicking w.heap.size (w.heap.size + 1) (w.heap.size + 1 + 1) _ _ _ _ _ _ [] w1 (by omega) (by omega) (by omega) E1.out E2.out E3.out).mono ?_
    rintro e u' w'' ⟨rfl, rfl, d1, d2, d3, hF5⟩
    refine ⟨.tuple #[.int .i64 q.1, .int .i64 q.2.1, .int .i64 q.2.2], ?_, ?_⟩
    · simp only [results, Tryd.results42]
      simp [go_sem, d1, d2, d3]
    · exact ⟨rfl, HF.out.then hF5 (fun i hi => .inr (by rcases hi with h | h | h <;> omega))⟩
end Go.Proofs.YtadcenaafoemmaaDoor
