/-
  What the checker does with an instruction.
-/
import Derived.Test.YtbhnnnpofindiaaDoorTab
import Derived.Test.YtbhnnnpofindiaaDoorRowsF
import Derived.IntWalk
namespace Go.Proofs.YtbhnnnpofindiaaDoor
open Go.RowKit

theorem hix (op : Nat) (k : Nat) (hk : k < 4) (W : World) : (Instr.index 128 (.agg #[.int .i64 (kdAt op 0 : Nat), .int .i64 (kdAt op 1 : Nat), .int .i64 (kdAt op 2 : Nat), .int .i64 (kdAt op 3 : Nat)]) (.int .i64 k)).run Tryd.prog W = .ok (.int .i64 (kdAt op k : Nat)) W := by
  obtain rfl | rfl | rfl | rfl : k = 0 ∨ k = 1 ∨ k = 2 ∨ k = 3 := by omega
  all_goals kernel_rfl

theorem num_cell {w : World} {g : Nat} {x : Ins} (h : Blk w g 130 #[.int .i64 x.a, .int .i64 x.b, .int .i64 x.c, .int .i64 x.k]) (k : Nat) (hk : k < 4) : w.cell? ⟨g, k, none⟩ = some (.int .i64 (x.num k)) := by
  rw [h.cell]
  obtain rfl | rfl | rfl | rfl : k = 0 ∨ k = 1 ∨ k = 2 ∨ k = 3 := by omega
  all_goals rfl

/-- The blocks of an instruction that is looked at. -/
structure InIs (w : World) (b : Nat) (x : Ins) (op : Nat) (g1 g2 : Nat) : Prop where
  ins : Blk w b 55 #[.int .i64 op, .int .i64 x.a, .int .i64 x.b, .int .i64 x.c, .int .i64 x.k]
  kinds : Blk w g1 128 #[.int .i64 (kdAt op 0 : Nat), .int .i64 (kdAt op 1 : Nat), .int .i64 (kdAt op 2 : Nat), .int .i64 (kdAt op 3 : Nat)]
  nums : Blk w g2 130 #[.int .i64 x.a, .int .i64 x.b, .int .i64 x.c, .int .i64 x.k]
theorem InIs.fr {w w' : World} {b : Nat} {x : Ins} {op g1 g2 : Nat} (h : InIs w b x op g1 g2) (hf : Fr None' w w') : InIs w' b x op g1 g2 := ⟨h.ins.fr hf (fun h => h), h.kinds.fr hf (fun h => h), h.nums.fr hf (fun h => h)⟩

set_option maxHeartbeats 4000000 in
set_option maxRecDepth 100000 in
theorem ins_no (w : World) (p : Nat) (A : Option Addr) (n c : Nat) (f i e0 : Int) (hC : CkIs w p A n c f i e0) (x : Ins) (pl : Nat) (h : ¬ (1 ≤ x.op ∧ x.op ≤ 17)) :
    Calls Tryd.prog 59 #[.pointer (some ⟨p, 0, none⟩), .agg #[.int .i64 x.op, .int .i64 x.a, .int .i64 x.b, .int .i64 x.c, .int .i64 x.k], .int .i64 pl] w (VPost w p f i 4) := by
  have HC := Lib.hid hC
  clear hC
  have H := Lib.hid h
  clear h
  go_enter Tryd.func59, Tryd.ntmps59
  go_wp2_with fail
  refine (known_no _ x.op H.out).mono ?_
  rintro e _ ⟨rfl, rfl⟩
  go_wp2_with fail
  refine (must_no _ p A n c f i e0 4 (Blk.alloc HC.out _)).mono ?_
  rintro r w1 ⟨rfl, hF⟩
  go_wp2_with fail
  exact ⟨rfl, .inr ⟨by decide, rfl, (((Fr.refl _ _).alloc _).trans hF)⟩⟩

theorem unused_yes {x : Ins} {op k : Nat} (h : x.op = op) (hk : kdAt op k ≠ 0 ∨ x.num k = 0) : unusedE x k = 0 := by
  unfold unusedE; rw [h, Int.toNat_natCast]; exact if_pos hk
theorem unused_no {x : Ins} {op k : Nat} (h : x.op = op) (h1 : kdAt op k = 0) (h2 : x.num k ≠ 0) : unusedE x k ≠ 0 := by
  unfold unusedE; rw [h, Int.toNat_natCast, if_neg (by rintro (h | h) <;> contradiction)]; decide
theorem insE_unused {fs : List Fn} {pl : Nat} {x : Ins} (h : 1 ≤ x.op ∧ x.op ≤ 17) {k : Nat} (hk : k < 4) (h0 : ∀ j, j < k → unusedE x j = 0) (h1 : unusedE x k ≠ 0) : insE fs pl x = 4 := by
  unfold insE
  have := firstE_bad (g := unusedE x) 4 0 k (fun i _ h2 => h0 i (by omega)) hk (by rw [Nat.zero_add]; exact h1)
  rw [if_pos h, if_neg (by rw [this, Nat.zero_add]; exact h1)]
theorem insE_field {fs : List Fn} {pl : Nat} {x : Ins} (h : 1 ≤ x.op ∧ x.op ≤ 17) (h0 : ∀ j, j < 4 → unusedE x j = 0) {k : Nat} (hk : k < 4) (h1 : ∀ j, j < k → fieldsE fs.length pl x j = 0) (h2 : fieldsE fs.length pl x k ≠ 0) : insE fs pl x = fieldsE fs.length pl x k := by
  unfold insE
  have := firstE_bad (g := fieldsE fs.length pl x) 4 0 k (fun i _ h2 => h1 i (by omega)) hk (by rw [Nat.zero_add]; exact h2)
  rw [Nat.zero_add] at this
  rw [if_pos h, if_pos (firstE_ok 4 0 (fun i _ h2 => h0 i (by omega))), if_neg (by rw [this]; exact h2), this]
theorem insE_call {fs : List Fn} {pl : Nat} {x : Ins} (h : 1 ≤ x.op ∧ x.op ≤ 17) (h0 : ∀ j, j < 4 → unusedE x j = 0) (h1 : ∀ j, j < 4 → fieldsE fs.length pl x j = 0) : insE fs pl x = callE fs x := by
  unfold insE
  rw [if_pos h, if_pos (firstE_ok 4 0 (fun i _ h2 => h0 i (by omega))), if_pos (firstE_ok 4 0 (fun i _ h2 => h1 i (by omega)))]
theorem field_at {nf pl : Nat} {x : Ins} {op k : Nat} (h : x.op = op) : fieldsE nf pl x k = fieldE nf pl (kdAt op k) (x.num k) := by
  unfold fieldsE; rw [h, Int.toNat_natCast]
theorem fns_length (L : List LFn) : (fns L).length = L.length := by simp [fns]
theorem call_none {fs : List Fn} {x : Ins} {op : Nat} (h : x.op = op) (h1 : op ≠ 11) (h2 : op ≠ 13) : callE fs x = 0 := by
  unfold callE; rw [if_neg (by rw [h]; omega)]
theorem call_at {L : List LFn} {x : Ins} {op j : Nat} {y : LFn} (h : x.op = op) (h1 : op = 11 ∨ op = 13) (hc : x.c = j) (hy : L[j]? = some y) : callE (fns L) x = if y.f.arity ≤ 8 - x.b then 0 else 6 := by
  have : arityAt (fns L) x.c = y.f.arity := by
    unfold arityAt fns
    rw [hc, Int.toNat_natCast, List.getElem?_map, hy]; rfl
  unfold callE
  rw [this]
  by_cases h' : y.f.arity ≤ 8 - x.b
  · rw [if_neg (by omega), if_pos h']
  · rw [if_pos (by rw [h]; omega), if_neg h']

set_option maxHeartbeats 8000000 in
set_option maxRecDepth 100000 in
theorem ins_in (w : World) (p : Nat) (A : Option Addr) (c : Nat) (f i e0 : Int) (L : List LFn) (hC : CkIs w p A L.length c f i e0) (hR : FnRow w (fun b => b < w.heap.size ∧ b ≠ p) A L) (hT : FieldsAt w) (_hp : p ≠ 0) (x : Ins) (op : Nat) (hxo : x.op = op) (pl : Nat) (h1 : 1 ≤ op) (h2 : op ≤ 17) :
    Calls Tryd.prog 59 #[.pointer (some ⟨p, 0, none⟩), .agg #[.int .i64 op, .int .i64 x.a, .int .i64 x.b, .int .i64 x.c, .int .i64 x.k], .int .i64 pl] w (VPost w p f i (insE (fns L) pl x)) := by
  have HC := Lib.hid hC
  have HR := Lib.hid hR
  have HT := Lib.hid hT
  have HXO := Lib.hid hxo
  clear hC hR hT hxo
  go_enter Tryd.func59, Tryd.ntmps59
  go_wp2_with fail
  refine (known_in _ op (by omega) (by omega)).mono ?_
  rintro e _ ⟨rfl, rfl⟩
  go_wp2_with fail
  refine (must_ok _ p 4).mono ?_
  rintro e _ ⟨rfl, rfl⟩
  go_wp2_with fail
  refine (fields_in _ (HT.out.fr ((Fr.refl None' _).alloc _) (fun h => h)) op h1 h2).mono ?_
  rintro e w1 ⟨rfl, hF1⟩
  have hX : Blk w1 w.heap.size 55 #[.int .i64 op, .int .i64 x.a, .int .i64 x.b, .int .i64 x.c, .int .i64 x.k] := (Blk.new w _ _).fr hF1 (fun h => h)
  have x0 : w1.cell? ⟨w.heap.size, 0, none⟩ = some (.int .i64 op) := by rw [hX.cell]; rfl
  have x1 : w1.cell? ⟨w.heap.size, 1, none⟩ = some (.int .i64 x.a) := by rw [hX.cell]; rfl
  have x2 : w1.cell? ⟨w.heap.size, 2, none⟩ = some (.int .i64 x.b) := by rw [hX.cell]; rfl
  have x3 : w1.cell? ⟨w.heap.size, 3, none⟩ = some (.int .i64 x.c) := by rw [hX.cell]; rfl
  have x4 : w1.cell? ⟨w.heap.size, 4, none⟩ = some (.int .i64 x.k) := by rw [hX.cell]; rfl
  have hlt := hX.lt
  have HX := Lib.hid hX
  have HF1 := Lib.hid hF1
  clear hX hF1
  go_wp2_with fail
  go_loopw [30] (fun i wx => ∃ k : Nat, k ≤ 4 ∧ i = .int .i64 k ∧ Hid (∀ j, j < k → unusedE x j = 0) ∧ InIs wx w.heap.size x op w1.heap.size (w1.heap.size + 1) ∧ Fr None' w wx) (fun i _ => 4 - (intOf i).toNat)
  case atStart =>
    refine ⟨0, by omega, rfl, Lib.hid (fun j h => by omega), ⟨(HX.out.alloc _).alloc _, (Blk.new _ _ _).alloc _, ?_⟩, ((((Fr.refl _ _).alloc _).trans HF1.out).alloc _).alloc _⟩
    have := Blk.new (w1.alloc (.cells #[.int .i64 (kdAt op 0 : Nat), .int .i64 (kdAt op 1 : Nat), .int .i64 (kdAt op 2 : Nat), .int .i64 (kdAt op 3 : Nat)] 128)) 130 #[.int .i64 x.a, .int .i64 x.b, .int .i64 x.c, .int .i64 x.k]
    simpa using this
  case round =>
    obtain ⟨k, hk, rfl, HU, hI, hF⟩ := hrel
    have HI := Lib.hid hI
    have HF := Lib.hid hF
    clear hI hF x0 x1 x2 x3 x4
    by_cases hk4 : k < 4
    · have hx := hix op k hk4
      have hn := num_cell HI.out.nums k hk4
      have hu : (kdAt op k ≠ 0 ∨ x.num k = 0) → Hid (∀ j, j < k + 1 → unusedE x j = 0) := fun h => Lib.hid (fun j hj => by
        by_cases e : j = k
        · rw [e]; exact unused_yes HXO.out h
        · exact HU.out j (by omega))
      by_cases h0 : kdAt op k = 0
      · by_cases h3 : x.num k = 0
        · have HU' := hu (.inr h3)
          rw [h0] at hx
          rw [h3] at hn
          clear h0 h3 hu
          go_wp2_with fail
          refine (must_ok _ p 4).mono ?_
          rintro e _ ⟨rfl, rfl⟩
          go_wp2_with fail
          exact ⟨⟨k + 1, by omega, by go_num, HU', HI.out, HF.out⟩, by simp [intOf]; omega⟩
        · have hno := insE_unused (fs := fns L) (pl := pl) (by rw [HXO.out]; omega) hk4 HU.out (unused_no HXO.out h0 h3)
          have HNO := Lib.hid hno
          rw [h0] at hx
          have h3b : (x.num k == 0) = false := by simpa using h3
          clear h0 hu hno h3
          go_wp2_with fail
          refine (must_no _ p A L.length c f i e0 4 (Blk.fr HC.out HF.out (fun h => h))).mono ?_
          rintro r w2 ⟨rfl, hF2⟩
          go_wp2_with fail
          exact ⟨rfl, .inr ⟨by rw [HNO.out]; decide, by rw [HNO.out], HF.out.none.trans hF2⟩⟩
      · have HU' := hu (.inl h0)
        have h0b : ((kdAt op k : Int) == 0) = false := by simp; omega
        clear hu
        go_wp2_with fail
        refine (must_ok _ p 4).mono ?_
        rintro e _ ⟨rfl, rfl⟩
        go_wp2_with fail
        exact ⟨⟨k + 1, by omega, by go_num, HU', HI.out, HF.out⟩, by simp [intOf]; omega⟩
    · obtain rfl : k = 4 := by omega
      rw [show ((4 : Nat) : Int) = 4 from rfl]
      have k0 : wr.cell? ⟨w1.heap.size, 0, none⟩ = some (.int .i64 (kdAt op 0 : Nat)) := by rw [HI.out.kinds.cell]; rfl
      have k1 : wr.cell? ⟨w1.heap.size, 1, none⟩ = some (.int .i64 (kdAt op 1 : Nat)) := by rw [HI.out.kinds.cell]; rfl
      have k2 : wr.cell? ⟨w1.heap.size, 2, none⟩ = some (.int .i64 (kdAt op 2 : Nat)) := by rw [HI.out.kinds.cell]; rfl
      have k3 : wr.cell? ⟨w1.heap.size, 3, none⟩ = some (.int .i64 (kdAt op 3 : Nat)) := by rw [HI.out.kinds.cell]; rfl
      go_wp2_with fail
      clear k0 k1 k2 k3
      obtain ⟨w2, hw2⟩ : ∃ w2, w2 = wr := ⟨_, rfl⟩
      subst hw2
      go_loopw [46] (fun i wx => ∃ k : Nat, k ≤ 4 ∧ i = .int .i64 k ∧ Hid (∀ j, j < k → fieldsE L.length pl x j = 0) ∧ InIs wx w.heap.size x op w1.heap.size (w1.heap.size + 1) ∧ Fr None' w wx) (fun i _ => 4 - (intOf i).toNat)
      case atStart => exact ⟨0, by omega, rfl, Lib.hid (fun j h => by omega), HI.out, HF.out⟩
      case round =>
        clear HI HF
        obtain ⟨k, hk, rfl, HV, hI, hF⟩ := hrel
        have HI := Lib.hid hI
        have HF := Lib.hid hF
        clear hI hF
        by_cases hk4 : k < 4
        · have hx := hix op k hk4
          have hn := num_cell HI.out.nums k hk4
          go_wp2_with fail
          refine (field_any _ p A L.length c f i e0 (Blk.fr HC.out HF.out (fun h => h)) (kdAt op k) (kd_le op (by omega) k hk4) (x.num k) pl).mono ?_
          rintro r w3 (⟨h0, rfl, hF3⟩ | ⟨h0, rfl, hF3⟩)
          · have HV' : Hid (∀ j, j < k + 1 → fieldsE L.length pl x j = 0) := Lib.hid (fun j hj => by
              by_cases e : j = k
              · rw [e, field_at HXO.out]; exact h0
              · exact HV.out j (by omega))
            clear h0
            go_wp2_with fail
            exact ⟨⟨k + 1, by omega, by go_num, HV', HI.out.fr hF3, HF.out.trans hF3⟩, by simp [intOf]; omega⟩
          · have hno := insE_field (fs := fns L) (pl := pl) (x := x) (by rw [HXO.out]; omega) HU.out hk4 (by rw [fns_length]; exact HV.out) (by rw [fns_length, field_at HXO.out]; exact h0)
            rw [fns_length, field_at HXO.out] at hno
            have HNO := Lib.hid hno
            have H0 := Lib.hid h0
            clear hno h0
            go_wp2_with fail
            exact ⟨rfl, .inr ⟨by rw [HNO.out]; exact H0.out, by rw [HNO.out], HF.out.none.trans hF3⟩⟩
        · obtain rfl : k = 4 := by omega
          have hins := insE_call (fs := fns L) (pl := pl) (x := x) (by rw [HXO.out]; omega) HU.out (by rw [fns_length]; exact HV.out)
          have HINS := Lib.hid hins
          clear hins
          have y0 : wr.cell? ⟨w.heap.size, 0, none⟩ = some (.int .i64 op) := by rw [HI.out.ins.cell]; rfl
          have y2 : wr.cell? ⟨w.heap.size, 2, none⟩ = some (.int .i64 x.b) := by rw [HI.out.ins.cell]; rfl
          have y3 : wr.cell? ⟨w.heap.size, 3, none⟩ = some (.int .i64 x.c) := by rw [HI.out.ins.cell]; rfl
          rw [show ((4 : Nat) : Int) = 4 from rfl]
          by_cases hc : op = 11 ∨ op = 13
          · have hf2 := HV.out 2 (by omega)
            rw [field_at HXO.out, (kd_call op (by omega)).1 hc] at hf2
            have hb2 := HV.out 1 (by omega)
            rw [field_at HXO.out, kd_callB op (by omega) hc] at hb2
            have hcr : 0 ≤ x.c ∧ x.c < L.length := rngE_zero (e := 5) (by decide) hf2
            have hbr : 0 ≤ x.b ∧ x.b < 8 := rngE_zero (e := 6) (by decide) hb2
            clear hf2 hb2
            obtain ⟨j, hj⟩ := Int.eq_ofNat_of_zero_le hcr.1
            have hjl : j < L.length := by omega
            obtain ⟨y, hy⟩ : ∃ y, L[j]? = some y := ⟨_, List.getElem?_eq_getElem hjl⟩
            have HCA := Lib.hid (call_at HXO.out hc hj hy)
            obtain ⟨b, off, rfl, hbq, d0, _, _⟩ := (HR.out.fr HF.out (fun _ _ h => h)).at_ hy
            have c0 : wr.cell? ⟨p, 0, none⟩ = some (.slice (some ⟨b, off, none⟩) L.length c) := by rw [(Blk.fr HC.out HF.out (fun h => h)).cell]; rfl
            rw [hj] at y3
            have hCr : CkIs wr p (some ⟨b, off, none⟩) L.length c f i e0 := Blk.fr HC.out HF.out (fun h => h)
            have HCr := Lib.hid hCr
            clear hj hy hcr hCr
            have hwr : IntKind.i64.wrap (8 - x.b) = 8 - x.b := IntWalk.i64_in _ (by omega)
            obtain rfl | rfl := hc
            · rw [show ((11 : Nat) : Int) = 11 from rfl] at *
              by_cases har : y.f.arity ≤ 8 - x.b
              · have HZ : Hid (insE (fns L) pl x = 0) := Lib.hid (by rw [HINS.out, HCA.out, if_pos har])
                clear HINS HCA HV HU HI HR HT HX HF1 HXO hlt hbq h1 h2
                go_wp2_with fail
                go_still_tail 14, (by kernel_rfl)
                change wpList _ _ _ _ _ (World.drew _)
                go_wp2_with fail
                refine (must_ok _ p 6).mono ?_
                rintro e _ ⟨rfl, rfl⟩
                go_wp2_with fail
                go_end0
                exact .inl ⟨HZ.out, rfl, HF.out.drew⟩
              · have HZ : Hid (insE (fns L) pl x = 6) := Lib.hid (by rw [HINS.out, HCA.out, if_neg har])
                have hd : decide (y.f.arity ≤ 8 - x.b) = false := decide_eq_false har
                clear HINS HCA HV HU HI HR HT HX HF1 HXO hlt hbq h1 h2 har
                go_wp2_with fail
                go_still_tail 14, (by kernel_rfl)
                change wpList _ _ _ _ _ (World.drew _)
                go_wp2_with fail
                refine (must_no wr.drew p (some ⟨b, off, none⟩) L.length c f i e0 6 (Blk.drew HCr.out)).mono ?_
                rintro r w3 ⟨rfl, hF3⟩
                go_wp2_with fail
                exact ⟨rfl, .inr ⟨by rw [HZ.out]; decide, by rw [HZ.out], HF.out.drew.none.trans hF3⟩⟩
            · rw [show ((13 : Nat) : Int) = 13 from rfl] at *
              by_cases har : y.f.arity ≤ 8 - x.b
              · have HZ : Hid (insE (fns L) pl x = 0) := Lib.hid (by rw [HINS.out, HCA.out, if_pos har])
                clear HINS HCA HV HU HI HR HT HX HF1 HXO hlt hbq h1 h2
                go_wp2_with fail
                go_still_tail 14, (by kernel_rfl)
                change wpList _ _ _ _ _ (World.drew _)
                go_wp2_with fail
                refine (must_ok _ p 6).mono ?_
                rintro e _ ⟨rfl, rfl⟩
                go_wp2_with fail
                go_end0
                exact .inl ⟨HZ.out, rfl, HF.out.drew⟩
              · have HZ : Hid (insE (fns L) pl x = 6) := Lib.hid (by rw [HINS.out, HCA.out, if_neg har])
                have hd : decide (y.f.arity ≤ 8 - x.b) = false := decide_eq_false har
                clear HINS HCA HV HU HI HR HT HX HF1 HXO hlt hbq h1 h2 har
                go_wp2_with fail
                go_still_tail 14, (by kernel_rfl)
                change wpList _ _ _ _ _ (World.drew _)
                go_wp2_with fail
                refine (must_no wr.drew p (some ⟨b, off, none⟩) L.length c f i e0 6 (Blk.drew HCr.out)).mono ?_
                rintro r w3 ⟨rfl, hF3⟩
                go_wp2_with fail
                exact ⟨rfl, .inr ⟨by rw [HZ.out]; decide, by rw [HZ.out], HF.out.drew.none.trans hF3⟩⟩
          · have g1 : ((op : Int) == 11) = false := by simp; omega
            have g2 : ((op : Int) == 13) = false := by simp; omega
            have HN := Lib.hid (call_none (fs := fns L) HXO.out (by omega) (by omega))
            clear hc
            go_wp2_with fail
            go_end0
            exact .inl ⟨by rw [HINS.out, HN.out], rfl, HF.out⟩

theorem ins_any (w : World) (p : Nat) (A : Option Addr) (c : Nat) (f i e0 : Int) (L : List LFn) (hC : CkIs w p A L.length c f i e0) (hR : FnRow w (fun b => b < w.heap.size ∧ b ≠ p) A L) (hT : FieldsAt w) (hp : p ≠ 0) (x : Ins) (pl : Nat) :
    Calls Tryd.prog 59 #[.pointer (some ⟨p, 0, none⟩), .agg #[.int .i64 x.op, .int .i64 x.a, .int .i64 x.b, .int .i64 x.c, .int .i64 x.k], .int .i64 pl] w (VPost w p f i (insE (fns L) pl x)) := by
  by_cases h : 1 ≤ x.op ∧ x.op ≤ 17
  · obtain ⟨op, ho⟩ := Int.eq_ofNat_of_zero_le (show 0 ≤ x.op by omega)
    have := ins_in w p A c f i e0 L hC hR hT hp x op ho pl (by omega) (by omega)
    rw [← ho] at this
    exact this
  · have e : insE (fns L) pl x = 4 := by unfold insE; exact if_neg h
    rw [e]
    exact ins_no w p A L.length c f i e0 hC x pl h
end Go.Proofs.YtbhnnnpofindiaaDoor
