/-
  What the document's own check does with an instruction.
-/
import Derived.Test.YtjfeoigclkelfaaDoorVin
import Derived.Test.YtjfeoigclkelfaaDoorOwnR
namespace Go.Proofs.YtjfeoigclkelfaaDoor
open Go.RowKit

/-- The letter of a kind. -/
def lt (kind : Nat) : Nat := [48, 114, 104, 102, 116, 99, 110].getD kind 0
def us : List ByteArray := [⟨#[]⟩, ⟨#[114, 48, 48, 110]⟩, ⟨#[114, 114, 48, 48]⟩, ⟨#[114, 114, 114, 48]⟩, ⟨#[114, 114, 114, 48]⟩, ⟨#[114, 114, 114, 48]⟩, ⟨#[114, 114, 114, 48]⟩, ⟨#[114, 114, 114, 48]⟩, ⟨#[114, 114, 114, 48]⟩, ⟨#[48, 48, 48, 116]⟩, ⟨#[114, 48, 48, 116]⟩, ⟨#[114, 114, 102, 48]⟩, ⟨#[48, 48, 48, 48]⟩, ⟨#[104, 114, 102, 48]⟩, ⟨#[114, 104, 48, 48]⟩, ⟨#[114, 48, 48, 48]⟩, ⟨#[48, 48, 48, 99]⟩, ⟨#[114, 48, 48, 48]⟩]
def usAt (op : Nat) : ByteArray := us.getD op ⟨#[]⟩

set_option maxHeartbeats 1000000 in
theorem uses_in (w : World) (op : Nat) (h1 : 1 ≤ op) (h2 : op ≤ 17) :
    Calls Tryd.prog 25 #[.int .i64 op] w fun e w' => e = .returned (.string (usAt op)) ∧ Fr None' w w' := by
  have hc : ∀ k, k < 18 → (us.map Value.string).toArray[k]? = some (.string (usAt k)) := fun k hk => by
    have hk' : k < us.length := hk
    rw [List.getElem?_toArray, List.getElem?_map, List.getElem?_eq_getElem hk']
    unfold usAt
    rw [List.getD_eq_getElem?_getD, List.getElem?_eq_getElem hk']
    rfl
  have hB := Blk.new w 9 (us.map Value.string).toArray
  have hcell : (w.alloc (.cells (us.map Value.string).toArray 9)).cell? ⟨w.heap.size, op, none⟩ = some (.string (usAt op)) := by rw [hB.cell]; exact hc op (by omega)
  simp only [us, List.map_cons, List.map_nil] at hcell
  clear hB hc
  go_enter Tryd.func25, Tryd.ntmps25
  go_wp2_with fail
  go_ret
  exact ⟨rfl, (Fr.refl _ _).alloc _⟩

theorem us_ix (op : Nat) (k : Nat) (h1 : 1 ≤ op) (h2 : op ≤ 17) (hk : k < 4) (W : World) : (Instr.index 9 (.string (usAt op)) (.int .i64 k)).run Tryd.prog W = .ok (.int .u8 (lt (kdAt op k) : Nat)) W := by
  have key : ∀ op, op < 18 → 1 ≤ op → ∀ k, k < 4 → (usAt op).size = 4 ∧ ((usAt op).data[k]?.map (·.toNat)) = some (lt (kdAt op k)) := by decide
  obtain rfl | rfl | rfl | rfl : k = 0 ∨ k = 1 ∨ k = 2 ∨ k = 3 := by omega
  all_goals
    obtain rfl | rfl | rfl | rfl | rfl | rfl | rfl | rfl | rfl | rfl | rfl | rfl | rfl | rfl | rfl | rfl | rfl : op = 1 ∨ op = 2 ∨ op = 3 ∨ op = 4 ∨ op = 5 ∨ op = 6 ∨ op = 7 ∨ op = 8 ∨ op = 9 ∨ op = 10 ∨ op = 11 ∨ op = 12 ∨ op = 13 ∨ op = 14 ∨ op = 15 ∨ op = 16 ∨ op = 17 := by omega
    all_goals rfl

set_option maxHeartbeats 4000000 in
set_option maxRecDepth 100000 in
theorem rins_no (w : World) (A : Option Addr) (n c : Nat) (f : Int) (x : Ins) (h : ¬ (1 ≤ x.op ∧ x.op ≤ 17)) :
    Calls Tryd.prog 18 #[.slice A n c, .int .i64 f, .agg #[.int .i64 x.op, .int .i64 x.a, .int .i64 x.b, .int .i64 x.c, .int .i64 x.k]] w fun e w' => e = .returned (.int .i64 4) ∧ Fr None' w w' := by
  by_cases h1 : x.op < 1
  · clear h
    go_enter Tryd.func18, Tryd.ntmps18
    go_wp2_with fail
    go_ret
    exact ⟨rfl, (Fr.refl _ _).alloc _⟩
  · have h2 : 17 < x.op := by omega
    clear h
    go_enter Tryd.func18, Tryd.ntmps18
    go_wp2_with fail
    go_ret
    exact ⟨rfl, (Fr.refl _ _).alloc _⟩

def IPost (w : World) (q : Int) (e : Ending) (w' : World) : Prop := e = .returned (.int .i64 q) ∧ Fr None' w w'

structure RIs (w : World) (b : Nat) (x : Ins) (op : Nat) (g : Nat) : Prop where
  ins : Blk w b 56 #[.int .i64 op, .int .i64 x.a, .int .i64 x.b, .int .i64 x.c, .int .i64 x.k]
  nums : Blk w g 3 #[.int .i64 x.a, .int .i64 x.b, .int .i64 x.c, .int .i64 x.k]
theorem RIs.fr {w w' : World} {b : Nat} {x : Ins} {op g : Nat} (h : RIs w b x op g) (hf : Fr None' w w') : RIs w' b x op g := ⟨h.ins.fr hf (fun h => h), h.nums.fr hf (fun h => h)⟩
theorem RIs.num {w : World} {b : Nat} {x : Ins} {op g : Nat} (h : RIs w b x op g) (k : Nat) (hk : k < 4) : w.cell? ⟨g, k, none⟩ = some (.int .i64 (x.num k)) := by
  rw [h.nums.cell]
  obtain rfl | rfl | rfl | rfl : k = 0 ∨ k = 1 ∨ k = 2 ∨ k = 3 := by omega
  all_goals rfl

set_option maxHeartbeats 16000000 in
set_option maxRecDepth 100000 in
theorem rins_in (w : World) (A : Option Addr) (c : Nat) (L : List LFn) (hR : FnRow w (fun b => b < w.heap.size) A L) (fi : Nat) (y : LFn) (hy : L[fi]? = some y) (hL : L.length ≤ 300) (hyl : y.f.code.length ≤ 600) (x : Ins) (op : Nat) (hxo : x.op = op) (h1 : 1 ≤ op) (h2 : op ≤ 17) :
    Calls Tryd.prog 18 #[.slice A L.length c, .int .i64 fi, .agg #[.int .i64 op, .int .i64 x.a, .int .i64 x.b, .int .i64 x.c, .int .i64 x.k]] w (IPost w (insE (fns L) y.f.code.length x)) := by
  have HR := Lib.hid hR
  have HY := Lib.hid hy
  have HXO := Lib.hid hxo
  have hfl : fi < L.length := (List.getElem?_eq_some_iff.1 hy).1
  obtain ⟨bb, boff, rfl, _, _, _, _⟩ := hR.at_ hy
  clear hR hy hxo
  go_enter Tryd.func18, Tryd.ntmps18
  go_wp2_with fail
  refine (uses_in _ op h1 h2).mono ?_
  rintro e w1 ⟨rfl, hF1⟩
  have hX : Blk w1 w.heap.size 56 #[.int .i64 op, .int .i64 x.a, .int .i64 x.b, .int .i64 x.c, .int .i64 x.k] := (Blk.new w _ _).fr hF1 (fun h => h)
  have x1 : w1.cell? ⟨w.heap.size, 1, none⟩ = some (.int .i64 x.a) := by rw [hX.cell]; rfl
  have x2 : w1.cell? ⟨w.heap.size, 2, none⟩ = some (.int .i64 x.b) := by rw [hX.cell]; rfl
  have x3 : w1.cell? ⟨w.heap.size, 3, none⟩ = some (.int .i64 x.c) := by rw [hX.cell]; rfl
  have x4 : w1.cell? ⟨w.heap.size, 4, none⟩ = some (.int .i64 x.k) := by rw [hX.cell]; rfl
  have HX := Lib.hid hX
  have HF1 := Lib.hid hF1
  clear hX hF1
  go_wp2_with fail
  go_loopw [9] (fun i wx => ∃ k : Nat, k ≤ 4 ∧ i = .int .i64 k ∧ Hid (∀ j, j < k → unusedE x j = 0) ∧ RIs wx w.heap.size x op w1.heap.size ∧ Fr None' w wx) (fun i _ => 4 - (intOf i).toNat)
  case atStart => exact ⟨0, by omega, rfl, Lib.hid (fun j h => by omega), ⟨HX.out.alloc _, Blk.new _ _ _⟩, (((Fr.refl _ _).alloc _).trans HF1.out).alloc _⟩
  case round =>
    obtain ⟨k, hk, rfl, HU, hI, hF⟩ := hrel
    have HI := Lib.hid hI
    have HF := Lib.hid hF
    clear hI hF x1 x2 x3 x4
    by_cases hk4 : k < 4
    · have hx := us_ix op k h1 h2 hk4
      have hn := HI.out.num k hk4
      have hu : (kdAt op k ≠ 0 ∨ x.num k = 0) → Hid (∀ j, j < k + 1 → unusedE x j = 0) := fun h => Lib.hid (fun j hj => by
        by_cases e : j = k
        · rw [e]; exact unused_yes HXO.out h
        · exact HU.out j (by omega))
      by_cases h0 : kdAt op k = 0
      · rw [h0, show lt 0 = 48 from rfl] at hx
        by_cases h3 : x.num k = 0
        · have HU' := hu (.inr h3)
          rw [h3] at hn
          clear h0 h3 hu
          go_wp2_with fail
          exact ⟨⟨k + 1, by omega, by go_num, HU', HI.out, HF.out⟩, by simp [intOf]; omega⟩
        · have hno := insE_unused (fs := fns L) (pl := y.f.code.length) (by rw [HXO.out]; omega) hk4 HU.out (unused_no HXO.out h0 h3)
          have HNO := Lib.hid hno
          have h3b : (x.num k == 0) = false := by simpa using h3
          clear h0 hu hno h3
          go_wp2_with fail
          go_ret
          exact ⟨by rw [HNO.out]; rfl, HF.out⟩
      · have HU' := hu (.inl h0)
        have hl : ∀ q, q ≤ 6 → q ≠ 0 → lt q ≠ 48 := by decide
        have hlb : ((lt (kdAt op k) : Nat) : Int) ≠ 48 := by have := hl _ (kd_le op (by omega) k hk4) h0; omega
        have hlb' : (((lt (kdAt op k) : Nat) : Int) == 48) = false := by simpa using hlb
        clear hu hl hlb
        go_wp2_with fail
        exact ⟨⟨k + 1, by omega, by go_num, HU', HI.out, HF.out⟩, by simp [intOf]; omega⟩
    · obtain rfl : k = 4 := by omega
      rw [show ((4 : Nat) : Int) = 4 from rfl]
      go_wp2_with fail
      obtain ⟨w2, hw2⟩ : ∃ w2, w2 = wr := ⟨_, rfl⟩
      subst hw2
      go_loopw [10] (fun i wx => ∃ k : Nat, k ≤ 4 ∧ i = .int .i64 k ∧ Hid (∀ j, j < k → fieldsE L.length y.f.code.length x j = 0) ∧ RIs wx w.heap.size x op w1.heap.size ∧ Fr None' w wx) (fun i _ => 4 - (intOf i).toNat)
      case atStart => exact ⟨0, by omega, rfl, Lib.hid (fun j h => by omega), HI.out, HF.out⟩
      case round =>
        clear HI HF
        obtain ⟨k, hk, rfl, HV, hI, hF⟩ := hrel
        have HI := Lib.hid hI
        have HF := Lib.hid hF
        clear hI hF
        by_cases hk4 : k < 4
        · have hx := us_ix op k h1 h2 hk4
          have hn := HI.out.num k hk4
          obtain ⟨b', off', he', _, _, p1, _⟩ := (HR.out.fr HF.out (fun _ _ h => h)).at_ HY.out
          simp only [Option.some.injEq, Addr.mk.injEq, and_true] at he'
          obtain ⟨rfl, rfl⟩ := he'
          have hv : fieldsE L.length y.f.code.length x k = 0 → Hid (∀ j, j < k + 1 → fieldsE L.length y.f.code.length x j = 0) := fun h => Lib.hid (fun j hj => by
            by_cases e : j = k
            · rw [e]; exact h
            · exact HV.out j (by omega))
          have hno : fieldsE L.length y.f.code.length x k ≠ 0 → insE (fns L) y.f.code.length x = fieldsE L.length y.f.code.length x k := fun h => by
            have := insE_field (fs := fns L) (pl := y.f.code.length) (x := x) (by rw [HXO.out]; omega) HU.out hk4 (by rw [fns_length]; exact HV.out) (by rw [fns_length]; exact h)
            rw [fns_length] at this
            exact this
          have hkk := kd_le op (by omega) k hk4
          obtain hkd | hkd | hkd | hkd | hkd | hkd | hkd : kdAt op k = 0 ∨ kdAt op k = 1 ∨ kdAt op k = 2 ∨ kdAt op k = 3 ∨ kdAt op k = 4 ∨ kdAt op k = 5 ∨ kdAt op k = 6 := by omega
          · -- kind 0
            have HV' := hv (by rw [field_at HXO.out, hkd]; rfl)
            rw [hkd, show lt 0 = 48 from rfl] at hx
            clear hv hno hkd
            go_wp2_with fail
            go_quiet (fail)
            go_wp2_with fail
            exact ⟨⟨k + 1, by omega, by go_num, HV', HI.out.fr ((Fr.refl None' _).drewN _), HF.out.drewN _⟩, by simp [intOf]; omega⟩
          · -- kind 1
            have hkE : fieldsE L.length y.f.code.length x k = rngE 0 8 6 (x.num k) := by rw [field_at HXO.out, hkd]; rfl
            rw [hkd, show lt 1 = 114 from rfl] at hx
            by_cases h3 : x.num k < 0
            · have HNO := Lib.hid (hno (by rw [hkE, rngE_out (by omega)]; decide))
              rw [hkE, rngE_out (by omega)] at HNO
              clear hv hno hkE hkd
              go_wp2_with fail
              go_ret
              exact ⟨by rw [HNO.out]; rfl, HF.out⟩
            · have h3' : 0 ≤ x.num k := by omega
              by_cases h4 : 7 < x.num k
              · have HNO := Lib.hid (hno (by rw [hkE, rngE_out (by omega)]; decide))
                rw [hkE, rngE_out (by omega)] at HNO
                clear hv hno hkE hkd
                go_wp2_with fail
                go_ret
                exact ⟨by rw [HNO.out]; rfl, HF.out⟩
              · have HV' := hv (by rw [hkE, rngE_in (by omega) (by omega)])
                clear hv hno hkE hkd
                go_wp2_with fail
                go_quiet (fail)
                go_wp2_with fail
                exact ⟨⟨k + 1, by omega, by go_num, HV', HI.out.fr ((Fr.refl None' _).drewN _), HF.out.drewN _⟩, by simp [intOf]; omega⟩
          · -- kind 2
            have hkE : fieldsE L.length y.f.code.length x k = rngE 0 4 6 (x.num k) := by rw [field_at HXO.out, hkd]; rfl
            rw [hkd, show lt 2 = 104 from rfl] at hx
            by_cases h3 : x.num k < 0
            · have HNO := Lib.hid (hno (by rw [hkE, rngE_out (by omega)]; decide))
              rw [hkE, rngE_out (by omega)] at HNO
              clear hv hno hkE hkd
              go_wp2_with fail
              go_ret
              exact ⟨by rw [HNO.out]; rfl, HF.out⟩
            · have h3' : 0 ≤ x.num k := by omega
              by_cases h4 : 3 < x.num k
              · have HNO := Lib.hid (hno (by rw [hkE, rngE_out (by omega)]; decide))
                rw [hkE, rngE_out (by omega)] at HNO
                clear hv hno hkE hkd
                go_wp2_with fail
                go_ret
                exact ⟨by rw [HNO.out]; rfl, HF.out⟩
              · have HV' := hv (by rw [hkE, rngE_in (by omega) (by omega)])
                clear hv hno hkE hkd
                go_wp2_with fail
                go_quiet (fail)
                go_wp2_with fail
                exact ⟨⟨k + 1, by omega, by go_num, HV', HI.out.fr ((Fr.refl None' _).drewN _), HF.out.drewN _⟩, by simp [intOf]; omega⟩
          · -- kind 3
            have hkE : fieldsE L.length y.f.code.length x k = rngE 0 L.length 5 (x.num k) := by rw [field_at HXO.out, hkd]; rfl
            rw [hkd, show lt 3 = 102 from rfl] at hx
            by_cases h3 : x.num k < 0
            · have HNO := Lib.hid (hno (by rw [hkE, rngE_out (by omega)]; decide))
              rw [hkE, rngE_out (by omega)] at HNO
              clear hv hno hkE hkd
              go_wp2_with fail
              go_ret
              exact ⟨by rw [HNO.out]; rfl, HF.out⟩
            · have h3' : 0 ≤ x.num k := by omega
              by_cases h4 : (L.length : Int) ≤ x.num k
              · have HNO := Lib.hid (hno (by rw [hkE, rngE_out (by omega)]; decide))
                rw [hkE, rngE_out (by omega)] at HNO
                clear hv hno hkE hkd
                go_wp2_with fail
                go_ret
                exact ⟨by rw [HNO.out]; rfl, HF.out⟩
              · have HV' := hv (by rw [hkE, rngE_in (by omega) (by omega)])
                clear hv hno hkE hkd
                go_wp2_with fail
                go_quiet (fail)
                go_wp2_with fail
                exact ⟨⟨k + 1, by omega, by go_num, HV', HI.out.fr ((Fr.refl None' _).drewN _), HF.out.drewN _⟩, by simp [intOf]; omega⟩
          · -- kind 4
            have hkE : fieldsE L.length y.f.code.length x k = rngE 0 y.f.code.length 6 (x.num k) := by rw [field_at HXO.out, hkd]; rfl
            rw [hkd, show lt 4 = 116 from rfl] at hx
            by_cases h3 : x.num k < 0
            · have HNO := Lib.hid (hno (by rw [hkE, rngE_out (by omega)]; decide))
              rw [hkE, rngE_out (by omega)] at HNO
              clear hv hno hkE hkd
              go_wp2_with fail
              go_quiet (fail)
              go_wp2_with fail
              go_ret
              exact ⟨by rw [HNO.out]; rfl, HF.out.drewN _⟩
            · have h3' : 0 ≤ x.num k := by omega
              by_cases h4 : (y.f.code.length : Int) ≤ x.num k
              · have HNO := Lib.hid (hno (by rw [hkE, rngE_out (by omega)]; decide))
                rw [hkE, rngE_out (by omega)] at HNO
                clear hv hno hkE hkd
                go_wp2_with fail
                go_quiet (fail)
                go_wp2_with fail
                go_ret
                exact ⟨by rw [HNO.out]; rfl, HF.out.drewN _⟩
              · have HV' := hv (by rw [hkE, rngE_in (by omega) (by omega)])
                clear hv hno hkE hkd
                go_wp2_with fail
                go_quiet (fail)
                go_wp2_with fail
                exact ⟨⟨k + 1, by omega, by go_num, HV', HI.out.fr ((Fr.refl None' _).drewN _), HF.out.drewN _⟩, by simp [intOf]; omega⟩
          · -- kind 5
            have hkE : fieldsE L.length y.f.code.length x k = rngE 16 2147483648 6 (x.num k) := by rw [field_at HXO.out, hkd]; rfl
            rw [hkd, show lt 5 = 99 from rfl] at hx
            by_cases h3 : x.num k < 16
            · have HNO := Lib.hid (hno (by rw [hkE, rngE_out (by omega)]; decide))
              rw [hkE, rngE_out (by omega)] at HNO
              clear hv hno hkE hkd
              go_wp2_with fail
              go_quiet (fail)
              go_wp2_with fail
              go_ret
              exact ⟨by rw [HNO.out]; rfl, HF.out.drewN _⟩
            · have h3' : 16 ≤ x.num k := by omega
              by_cases h4 : 2147483647 < x.num k
              · have HNO := Lib.hid (hno (by rw [hkE, rngE_out (by omega)]; decide))
                rw [hkE, rngE_out (by omega)] at HNO
                clear hv hno hkE hkd
                go_wp2_with fail
                go_quiet (fail)
                go_wp2_with fail
                go_ret
                exact ⟨by rw [HNO.out]; rfl, HF.out.drewN _⟩
              · have HV' := hv (by rw [hkE, rngE_in (by omega) (by omega)])
                clear hv hno hkE hkd
                go_wp2_with fail
                go_quiet (fail)
                go_wp2_with fail
                exact ⟨⟨k + 1, by omega, by go_num, HV', HI.out.fr ((Fr.refl None' _).drewN _), HF.out.drewN _⟩, by simp [intOf]; omega⟩
          · -- kind 6
            have hkE : fieldsE L.length y.f.code.length x k = rngE (-2147483648) 2147483648 6 (x.num k) := by rw [field_at HXO.out, hkd]; rfl
            rw [hkd, show lt 6 = 110 from rfl] at hx
            by_cases h3 : x.num k < (-2147483648)
            · have HNO := Lib.hid (hno (by rw [hkE, rngE_out (by omega)]; decide))
              rw [hkE, rngE_out (by omega)] at HNO
              clear hv hno hkE hkd
              go_wp2_with fail
              go_quiet (fail)
              go_wp2_with fail
              go_ret
              exact ⟨by rw [HNO.out]; rfl, HF.out.drewN _⟩
            · have h3' : (-2147483648) ≤ x.num k := by omega
              by_cases h4 : 2147483647 < x.num k
              · have HNO := Lib.hid (hno (by rw [hkE, rngE_out (by omega)]; decide))
                rw [hkE, rngE_out (by omega)] at HNO
                clear hv hno hkE hkd
                go_wp2_with fail
                go_quiet (fail)
                go_wp2_with fail
                go_ret
                exact ⟨by rw [HNO.out]; rfl, HF.out.drewN _⟩
              · have HV' := hv (by rw [hkE, rngE_in (by omega) (by omega)])
                clear hv hno hkE hkd
                go_wp2_with fail
                go_quiet (fail)
                go_wp2_with fail
                exact ⟨⟨k + 1, by omega, by go_num, HV', HI.out.fr ((Fr.refl None' _).drewN _), HF.out.drewN _⟩, by simp [intOf]; omega⟩
        · obtain rfl : k = 4 := by omega
          rw [show ((4 : Nat) : Int) = 4 from rfl]
          have hins := insE_call (fs := fns L) (pl := y.f.code.length) (x := x) (by rw [HXO.out]; omega) HU.out (by rw [fns_length]; exact HV.out)
          have HINS := Lib.hid hins
          clear hins
          have hx := us_ix op 2 h1 h2 (by omega)
          rw [show ((2 : Nat) : Int) = 2 from rfl] at hx
          have y2 : wr.cell? ⟨w.heap.size, 2, none⟩ = some (.int .i64 x.b) := by rw [HI.out.ins.cell]; rfl
          have y3 : wr.cell? ⟨w.heap.size, 3, none⟩ = some (.int .i64 x.c) := by rw [HI.out.ins.cell]; rfl
          by_cases hc : op = 11 ∨ op = 13
          · have hf2 := HV.out 2 (by omega)
            rw [(kd_call op (by omega)).1 hc, show lt 3 = 102 from rfl] at hx
            rw [field_at HXO.out, (kd_call op (by omega)).1 hc] at hf2
            have hb2 := HV.out 1 (by omega)
            rw [field_at HXO.out, kd_callB op (by omega) hc] at hb2
            have hcr : 0 ≤ x.c ∧ x.c < L.length := rngE_zero (e := 5) (by decide) hf2
            have hbr : 0 ≤ x.b ∧ x.b < 8 := rngE_zero (e := 6) (by decide) hb2
            clear hf2 hb2
            obtain ⟨j, hj⟩ := Int.eq_ofNat_of_zero_le hcr.1
            have hjl : j < L.length := by omega
            obtain ⟨z, hz⟩ : ∃ z, L[j]? = some z := ⟨_, List.getElem?_eq_getElem hjl⟩
            have HCA := Lib.hid (call_at HXO.out hc hj hz)
            obtain ⟨b', off', he', _, d0, _, _⟩ := (HR.out.fr HF.out (fun _ _ h => h)).at_ hz
            simp only [Option.some.injEq, Addr.mk.injEq, and_true] at he'
            obtain ⟨rfl, rfl⟩ := he'
            rw [hj] at y3
            clear hj hz hcr hc
            have hwr : IntKind.i64.wrap (8 - x.b) = 8 - x.b := IntWalk.i64_in _ (by omega)
            by_cases har : z.f.arity ≤ 8 - x.b
            · have HZ : Hid (insE (fns L) y.f.code.length x = 0) := Lib.hid (by rw [HINS.out, HCA.out, if_pos har])
              have hd : decide (8 - x.b < z.f.arity) = false := decide_eq_false (by omega)
              clear HINS HCA HV HU HI HR HX HF1 HXO har
              go_wp2_with fail
              go_quiet (fail)
              go_wp2_with fail
              go_ret
              exact ⟨by rw [HZ.out]; rfl, HF.out.drewN _⟩
            · have HZ : Hid (insE (fns L) y.f.code.length x = 6) := Lib.hid (by rw [HINS.out, HCA.out, if_neg har])
              have hd : decide (8 - x.b < z.f.arity) = true := decide_eq_true (by omega)
              clear HINS HCA HV HU HI HR HX HF1 HXO har
              go_wp2_with fail
              go_quiet (fail)
              go_wp2_with fail
              go_ret
              exact ⟨by rw [HZ.out]; rfl, HF.out.drewN _⟩
          · have hne : kdAt op 2 ≠ 3 := fun h => hc ((kd_call op (by omega)).2 h)
            have hl : ∀ q, q ≤ 6 → q ≠ 3 → lt q ≠ 102 := by decide
            have hlb : (((lt (kdAt op 2) : Nat) : Int) == 102) = false := by
              have := hl _ (kd_le op (by omega) 2 (by omega)) hne
              simp; omega
            have HN := Lib.hid (call_none (fs := fns L) HXO.out (by omega) (by omega))
            clear hc hl hne
            go_wp2_with fail
            go_quiet (fail)
            go_wp2_with fail
            go_ret
            exact ⟨by rw [HINS.out, HN.out]; rfl, HF.out.drewN _⟩

theorem rins_any (w : World) (A : Option Addr) (c : Nat) (L : List LFn) (hR : FnRow w (fun b => b < w.heap.size) A L) (fi : Nat) (y : LFn) (hy : L[fi]? = some y) (hL : L.length ≤ 300) (hyl : y.f.code.length ≤ 600) (x : Ins) :
    Calls Tryd.prog 18 #[.slice A L.length c, .int .i64 fi, .agg #[.int .i64 x.op, .int .i64 x.a, .int .i64 x.b, .int .i64 x.c, .int .i64 x.k]] w (IPost w (insE (fns L) y.f.code.length x)) := by
  by_cases h : 1 ≤ x.op ∧ x.op ≤ 17
  · obtain ⟨op, ho⟩ := Int.eq_ofNat_of_zero_le (show 0 ≤ x.op by omega)
    have := rins_in w A c L hR fi y hy hL hyl x op ho (by omega) (by omega)
    rw [← ho] at this
    exact this
  · have e : insE (fns L) y.f.code.length x = 4 := by unfold insE; exact if_neg h
    rw [e]
    exact rins_no w A L.length c fi x h
end Go.Proofs.YtjfeoigclkelfaaDoor
