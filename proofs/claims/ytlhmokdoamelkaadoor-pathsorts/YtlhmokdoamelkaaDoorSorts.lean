/-
  haymowlaw05.PathSorts returns true for every path, number and two kids.
-/
import Derived.Test.YtlhmokdoamelkaaDoorAppI
import Derived.Test.YtlhmokdoamelkaaDoorLaidP
import Derived.Test.YtlhmokdoamelkaaDoorTie
import Derived.Test.YtlhmokdoamelkaaDoorCards
import Derived.ShutString
import Derived.ChangeOld
import Derived.SevenTiedAt
import Derived.Lib.SmallJoins
namespace Go.Proofs.YtlhmokdoamelkaaDoor.pathSorts
open Go.ChangeShapes Go.WideShapes Go.ChangeAt Go.RowKit
open Go.ChangeMaps (open_string shut_string)

theorem kids_no (p : List Int) (kid o : Int) (h : ¬ kid < o) : (cmpL (p ++ [kid]) (p ++ [o]) == -1) = false := by
  have := mt (cmpL_kids p kid o).1 h
  simpa using this

set_option maxHeartbeats 16000000 in
set_option maxRecDepth 100000 in
theorem walk (w : World) (A : Option Addr) (n c : Nat) (xs : List Int) (hx : ArgR w A n c xs) (nn kid oth : Nat) (h1 : nn < 4294967296) (h2 : kid < 4294967296) (h3 : oth < 4294967296) :
    Calls Tryd.prog 8 #[.agg #[.slice A n c, .int .u32 nn, .int .u32 kid, .int .u32 oth]] w fun e w' => e = .returned (.bool true) ∧ Fr (fun _ => False) w w' := by
  have HX := Lib.hid hx.1
  have hnc := hx.2.1
  have hxl := hx.1.1
  clear hx
  have HB := Lib.hid (Blk.new w 39 #[.slice A n c, .int .u32 nn, .int .u32 kid, .int .u32 oth])
  have HF := Lib.hid ((Fr.refl None' w).alloc (.cells #[.slice A n c, .int .u32 nn, .int .u32 kid, .int .u32 oth] 39))
  have c0 := HB.out.cell 0
  have c1 := HB.out.cell 1
  have c2 := HB.out.cell 2
  have c3 := HB.out.cell 3
  simp only [List.getElem?_toArray, List.getElem?_cons_zero, List.getElem?_cons_succ] at c0 c1 c2 c3
  go_enter Tryd.func8, Tryd.ntmps8
  go_wp2_with fail
  go_quiet (fail)
  have HFq := Lib.hid (HF.out.drewN nq)
  clear HF HB c0 c1 c2 c3
  generalize ((w.alloc (.cells #[.slice A n c, .int .u32 nn, .int .u32 kid, .int .u32 oth] 39)).drewN nq) = wi at HFq ⊢
  by_cases hn : n ≤ 50
  · have g1 : ¬ (50 : Int) < (n : Int) := by omega
    have own0 := World.ownsRow_made (base := wi.heap.size) (e := 3) (size := 1) wi #[] 0 (Nat.le_refl _) (by unfold maxLen; omega) rfl
    have hr0 : Ints (wi.alloc (.cells #[] 3)) A n xs := (HX.out.fr HFq.out).fr ((Fr.refl None' _).alloc _)
    go_wp2_with (at_builtin; refine app_int rfl (.tmp 23) (.tmp 24) rfl wi.heap.size _ 0 [] rfl own0 A n c xs rfl hr0 ?c1 ((Fr.refl None' _).alloc _).size ?_)
    case c1 => omega
    intro A1 c1 w1 own1 hF1
    have HF1 := Lib.hid (hF1 _ (Nat.le_refl _) ((Fr.refl None' _).alloc _))
    have own1 : w1.ownsRow wi.heap.size 3 1 (.slice A1 n c1) n (ic xs) := by simpa [ic] using own1
    have own2 := own_fr' own1 ((Fr.refl None' w1).alloc (.cells #[.int .i64 (nn : Int)] 3)) (fun _ _ h => h)
    have hr1 := (ints1 w1 [(nn : Int)] #[.int .i64 (nn : Int)] rfl 1 rfl).1
    have hsz : wi.heap.size ≤ (w1.alloc (.cells #[.int .i64 (nn : Int)] 3)).heap.size := by have := HF1.out.size; simp; omega
    clear own0 hr0 hF1 own1
    go_wp2_with (at_builtin; refine app_int rfl (.tmp 25) (.tmp 28) rfl wi.heap.size _ n xs rfl own2 _ 1 _ [(nn : Int)] rfl hr1 ?d1 hsz ?_)
    case d1 => omega
    intro Aa ca wa own3 hF3
    have HF3 := Lib.hid (hF3 _ (Nat.le_refl _) (HF1.out.alloc _))
    have Ha : Hid (Ints wa Aa (n + 1) (xs ++ [(nn : Int)])) := Lib.hid (Ints.of_own (base := wi.heap.size) (c := ca) (by simpa [ic] using own3))
    replace HFq := Lib.hid (HFq.out.trans HF3.out)
    clear own2 own3 hF3 hr1 hsz HF1 HF3
    have own0 := World.ownsRow_made (base := wa.heap.size) (e := 3) (size := 1) wa #[] 0 (Nat.le_refl _) (by unfold maxLen; omega) rfl
    have hr0 : Ints (wa.alloc (.cells #[] 3)) A n xs := (HX.out.fr HFq.out).fr ((Fr.refl None' _).alloc _)
    go_wp2_with (at_builtin; refine app_int rfl (.tmp 30) (.tmp 31) rfl wa.heap.size _ 0 [] rfl own0 A n c xs rfl hr0 ?c1 ((Fr.refl None' _).alloc _).size ?_)
    case c1 => omega
    intro A1 c1 w1 own1 hF1
    have HF1 := Lib.hid (hF1 _ (Nat.le_refl _) ((Fr.refl None' _).alloc _))
    have own1 : w1.ownsRow wa.heap.size 3 1 (.slice A1 n c1) n (ic xs) := by simpa [ic] using own1
    have own2 := own_fr' own1 ((Fr.refl None' w1).alloc (.cells #[.int .i64 ((nn : Int) + 1)] 3)) (fun _ _ h => h)
    have hr1 := (ints1 w1 [((nn : Int) + 1)] #[.int .i64 ((nn : Int) + 1)] rfl 1 rfl).1
    have hsz : wa.heap.size ≤ (w1.alloc (.cells #[.int .i64 ((nn : Int) + 1)] 3)).heap.size := by have := HF1.out.size; simp; omega
    clear own0 hr0 hF1 own1
    go_wp2_with (at_builtin; refine app_int rfl (.tmp 32) (.tmp 36) rfl wa.heap.size _ n xs rfl own2 _ 1 _ [((nn : Int) + 1)] rfl hr1 ?d1 hsz ?_)
    case d1 => omega
    intro Ab cb wb own3 hF3
    have HF3 := Lib.hid (hF3 _ (Nat.le_refl _) (HF1.out.alloc _))
    have Hb : Hid (Ints wb Ab (n + 1) (xs ++ [((nn : Int) + 1)])) := Lib.hid (Ints.of_own (base := wa.heap.size) (c := cb) (by simpa [ic] using own3))
    replace Ha := Lib.hid (Ha.out.fr HF3.out)
    replace HFq := Lib.hid (HFq.out.trans HF3.out)
    clear own2 own3 hF3 hr1 hsz HF1 HF3
    have own0 := World.ownsRow_made (base := wb.heap.size) (e := 3) (size := 1) wb #[] 0 (Nat.le_refl _) (by unfold maxLen; omega) rfl
    have hr0 : Ints (wb.alloc (.cells #[] 3)) Aa (n + 1) (xs ++ [(nn : Int)]) := (Ha.out).fr ((Fr.refl None' _).alloc _)
    go_wp2_with (at_builtin; refine app_int rfl (.tmp 38) (.tmp 39) rfl wb.heap.size _ 0 [] rfl own0 Aa (n + 1) ca (xs ++ [(nn : Int)]) rfl hr0 ?c1 ((Fr.refl None' _).alloc _).size ?_)
    case c1 => omega
    intro A1 c1 w1 own1 hF1
    have HF1 := Lib.hid (hF1 _ (Nat.le_refl _) ((Fr.refl None' _).alloc _))
    have own1 : w1.ownsRow wb.heap.size 3 1 (.slice A1 (n + 1) c1) (n + 1) (ic (xs ++ [(nn : Int)])) := by simpa [ic] using own1
    have own2 := own_fr' own1 ((Fr.refl None' w1).alloc (.cells #[.int .i64 (kid : Int)] 3)) (fun _ _ h => h)
    have hr1 := (ints1 w1 [(kid : Int)] #[.int .i64 (kid : Int)] rfl 1 rfl).1
    have hsz : wb.heap.size ≤ (w1.alloc (.cells #[.int .i64 (kid : Int)] 3)).heap.size := by have := HF1.out.size; simp; omega
    clear own0 hr0 hF1 own1
    go_wp2_with (at_builtin; refine app_int rfl (.tmp 40) (.tmp 43) rfl wb.heap.size _ (n + 1) (xs ++ [(nn : Int)]) rfl own2 _ 1 _ [(kid : Int)] rfl hr1 ?d1 hsz ?_)
    case d1 => omega
    intro Ax cx wx own3 hF3
    have HF3 := Lib.hid (hF3 _ (Nat.le_refl _) (HF1.out.alloc _))
    have Hx : Hid (Ints wx Ax ((n + 1) + 1) ((xs ++ [(nn : Int)]) ++ [(kid : Int)])) := Lib.hid (Ints.of_own (base := wb.heap.size) (c := cx) (by simpa [ic] using own3))
    replace Ha := Lib.hid (Ha.out.fr HF3.out)
    replace Hb := Lib.hid (Hb.out.fr HF3.out)
    replace HFq := Lib.hid (HFq.out.trans HF3.out)
    clear own2 own3 hF3 hr1 hsz HF1 HF3
    have own0 := World.ownsRow_made (base := wx.heap.size) (e := 3) (size := 1) wx #[] 0 (Nat.le_refl _) (by unfold maxLen; omega) rfl
    have hr0 : Ints (wx.alloc (.cells #[] 3)) Aa (n + 1) (xs ++ [(nn : Int)]) := (Ha.out).fr ((Fr.refl None' _).alloc _)
    go_wp2_with (at_builtin; refine app_int rfl (.tmp 45) (.tmp 46) rfl wx.heap.size _ 0 [] rfl own0 Aa (n + 1) ca (xs ++ [(nn : Int)]) rfl hr0 ?c1 ((Fr.refl None' _).alloc _).size ?_)
    case c1 => omega
    intro A1 c1 w1 own1 hF1
    have HF1 := Lib.hid (hF1 _ (Nat.le_refl _) ((Fr.refl None' _).alloc _))
    have own1 : w1.ownsRow wx.heap.size 3 1 (.slice A1 (n + 1) c1) (n + 1) (ic (xs ++ [(nn : Int)])) := by simpa [ic] using own1
    have own2 := own_fr' own1 ((Fr.refl None' w1).alloc (.cells #[.int .i64 (oth : Int)] 3)) (fun _ _ h => h)
    have hr1 := (ints1 w1 [(oth : Int)] #[.int .i64 (oth : Int)] rfl 1 rfl).1
    have hsz : wx.heap.size ≤ (w1.alloc (.cells #[.int .i64 (oth : Int)] 3)).heap.size := by have := HF1.out.size; simp; omega
    clear own0 hr0 hF1 own1
    go_wp2_with (at_builtin; refine app_int rfl (.tmp 47) (.tmp 50) rfl wx.heap.size _ (n + 1) (xs ++ [(nn : Int)]) rfl own2 _ 1 _ [(oth : Int)] rfl hr1 ?d1 hsz ?_)
    case d1 => omega
    intro Ay cy wy own3 hF3
    have HF3 := Lib.hid (hF3 _ (Nat.le_refl _) (HF1.out.alloc _))
    have Hy : Hid (Ints wy Ay ((n + 1) + 1) ((xs ++ [(nn : Int)]) ++ [(oth : Int)])) := Lib.hid (Ints.of_own (base := wx.heap.size) (c := cy) (by simpa [ic] using own3))
    replace Ha := Lib.hid (Ha.out.fr HF3.out)
    replace Hb := Lib.hid (Hb.out.fr HF3.out)
    replace Hx := Lib.hid (Hx.out.fr HF3.out)
    replace HFq := Lib.hid (HFq.out.trans HF3.out)
    clear own2 own3 hF3 hr1 hsz HF1 HF3
    have own0 := World.ownsRow_made (base := wy.heap.size) (e := 3) (size := 1) wy #[] 0 (Nat.le_refl _) (by unfold maxLen; omega) rfl
    have hr0 : Ints (wy.alloc (.cells #[] 3)) Ab (n + 1) (xs ++ [(nn : Int) + 1]) := (Hb.out).fr ((Fr.refl None' _).alloc _)
    go_wp2_with (at_builtin; refine app_int rfl (.tmp 52) (.tmp 53) rfl wy.heap.size _ 0 [] rfl own0 Ab (n + 1) cb (xs ++ [(nn : Int) + 1]) rfl hr0 ?c1 ((Fr.refl None' _).alloc _).size ?_)
    case c1 => omega
    intro A1 c1 w1 own1 hF1
    have HF1 := Lib.hid (hF1 _ (Nat.le_refl _) ((Fr.refl None' _).alloc _))
    have own1 : w1.ownsRow wy.heap.size 3 1 (.slice A1 (n + 1) c1) (n + 1) (ic (xs ++ [(nn : Int) + 1])) := by simpa [ic] using own1
    have own2 := own_fr' own1 ((Fr.refl None' w1).alloc (.cells #[.int .i64 (oth : Int)] 3)) (fun _ _ h => h)
    have hr1 := (ints1 w1 [(oth : Int)] #[.int .i64 (oth : Int)] rfl 1 rfl).1
    have hsz : wy.heap.size ≤ (w1.alloc (.cells #[.int .i64 (oth : Int)] 3)).heap.size := by have := HF1.out.size; simp; omega
    clear own0 hr0 hF1 own1
    go_wp2_with (at_builtin; refine app_int rfl (.tmp 54) (.tmp 57) rfl wy.heap.size _ (n + 1) (xs ++ [(nn : Int) + 1]) rfl own2 _ 1 _ [(oth : Int)] rfl hr1 ?d1 hsz ?_)
    case d1 => omega
    intro Az cz wz own3 hF3
    have HF3 := Lib.hid (hF3 _ (Nat.le_refl _) (HF1.out.alloc _))
    have Hz : Hid (Ints wz Az ((n + 1) + 1) ((xs ++ [(nn : Int) + 1]) ++ [(oth : Int)])) := Lib.hid (Ints.of_own (base := wy.heap.size) (c := cz) (by simpa [ic] using own3))
    replace Ha := Lib.hid (Ha.out.fr HF3.out)
    replace Hb := Lib.hid (Hb.out.fr HF3.out)
    replace Hx := Lib.hid (Hx.out.fr HF3.out)
    replace Hy := Lib.hid (Hy.out.fr HF3.out)
    replace HFq := Lib.hid (HFq.out.trans HF3.out)
    clear own2 own3 hF3 hr1 hsz HF1 HF3
    have HXz := Lib.hid (HX.out.fr HFq.out)
    go_wp2_with fail
    refine (cmp_any _ A c xs n HXz.out Aa ca (xs ++ [(nn : Int)]) (n + 1) Ha.out (by omega) (by omega)).mono ?_
    rintro e wz ⟨rfl, rfl⟩
    rw [cmpL_kid]
    go_wp2_with fail
    refine (cmp_any _ Aa ca (xs ++ [(nn : Int)]) (n + 1) Ha.out Ax cx (xs ++ [(nn : Int)] ++ [(kid : Int)]) (n + 1 + 1) Hx.out (by omega) (by omega)).mono ?_
    rintro e wz ⟨rfl, rfl⟩
    rw [cmpL_kid]
    go_wp2_with fail
    refine (cmp_any _ Ax cx (xs ++ [(nn : Int)] ++ [(kid : Int)]) (n + 1 + 1) Hx.out Ab cb (xs ++ [(nn : Int) + 1]) (n + 1) Hb.out (by omega) (by omega)).mono ?_
    rintro e wz ⟨rfl, rfl⟩
    rw [cmpL_next]
    go_wp2_with fail
    refine (cmp_any _ Ax cx (xs ++ [(nn : Int)] ++ [(kid : Int)]) (n + 1 + 1) Hx.out Az cz (xs ++ [(nn : Int) + 1] ++ [(oth : Int)]) (n + 1 + 1) Hz.out (by omega) (by omega)).mono ?_
    rintro e wz ⟨rfl, rfl⟩
    rw [cmpL_next2]
    go_wp2_with fail
    refine (cmp_any _ Ax cx (xs ++ [(nn : Int)] ++ [(kid : Int)]) (n + 1 + 1) Hx.out Ay cy (xs ++ [(nn : Int)] ++ [(oth : Int)]) (n + 1 + 1) Hy.out (by omega) (by omega)).mono ?_
    rintro e wz ⟨rfl, rfl⟩
    by_cases hko : kid < oth
    · have hko' : (kid : Int) < (oth : Int) := by omega
      rw [(cmpL_kids (xs ++ [(nn : Int)]) kid oth).2 hko']
      go_wp2_with fail
      refine (awake_any _).mono ?_
      rintro e wz2 ⟨rfl, hF3⟩
      have HF3 := Lib.hid (HFq.out.trans hF3)
      clear hF3
      go_wp2_with fail
      go_ret
      exact ⟨rfl, HF3.out⟩
    · have hko' : ¬ (kid : Int) < (oth : Int) := by omega
      have hk2 := kids_no (xs ++ [(nn : Int)]) kid oth hko'
      generalize cmpL (xs ++ [(nn : Int)] ++ [(kid : Int)]) (xs ++ [(nn : Int)] ++ [(oth : Int)]) = r at hk2 ⊢
      go_wp2_with fail
      refine (awake_any _).mono ?_
      rintro e wz2 ⟨rfl, hF3⟩
      have HF3 := Lib.hid (HFq.out.trans hF3)
      clear hF3
      go_wp2_with fail
      go_ret
      exact ⟨rfl, HF3.out⟩
  · have g1 : (50 : Int) < (n : Int) := by omega
    go_wp2_with fail
    go_ret
    exact ⟨rfl, HFq.out⟩

theorem open_kids {H : Type} {enc : TypeId × Value → H} {W : World} {base b0 : Nat} {spare : Nat → Bool} {held : Bool} {r : Reach} {v : Value} {d : DataW H} {p : List MemPlace} (hv : Value.okWide Tryd.prog W r b0 39 v) (h : DataW.Trod enc Tryd.prog W base spare held 39 v d p) :
    ∃ z : (Option Addr × Nat × Nat) × List Int × Int × Int × Int, v = .agg #[.slice z.1.1 z.1.2.1 z.1.2.2, .int .u32 z.2.2.1, .int .u32 z.2.2.2.1, .int .u32 z.2.2.2.2] ∧ ArgR W z.1.1 z.1.2.1 z.1.2.2 z.2.1 ∧ (Lit.int .u32 z.2.2.1).wf = true ∧ (Lit.int .u32 z.2.2.2.1).wf = true ∧ (Lit.int .u32 z.2.2.2.2).wf = true := by
  obtain ⟨c0, c1, c2, c3, y0, y1, y2, y3, m, rfl, _, _, h0, h1, h2, h3⟩ := Go.Joins.open_agg4 Tryd.underlying39 (by kernel_rfl) (by kernel_rfl) hv h
  obtain ⟨a1, e1, _, w1⟩ := DataW.trod_int Tryd.underlying34 h1
  obtain ⟨a2, e2, _, w2⟩ := DataW.trod_int Tryd.underlying34 h2
  obtain ⟨a3, e3, _, w3⟩ := DataW.trod_int Tryd.underlying34 h3
  simp at e1 e2 e3
  subst e1 e2 e3
  have hs : ∃ a len cap, c0 = .slice a len cap := by
    rcases open_ints Tryd.underlying22 Tryd.underlying3 (by kernel_rfl) h0 with ⟨hcs, _⟩ | ⟨x, l, c, zs, hcs, _⟩
    · simp at hcs; exact ⟨_, _, _, hcs⟩
    · simp at hcs; exact ⟨_, _, _, hcs⟩
  obtain ⟨a, len, cap, rfl⟩ := hs
  obtain ⟨zs, hz⟩ := open_row (d := y0.1) (p := y0.2) ⟨m, by simpa [Value.cells] using h0⟩
  exact ⟨((a, len, cap), zs, a1, a2, a3), rfl, hz, w1, w2, w3⟩

theorem walked (z : (Option Addr × Nat × Nat) × List Int × Int × Int × Int) (w : World) (hz : ArgR w z.1.1 z.1.2.1 z.1.2.2 z.2.1 ∧ (Lit.int .u32 z.2.2.1).wf = true ∧ (Lit.int .u32 z.2.2.2.1).wf = true ∧ (Lit.int .u32 z.2.2.2.2).wf = true) (_ : Laid w) :
    Calls Tryd.prog 8 #[.agg #[.slice z.1.1 z.1.2.1 z.1.2.2, .int .u32 z.2.2.1, .int .u32 z.2.2.2.1, .int .u32 z.2.2.2.2]] w fun e w' => e = .returned (.bool true) ∧ Below w.heap.size w w' := by
  obtain ⟨⟨a, len, cap⟩, zs, x, y, u⟩ := z
  obtain ⟨hz, hx, hy, hu⟩ := hz
  have b1 : 0 ≤ x ∧ x ≤ 4294967295 := bounds_u32 hx
  have b2 : 0 ≤ y ∧ y ≤ 4294967295 := bounds_u32 hy
  have b3 : 0 ≤ u ∧ u ≤ 4294967295 := bounds_u32 hu
  obtain ⟨i, rfl⟩ := Int.eq_ofNat_of_zero_le b1.1
  obtain ⟨j, rfl⟩ := Int.eq_ofNat_of_zero_le b2.1
  obtain ⟨k, rfl⟩ := Int.eq_ofNat_of_zero_le b3.1
  exact (walk w a len cap zs hz i j k (by omega) (by omega) (by omega)).mono fun _ _ ⟨he, hF⟩ => ⟨he, hF.below (Nat.le_refl _) (fun _ h => h.elim)⟩

set_option maxRecDepth 100000 in
theorem lifted (os : Os) (started : os.Started) (H : Type) (enc : TypeId × Value → H) :
    ReturnsInHanded {} Tryd.checked os 8 .any (fun w args => (Rows.pathSortsSpec.pre enc Tryd.prog Tryd.f8 [] false w args ∧ laidMetH Tryd.prog laidN w) ∧ sizedMet enc Tryd.prog Tryd.f8 (OpenSpec.ofChange Rows.pathSortsSpec) false w args)
      (Rows.pathSortsSpec.post enc Tryd.prog Tryd.f8 false true false false) := by
  refine returnsInHanded_of_change_and (C := Tryd.checked) (X := fun w _ => laidMetH Tryd.prog laidN w) (fun _ _ _ hh h => h.of_heap hh) own started (by kernel_rfl) Tryd.func8
    (ChangeSpec.witness_shaped (enc := enc) (C := Tryd.checked) (os := os) (X := fun w _ => laidMetH Tryd.prog laidN w) false (World.doorLaid Tryd.prog 400 os) #[.agg #[.slice none 0 0, .int .u32 0, .int .u32 0, .int .u32 0]] 8 rfl (World.shaped_of_RefB (by kernel_rfl) (by kernel_rfl)) (by kernel_rfl) (by kernel_rfl) (by kernel_rfl) (door_met os _)) ?_
  intro W base args ds gs before hval0 hW _ _ hL _
  have hval : ∀ (j : Nat) t v, Tryd.f8.params[j]? = some t → args[j]? = some v → Value.okWide Tryd.prog W .any base t v := hval0
  have hW' := hW
  obtain ⟨p, q, hA0, hV, rfl, hfz, hnd⟩ := hW
  have hA : DataW.TrodAll enc Tryd.prog W 0 (fun _ => true) true Tryd.f8.params.toList args.toList ds p := hA0
  rw [Tryd.params8] at hA hval
  obtain ⟨v0, vs0, d0, ds0, p0, q0, hargs, rfl, rfl, h0, r0⟩ := trodAll_cons hA
  obtain ⟨rfl, rfl, rfl⟩ := trodAll_nil r0
  obtain rfl : args = #[v0] := by cases args; simp_all
  obtain ⟨rfl, rfl⟩ := trodVars_none hV
  have k0 := h0
  have lt0 : ∀ x ∈ p0, x.block < W.heap.size := by obtain ⟨m, hm⟩ := k0; exact DataW.trod_lt m _ _ _ hm
  obtain ⟨z0, rfl, w0⟩ := open_kids (hval 0 39 v0 rfl rfl) h0
  clear hA0 hval0
  refine (walked z0 W w0 (of_laid hL)).mono fun e W' ⟨he, bel⟩ => ?_
  subst he
  exact ⟨_, rfl, _, _, _, [], _, [], hW', trodAll_mk1 (shut_bool Tryd.underlying4 _), (trodAll_cons_mk (Below.trod laidOut (by kernel_rfl) (of_decide_eq_true (by kernel_rfl)) k0 bel lt0) trodAll_mk0), rfl, bel.frame _, fun h => by cases h⟩

theorem over : Rows.PathSortsSaid :=
  OpenClaim.holds_of_wide 8 Tryd.f8 rfl rfl rfl rfl rfl rfl rfl ⟨rfl, rfl, rfl, rfl, rfl⟩ rfl rfl rfl rfl rfl (by kernel_rfl) Tryd.func8 (by kernel_rfl)
    (of_decide_eq_true (by kernel_rfl)) (by unfold Func.isWrapper; first | (rw [if_pos (by decide +kernel)]; kernel_rfl) | (rw [if_neg (by decide +kernel)]; exact ⟨rfl, rfl⟩))
    (fun os started H enc _ => lifted os started H enc)

/-- The statement: the row, and what it lists tied to the program's text. -/
theorem proved : Rows.PathSortsCardSaid :=
  Claim7.holds_tied_plain_at .later [] [.data, .data, .data] true (true, "3104680c1f228efd10334e66c46e6116db24ee6cb05c0589596e48fdbe4e830e") false
    over (fun _ h => by cases h) (by kernel_rfl) (fun _ h => by cases h) pathSorts_row_tie rfl ⟨rfl, rfl⟩ (by kernel_rfl) rfl
    (fun f fn hf hfn => by
      obtain rfl : f = 8 := Option.some.inj ((show Tryd.prog.funcNamed "haymow/haymowlaw05.PathSorts" = some 8 by kernel_rfl).symm.trans hf) |>.symm
      obtain rfl : fn = Tryd.f8 := (Option.some.inj (Tryd.func8.symm.trans hfn)).symm
      exact ⟨by kernel_rfl, fun j t ht => by
        rw [Tryd.params8] at ht
        match j, ht with
        | 0, ht =>
          obtain rfl : t = 39 := by simpa using ht.symm
          exact (show Tryd.prog.wantsStandIn 39 = false by kernel_rfl)
        | j + 1, ht => simp at ht⟩)
    (by kernel_rfl)
#print axioms proved
end Go.Proofs.YtlhmokdoamelkaaDoor.pathSorts
