/-
  haymowlaw05.PathBack returns true for every row of numbers.
-/
import Derived.Test.YtlhmokdoamelkaaDoorTabP
import Derived.Test.YtlhmokdoamelkaaDoorAppI
import Derived.Test.YtlhmokdoamelkaaDoorTie
import Derived.Test.YtlhmokdoamelkaaDoorCards
import Derived.ShutString
import Derived.ChangeOld
import Derived.SevenTiedAt
namespace Go.Proofs.YtlhmokdoamelkaaDoor.pathBack
open Go.ChangeShapes Go.WideShapes Go.ChangeAt Go.RowKit
open Go.ChangeMaps (open_string shut_string)

/-- A slice of uint32s that came in. -/
def ArgU (w : World) (a : Option Addr) (len cap : Nat) (zs : List Nat) : Prop :=
  zs.length = len ∧ len ≤ cap ∧ (∀ z ∈ zs, z < 4294967296) ∧ (0 < len → ∃ b off, a = some ⟨b, off, none⟩ ∧ ∀ (j x : Nat), zs[j]? = some x → w.cell? ⟨b, off + j, none⟩ = some (.int .u32 (x : Int)))

theorem open_rowU {H : Type} {enc : TypeId × Value → H} {w : World} {base : Nat} {spare : Nat → Bool} {held : Bool} {a : Option Addr} {len cap : Nat} {d : DataW H} {p : List MemPlace}
    (h : DataW.Trod enc Tryd.prog w base spare held 33 (.slice a len cap) d p) : ∃ zs, ArgU w a len cap zs := by
  obtain ⟨fuel, hf⟩ := h
  rcases open_ints Tryd.underlying33 Tryd.underlying34 (by kernel_rfl) hf with ⟨hcs, _⟩ | ⟨x, l, c, zs, hcs, _, hl, hm, hz, _, hcell, hwz⟩
  · simp [Value.cells] at hcs
    obtain ⟨rfl, rfl, rfl⟩ := hcs
    exact ⟨[], rfl, Nat.le_refl _, fun z hz => by simp at hz, fun h => absurd h (by omega)⟩
  · simp [Value.cells] at hcs
    obtain ⟨rfl, rfl, rfl⟩ := hcs
    have hz' : len ≤ zs.length := by
      rw [hz]; split
      · exact hl
      · exact Nat.le_refl _
    refine ⟨(zs.take len).map Int.toNat, by rw [List.length_map, List.length_take]; omega, hl, fun z hz2 => ?_, fun h0 => ?_⟩
    · obtain ⟨y, hy, rfl⟩ := List.mem_map.1 hz2
      have := bounds_u32 (hwz y (List.mem_of_mem_take hy))
      omega
    have hc0 := hcell 0 (by omega)
    obtain ⟨b, off, spot⟩ := x
    have hspot : spot = none := by simpa [Addr.add] using World.cell?_spot hc0
    subst hspot
    refine ⟨b, off, rfl, fun j y hy => ?_⟩
    rw [List.getElem?_map, List.getElem?_take] at hy
    split at hy
    · cases hzj : zs[j]? with
      | none => rw [hzj] at hy; cases hy
      | some z =>
        rw [hzj] at hy
        simp only [Option.map_some, Option.some.injEq] at hy
        subst hy
        have hj := (List.getElem?_eq_some_iff.1 hzj).1
        have hb := bounds_u32 (hwz z (List.mem_of_getElem? hzj))
        have := hcell j hj
        rw [List.getD_eq_getElem?_getD, hzj] at this
        rw [show ((z.toNat : Nat) : Int) = z by omega]
        by_cases e : j = 0
        · subst e; simpa [Addr.add] using this
        · simpa [Addr.add, e] using this
    · cases hy

def qL (zs : List Nat) (k : Nat) : List Int := (zs.take k).map fun z : Nat => ((z % 1000000 : Nat) : Int)
theorem qL_succ (zs : List Nat) (k z : Nat) (h : zs[k]? = some z) : qL zs (k + 1) = qL zs k ++ [((z % 1000000 : Nat) : Int)] := by
  unfold qL
  rw [List.take_add_one, h]
  simp

theorem wf_i64 (x : Int) (h0 : -9223372036854775808 ≤ x) (h1 : x ≤ 9223372036854775807) : (Lit.int .i64 x).wf = true := by
  have e1 : IntKind.i64.min = -9223372036854775808 := by decide
  have e2 : IntKind.i64.max = 9223372036854775807 := by decide
  simp only [Lit.wf, e1, e2, Bool.and_eq_true, decide_eq_true_eq]
  exact ⟨h0, h1⟩

set_option maxHeartbeats 8000000 in
set_option maxRecDepth 100000 in
theorem walk (w : World) (hT : Tab w) (A : Option Addr) (n c : Nat) (zs : List Nat) (hz : ArgU w A n c zs) :
    Calls Tryd.prog 5 #[.slice A n c] w fun e w' => e = .returned (.bool true) ∧ Fr (fun _ => False) w w' := by
  have HZ := Lib.hid hz
  have hzl := hz.1
  have HT := Lib.hid hT
  clear hz hT
  by_cases h1 : n ≤ 30
  · have g1 : ¬ (30 : Int) < (n : Int) := by omega
    go_enter Tryd.func5, Tryd.ntmps5
    go_wp2_with fail
    go_loopw [3, 4] (fun v i wx => ∃ k : Nat, k ≤ n ∧ i = .int .i64 k ∧ Hid (wx.ownsRow w.heap.size 3 1 v k (ic (qL zs k))) ∧ Hid (Fr (fun _ => False) w wx)) (fun _ i _ => n - (intOf i).toNat)
    case atStart => exact ⟨0, by omega, rfl, Lib.hid ⟨rfl, .inl ⟨rfl, rfl⟩⟩, Lib.hid (Fr.refl _ _)⟩
    case round =>
      obtain ⟨k, hk, rfl, HO, HF⟩ := hrel
      by_cases hkl : k < n
      · obtain ⟨z, hzk⟩ : ∃ z, zs[k]? = some z := ⟨_, List.getElem?_eq_getElem (by omega)⟩
        obtain ⟨b, off, rfl, hc⟩ := HZ.out.2.2.2 (by omega)
        have hzb := HZ.out.2.2.1 z (List.mem_of_getElem? hzk)
        have hcz := HF.out.held (hc k z hzk) (fun h => h)
        have HQ := Lib.hid (qL_succ zs k z hzk)
        clear hzk hc
        obtain ⟨y, hmod, hy⟩ : ∃ y : Nat, (z : Int) % 1000000 = (y : Int) ∧ z % 1000000 = y := ⟨z % 1000000, by omega, rfl⟩
        rw [hy] at HQ
        clear hy
        have own2 := own_fr' HO.out ((Fr.refl None' wr).alloc (.cells #[.int .i64 (y : Int)] 3)) (fun _ _ h => h)
        have hr1 := (ints1 wr [(y : Int)] #[.int .i64 (y : Int)] rfl 1 rfl).1
        have hsz : w.heap.size ≤ (wr.alloc (.cells #[.int .i64 (y : Int)] 3)).heap.size := by have := HF.out.size; simp; omega
        go_wp2_with (at_builtin; refine app_int rfl (.tmp 16) (.tmp 23) rfl w.heap.size _ k (qL zs k) rfl own2 _ 1 _ [(y : Int)] rfl hr1 ?d1 hsz ?_)
        case d1 => omega
        intro A1 c1 w1 own3 hF3
        have HF3 := Lib.hid (hF3 _ (Nat.le_refl _) (HF.out.alloc _))
        have HO3 : Hid (w1.ownsRow w.heap.size 3 1 (.slice A1 (k + 1) c1) (k + 1) (ic (qL zs (k + 1)))) := Lib.hid (by rw [HQ.out]; simpa [ic] using own3)
        clear own2 hr1 hsz own3 hF3
        go_wp2_with fail
        exact ⟨⟨k + 1, by omega, by go_num, HO3, HF3⟩, by simp [intOf]; omega⟩
      · obtain rfl : k = n := by omega
        obtain ⟨A1, c1, rfl⟩ := own_slice' HO.out
        have hq : qL zs k = (zs.map (· % 1000000)).map fun u : Nat => (u : Int) := by
          unfold qL
          rw [List.take_of_length_le (by omega), List.map_map]
          rfl
        have hI := Ints.of_own HO.out
        rw [hq] at hI
        obtain ⟨q, hqq⟩ : ∃ q, zs.map (· % 1000000) = q := ⟨_, rfl⟩
        have hql : q.length ≤ 30 := by rw [← hqq, List.length_map]; omega
        have hqb : ∀ u ∈ q, u < 1000000 := by
          intro u hu
          rw [← hqq] at hu
          obtain ⟨z, _, rfl⟩ := List.mem_map.1 hu
          exact Nat.mod_lt _ (by decide)
        rw [hqq] at hI
        have HBK := Lib.hid (back q hql hqb)
        have hln := txt_len (q.map fun u : Nat => (u : Int)) (by rw [List.length_map]; exact hql) (fun z hz => by
          obtain ⟨u, hu, rfl⟩ := List.mem_map.1 hz
          have := hqb u hu
          omega)
        have HTX := Lib.hid (text_any wr A1 c1 (q.map fun u : Nat => (u : Int)) k hI (by omega) (tells_all wr (HT.out.fr HF.out) _ (fun x hx => by
          obtain ⟨u, hu, rfl⟩ := List.mem_map.1 hx
          have := hqb u hu
          exact wf_i64 _ (by omega) (by omega))) (by omega))
        have HI := Lib.hid hI
        clear hI hq hqq HO
        go_wp2_with fail
        refine HTX.out.mono ?_
        rintro e w1 ⟨rfl, hF1⟩
        have HF1 := Lib.hid hF1
        clear hF1
        go_wp2_with fail
        refine (read_any w1 ⟨(txt (q.map fun u : Nat => (u : Int))).toArray⟩ (by show (txt (q.map fun u : Nat => (u : Int))).toArray.size ≤ 1000; rw [List.size_toArray]; omega)).mono ?_
        rintro e w2 ⟨A2, n2, c2, rfl, hI2, hF2⟩
        rw [show (⟨(txt (q.map fun u : Nat => (u : Int))).toArray⟩ : ByteArray).data.toList = txt (q.map fun u : Nat => (u : Int)) from rfl, HBK.out] at hI2
        rw [show (⟨(txt (q.map fun u : Nat => (u : Int))).toArray⟩ : ByteArray).data.toList = txt (q.map fun u : Nat => (u : Int)) from rfl, HBK.out]
        have HI2 := Lib.hid hI2
        have HF2 := Lib.hid (HF1.out.trans hF2)
        have hn2 : n2 ≤ 1000 := by have := hI2.1; rw [List.length_map] at this; omega
        clear hI2 hF2
        go_wp2_with fail
        refine (same_any _ A2 c2 _ n2 HI2.out A1 c1 _ k (HI.out.fr HF2.out) hn2 (by omega)).mono ?_
        rintro e w3 ⟨rfl, q3, rfl⟩
        rw [cmpL_self]
        go_wp2_with fail
        refine (awake_any _).mono ?_
        rintro e w4 ⟨rfl, hF4⟩
        have HF4 := Lib.hid (((HF.out.trans HF2.out).drewN q3).trans hF4)
        clear hF4
        go_wp2_with fail
        go_ret
        exact ⟨rfl, HF4.out⟩
  · have g1 : (30 : Int) < (n : Int) := by omega
    go_enter Tryd.func5, Tryd.ntmps5
    go_wp2_with fail
    go_ret
    exact ⟨rfl, Fr.refl _ _⟩

theorem walked {w : World} (a0 : Option Addr) (len0 cap0 : Nat) (z0 : List Nat) (w0 : ArgU w a0 len0 cap0 z0) (hT : Tab w) :
    Calls Tryd.prog 5 #[.slice a0 len0 cap0] w fun e w' => e = .returned (.bool true) ∧ Below w.heap.size w w' :=
  (walk w hT a0 len0 cap0 z0 w0).mono fun _ _ ⟨he, hF⟩ => ⟨he, hF.below (Nat.le_refl _) (fun _ h => h.elim)⟩

set_option maxRecDepth 100000 in
theorem lifted (os : Os) (started : os.Started) (H : Type) (enc : TypeId × Value → H) :
    ReturnsInHanded {} Tryd.checked os 5 .any (fun w args => (Rows.pathBackSpec.pre enc Tryd.prog Tryd.f5 [] false w args ∧ laidMetH Tryd.prog laidN w) ∧ sizedMet enc Tryd.prog Tryd.f5 (OpenSpec.ofChange Rows.pathBackSpec) false w args)
      (Rows.pathBackSpec.post enc Tryd.prog Tryd.f5 false true false false) := by
  refine returnsInHanded_of_change_and (C := Tryd.checked) (X := fun w _ => laidMetH Tryd.prog laidN w) (fun _ _ _ hh h => h.of_heap hh) own started (by kernel_rfl) Tryd.func5
    (ChangeSpec.witness_shaped (enc := enc) (C := Tryd.checked) (os := os) (X := fun w _ => laidMetH Tryd.prog laidN w) false (World.doorLaid Tryd.prog 400 os) #[.slice none 0 0] 8 rfl (World.shaped_of_RefB (by kernel_rfl) (by kernel_rfl)) (by kernel_rfl) (by kernel_rfl) (by kernel_rfl) (door_met os _)) ?_
  intro W base args ds gs before hval0 hW _ _ hL _
  have hval : ∀ (j : Nat) t v, Tryd.f5.params[j]? = some t → args[j]? = some v → Value.okWide Tryd.prog W .any base t v := hval0
  have hW' := hW
  obtain ⟨p, q, hA0, hV, rfl, hfz, hnd⟩ := hW
  have hA : DataW.TrodAll enc Tryd.prog W 0 (fun _ => true) true Tryd.f5.params.toList args.toList ds p := hA0
  rw [Tryd.params5] at hA hval
  obtain ⟨v0, vs0, d0, ds0, p0, q0, hargs, rfl, rfl, h0, r0⟩ := trodAll_cons hA
  obtain ⟨rfl, rfl, rfl⟩ := trodAll_nil r0
  obtain rfl : args = #[v0] := by cases args; simp_all
  obtain ⟨rfl, rfl⟩ := trodVars_none hV
  obtain ⟨a0, len0, cap0, rfl⟩ := okWide_slice Tryd.underlying33 (hval 0 33 v0 rfl rfl)
  have k0 := h0
  have lt0 : ∀ x ∈ p0, x.block < W.heap.size := by obtain ⟨m, hm⟩ := k0; exact DataW.trod_lt m _ _ _ hm
  obtain ⟨z0, w0⟩ := open_rowU h0
  clear hA0 hval0
  refine (walked (w := W) a0 len0 cap0 z0 w0 (tab_of hL)).mono fun e W' ⟨he, bel⟩ => ?_
  subst he
  exact ⟨_, rfl, _, _, _, [], _, [], hW', trodAll_mk1 (shut_bool Tryd.underlying4 _), (trodAll_cons_mk (Below.trod laidOut (by kernel_rfl) (of_decide_eq_true (by kernel_rfl)) k0 bel lt0) trodAll_mk0), rfl, bel.frame _, fun h => by cases h⟩

theorem over : Rows.PathBackSaid :=
  OpenClaim.holds_of_wide 5 Tryd.f5 rfl rfl rfl rfl rfl rfl rfl ⟨rfl, rfl, rfl, rfl, rfl⟩ rfl rfl rfl rfl rfl (by kernel_rfl) Tryd.func5 (by kernel_rfl)
    (of_decide_eq_true (by kernel_rfl)) (by unfold Func.isWrapper; first | (rw [if_pos (by decide +kernel)]; kernel_rfl) | (rw [if_neg (by decide +kernel)]; exact ⟨rfl, rfl⟩))
    (fun os started H enc _ => lifted os started H enc)

/-- The statement: the row, and what it lists tied to the program's text. -/
theorem proved : Rows.PathBackCardSaid :=
  Claim7.holds_tied_plain_at .later [] [.data, .data, .data] true (true, "3104680c1f228efd10334e66c46e6116db24ee6cb05c0589596e48fdbe4e830e") false
    over (fun _ h => by cases h) (by kernel_rfl) (fun _ h => by cases h) pathBack_row_tie rfl ⟨rfl, rfl⟩ (by kernel_rfl) rfl
    (fun f fn hf hfn => by
      obtain rfl : f = 5 := Option.some.inj ((show Tryd.prog.funcNamed "haymow/haymowlaw05.PathBack" = some 5 by kernel_rfl).symm.trans hf) |>.symm
      obtain rfl : fn = Tryd.f5 := (Option.some.inj (Tryd.func5.symm.trans hfn)).symm
      exact ⟨by kernel_rfl, fun j t ht => by
        rw [Tryd.params5] at ht
        match j, ht with
        | 0, ht =>
          obtain rfl : t = 33 := by simpa using ht.symm
          exact (show Tryd.prog.wantsStandIn 33 = false by kernel_rfl)
        | j + 1, ht => simp at ht⟩)
    (by kernel_rfl)
#print axioms proved
end Go.Proofs.YtlhmokdoamelkaaDoor.pathBack
