/-
  haymowlaw02.CodeNumbers returns true for every five numbers. No condition.
-/
import Derived.Test.YtlpmnapjipfakaaCommon
import Derived.Test.YtlpmnapjipfakaaRows
import Derived.ShutString
import Derived.ChangeOld
import Derived.Lib.SmallJoins
import Derived.RegionTactic
import Derived.BigRegion
import Derived.Deep.QuietTactic
import Derived.BigQuiet
import Derived.StillTailTactics
namespace Go.Proofs.Ytlpmnapjipfakaa.codeNumbers
open Go.ChangeShapes Go.WideShapes Go.ChangeAt Go.RowKit
open Go.Joins Go.Deep
open Go.ChangeMaps (open_string shut_string)

def nuL (h : Nat) (o a b c k : Int) : List LFn := [⟨⟨a, [⟨o, a, b, c, k⟩, ⟨o, a, b, c, k⟩]⟩, some ⟨h, 0, none⟩, 2⟩]
theorem nu_row (w : World) (h : Nat) (hh : w.heap.size = h) (o a b c k : Int) : FnRow ((w.alloc (.cells #[.int .i64 o, .int .i64 a, .int .i64 b, .int .i64 c, .int .i64 k, .int .i64 o, .int .i64 a, .int .i64 b, .int .i64 c, .int .i64 k] 44)).alloc (.cells #[.int .i64 a, .slice (some ⟨h, 0, none⟩) 2 2] 47))
    (fun b' => b' < ((w.alloc (.cells #[.int .i64 o, .int .i64 a, .int .i64 b, .int .i64 c, .int .i64 k, .int .i64 o, .int .i64 a, .int .i64 b, .int .i64 c, .int .i64 k] 44)).alloc (.cells #[.int .i64 a, .slice (some ⟨h, 0, none⟩) 2 2] 47)).heap.size) (some ⟨h + 1, 0, none⟩) (nuL h o a b c k) := by
  subst hh
  refine ⟨Rd.of_blk (t := 47) (cs := [.int .i64 a, .slice (some ⟨w.heap.size, 0, none⟩) 2 2]) ?_ rfl (by simp), fun x hx => ?_⟩
  · have := Blk.new (w.alloc (.cells #[.int .i64 o, .int .i64 a, .int .i64 b, .int .i64 c, .int .i64 k, .int .i64 o, .int .i64 a, .int .i64 b, .int .i64 c, .int .i64 k] 44)) 47 #[.int .i64 a, .slice (some ⟨w.heap.size, 0, none⟩) 2 2]
    simpa using this
  · rw [List.mem_singleton.1 hx]
    exact Rd.of_blk (t := 44) (cs := [.int .i64 o, .int .i64 a, .int .i64 b, .int .i64 c, .int .i64 k, .int .i64 o, .int .i64 a, .int .i64 b, .int .i64 c, .int .i64 k]) ((Blk.new w _ _).alloc _) rfl (by simp; omega)

theorem own_caps {w : World} {base : Nat} {e : TypeId} {size n : Nat} {v : Value} {xs : List Value} (h : w.ownsRow base e size v n xs) (hn : 0 < n) : ∃ g cap, v = .slice (some ⟨g, 0, none⟩) n cap ∧ n ≤ cap ∧ cap ≤ maxLen := by
  rcases h.2 with ⟨_, h0⟩ | ⟨g, cap, cur, hv, _, _, h1, h2, _⟩
  · omega
  · exact ⟨g, cap, hv, h1, h2⟩

set_option maxHeartbeats 4000000 in
set_option maxRecDepth 100000 in
theorem walk (o a b c k : Int) (w : World) (ho : 0 ≤ o ∧ o ≤ 255) (ha : 0 ≤ a ∧ a ≤ 255) (hb : 0 ≤ b ∧ b ≤ 255) (hc : 0 ≤ c ∧ c ≤ 255) (hk : -2147483648 ≤ k ∧ k ≤ 2147483647) :
    Calls Try.prog 8 #[.agg #[.int .u8 o, .int .u8 a, .int .u8 b, .int .u8 c, .int .i32 k]] w fun e w' => e = .returned (.bool true) ∧ Below w.heap.size w w' := by
  have hok : ∀ h, progOk (fns (nuL h o a b c k)) := fun h => ⟨by simp [fns, nuL], fun f hf => by
    rw [List.mem_singleton.1 hf]
    exact ⟨ha, by simp, fun x hx => by
      have : x = ⟨o, a, b, c, k⟩ := by simpa [nuL] using hx
      rw [this]
      exact ⟨ho, ha, hb, hc, hk⟩⟩⟩
  have HOK := Lib.hid hok
  clear hok
  go_enter Try.func8, Try.ntmps8
  go_wp2_with fail
  go_quiet (fail)
  go_wp2_with fail
  have wa : IntKind.i64.wrap a = a := by rw [IntKind.wrap_i64]; omega
  clear ho ha hb hc hk
  refine (write_any _ _ 1 (nuL (w.heap.size + 1 + 1) o a b c k) (nu_row _ _ (by simp) o a b c k) (by simp [nuL, room]) (by simp [nuL])).mono ?_
  rintro e w1 (⟨_, v, rfl, hown, hF⟩ | ⟨hno, _, _⟩)
  · obtain ⟨g, cap, rfl, hc1, hc2⟩ := own_caps hown (by omega)
    have hfr : Fr (fun _ => False) w w1 := Fr.trans (((((Fr.refl (fun _ => False) w).alloc _).drewN _).alloc _).alloc _ |>.alloc _) hF
    have HR := Lib.hid (Rd.of_own hown)
    have e1 : 1 + (progBytes (fns (nuL (w.heap.size + 1 + 1) o a b c k))).length = 20 := rfl
    rw [e1] at HR hc1 ⊢
    have hX0 : Blk w1 (w.heap.size + 1) 44 #[.int .i64 o, .int .i64 a, .int .i64 b, .int .i64 c, .int .i64 k] := by
      refine Blk.fr (((?_ : Blk _ _ _ _).alloc _).alloc _) hF (fun h => h)
      have := Blk.new ((w.alloc (.cells #[.int .u8 o, .int .u8 a, .int .u8 b, .int .u8 c, .int .i32 k] 42)).drewN nq) 44 #[.int .i64 o, .int .i64 a, .int .i64 b, .int .i64 c, .int .i64 k]
      simpa using this
    have HX0 := Lib.hid hX0
    clear hown hF hX0
    go_wp2_with fail
    have hrd := read_any w1 (some ⟨g, 0, none⟩) cap (72 :: progBytes (fns (nuL (w.heap.size + 1 + 1) o a b c k))) (HR.out.mono fun _ h => h.2) (allB_cons ⟨by omega, by omega⟩ (prog_allB _ (HOK.out _))) hc1 hc2
    have e2 : (72 :: progBytes (fns (nuL (w.heap.size + 1 + 1) o a b c k))).length = 20 := rfl
    rw [e2] at hrd
    clear e1 e2
    refine hrd.mono ?_
    have hpp := pProg_of (fns (nuL (w.heap.size + 1 + 1) o a b c k)) (HOK.out _) []
    rw [List.append_nil] at hpp
    rintro e w2 (⟨t, L, g2, ht, hp, rfl, hB, hg, hgw, hF2⟩ | ⟨er, he, hn, rfl, hF2⟩)
    · injection ht with _ ht
      subst ht
      rw [hpp] at hp
      have hL : fns (nuL (w.heap.size + 1 + 1) o a b c k) = fns L := by injection hp with hp; injection hp
      obtain ⟨x, rfl, hx⟩ : ∃ x, L = [x] ∧ x.f = ⟨a, [⟨o, a, b, c, k⟩, ⟨o, a, b, c, k⟩]⟩ := by
        match L, hL with
        | [x], hL => exact ⟨x, rfl, by simpa [fns, nuL] using hL.symm⟩
        | [], hL => simp [fns, nuL] at hL
        | _ :: _ :: _, hL => simp [fns, nuL] at hL
      obtain ⟨g3, hA3, hc3, _, hB3⟩ := hg x List.mem_cons_self
      obtain ⟨xf, xA, xc⟩ := x
      simp only at hx hA3 hc3 hB3
      subst hx hA3 hc3
      have hX := HX0.out.fr hF2 (fun h => h)
      have c0 : w2.cell? ⟨g2, 0, none⟩ = some (.int .i64 a) := by rw [hB.cell]; rfl
      have c1 : w2.cell? ⟨g2, 1, none⟩ = some (.slice (some ⟨g3, 0, none⟩) 2 2) := by rw [hB.cell]; rfl
      have i0 : w2.cell? ⟨g3, 5, none⟩ = some (.int .i64 o) := by rw [hB3.cell]; rfl
      have i1 : w2.cell? ⟨g3, 6, none⟩ = some (.int .i64 a) := by rw [hB3.cell]; rfl
      have i2 : w2.cell? ⟨g3, 7, none⟩ = some (.int .i64 b) := by rw [hB3.cell]; rfl
      have i3 : w2.cell? ⟨g3, 8, none⟩ = some (.int .i64 c) := by rw [hB3.cell]; rfl
      have i4 : w2.cell? ⟨g3, 9, none⟩ = some (.int .i64 k) := by rw [hB3.cell]; rfl
      have x0 : w2.cell? ⟨w.heap.size + 1, 0, none⟩ = some (.int .i64 o) := by rw [hX.cell]; rfl
      have x1 : w2.cell? ⟨w.heap.size + 1, 1, none⟩ = some (.int .i64 a) := by rw [hX.cell]; rfl
      have x2 : w2.cell? ⟨w.heap.size + 1, 2, none⟩ = some (.int .i64 b) := by rw [hX.cell]; rfl
      have x3 : w2.cell? ⟨w.heap.size + 1, 3, none⟩ = some (.int .i64 c) := by rw [hX.cell]; rfl
      have x4 : w2.cell? ⟨w.heap.size + 1, 4, none⟩ = some (.int .i64 k) := by rw [hX.cell]; rfl
      have hfr2 := hfr.trans hF2
      clear hg hB hB3 hL hp hpp hX HX0 HR HOK hrd hfr hF2 hgw hc1 hc2
      go_wp2_with fail
      go_still_tail 44, (by kernel_rfl)
      change wpList _ _ _ _ _ (World.drew _)
      go_wp2_with fail
      refine (awake_any _).mono ?_
      rintro e w3 ⟨rfl, hF3⟩
      go_wp2_with fail
      go_ret
      exact ⟨rfl, (hfr2.drew.trans hF3).below (Nat.le_refl _) (fun _ h => h.elim)⟩
    · exfalso
      exact hn (by rw [← he]; simp [readE, hpp])
  · exact absurd (HOK.out _) hno


section
variable {H : Type} {enc : TypeId × Value → H} {w : World} {base : Nat} {spare : Nat → Bool} {held : Bool}
/-- A field that is a whole number, in a struct that is read by its cells. -/
theorem field_int {P : Program} {fs : Array Field} {cs : List Value} {xs : List (DataW H × List MemPlace)} {n : Nat} (hlen : xs.length = fs.size)
    (hg : ∀ (i : Nat) (f : Field), fs[i]? = some f → DataW.trod enc P w base spare held n f.type ((cs.drop f.offset).take (P.cellsOf f.type)) = xs[i]?)
    {i : Nat} {f : Field} {kd : IntKind} (hf : fs[i]? = some f) (ho : f.offset = i) (hc : P.cellsOf f.type = 1) (hu : P.underlying f.type = some (.int kd)) : ∃ m, cs[i]? = some (.int kd m) ∧ (Lit.int kd m).wf = true := by
  have hlt : i < fs.size := (Array.getElem?_eq_some_iff.1 hf).1
  have h := hg i f hf
  rw [ho, hc, List.getElem?_eq_getElem (by omega)] at h
  obtain ⟨m, e, _, hw⟩ := DataW.trod_int hu h
  refine ⟨m, ?_, hw⟩
  have h1 := congrArg (fun l => l[0]?) e
  simpa [List.getElem?_take, List.getElem?_drop] using h1

/-- The five numbers of the argument. -/
theorem open_five {r : Reach} {b0 : Nat} {v : Value} {d : DataW H} {p : List MemPlace} (hv : Value.okWide Try.prog w r b0 42 v) (h : DataW.Trod enc Try.prog w base spare held 42 v d p) :
    ∃ o a b c k : Int, v = .agg #[.int .u8 o, .int .u8 a, .int .u8 b, .int .u8 c, .int .i32 k] ∧ (0 ≤ o ∧ o ≤ 255) ∧ (0 ≤ a ∧ a ≤ 255) ∧ (0 ≤ b ∧ b ≤ 255) ∧ (0 ≤ c ∧ c ≤ 255) ∧ (-2147483648 ≤ k ∧ k ≤ 2147483647) := by
  have hC : Try.prog.cellsOf 42 = 5 := by kernel_rfl
  obtain ⟨cs, rfl, hsz⟩ := okWide_struct Try.underlying42 hv
  obtain ⟨l⟩ := cs
  match l, hsz.trans hC with
  | [c0, c1, c2, c3, c4], _ =>
    obtain ⟨fuel, hf⟩ := h
    obtain ⟨xs, n, _, _, _, hlen, hg⟩ := DataW.trod_struct Try.underlying42 hf
    obtain ⟨n0, e0, w0⟩ := field_int (kd := .u8) hlen hg (i := 0) rfl rfl (by kernel_rfl) Try.underlying5
    obtain ⟨n1, e1, w1⟩ := field_int (kd := .u8) hlen hg (i := 1) rfl rfl (by kernel_rfl) Try.underlying5
    obtain ⟨n2, e2, w2⟩ := field_int (kd := .u8) hlen hg (i := 2) rfl rfl (by kernel_rfl) Try.underlying5
    obtain ⟨n3, e3, w3⟩ := field_int (kd := .u8) hlen hg (i := 3) rfl rfl (by kernel_rfl) Try.underlying5
    obtain ⟨n4, e4, w4⟩ := field_int (kd := .i32) hlen hg (i := 4) rfl rfl (by kernel_rfl) Try.underlying21
    simp [Value.cells] at e0 e1 e2 e3 e4
    subst e0 e1 e2 e3 e4
    exact ⟨n0, n1, n2, n3, n4, rfl, bounds_u8 w0, bounds_u8 w1, bounds_u8 w2, bounds_u8 w3, bounds_i32 w4⟩
end

/-! ### The row's step -/
theorem own : ownKnob Try.prog.godebug = none := by kernel_rfl
theorem laidOut : laidOutB Try.prog = true := by kernel_rfl

set_option maxRecDepth 100000 in
theorem lifted (os : Os) (started : os.Started) (H : Type) (enc : TypeId × Value → H) :
    ReturnsInHanded {} Try.checked os 8 .any (Rows.codeNumbersSpec.pre6 enc Try.prog Try.f8 Rows.codeNumbersRow.domain false) (Rows.codeNumbersSpec.post enc Try.prog Try.f8 false true false false) := by
  refine returnsInHanded_of_change (C := Try.checked) own started (by kernel_rfl) Try.func8
    (ChangeSpec.witness6 (enc := enc) (C := Try.checked) false ⟨#[], #[.agg #[.int .u8 0, .int .u8 0, .int .u8 0, .int .u8 0, .int .i32 0]], []⟩ 8 (by kernel_rfl) (by kernel_rfl) (by kernel_rfl) (by kernel_rfl)) ?_
  intro W base args ds gs before hval0 hW hcnd _
  have hval : ∀ (j : Nat) t v, Try.f8.params[j]? = some t → args[j]? = some v → Value.okWide Try.prog W .any base t v := hval0
  have hW' := hW
  obtain ⟨p, q, hA0, hV, rfl, hfz, hnd⟩ := hW
  have hA : DataW.TrodAll enc Try.prog W 0 (fun _ => true) true Try.f8.params.toList args.toList ds p := hA0
  rw [Try.params8] at hA hval
  obtain ⟨v0, vs0, d0, ds0, p0, q0, hargs, rfl, rfl, h0, r0⟩ := trodAll_cons hA
  obtain ⟨rfl, rfl, rfl⟩ := trodAll_nil r0
  obtain rfl : args = #[v0] := by cases args; simp_all
  obtain ⟨rfl, rfl⟩ := trodVars_none hV
  have k0 := h0
  have lt0 : ∀ x ∈ p0, x.block < W.heap.size := by obtain ⟨m, hm⟩ := k0; exact DataW.trod_lt m _ _ _ hm
  obtain ⟨n0, n1, n2, n3, n4, rfl, w0, w1, w2, w3, w4⟩ := open_five (hval 0 42 v0 rfl rfl) h0
  clear hA0 hval0
  refine (walk n0 n1 n2 n3 n4 W w0 w1 w2 w3 w4).mono fun e W' ⟨he, bel⟩ => ?_
  subst he
  exact ⟨_, rfl, _, _, _, [], _, [], hW', trodAll_mk1 (shut_bool Try.underlying4 _), (trodAll_cons_mk (Below.trod laidOut (by kernel_rfl) (of_decide_eq_true (by kernel_rfl)) k0 bel lt0) trodAll_mk0), rfl, bel.frame _, fun h => by cases h⟩

theorem over : Rows.codeNumbersRow.holds Try.pinned (OpenSpec.ofChange Rows.codeNumbersSpec) :=
  OpenClaim.holds_of_wide 8 Try.f8 rfl rfl rfl rfl rfl rfl rfl ⟨rfl, rfl, rfl, rfl, rfl⟩ rfl rfl rfl rfl rfl (by kernel_rfl) Try.func8 (by kernel_rfl)
    (of_decide_eq_true (by kernel_rfl)) (by unfold Func.isWrapper; first | (rw [if_pos (by decide +kernel)]; kernel_rfl) | (rw [if_neg (by decide +kernel)]; exact ⟨rfl, rfl⟩))
    (fun os started H enc _ => lifted os started H enc)

/-- The statement. -/
theorem proved : Rows.CodeNumbersSaid := over
#print axioms proved
end Go.Proofs.Ytlpmnapjipfakaa.codeNumbers
