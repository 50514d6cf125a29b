/-
  A case, opened; Exec of a program that of has made. No condition.
-/
import Derived.Test.YtadcenaafoemmaaDoorF26
namespace Go.Proofs.YtadcenaafoemmaaDoor
open Go.ChangeShapes Go.WideShapes Go.Deep Go.RowKit

theorem EfAt.down {w : World} {base base' : Nat} {f : EF} {ea ep : Value} (h : EfAt w base f ea ep) (hb : base' ≤ base) : EfAt w base' f ea ep := ⟨own_down h.1 hb, own_down h.2 hb⟩
theorem Made.fr {w w' : World} {base : Nat} {v : Value} {L : List LFn} (h : Made w base v L) (hf : Fr None' w w') : Made w' base v L := ⟨own_fr h.1 hf (fun _ _ h => h), fun x hx => own_fr (h.2 x hx) hf (fun _ _ h => h)⟩
theorem Made.rowF {w : World} {base F : Nat} {v : Value} {L : List LFn} (h : Made w base v L) (hF : F < base) : ∃ A c, v = .slice A L.length c ∧ FnRow w (fun b => b < w.heap.size ∧ b ≠ F) A L := by
  obtain ⟨A, c, rfl⟩ := own_slice h.1
  exact ⟨A, c, rfl, (Rd.of_own h.1).mono (fun _ h => ⟨h.2, by omega⟩), fun x hx => (Rd.of_own (h.2 x hx)).mono (fun _ h => ⟨h.2, by omega⟩)⟩
theorem exec_made (w : World) (v : Value) (L L' : List LFn) (base F : Nat) (bud dep : Int) (f : FR) (hfns : fns L' = fns L) (hl : L.length ≤ 20) (hp : ∀ x ∈ L, x.f.code.length ≤ 70) (hM : Made w base v L') (hFb : F < base) (hT : FieldsAt w) (hf : FrameAt w F f) (h1000 : f.path.length ≤ 1000) :
    Calls Tryd.prog 11 #[v, .agg #[.int .i64 bud, .int .i64 dep], .pointer (some ⟨F, 0, none⟩)] w (ExecPost w F (execP (fns L) bud dep f)) := by
  obtain ⟨A, c, rfl, hR⟩ := hM.rowF hFb
  have hl' : L'.length = L.length := by have := congrArg List.length hfns; simpa [fns] using this
  have h := exec_any w A c F L' bud dep f hR hT (by omega) (fun y hy => by
    have hy' : y.f ∈ fns L := by rw [← hfns]; exact List.mem_map.2 ⟨y, hy, rfl⟩
    obtain ⟨z, hz, hzf⟩ := List.mem_map.1 hy'
    rw [← hzf]
    have := hp z hz
    omega) hf h1000
  rw [hfns] at h
  exact h

/-- A case. -/
structure CaseV where
  PA : Option Addr
  L : List LFn
  c : Nat
  bud : Int
  dep : Int
  f : FR
  FA : Option Addr
  fc : Nat
def caseC (z : CaseV) : List Value := [.slice z.PA z.L.length z.c, .int .i64 z.bud, .int .i64 z.dep] ++ docF z.f z.FA z.fc
def CaseV.val (z : CaseV) : Value := .agg (caseC z).toArray
structure CaseAt (w : World) (z : CaseV) : Prop where
  prog : FnRow w (fun b => b < w.heap.size) z.PA z.L
  doc : DocF w z.f z.FA
  bud : i64 z.bud
  dep : i64 z.dep
set_option maxRecDepth 100000 in
theorem open_case {H : Type} {enc : TypeId × Value → H} {W : World} {base b0 : Nat} {spare : Nat → Bool} {held : Bool} {r : Reach} {v : Value} {d : DataW H} {p : List MemPlace} (hv : Value.okWide Tryd.prog W r b0 29 v) (h : DataW.Trod enc Tryd.prog W base spare held 29 v d p) :
    ∃ z : CaseV, v = z.val ∧ CaseAt W z := by
  have ht := Tryd.underlying29
  simp only [Value.okWide, ht] at hv
  obtain ⟨cs, rfl, hsz, _⟩ := hv
  have hc : Tryd.prog.cellsOf 29 = 20 := by kernel_rfl
  rw [hc] at hsz
  obtain ⟨l⟩ := cs
  have hl : l.length = 20 := by simpa using hsz
  obtain ⟨fuel, hf⟩ := h
  simp only [Value.cells, List.toList_toArray] at hf
  obtain ⟨xs, m, _, _, _, hlen, hg⟩ := DataW.trod_struct ht hf
  have c1 : Tryd.prog.cellsOf 3 = 1 := by kernel_rfl
  have c17 : Tryd.prog.cellsOf 27 = 17 := by kernel_rfl
  obtain ⟨u0, y0, e0, t0⟩ := field_one hlen hg (i := 0) rfl rfl (by kernel_rfl) (by omega)
  obtain ⟨u1, y1, e1, t1⟩ := field_one hlen hg (i := 1) rfl rfl c1 (by omega)
  obtain ⟨u2, y2, e2, t2⟩ := field_one hlen hg (i := 2) rfl rfl c1 (by omega)
  have t3 := hg 3 _ rfl
  rw [List.getElem?_eq_getElem (by rw [hlen]; decide)] at t3
  change DataW.trod enc Tryd.prog W base spare held m 27 ((l.drop 3).take (Tryd.prog.cellsOf 27)) = _ at t3
  rw [c17] at t3
  obtain ⟨f, FA, fc, h3, hd⟩ := open_frame m _ _ (by simp; omega) t3
  obtain ⟨a1, f1, w1⟩ := open_num Tryd.underlying3 _ _ _ rfl t1
  obtain ⟨a2, f2, w2⟩ := open_num Tryd.underlying3 _ _ _ rfl t2
  obtain ⟨A, len, cap, hcs, _, _, L, hll, hRd, hP⟩ := open_list (P := Tryd.prog) LFn.cells (fun x => InsRow W (fun b => b < W.heap.size) x.A x.f.code) (s := 2) (by decide) Tryd.underlying22 (by kernel_rfl) LFn.cells_length open_fn t0
  simp only [List.cons.injEq, and_true] at f1 f2 hcs
  subst f1 f2 hcs hll
  refine ⟨⟨A, L, cap, a1, a2, f, FA, fc⟩, ?_, ⟨hRd, hP⟩, hd, w1, w2⟩
  have h4 : l.drop 3 = docF f FA fc := by rw [← h3, List.take_of_length_le (by simp; omega)]
  have h5 : l = l.take 3 ++ l.drop 3 := (List.take_append_drop 3 l).symm
  have h6 : l.take 3 = [.slice A L.length cap, .int .i64 a1, .int .i64 a2] := by
    match l, hl with
    | v0 :: v1 :: v2 :: r, _ =>
      simp at e0 e1 e2
      subst e0 e1 e2
      rfl
  show Value.agg l.toArray = .agg (caseC _).toArray
  unfold caseC
  rw [h5, h6, h4]

/-- What stays of a frame behind an instruction. -/
theorem xstep_regs (op a b c : Nat) (k : Int) (ar : Nat) (at_ kd dep : Int) (regs hands path : List Int) (i : Nat) (hi : i ≠ a) : (xstep op a b c k ar at_ kd dep regs hands path).regs[i]? = regs[i]? := by
  have h : ∀ x : Int, (regs.set a x)[i]? = regs[i]? := fun x => by rw [List.getElem?_set, if_neg (by omega)]
  unfold xstep
  split <;> (try split) <;> first | rfl | exact h _
theorem xstep_kids (op a b c : Nat) (k : Int) (ar : Nat) (at_ kd dep : Int) (regs hands path : List Int) : (xstep op a b c k ar at_ kd dep regs hands path).kids = kd ∨ ((xstep op a b c k ar at_ kd dep regs hands path).kids = wrap64 (kd + 1) ∧ ((xstep op a b c k ar at_ kd dep regs hands path).ef.kind = 3 ∨ (xstep op a b c k ar at_ kd dep regs hands path).ef.kind = 4)) := by
  unfold xstep
  split <;> (try split) <;> first | exact .inl rfl | exact .inr ⟨rfl, .inl rfl⟩ | exact .inr ⟨rfl, .inr rfl⟩
/-- What Exec comes to, case by case. -/
theorem exec_cases (fs : List Fn) (bud dep : Int) (f : FR) :
    (rightF fs bud dep = false ∧ execP fs bud dep f = (zE, 1, f)) ∨ (rightF fs bud dep = true ∧ insAt fs f = none ∧ execP fs bud dep f = (zE, 11, f)) ∨ (rightF fs bud dep = true ∧ (∃ x, insAt fs f = some x) ∧ bud ≤ f.steps ∧ execP fs bud dep f = (failE 3, 0, f)) ∨
    (rightF fs bud dep = true ∧ ∃ x, insAt fs f = some x ∧ ¬ bud ≤ f.steps ∧ execP fs bud dep f = ((stepF fs dep x f).ef, 0, afterF (stepF fs dep x f) f)) := by
  unfold execP
  by_cases hr : rightF fs bud dep = true
  · rw [if_pos hr]
    cases hi : insAt fs f with
    | none => exact .inr (.inl ⟨hr, rfl, rfl⟩)
    | some x =>
      by_cases hb : bud ≤ f.steps
      · exact .inr (.inr (.inl ⟨hr, ⟨x, rfl⟩, hb, if_pos hb⟩))
      · exact .inr (.inr (.inr ⟨hr, x, rfl, hb, if_neg hb⟩))
  · rw [if_neg hr]
    exact .inl ⟨by simpa using hr, rfl⟩
/-- The instruction at which a frame of a program that may run is. -/
theorem ins_at {fs : List Fn} {bud dep : Int} {f : FR} {x : Ins} (hr : rightF fs bud dep = true) (hi : insAt fs f = some x) : ∃ (fn at_ : Nat) (g : Fn) (op a b c : Nat), f.fn = fn ∧ f.at_ = at_ ∧ fs[fn]? = some g ∧ g.code[at_]? = some x ∧ InsOk fs g.code.length x op a b c := by
  unfold insAt at hi
  by_cases h0 : 0 ≤ f.fn ∧ 0 ≤ f.at_
  · rw [if_pos h0] at hi
    obtain ⟨fn, hfn⟩ := Int.eq_ofNat_of_zero_le h0.1
    obtain ⟨at_, hat⟩ := Int.eq_ofNat_of_zero_le h0.2
    rw [hfn, hat, Int.toNat_natCast, Int.toNat_natCast] at hi
    cases hg : fs[fn]? with
    | none => rw [hg] at hi; cases hi
    | some g =>
      rw [hg] at hi
      have hi : g.code[at_]? = some x := hi
      obtain ⟨_, hfs⟩ := chk_nought (right_chk hr).1
      obtain ⟨op, a, b, c, hok⟩ := ins_ok ((fnE_nought (hfs g (List.mem_of_getElem? hg))).2.2.1 x (List.mem_of_getElem? hi))
      exact ⟨fn, at_, g, op, a, b, c, hfn, hat, hg, hi, hok⟩
  · rw [if_neg h0] at hi; cases hi
end Go.Proofs.YtadcenaafoemmaaDoor
