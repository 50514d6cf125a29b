/-
  A job as it comes in; what its run comes to when it is told OK.
-/
import Derived.Test.YtbhnnnpofindiaaDoorCmpR
import Derived.Test.YtbhnnnpofindiaaDoorPureO
import Derived.Lib.SmallJoins
namespace Go.Proofs.YtbhnnnpofindiaaDoor
open Go.ChangeShapes Go.WideShapes Go.ChangeAt Go.RowKit

structure JobV where
  PA : Option Addr
  n : Nat
  c : Nat
  AA : Option Addr
  m : Nat
  d : Nat
  bud : Int
  dep : Int
def JobV.val (z : JobV) : Value := .agg #[.slice z.PA z.n z.c, .slice z.AA z.m z.d, .int .i64 z.bud, .int .i64 z.dep]
def JobAt (w : World) (z : JobV) : Prop := (∃ L : List LFn, L.length = z.n ∧ FnRow w (fun b => b < w.heap.size) z.PA L) ∧ ∃ xs : List Int, xs.length = z.m ∧ IntsA w z.AA xs

set_option maxRecDepth 100000 in
theorem open_job {H : Type} {enc : TypeId × Value → H} {W : World} {base b0 : Nat} {spare : Nat → Bool} {held : Bool} {r : Reach} {v : Value} {d : DataW H} {p : List MemPlace} (hv : Value.okWide Tryd.prog W r b0 25 v) (h : DataW.Trod enc Tryd.prog W base spare held 25 v d p) :
    ∃ z : JobV, v = z.val ∧ JobAt W z := by
  obtain ⟨c0, c1, c2, c3, y0, y1, y2, y3, m, rfl, _, _, h0, h1, h2, h3⟩ := Go.Joins.open_agg4 Tryd.underlying25 (by kernel_rfl) (by kernel_rfl) hv h
  obtain ⟨a2, e2, _, _⟩ := DataW.trod_int Tryd.underlying3 h2
  obtain ⟨a3, e3, _, _⟩ := DataW.trod_int Tryd.underlying3 h3
  obtain ⟨A, len, cap, hcs, _, _, l, hll, hRd, hP⟩ := open_list (P := Tryd.prog) LFn.cells (fun x => InsRow W (fun b => b < W.heap.size) x.A x.f.code) (s := 2) (by decide) Tryd.underlying22 (by kernel_rfl) LFn.cells_length open_fn h0
  simp at e2 e3 hcs
  subst e2 e3 hcs hll
  rcases open_ints Tryd.underlying23 Tryd.underlying2 (by kernel_rfl) h1 with ⟨hcs, _⟩ | ⟨x, l', c, zs, hcs, _, hl, hm, hz, _, hcell, hwz⟩
  · simp at hcs
    subst hcs
    exact ⟨⟨A, l.length, cap, none, 0, 0, a2, a3⟩, rfl, ⟨l, rfl, hRd, hP⟩, [], rfl, fun h => absurd h (by simp)⟩
  · simp at hcs
    subst hcs
    have hz' : l' ≤ zs.length := by
      rw [hz]; split
      · exact hl
      · exact Nat.le_refl _
    refine ⟨⟨A, l.length, cap, some x, l', c, a2, a3⟩, rfl, ⟨l, rfl, hRd, hP⟩, zs.take l', by rw [List.length_take]; exact Nat.min_eq_left hz', fun h0 => ?_⟩
    have hl0 : 0 < l' := by rw [List.length_take] at h0; omega
    have hc0 := hcell 0 (by omega)
    obtain ⟨b, off, spot⟩ := x
    have hspot : spot = none := by simpa [Addr.add] using World.cell?_spot hc0
    subst hspot
    refine ⟨b, off, rfl, fun j y hy => ?_⟩
    rw [List.getElem?_take] at hy
    split at hy
    · have hj := (List.getElem?_eq_some_iff.1 hy).1
      have := hcell j hj
      by_cases h00 : j = 0
      · subst h00; simpa [Addr.add, hy] using this
      · simpa [Addr.add, h00, hy] using this
    · cases hy

/-- A result keeps where another block than its own rows turns. -/
theorem ResAt.at_ {w w' : World} {base : Nat} {tv lv : Value} {told : List Int} {log : List (List Int × Int)} {g : Nat} {cs : Array Value} (h : ResAt w base tv lv told log) (hB : Blk w g 30 cs) (hF : Fr (fun k => k = g) w w') : ResAt w' base tv lv told log := by
  obtain ⟨h1, ll, h2, h3, h4⟩ := h
  refine ⟨own_fr h1 hF (fun k hk e => ?_), ll, h2, own_fr h3 hF (fun k hk e => ?_), fun x hx => (h4 x hx).fr hF (fun k cs' hb e => ?_)⟩
  · subst e; exact own_ne h1 hB (by decide) hk
  · subst e; exact own_ne h3 hB (by decide) hk
  · subst e; exact (hb.ne_ hB (by decide)) rfl
theorem ResAt.fr {w w' : World} {base : Nat} {tv lv : Value} {told : List Int} {log : List (List Int × Int)} (h : ResAt w base tv lv told log) (hF : Fr None' w w') : ResAt w' base tv lv told log := by
  obtain ⟨h1, ll, h2, h3, h4⟩ := h
  exact ⟨own_fr h1 hF (fun _ _ h => h), ll, h2, own_fr h3 hF (fun _ _ h => h), fun x hx => (h4 x hx).fr hF (fun _ _ _ h => h)⟩

theorem own_max {w : World} {base : Nat} {e : TypeId} {size : Nat} {v : Value} {n : Nat} {xs : List Value} (h : w.ownsRow base e size v n xs) : n ≤ maxLen := by
  rcases h.2 with ⟨_, rfl⟩ | ⟨_, cap, _, _, _, _, h1, h2, _⟩
  · exact Nat.zero_le _
  · exact Nat.le_trans h1 h2
theorem ResAt.log_max {w : World} {base : Nat} {tv lv : Value} {told : List Int} {log : List (List Int × Int)} (h : ResAt w base tv lv told log) : log.length ≤ maxLen := by
  obtain ⟨_, ll, h2, h3, _⟩ := h
  rw [← h2, List.length_map]
  exact own_max h3

/-- What is told OK. -/
theorem evalR_ok {fs : List Fn} {args : List Int} {bud dep most : Int} (h : (evalR fs args bud dep most).e = 0) :
    (1 ≤ bud ∧ bud ≤ 10000 ∧ 0 ≤ dep ∧ dep ≤ 30) ∧ rightB fs args.length bud dep = true ∧ (runP fs args bud dep most).1 ≠ .long ∧ evalR fs args bud dep most = resOf (runP fs args bud dep most) ∧ (evalR fs args bud dep most).log = (runP fs args bud dep most).2.log ∧ ((evalR fs args bud dep most).f = 0 ∨ (evalR fs args bud dep most).v = 0) := by
  by_cases hr : rightB fs args.length bud dep = true
  · have he : evalR fs args bud dep most = resOf (runP fs args bud dep most) := by unfold evalR; rw [if_pos hr]
    have hl : limB bud dep = true := by
      unfold rightB at hr
      simp only [Bool.and_eq_true] at hr
      exact hr.2.2
    rw [he] at h ⊢
    refine ⟨of_decide_eq_true hl, hr, ?_, rfl, ?_⟩
    · intro hL
      unfold resOf at h
      rw [hL] at h
      cases h
    · unfold resOf at h ⊢
      cases hc : (runP fs args bud dep most).1 with
      | ok v => exact ⟨rfl, .inl rfl⟩
      | fail k => exact ⟨rfl, .inr rfl⟩
      | long => rw [hc] at h; cases h
  · unfold evalR at h
    rw [if_neg hr] at h
    cases h
theorem evalR_bound {fs : List Fn} {args : List Int} {bud dep most : Int} (hm : 0 ≤ most) (h : (evalR fs args bud dep most).e = 0) : Bound bud dep most (runP fs args bud dep most).2 := by
  have hk := (evalR_ok h).1
  exact runF_bound fs bud dep most (by omega) (by omega) hm _ _

/-- What Eval comes to, its rows as slices. -/
def EPost2 (w : World) (R : Res) (e : Ending) (w' : World) : Prop :=
  ∃ tA tc lA lc, e = .returned (.tuple #[.agg #[.int .i64 R.v, .int .i64 R.f, .slice tA R.told.length tc, .slice lA R.log.length lc], .int .i64 R.e]) ∧ ResAt w' w.heap.size (.slice tA R.told.length tc) (.slice lA R.log.length lc) R.told R.log ∧ Fr None' w w'
theorem EPost.two {w : World} {R : Res} {e : Ending} {w' : World} (h : EPost w R e w') : EPost2 w R e w' := by
  obtain ⟨tv, lv, he, hres, hF⟩ := h
  obtain ⟨tA, tc, rfl⟩ := own_slice hres.1
  obtain ⟨ll, hl, hlo, _⟩ := hres.2
  obtain ⟨lA, lc, rfl⟩ := own_slice hlo
  have hlen : ll.length = R.log.length := by rw [← hl, List.length_map]
  rw [hlen] at he hres
  exact ⟨tA, tc, lA, lc, he, hres, hF⟩

/-- of and Eval over a job, from any later memory. -/
def OfOK (w : World) (z : JobV) (fs : List Fn) : Prop := ∀ W : World, Fr None' w W → Calls Tryd.prog 13 #[.slice z.PA z.n z.c] W fun e w' => ∃ A c, e = .returned (.slice A z.n c) ∧ (∃ L : List LFn, L.length = z.n ∧ fns L = fs ∧ FnRow w' (fun b => b < w'.heap.size) A L) ∧ Fr None' W w'
def EvOf (w : World) (z : JobV) (fs : List Fn) (xs : List Int) : Prop := ∀ (W : World) (A : Option Addr) (c : Nat) (most : Int), Fr None' w W → most ≤ 900000 → (∃ L : List LFn, L.length = z.n ∧ fns L = fs ∧ FnRow W (fun b => b < W.heap.size) A L) →
  Calls Tryd.prog 12 #[.slice A z.n c, .slice z.AA z.m z.d, .agg #[.int .i64 z.bud, .int .i64 z.dep], .int .i64 most] W (EPost2 W (evalR fs xs z.bud z.dep most))
theorem of_ok (w : World) (z : JobV) (L : List LFn) (hl : L.length = z.n) (hR : FnRow w (fun b => b < w.heap.size) z.PA L) (hn : L.length ≤ 20) (hp : ∀ x ∈ L, x.f.code.length ≤ 70) : OfOK w z (fns L) := fun W hF => by
  rw [← hl]
  refine (of_any W z.PA z.c L ((hR.fr hF (fun _ _ h => h)).mono (fun _ hb => Nat.lt_of_lt_of_le hb hF.size)) (by omega) (fun x hx => Nat.le_trans (hp x hx) (by omega))).mono ?_
  rintro e w1 ⟨v, L', rfl, hfn, hM, hF1⟩
  obtain ⟨A, c, rfl, hrow⟩ := hM.row
  have hlen : L'.length = L.length := by
    have := congrArg List.length hfn
    simpa [fns] using this
  exact ⟨A, c, by rw [hlen], ⟨L', hlen, hfn, hrow⟩, hF1⟩
theorem ev_of (w : World) (z : JobV) (fs : List Fn) (xs : List Int) (hT : FieldsAt w) (hn : z.n ≤ 20) (hx : xs.length = z.m) (hm : z.m ≤ 20) (hA : IntsA w z.AA xs) : EvOf w z fs xs := fun W A c most hF hmost ⟨L, hl, hfn, hrow⟩ => by
  have hA' : IntsA W z.AA xs := fun h0 => by
    obtain ⟨b, off, e, hc⟩ := hA h0
    exact ⟨b, off, e, fun j x hj => hF.held (hc j x hj) (fun h => h)⟩
  have := eval_any W A c L hrow (hT.fr hF (fun h => h)) (by omega) z.AA xs z.d hA' (by omega) z.bud z.dep most hmost
  rw [hl, hx, hfn] at this
  exact this.mono fun _ _ h => h.two
theorem rows_fr {w w' : World} {z : JobV} {fs : List Fn} {A : Option Addr} (h : ∃ L : List LFn, L.length = z.n ∧ fns L = fs ∧ FnRow w (fun b => b < w.heap.size) A L) (hF : Fr None' w w') : ∃ L : List LFn, L.length = z.n ∧ fns L = fs ∧ FnRow w' (fun b => b < w'.heap.size) A L := by
  obtain ⟨L, h1, h2, h3⟩ := h
  exact ⟨L, h1, h2, (h3.fr hF (fun _ _ h => h)).mono (fun _ hb => Nat.lt_of_lt_of_le hb hF.size)⟩
end Go.Proofs.YtbhnnnpofindiaaDoor
