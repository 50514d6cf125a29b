/-
  The statement that ranges over path.parts' iterator: a law of the walk, for a body that goes on or returns.
-/
import Derived.Test.YtafchncdolagdaaDoorItr
namespace Go.Proofs.YtafchncdolagdaaDoor
open Go.RowKit

/-- How a round's body is left. -/
def rndPost (Kp : World → World → Prop) (J : World → Prop) (Jx : World → Prop) (W : World) : Exit → Act → World → Prop
  | .normal, _, W' => Kp W W' ∧ J W'
  | .ret, _, W' => Kp W W' ∧ Jx W'
  | _, _, _ => False

/-- The three blocks that a round leaves alone. -/
def Kp3 (a b c : Nat) (W W' : World) : Prop := W.heap.size ≤ W'.heap.size ∧ W'.heap[a]? = W.heap[a]? ∧ W'.heap[b]? = W.heap[b]? ∧ W'.heap[c]? = W.heap[c]?

theorem put_fr (W : World) (l : Nat) (o : Obj) (B : Nat → Prop) (h : B l) : Fr B W (W.putObj l o) :=
  ⟨rfl, rfl, rfl, by simp [World.putObj], fun k _ hn => World.putObj_heap_other (fun e => hn (e ▸ h))⟩

set_option maxHeartbeats 4000000 in
theorem wp_range {n : Nat} {g : Operand} {ps : Array Tmp} {assign body : Code} {Q : Exit → Act → World → Prop} {a : Act} {w : World} {Bs : Nat} (r0 : List UInt8)
    (hg : a.eval g = .func (.func 27) #[] #[.pointer (some ⟨Bs, 0, none⟩)]) (hps : ps.size = 1) (hr0 : r0.length ≤ 1000000)
    (hB : Blk w Bs 9 #[.string ⟨r0.toArray⟩])
    (J : List (List UInt8) → World → Prop) (Jx : World → Prop)
    (hJ : ∀ pre W W', J pre W → Fr (fun k => k = Bs ∨ k = w.heap.size + 1) W W' → J pre W')
    (hJx : ∀ W W', Jx W → Fr (fun k => k = Bs ∨ k = w.heap.size + 1) W W' → Jx W')
    (h0 : J [] w) (a₁ : List UInt8 → Act)
    (hassign : ∀ (l k : Nat) (x : List UInt8) (W : World) (K : Act → World → Prop), K (a₁ x) W →
      assign.wpIn (Fence.wide.inRound l) k Tryd.prog (Exit.then K (fun _ _ _ => False)) { tmps := (ps.zip #[Value.string ⟨x.toArray⟩]).foldl (fun t (p, v) => t.setIfInBounds p v) a.tmps, defers := [] } W)
    (hbody : ∀ (l k : Nat) (pre : List (List UInt8)) (x : List UInt8) (W : World), J pre W → (∃ rest, pre ++ x :: rest = splitD 46 r0) → Bs < W.heap.size → w.heap.size + 1 < W.heap.size →
      body.wpIn (Fence.wide.inRound l) k Tryd.prog (rndPost (Kp3 Bs w.heap.size (w.heap.size + 1)) (J (pre ++ [x])) Jx W) (a₁ x) W)
    (hdone : ∀ W, J (splitD 46 r0) W → W.heap[w.heap.size]? = some (.deferred (some [])) → Q .normal { a with defers := { target := .collected w.heap.size, args := #[] } :: a.defers } W)
    (hstop : ∀ W, Jx W → W.heap[w.heap.size]? = some (.deferred (some [])) → Code.ret.wpIn Fence.wide n Tryd.prog Q { a with defers := { target := .collected w.heap.size, args := #[] } :: a.defers } W) :
    (Code.rangeFunc g ps assign body).wpIn Fence.wide n Tryd.prog Q a w := by
  have hBlt : Bs < w.heap.size := hB.lt
  refine wpIn_rangeFunc ?_
  intro fn _
  obtain ⟨rec, hrec⟩ : ∃ rec : LoopState → Option Code → Loop, rec = fun st pe => { state := st, pending := pe, fn, tmps := a.tmps, params := ps, assign, body, defers := w.heap.size } := ⟨_, rfl⟩
  obtain ⟨W1, hW1⟩ : ∃ W1, (w.alloc (.deferred (some []))).alloc (.loop (rec .ready none)) = W1 := ⟨_, rfl⟩
  have hL1 : W1.heap[w.heap.size + 1]? = some (.loop (rec .ready none)) := by
    rw [← hW1]; have := World.alloc_heap_new (w.alloc (.deferred (some []))) (.loop (rec .ready none)); rwa [World.size_alloc] at this
  have hK1 : W1.heap[w.heap.size]? = some (.deferred (some [])) := by
    rw [← hW1]; exact (Below.heap_alloc _ _ _ (by simp)).trans (World.alloc_heap_new w _)
  have hF1 : Fr (fun k => k = Bs ∨ k = w.heap.size + 1) w W1 := by rw [← hW1]; exact ((Fr.refl _ w).alloc _).alloc _
  have hI1 : J [] W1 := hJ _ _ _ h0 hF1
  have hB1 : Blk W1 Bs 9 #[.string ⟨r0.toArray⟩] := by rw [← hW1]; exact (hB.alloc _).alloc _
  refine ⟨w.heap.size + 1, [{ target := .collected w.heap.size, args := #[] }], W1, { target := .fn (.func 27) #[.pointer (some ⟨Bs, 0, none⟩)], args := #[.func (.yield (w.heap.size + 1)) #[] #[]] }, W1, 27,
    #[.func (.yield (w.heap.size + 1)) #[] #[], .pointer (some ⟨Bs, 0, none⟩)], W1, ?_, ?_, ?_, ?_, fun h => (by simp [Fence.wide] at h), ?_⟩
  · rw [← hW1, hrec]; exact run_enterLoop_outer _ _ _ _ _
  · simp only [resolve, hg]
    simp [go_sem]
  · intro f' _; trivial
  · simp [invoke, go_sem]
  · refine (iter_in (n - 1) (w.heap.size + 1) Bs r0 hr0
      (fun pre r W => J pre W ∧ Blk W Bs 9 #[.string ⟨r.toArray⟩] ∧ W.heap[w.heap.size + 1]? = some (.loop (rec .ready none)) ∧ W.heap[w.heap.size]? = some (.deferred (some [])))
      (fun W => Jx W ∧ W.heap[w.heap.size + 1]? = some (.loop (rec .done (some .ret))) ∧ W.heap[w.heap.size]? = some (.deferred (some [])))
      (fun pre r W h => ⟨by rw [h.2.1.cell]; rfl, h.2.1.frozen 0⟩)
      (fun pre r r' W h => ⟨hJ _ _ _ h.1 ((Fr.refl _ W).setCell (.inl (.inl rfl)) _), h.2.1.set_ 0 _,
        (Below.heap_setCell W ⟨Bs, 0, none⟩ _ _ (by show w.heap.size + 1 ≠ Bs; omega)).trans h.2.2.1, (Below.heap_setCell W ⟨Bs, 0, none⟩ _ _ (by show w.heap.size ≠ Bs; omega)).trans h.2.2.2⟩)
      (fun pre r W q h => ⟨hJ _ _ _ h.1 ((Fr.refl _ W).drewN q), h.2.1.drewN q, h.2.2⟩)
      ?_ W1 ⟨hI1, hB1, hL1, hK1⟩).mono ?_
    · rintro k pre x r W ⟨hi, hb, hl, hk⟩ hrest
      have hlt : w.heap.size + 1 < W.heap.size := (Array.getElem?_eq_some_iff.1 hl).1
      have hy := run_yield (P := Tryd.prog) (args := #[Value.string ⟨x.toArray⟩]) hl (by rw [hrec]; simp [hps])
      rw [hrec] at hy
      refine ⟨fn, _, assign, body, hy, roundIn_of_wpIn trivial (hassign _ _ x W _ ⟨_, run_beginRound hl (by rw [hrec]), ?_⟩)⟩
      obtain ⟨W2, hW2⟩ : ∃ W2, W.putObj (w.heap.size + 1) (.loop { rec .ready none with state := .busy }) = W2 := ⟨_, rfl⟩
      have hl2 : W2.heap[w.heap.size + 1]? = some (.loop { rec .ready none with state := .busy }) := by rw [← hW2]; exact World.putObj_heap_same hlt
      have hk2 : W2.heap[w.heap.size]? = some (.deferred (some [])) := by rw [← hW2]; exact (World.putObj_heap_other (by omega)).trans hk
      have hb2 : Blk W2 Bs 9 #[.string ⟨r.toArray⟩] := by rw [← hW2]; exact (World.putObj_heap_other (show Bs ≠ w.heap.size + 1 by omega)).trans hb
      have hi2 : J pre W2 := by rw [← hW2]; exact hJ _ _ _ hi (put_fr W _ _ _ (.inr rfl))
      rw [hW2]
      refine wpIn_mono (hbody _ _ pre x W2 hi2 hrest hb2.lt (Array.getElem?_eq_some_iff.1 hl2).1) ?_
      have fin : ∀ (jump : Option Code) (W3 : World), Kp3 Bs w.heap.size (w.heap.size + 1) W2 W3 →
          (Instr.endRound (w.heap.size + 1) jump).run Tryd.prog W3 = .ok (.bool jump.isNone) (W3.putObj (w.heap.size + 1) (.loop (rec (if jump.isNone then .ready else .done) jump))) ∧
          (W3.putObj (w.heap.size + 1) (.loop (rec (if jump.isNone then .ready else .done) jump))).heap[w.heap.size + 1]? = some (.loop (rec (if jump.isNone then .ready else .done) jump)) ∧
          (W3.putObj (w.heap.size + 1) (.loop (rec (if jump.isNone then .ready else .done) jump))).heap[w.heap.size]? = some (.deferred (some [])) ∧
          Blk (W3.putObj (w.heap.size + 1) (.loop (rec (if jump.isNone then .ready else .done) jump))) Bs 9 #[.string ⟨r.toArray⟩] := fun jump W3 hk3 => by
        obtain ⟨_, k1, k2, k3⟩ := hk3
        have hl3 := k3.trans hl2
        have := run_endRound (P := Tryd.prog) jump hl3
        rw [hrec] at this ⊢
        exact ⟨this, World.putObj_heap_same (Array.getElem?_eq_some_iff.1 hl3).1, (World.putObj_heap_other (by omega)).trans (k2.trans hk2), (World.putObj_heap_other (show Bs ≠ w.heap.size + 1 by omega)).trans (k1.trans hb2)⟩
      rintro e a3 W3 hp
      cases e with
      | normal =>
        obtain ⟨hk3, hi3⟩ := hp
        obtain ⟨hr, hl4, hk4, hb4⟩ := fin none W3 hk3
        exact ⟨_, _, hr, .inl ⟨rfl, hJ _ _ _ hi3 (put_fr W3 _ _ _ (.inr rfl)), hb4, hl4, hk4⟩⟩
      | ret =>
        obtain ⟨hk3, hi3⟩ := hp
        obtain ⟨hr, hl4, hk4, _⟩ := fin (some .ret) W3 hk3
        exact ⟨_, _, hr, .inr ⟨rfl, hJx _ _ hi3 (put_fr W3 _ _ _ (.inr rfl)), hl4, hk4⟩⟩
      | exit id => exact hp.elim
      | goto t => exact hp.elim
      | panic ch => exact hp.elim
      | outgrown => exact hp.elim
    · rintro e W2 ⟨⟨v, rfl⟩, (⟨r, hi, hb, hl, hk⟩ | ⟨hi, hl, hk⟩)⟩
      · exact ⟨none, _, by have := run_endLoop (P := Tryd.prog) hl (by rw [hrec]; simp); rw [hrec] at this; exact this, hdone _ (hJ _ _ _ hi (put_fr W2 _ _ _ (.inr rfl))) ((World.putObj_heap_other (by omega)).trans hk)⟩
      · exact ⟨some .ret, _, by have := run_endLoop (P := Tryd.prog) hl (by rw [hrec]; simp); rw [hrec] at this; exact this, hstop _ (hJx _ _ hi (put_fr W2 _ _ _ (.inr rfl))) ((World.putObj_heap_other (by omega)).trans hk)⟩
end Go.Proofs.YtafchncdolagdaaDoor
