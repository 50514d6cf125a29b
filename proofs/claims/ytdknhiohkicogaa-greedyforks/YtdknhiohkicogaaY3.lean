/-
  A map of counts; greedy.Plan's memory; greedy.Plan. No condition.
-/
import Derived.Test.YtdknhiohkicogaaY2
import Derived.MapKept
namespace Go.Proofs.Ytdknhiohkicogaa
open Go.RowKit Go.MapKept

/-! ### A map from numbers to numbers: what is not there is 0 -/
def MapI (w : World) (b : Nat) (f : Int → Nat) : Prop :=
  ∃ es c, w.heap[b]? = some (.map es c) ∧ Stamped es c ∧ (∀ x ∈ es.toList, IsKey (.int .i64) x.key) ∧ ∀ k : Int, (∀ x ∈ es.toList, x.key = .int .i64 k → x.val = .int .i64 ((f k : Nat) : Int)) ∧ ((∀ x ∈ es.toList, x.key ≠ .int .i64 k) → f k = 0)

theorem MapI.new (w : World) : MapI (w.alloc (.map #[] 0)) w.heap.size (fun _ => 0) :=
  ⟨#[], 0, heap_alloc_new _ _, stamped_empty 0, by simp, fun k => ⟨by simp, fun _ => rfl⟩⟩
theorem MapI.fr {w w' : World} {b : Nat} {f : Int → Nat} {B : Nat → Prop} (h : MapI w b f) (hf : Fr B w w') (hB : ¬ B b) : MapI w' b f := by
  obtain ⟨es, c, h1, h2⟩ := h
  have hlt : b < w.heap.size := by
    rcases Nat.lt_or_ge b w.heap.size with hl | hl
    · exact hl
    · rw [Array.getElem?_eq_none hl] at h1; cases h1
  exact ⟨es, c, (hf.block b hlt hB).trans h1, h2⟩
theorem MapI.ne {w : World} {b g : Nat} {f : Int → Nat} {t : TypeId} {cs : Array Value} (h : MapI w b f) (hB : Blk w g t cs) : g ≠ b := by
  rintro rfl
  obtain ⟨es, c, h1, _⟩ := h
  unfold Blk at hB
  rw [h1] at hB
  cases hB
theorem MapI.lt {w : World} {b : Nat} {f : Int → Nat} (h : MapI w b f) : b < w.heap.size := by
  obtain ⟨es, c, h1, h2⟩ := h
  rcases Nat.lt_or_ge b w.heap.size with hl | hl
  · exact hl
  · rw [Array.getElem?_eq_none hl] at h1; cases h1
theorem MapI.congr {w : World} {b : Nat} {f f' : Int → Nat} (h : MapI w b f) (he : ∀ k, f k = f' k) : MapI w b f' := by
  have : f = f' := funext he
  exact this ▸ h

theorem MapI.look {w : World} {b : Nat} {f : Int → Nat} (h : MapI w b f) (k : Int) :
    (Instr.lookup 43 (.map (some b)) (.int .i64 k) false).run Try.prog w = .ok (.int .i64 ((f k : Nat) : Int)) w := by
  obtain ⟨es, c, hb, hs, hks, hv⟩ := h
  have hz : (zeroValue 3).run Try.prog w = .ok (.int .i64 0) w := by kernel_rfl
  have hk : IsKey (.int .i64) (.int .i64 k) := by trivial
  rcases findNow_spec hk es.toList 0 hks with ⟨h1, h2⟩ | ⟨j, e, h1, h2, h3⟩
  · have hf : f k = 0 := (hv k).2 h2
    simp [Instr.lookup, MapKept.run_getObj_map (P := Try.prog) hb, run_checkKey (P := Try.prog) (w := w) Try.underlying3 hk, run_findKey (P := Try.prog) (w := w) Try.underlying3 h1, hz, hf, Result.andThen]
  · have hval : e.val = .int .i64 ((f k : Nat) : Int) := (hv k).1 e (List.mem_of_getElem? h2) h3
    simp [Instr.lookup, MapKept.run_getObj_map (P := Try.prog) hb, run_checkKey (P := Try.prog) (w := w) Try.underlying3 hk, run_findKey (P := Try.prog) (w := w) Try.underlying3 h1, hval, Result.andThen]

theorem Fr.obj {w : World} {b : Nat} {o o' : Obj} (_hb : w.heap[b]? = some o) : Fr (fun q => q = b) w { w with heap := w.heap.setIfInBounds b o' } :=
  ⟨rfl, rfl, rfl, by simp, fun k _ hn => by simp [Ne.symm hn]⟩

theorem MapI.upd {w : World} {b : Nat} {f : Int → Nat} (h : MapI w b f) (k : Int) (v : Nat) :
    ∃ w', (Instr.mapUpdate 43 (.map (some b)) (.int .i64 k) (.int .i64 (v : Int))).run Try.prog w = .ok () w' ∧ MapI w' b (fun x => if x = k then v else f x) ∧ Fr (fun q => q = b) w w' := by
  obtain ⟨es, c, hb, hs, hks, hv⟩ := h
  have hk : IsKey (.int .i64) (.int .i64 k) := by trivial
  rcases findNow_spec hk es.toList 0 hks with ⟨h1, h2⟩ | ⟨j, e, h1, h2, h3⟩
  · refine ⟨{ w with heap := w.heap.setIfInBounds b (.map (es.push ⟨.int .i64 k, .int .i64 (v : Int), c⟩) (c + 1)) }, ?_, ?_, Fr.obj hb⟩
    · simp [Instr.mapUpdate, run_underlying Try.underlying43, MapKept.run_getObj_map (P := Try.prog) hb, run_checkKey (P := Try.prog) (w := w) Try.underlying3 hk, run_findKey (P := Try.prog) (w := w) Try.underlying3 h1, MapKept.run_setObj_map (P := Try.prog) _ hb, Result.andThen]
    · refine ⟨_, _, (heap_set hb).1, stamped_push hs h2, ?_, fun k' => ⟨fun x hx hxk => ?_, fun hno => ?_⟩⟩
      · intro x hx
        simp only [Array.toList_push, List.mem_append, List.mem_singleton] at hx
        rcases hx with hx | rfl
        · exact hks x hx
        · exact hk
      · simp only [Array.toList_push, List.mem_append, List.mem_singleton] at hx
        rcases hx with hx | rfl
        · have hne : k' ≠ k := by rintro rfl; exact h2 x hx hxk
          simp only [if_neg hne]
          exact (hv k').1 x hx hxk
        · have : k' = k := by
            simp only [Value.int.injEq] at hxk
            omega
          simp [this]
      · have hne : k' ≠ k := by
          rintro rfl
          exact hno ⟨.int .i64 k', .int .i64 (v : Int), c⟩ (by simp) rfl
        simp only [if_neg hne]
        exact (hv k').2 (fun x hx => hno x (by simp [hx]))
  · have hj : es[j]? = some e := by simpa using h2
    have hkey : ∀ e', es[j]? = some e' → ({ e' with key := Value.int .i64 k, val := Value.int .i64 (v : Int) } : MapEntry).key = e'.key := fun e' he' => by rw [hj] at he'; cases he'; exact h3.symm
    refine ⟨{ w with heap := w.heap.setIfInBounds b (.map (es.modify j fun e' => { e' with key := .int .i64 k, val := .int .i64 (v : Int) }) c) }, ?_, ?_, Fr.obj hb⟩
    · simp [Instr.mapUpdate, run_underlying Try.underlying43, MapKept.run_getObj_map (P := Try.prog) hb, run_checkKey (P := Try.prog) (w := w) Try.underlying3 hk, run_findKey (P := Try.prog) (w := w) Try.underlying3 h1, hj, h3, run_keyThatStays hk, MapKept.run_setObj_map (P := Try.prog) _ hb, Result.andThen]
    · have hjl : j < es.size := (Array.getElem?_eq_some_iff.1 hj).1
      have hpw : es.toList.Pairwise (fun x y => x.key ≠ y.key) := ((stamped_iff es c).1 hs).2.2
      have hat : ∀ (i : Nat) (x : MapEntry), (es.modify j fun e' => { e' with key := .int .i64 k, val := .int .i64 (v : Int) })[i]? = some x → (i = j ∧ x.key = .int .i64 k ∧ x.val = .int .i64 (v : Int)) ∨ (i ≠ j ∧ es[i]? = some x) := by
        intro i x hx
        rw [Array.getElem?_modify] at hx
        by_cases hij : j = i
        · subst hij
          simp [hj] at hx
          subst hx
          exact .inl ⟨rfl, rfl, rfl⟩
        · simp [hij] at hx
          exact .inr ⟨Ne.symm hij, hx⟩
      refine ⟨_, _, (heap_set hb).1, stamped_modify hs _ _ (fun _ _ => rfl) (fun e' _ he' => hkey e' he'), isKey_modify hks _ _ hkey, fun k' => ⟨fun x hx hxk => ?_, fun hno => ?_⟩⟩
      · obtain ⟨i, hi⟩ := List.getElem?_of_mem hx
        rw [Array.getElem?_toList] at hi
        rcases hat i x hi with ⟨_, hk1, hv1⟩ | ⟨hne, hx1⟩
        · have : k' = k := by
            rw [hk1] at hxk
            simp only [Value.int.injEq] at hxk
            omega
          simp [this, hv1]
        · have hne2 : k' ≠ k := by
            rintro rfl
            have hil : i < es.size := (Array.getElem?_eq_some_iff.1 hx1).1
            have h5 : es[i] = x := (Array.getElem?_eq_some_iff.1 hx1).2
            have h6 : es[j] = e := (Array.getElem?_eq_some_iff.1 hj).2
            rcases Nat.lt_or_gt_of_ne hne with hl | hl
            · have := List.pairwise_iff_getElem.1 hpw i j (by simpa using hil) (by simpa using hjl) hl
              simp only [Array.getElem_toList, h5, h6] at this
              exact this (hxk.trans h3.symm)
            · have := List.pairwise_iff_getElem.1 hpw j i (by simpa using hjl) (by simpa using hil) hl
              simp only [Array.getElem_toList, h5, h6] at this
              exact this (h3.trans hxk.symm)
          simp only [if_neg hne2]
          exact (hv k').1 x (List.mem_of_getElem? (by rw [Array.getElem?_toList]; exact hx1)) hxk
      · have hne2 : k' ≠ k := by
          rintro rfl
          refine hno { e with key := .int .i64 k', val := .int .i64 (v : Int) } ?_ rfl
          refine List.mem_of_getElem? (i := j) ?_
          rw [Array.getElem?_toList, Array.getElem?_modify]
          simp [hj]
        simp only [if_neg hne2]
        refine (hv k').2 fun x hx hxk => ?_
        obtain ⟨i, hi⟩ := List.getElem?_of_mem hx
        rw [Array.getElem?_toList] at hi
        by_cases hij : i = j
        · subst hij
          rw [hj] at hi
          injection hi with hi
          subst hi
          rw [h3] at hxk
          simp only [Value.int.injEq] at hxk
          omega
        · refine hno x (List.mem_of_getElem? (i := i) ?_) hxk
          rw [Array.getElem?_toList, Array.getElem?_modify]
          simp [Ne.symm hij, hi]

/-- The same over natural numbers. -/
def MapN (w : World) (b : Nat) (f : Nat → Nat) : Prop := MapI w b (fun z => if 0 ≤ z then f z.toNat else 0)
section
variable {w w' : World} {b g : Nat} {f f' : Nat → Nat}
theorem MapN.new (w : World) : MapN (w.alloc (.map #[] 0)) w.heap.size (fun _ => 0) := (MapI.new w).congr (fun z => by split <;> rfl)
theorem MapN.fr {B : Nat → Prop} (h : MapN w b f) (hf : Fr B w w') (hB : ¬ B b) : MapN w' b f := MapI.fr h hf hB
theorem MapN.ne {t : TypeId} {cs : Array Value} (h : MapN w b f) (hB : Blk w g t cs) : g ≠ b := MapI.ne h hB
theorem MapN.lt (h : MapN w b f) : b < w.heap.size := MapI.lt h
theorem MapN.congr (h : MapN w b f) (he : ∀ k, f k = f' k) : MapN w b f' := by
  have : f = f' := funext he
  exact this ▸ h
theorem MapN.look (h : MapN w b f) (k : Nat) : (Instr.lookup 43 (.map (some b)) (.int .i64 (k : Int)) false).run Try.prog w = .ok (.int .i64 ((f k : Nat) : Int)) w := by
  have := MapI.look h (k : Int)
  simpa using this
theorem MapN.upd (h : MapN w b f) (k v : Nat) :
    ∃ w', (Instr.mapUpdate 43 (.map (some b)) (.int .i64 (k : Int)) (.int .i64 (v : Int))).run Try.prog w = .ok () w' ∧ MapN w' b (fun x => if x = k then v else f x) ∧ Fr (fun q => q = b) w w' := by
  obtain ⟨w', h1, h2, h3⟩ := MapI.upd h (k : Int) v
  refine ⟨w', h1, MapI.congr h2 (fun z => ?_), h3⟩
  by_cases h0 : 0 ≤ z
  · by_cases hz : z = (k : Int)
    · subst hz; simp
    · simp only [if_neg hz, if_pos h0]
      rw [if_neg (by omega)]
  · have : ¬ z = (k : Int) := by omega
    simp only [if_neg this, if_neg h0]
end
end Go.Proofs.Ytdknhiohkicogaa
