/-
  The document's epochs (haymowref11) in memory: New, Limbo.
-/
import Derived.Test.YtjphmiemakmcbaaPureW
namespace Go.Proofs.Ytjphmiemakmcbaa
open Go.RowKit

/-- A thing: whose, which, and the epoch. -/
abbrev Th := Int × Int × Nat
/-- Cells of triples. -/
def tc (l : List Th) : List Value := l.flatMap fun t => [.int .i64 t.1, .int .i64 t.2.1, .int .i64 (t.2.2 : Int)]
theorem tc_cons (x : Th) (r : List Th) : tc (x :: r) = .int .i64 x.1 :: .int .i64 x.2.1 :: .int .i64 (x.2.2 : Int) :: tc r := rfl
theorem tc_length (l : List Th) : (tc l).length = l.length * 3 := by
  induction l with
  | nil => rfl
  | cons x r ih => rw [tc_cons]; simp [ih]; omega
theorem tc_append (a b : List Th) : tc (a ++ b) = tc a ++ tc b := by simp [tc]
theorem tc_at (l : List Th) (i : Nat) (t : Th) (h : l[i]? = some t) : (tc l)[i * 3]? = some (.int .i64 t.1) ∧ (tc l)[i * 3 + 1]? = some (.int .i64 t.2.1) ∧ (tc l)[i * 3 + 2]? = some (.int .i64 (t.2.2 : Int)) := by
  induction l generalizing i with
  | nil => simp at h
  | cons x r ih =>
    rw [tc_cons]
    cases i with
    | zero => simp at h; subst h; simp
    | succ k =>
      have := ih k (by simpa using h)
      rw [show (k + 1) * 3 = k * 3 + 1 + 1 + 1 by omega, show k * 3 + 1 + 1 + 1 + 1 = (k * 3 + 1) + 1 + 1 + 1 by omega, show k * 3 + 1 + 1 + 1 + 2 = (k * 3 + 2) + 1 + 1 + 1 by omega]
      simpa using this
theorem own_th {w : World} {base n i : Nat} {e : TypeId} {v : Value} {l : List Th} {t : Th} (h : w.ownsRow base e 3 v n (tc l)) (hi : l[i]? = some t) :
    ∃ g cap, v = .slice (some ⟨g, 0, none⟩) n cap ∧ base ≤ g ∧ i < n ∧ w.cell? ⟨g, i * 3, none⟩ = some (.int .i64 t.1) ∧ w.cell? ⟨g, i * 3 + 1, none⟩ = some (.int .i64 t.2.1) ∧ w.cell? ⟨g, i * 3 + 2, none⟩ = some (.int .i64 (t.2.2 : Int)) := by
  have hil : i < l.length := (List.getElem?_eq_some_iff.1 hi).1
  have hn : l.length = n := by have := h.1; rw [tc_length] at this; omega
  obtain ⟨g, cap, rfl, hb, _⟩ := h.form (by omega)
  have hadd : ∀ j, (⟨g, 0, none⟩ : Addr).add j = ⟨g, j, none⟩ := by intro j; unfold Addr.add; split <;> simp_all
  have hc := tc_at l i t hi
  have c0 := h.cells (g := g) rfl _ _ hc.1
  have c1 := h.cells (g := g) rfl _ _ hc.2.1
  have c2 := h.cells (g := g) rfl _ _ hc.2.2
  rw [hadd] at c0 c1 c2
  exact ⟨g, cap, rfl, hb, by omega, c0, c1, c2⟩

/-- The document's epochs in memory. -/
structure RfR (w : World) (base lim r now : Nat) (v1 v2 : Value) (anns : List Int) (L : List Th) : Prop where
  hr : Blk w r 35 #[.int .i64 (now : Int), v1, v2]
  br : base ≤ r
  ha : w.ownsRow base 3 1 v1 anns.length (ic anns)
  hl : w.ownsRow base 37 3 v2 L.length (tc L)
  al : ∀ g, v1.ownBlock = some g → g < lim
def RfAt (w : World) (base lim r now : Nat) (anns : List Int) (L : List Th) : Prop := ∃ v1 v2, RfR w base lim r now v1 v2 anns L
theorem RfR.fr {w w' : World} {base lim r now : Nat} {v1 v2 : Value} {anns : List Int} {L : List Th} {B : Nat → Prop} (h : RfR w base lim r now v1 v2 anns L) (hf : Fr B w w') (h1 : ¬ B r) (h2 : ∀ g, v1.ownBlock = some g → ¬ B g) (h3 : ∀ g, v2.ownBlock = some g → ¬ B g) : RfR w' base lim r now v1 v2 anns L :=
  ⟨h.hr.fr hf h1, h.br, own_fr h.ha hf h2, own_fr h.hl hf h3, h.al⟩
theorem ne_int3 : 3 ≠ 55 ∧ 3 ≠ 58 ∧ 3 ≠ 60 := by decide
theorem ne_ref : 35 ≠ 55 ∧ 35 ≠ 58 ∧ 35 ≠ 60 := by decide
theorem ne_thing : 37 ≠ 55 ∧ 37 ≠ 58 ∧ 37 ≠ 60 := by decide
theorem RfAt.frE {w w' : World} {base lim b r now : Nat} {anns : List Int} {L : List Th} (h : RfAt w base lim r now anns L) (hf : FrE b w w') : RfAt w' base lim r now anns L := by
  obtain ⟨v1, v2, h⟩ := h
  exact ⟨v1, v2, h.hr.frE hf ne_ref, h.br, own_frE h.ha hf ne_int3, own_frE h.hl hf ne_thing, h.al⟩
theorem RfAt.f0 {w w' : World} {base lim r now : Nat} {anns : List Int} {L : List Th} (h : RfAt w base lim r now anns L) (hf : Fr F0 w w') : RfAt w' base lim r now anns L := by
  obtain ⟨v1, v2, h⟩ := h
  exact ⟨v1, v2, h.fr hf (fun h => h) (fun _ _ h => h) (fun _ _ h => h)⟩
/-- What only the document's blocks turn leaves package epoch's alone. -/
def RefB (w : World) (base lim k : Nat) : Prop := base ≤ k ∧ ∃ cs t fr, w.heap[k]? = some (.cells cs t fr) ∧ (t = 35 ∨ (t = 3 ∧ k < lim) ∨ t = 37)
abbrev FrR (base lim : Nat) (w w' : World) : Prop := Fr (RefB w base lim) w w'
theorem FrR.trans {base lim : Nat} {a b c : World} (h : FrR base lim a b) (k : FrR base lim b c) : FrR base lim a c := by
  refine ⟨k.os.trans h.os, k.tape.trans h.tape, k.output.trans h.output, Nat.le_trans h.size k.size, fun i hi hn => ?_⟩
  have h1 := h.block i hi hn
  refine (k.block i (Nat.lt_of_lt_of_le hi h.size) ?_).trans h1
  rintro ⟨hb, cs, t, fr, he, ht⟩
  exact hn ⟨hb, cs, t, fr, by rw [← h1]; exact he, ht⟩
theorem EpAt.frR {w w' : World} {base b lim x now : Nat} {ws : List Wk} (h : EpAt w base x now ws) (hf : FrR b lim w w') : EpAt w' base x now ws := by
  refine h.fr hf ?_
  rintro k ⟨cs, t, fr, he, h1⟩ ⟨_, cs', t', fr', he', h2⟩
  rw [he] at he'
  injection he' with he'
  injection he' with _ ht
  subst ht
  revert h1 h2
  rintro (rfl | rfl | rfl) (h | ⟨h, _⟩ | h) <;> exact absurd h (by decide)
/-- A row of numbers that was made behind lim stays. -/
theorem own_frR {w w' : World} {base b lim n : Nat} {v : Value} {xs : List Value} (h : w.ownsRow base 3 1 v n xs) (hf : FrR b lim w w') (hl : lim ≤ base) : w'.ownsRow base 3 1 v n xs := by
  refine own_fr h hf ?_
  rintro g hg ⟨_, cs', t', fr', he', h2⟩
  obtain ⟨cs, hcs⟩ := own_head h g hg
  have hlow := own_low h g hg
  rw [hcs] at he'
  injection he' with he'
  injection he' with _ ht
  subst ht
  revert h2
  rintro (h | ⟨_, h⟩ | h)
  · exact absurd h (by decide)
  · omega
  · exact absurd h (by decide)

set_option maxHeartbeats 4000000 in
theorem rnew_any (w : World) (n : Nat) (h2 : n ≤ 64) :
    Calls Try.prog 10 #[.int .i64 (n : Int)] w fun e w' => e = .returned (.pointer (some ⟨w.heap.size, 0, none⟩)) ∧ RfAt w' w.heap.size w'.heap.size w.heap.size 0 (List.replicate n (-1)) [] ∧ Fr F0 w w' := by
  obtain ⟨i0, hi0, hz0, hz1, hz2⟩ := info_parts info_int
  have HB := Lib.hid (Blk.new w 35 #[.int .i64 0, .slice none 0 0, .slice none 0 0])
  have HFA : Hid (Fr F0 w (w.alloc (.cells #[.int .i64 0, .slice none 0 0, .slice none 0 0] 35))) := (Fr.refl F0 w).alloc _
  go_enter Try.func10, Try.ntmps10
  go_wp2_with fail
  go_loopw [4] (fun i wx => ∃ (k : Nat) (v : Value), k ≤ n ∧ i = .int .i64 (k : Int) ∧ Hid (Blk wx w.heap.size 35 #[.int .i64 0, v, .slice none 0 0]) ∧ Hid (wx.ownsRow w.heap.size 3 1 v k (ic (List.replicate k (-1)))) ∧ Hid (Fr F0 w wx)) (fun i _ => n - (intOf i).toNat)
  case atStart => exact ⟨0, _, by omega, rfl, HB, Lib.hid (World.ownsRow_nil _ _ _ _), HFA⟩
  case round =>
    obtain ⟨k, v, hkn, rfl, HB1, HR, HF⟩ := hrel
    by_cases hk : k < n
    · have e1 : (k : Int) < (n : Int) := by omega
      have c1 : wr.cell? ⟨w.heap.size, 1, none⟩ = some v := by rw [HB1.out.cell]; rfl
      obtain ⟨A, cp, rfl⟩ := own_slice HR.out
      have hxl : w.heap.size < wr.heap.size := HB1.out.lt
      have hnb : (wr.alloc (.cells #[.int .i64 (-1)] 3)).heap[wr.heap.size]? = some (.cells #[.int .i64 (-1)] 3) := heap_alloc_new _ _
      have HNB := Lib.hid hnb
      have HOW := Lib.hid (own_fr HR.out ((Fr.refl F0 wr).alloc (.cells #[.int .i64 (-1)] 3)) (fun _ _ h => h))
      clear hnb
      go_wp2_with (at_builtin; refine wpList_append_lies _ rfl (.tmp 16) (.tmp 17) 33 rfl w.heap.size 3 i0 (.int .i64 0) 1 8 Try.underlying33 hi0 hz0 hz1 hz2 rfl (by decide) _ k _ rfl HOW.out ⟨wr.heap.size, 0, none⟩ 1 1 [.int .i64 (-1)] rfl rfl ?c1 ?c2 (by decide) ?c3 ?c4 ?c5 (wr.heap.size + 1) ?c6 ?_)
      case c1 => intro i u hi; exact World.news_of_block HNB.out i u hi
      case c2 => intro u hu; simp at hu; rcases hu with rfl; rfl
      case c3 => unfold maxLen; omega
      case c4 => omega
      case c5 => simp; omega
      case c6 => simp
      intro g cap w3 hown3 hg3 hor3 hlt3
      have hne : ¬ some w.heap.size = (Value.slice A k cp).ownBlock := fun he => own_ne HR.out HB1.out (by decide) he.symm
      have hb3 : Blk w3 w.heap.size 35 #[.int .i64 0, .slice A k cp, .slice none 0 0] := (HB1.out.alloc (.cells #[.int .i64 (-1)] 3)).fr (Fr.grown hg3) hne
      have c3 : w3.cell? ⟨w.heap.size, 1, none⟩ = some (.slice A k cp) := by rw [hb3.cell]; rfl
      have f3 := hb3.frozen 1
      have hgx : g ≠ w.heap.size := by
        obtain ⟨cs, hcs⟩ := own_head hown3 g rfl
        exact head_ne hcs hb3 (by decide)
      have HF3 : Hid (Fr F0 w w3) := Fr.then (HF.out.alloc _) (Fr.grown hg3) (fun i hi => .inr (own_low HR.out i hi.symm))
      have HB3 := Lib.hid hb3
      have HW3 := Lib.hid hown3
      have HGX := Lib.hid hgx
      clear hown3 hg3 hor3 hlt3 hb3 hne hgx c1
      go_wp2_with fail
      refine ⟨⟨k + 1, .slice (some ⟨g, 0, none⟩) (k + 1) cap, by omega, by go_num, Lib.hid (by simpa using HB3.out.set_ 1 (.slice (some ⟨g, 0, none⟩) (k + 1) cap)), Lib.hid ?_, Lib.hid (HF3.out.setCell (p := ⟨w.heap.size, 1, none⟩) (.inr (Nat.le_refl _)) _)⟩, by simp [intOf]; omega⟩
      have h0 : w3.ownsRow w.heap.size 3 1 (.slice (some ⟨g, 0, none⟩) (k + 1) cap) (k + 1) (ic (List.replicate (k + 1) (-1))) := by
        rw [List.replicate_succ']
        simpa [ic] using HW3.out
      exact own_fr h0 ((Fr.refl (fun q => q = w.heap.size) w3).setCell (p := ⟨w.heap.size, 1, none⟩) (.inl rfl) _) (fun q hq he => HGX.out (by rw [← he]; simpa [Value.ownBlock] using hq))
    · obtain rfl : k = n := by omega
      go_wp2_with fail
      go_ret
      exact ⟨rfl, ⟨v, .slice none 0 0, HB1.out, Nat.le_refl _, by simpa using HR.out, World.ownsRow_nil _ _ _ _, own_lt HR.out⟩, HF.out⟩

set_option maxHeartbeats 4000000 in
theorem rlimbo_any (w : World) (base lim r now : Nat) (anns : List Int) (L : List Th) (hR : RfAt w base lim r now anns L) (hl : L.length ≤ 1000) (v : Int) :
    Calls Try.prog 17 #[.pointer (some ⟨r, 0, none⟩), .int .i64 v] w fun e w' => e = .returned (.int .i64 ((L.filter (fun t => t.1 == v)).length : Int)) ∧ w' = w := by
  obtain ⟨v1, v2, hR⟩ := hR
  obtain ⟨A, cp, rfl⟩ := own_slice hR.hl
  have c2 : w.cell? ⟨r, 2, none⟩ = some (.slice A L.length cp) := by rw [hR.hr.cell]; rfl
  have HL := Lib.hid hR.hl
  obtain ⟨n, hn⟩ : ∃ n, n = L.length := ⟨_, rfl⟩
  rw [← hn] at c2 hl
  have HN := Lib.hid hn
  clear hR hn
  go_enter Try.func17, Try.ntmps17
  go_wp2_with fail
  go_loopw [6, 5] (fun i c wx => ∃ k m : Nat, k ≤ n ∧ m ≤ k ∧ i = .int .i64 (k : Int) ∧ c = .int .i64 (m : Int) ∧ Hid (m = ((L.take k).filter (fun t => t.1 == v)).length) ∧ wx = w) (fun i _ _ => n - (intOf i).toNat)
  case atStart => exact ⟨0, 0, by omega, by omega, rfl, rfl, Lib.hid (by simp), rfl⟩
  case round =>
    obtain ⟨k, m, hkn, hmk, rfl, rfl, HM, rfl⟩ := hrel
    by_cases hk : k < n
    · have e1 : (k : Int) < (n : Int) := by omega
      obtain ⟨t, ht⟩ := get_lt (l := L) (i := k) (by have := HN.out; omega)
      have ht0 : Hid (L[k]? = some t) := ht
      obtain ⟨g, cap, hv, _, _, d0, _, _⟩ := own_th HL.out ht
      injection hv with hv1 _ hv3
      subst hv1; subst hv3
      have hsp : L.take (k + 1) = L.take k ++ [t] := by rw [List.take_add_one, ht]; rfl
      have HSP := Lib.hid hsp
      clear ht hsp
      by_cases htv : t.1 = v
      · have e2 : (t.1 == v) = true := by simp [htv]
        have HE2 := Lib.hid e2
        have d1 : wr.cell? ⟨g, k * 3, none⟩ = some (.int .i64 v) := by rw [← htv]; exact d0
        clear htv d0 e2
        go_wp2_with fail
        exact ⟨⟨k + 1, m + 1, by omega, by omega, by go_num, by go_num, Lib.hid (by rw [HSP.out, List.filter_append, List.length_append, ← HM.out, List.filter_cons, HE2.out]; rfl), trivial⟩, by simp [intOf]; omega⟩
      · have e2 : (t.1 == v) = false := by simp [htv]
        have HE2 := Lib.hid e2
        clear htv
        go_wp2_with fail
        exact ⟨⟨k + 1, m, by omega, by omega, by go_num, rfl, Lib.hid (by rw [HSP.out, List.filter_append, List.length_append, ← HM.out, List.filter_cons, HE2.out]; rfl), trivial⟩, by simp [intOf]; omega⟩
    · obtain rfl : k = n := by omega
      go_wp2_with fail
      go_ret
      refine ⟨?_, rfl⟩
      have := HM.out
      rw [List.take_of_length_le (by have := HN.out; omega)] at this
      rw [← this]
      rfl
end Go.Proofs.Ytjphmiemakmcbaa
