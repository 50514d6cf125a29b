/-
  slices.Delete of the first things of a row.
-/
import Derived.Test.YtjphmiemakmcbaaEp2
import Derived.Deep.RegionLaw
import Derived.Lib.SliceRun
namespace Go.Proofs.Ytjphmiemakmcbaa
open Go.RowKit

theorem step_append_row {P : Program} {ops : Array Oper} {o : Oper} {a : Act} {w : World} {K : Act → World → Prop} {Q : Exit → Act → World → Prop} {E : Prop}
    (hg : o.guard = none) (s x : Operand) (t : TypeId) (hop : o.op = Op.call { callee := Callee.builtin Builtin.append, args := #[s, x], argTypes := #[t, t] })
    (e : TypeId) (i : TypeInfo) (h1 : P.underlying t = some (.slice e)) (h2 : P.info? e = some i)
    (b n cap : Nat) (cur : Array Value) (hs : a.eval s = .slice (some ⟨b, 0, none⟩) n cap) (hB : w.heap[b]? = some (.cells cur e (0, 0)))
    (ad : Addr) (m c : Nat) (news : List Value) (hx : a.eval x = .slice (some ad) m c) (hn : news.length = m * i.size) (hc : ∀ j u, news[j]? = some u → w.cell? (ad.add j) = some u) (h1c : ∀ u ∈ news, u.oneCell' = true)
    (hroom : n + m ≤ cap) (hfit : n * i.size + news.length ≤ cur.size) (W : World) (hW : W = w.setRow b (cur.toList.take (n * i.size) ++ news ++ cur.toList.drop (n * i.size + news.length)).toArray)
    (hK : K (a.put o.dst (.slice (some ⟨b, 0, none⟩) (n + m) cap)) W) :
    if Region.wanted o (yielded ops a.tmps) = true then Oper.wp P o a w K Q else E := by
  have hw : Region.wanted o (yielded ops a.tmps) = true := by simp [Region.wanted, hg]
  rw [if_pos hw]
  have hrun := run_append_room (P := P) w t o.type e i h1 h2 b n cap cur hB ad m c news hn hc h1c hroom hfit
  unfold Oper.wp execOp
  simp only [hop, resolve, invoke, builtin, Sem.run_bind, Sem.run_pure, Result.andThen_ok, List.map_toArray, List.map_cons, List.map_nil, hs, hx, hrun]
  rw [← hW]
  exact hK

theorem Fr.setRow {B : Nat → Prop} {a w : World} (h : Fr B a w) {g : Nat} (hg : B g ∨ a.heap.size ≤ g) (cs : Array Value) : Fr B a (w.setRow g cs) :=
  ⟨h.os, h.tape, h.output, by rw [setRow_size]; exact h.size, fun i hi hn => (setRow_other w g i cs (by
    rintro rfl
    rcases hg with hg | hg
    · exact hn hg
    · omega)).trans (h.block i hi hn)⟩

theorem info_retired : (Try.prog.info? 60).map (fun i => (i.zero, i.size, i.bytes)) = some (some (.agg #[.int .i64 0, .int .i64 0]), 2, 16) := by kernel_rfl
theorem info_worker : (Try.prog.info? 58).map (fun i => (i.zero, i.size, i.bytes)) = some (some (.agg #[.int .i64 0, .slice none 0 0]), 2, 32) := by kernel_rfl
theorem info_int : (Try.prog.info? 3).map (fun i => (i.zero, i.size, i.bytes)) = some (some (.int .i64 0), 1, 8) := by kernel_rfl

theorem info_parts {t : TypeId} {z : Value} {s b : Nat} (h : (Try.prog.info? t).map (fun i => (i.zero, i.size, i.bytes)) = some (some z, s, b)) : ∃ i, Try.prog.info? t = some i ∧ i.zero = some z ∧ i.size = s ∧ i.bytes = b := by
  obtain ⟨i, hi, h2⟩ := Option.map_eq_some_iff.1 h
  simp only [Prod.mk.injEq] at h2
  exact ⟨i, hi, h2.1, h2.2.1, h2.2.2⟩

theorem thC_one (l : List (Int × Nat)) : ∀ u ∈ pc (thC l), u.oneCell' = true := by
  intro u hu
  simp only [pc, thC, List.mem_flatMap, List.mem_map] at hu
  obtain ⟨a, ⟨b, _, rfl⟩, hu⟩ := hu
  simp at hu
  rcases hu with rfl | rfl <;> rfl
theorem thC_length (l : List (Int × Nat)) : (pc (thC l)).length = l.length * 2 := by rw [pc_length]; simp [thC]

set_option maxHeartbeats 4000000 in
theorem del_some (w : World) (base g cap : Nat) (a b : List (Int × Nat)) (ha : 0 < a.length) (h : w.ownsRow base 60 2 (.slice (some ⟨g, 0, none⟩) (a.length + b.length) cap) (a.length + b.length) (pc (thC (a ++ b)))) :
    Calls Try.prog 25 #[.slice (some ⟨g, 0, none⟩) (a.length + b.length) cap, .int .i64 0, .int .i64 (a.length : Int)] w fun e w' => e = .returned (.slice (some ⟨g, 0, none⟩) b.length cap) ∧ w'.ownsRow base 60 2 (.slice (some ⟨g, 0, none⟩) b.length cap) b.length (pc (thC b)) ∧ Fr (fun k => k = g) w w' := by
  obtain ⟨i0, hi0, hz0, hz1, hz2⟩ := info_parts info_retired
  obtain ⟨cur, hb, hg, hnc, hcm, hcs, htk⟩ : ∃ cur, base ≤ g ∧ Blk w g 60 cur ∧ a.length + b.length ≤ cap ∧ cap ≤ maxLen ∧ cur.size = cap * 2 ∧ cur.toList.take ((a.length + b.length) * 2) = pc (thC (a ++ b)) := by
    rcases h.2 with ⟨h0, _⟩ | ⟨g', cap', cur, hv, hb, hg, hnc, hcm, hcs, htk⟩
    · cases h0
    · injection hv with h1 h2 h3
      injection h1 with h1
      injection h1 with h1
      subst h1; subst h3
      exact ⟨cur, hb, hg, hnc, hcm, hcs, htk⟩
  obtain ⟨k, hk⟩ : ∃ k, k = a.length := ⟨_, rfl⟩
  obtain ⟨m, hm⟩ : ∃ m, m = b.length := ⟨_, rfl⟩
  obtain ⟨news, hnews⟩ : ∃ news, news = pc (thC b) := ⟨_, rfl⟩
  have hnl : news.length = m * 2 := by rw [hnews, thC_length, hm]
  have h1c : ∀ u ∈ news, u.oneCell' = true := by rw [hnews]; exact thC_one b
  rw [← hk, ← hm] at htk hnc ⊢
  rw [← hk] at ha
  rw [← hnews]
  have hcur : ∀ j u, news[j]? = some u → w.cell? ⟨g, k * 2 + j, none⟩ = some u := by
    intro j u hu
    have hj : j < m * 2 := by have := (List.getElem?_eq_some_iff.1 hu).1; omega
    rw [hg.cell, ← Array.getElem?_toList, ← List.getElem?_take_of_lt (show k * 2 + j < (k + m) * 2 by omega), htk]
    have : pc (thC (a ++ b)) = pc (thC a) ++ news := by rw [hnews]; simp [thC, pc_append]
    rw [this, List.getElem?_append_right (by rw [thC_length]; omega), thC_length, ← hk, Nat.add_sub_cancel_left]
    exact hu
  obtain ⟨A, hA, hsrc⟩ : ∃ A : Addr, (if cap = k then some (⟨g, 0, none⟩ : Addr) else some ⟨g, k * 2, none⟩) = some A ∧ Hid (∀ t u, news[t]? = some u → w.drew.cell? (A.add t) = some u) := by
    by_cases h : cap = k
    · refine ⟨⟨g, 0, none⟩, by simp [h], fun t u hu => ?_⟩
      have h0 : news.length = 0 := by rw [hnl]; omega
      rw [List.length_eq_zero_iff.1 h0] at hu
      simp at hu
    · refine ⟨⟨g, k * 2, none⟩, by simp [h], fun t u hu => ?_⟩
      rw [Addr.add_lit]
      exact hcur t u hu
  obtain ⟨c1, hc1⟩ : ∃ c1 : Array Value, c1 = (cur.toList.take (0 * i0.size) ++ news ++ cur.toList.drop (0 * i0.size + news.length)).toArray := ⟨_, rfl⟩
  obtain ⟨W1, hW1⟩ : ∃ W1, W1 = w.drew.setRow g c1 := ⟨_, rfl⟩
  have hB1 : Blk W1 g 60 c1 := by rw [hW1]; exact setRow_heap _ _ _ _ _ _ hg.drew
  have hF1 : Fr (fun k => k = g) w W1 := by rw [hW1]; exact (Fr.refl (fun k => k = g) w).drew.setRow (.inl rfl) _
  have hs1 : c1.size = cap * 2 := by
    rw [hc1]
    simp [hnl]
    omega
  obtain ⟨c2, hc2⟩ : ∃ c2 : Array Value, c2 = (c1.toList.take (m * 2 + 0) ++ (Builtin.zeroCells #[.int .i64 0, .int .i64 0] k).toList ++ c1.toList.drop (m * 2 + 0 + (Builtin.zeroCells #[.int .i64 0, .int .i64 0] k).toList.length)).toArray := ⟨_, rfl⟩
  have hzl : (Builtin.zeroCells #[Value.int .i64 0, .int .i64 0] k).toList.length = k * 2 := by rw [Array.length_toList, size_zeroCells]; rfl
  have hcl : ∀ ty, (Builtin.clear_ #[56] ty #[.slice (some ⟨g, m * 2, none⟩) k (cap - m)]).run Try.prog W1 = .ok (.tuple #[]) (W1.setRow g c2) := by
    intro ty
    have hst := run_storeCells_at Try.prog g (m * 2) 60 (Builtin.zeroCells #[Value.int .i64 0, .int .i64 0] k).toList 0 c1 W1 hB1 (by rw [hzl, hs1]; omega) (by
      intro u hu
      simp [Builtin.zeroCells] at hu
      obtain ⟨q, _, rfl⟩ := hu
      have : q % 2 = 0 ∨ q % 2 = 1 := by omega
      rcases this with h | h <;> simp [h] <;> rfl)
    rw [← hc2] at hst
    have hzv : ∀ w, (zeroValue 60).run Try.prog w = .ok (.agg #[.int .i64 0, .int .i64 0]) w := by
      intro w
      simp [zeroValue, typeInfo, hi0, hz0]
    obtain ⟨k', rfl⟩ : ∃ k', k = k' + 1 := ⟨k - 1, by omega⟩
    simp [Builtin.clear_, run_underlying Try.underlying56, hzv, Value.cells, hst]
  have HB1 := Lib.hid hB1
  have HF1 := Lib.hid hF1
  have HH : Hid (w.heap[g]? = some (.cells cur 60 (0, 0))) := hg
  have HW1 := Lib.hid hW1
  have HC1 := Lib.hid hc1
  have HC2 := Lib.hid hc2
  have HNL := Lib.hid hnl
  have H1C := Lib.hid h1c
  have HS1 := Lib.hid hs1
  have HCS := Lib.hid hcs
  have HZ1 := Lib.hid hz1
  have HLOW := Lib.hid hb
  have HCM := Lib.hid hcm
  have HZL := Lib.hid hzl
  clear hg hB1 hF1 hW1 hc1 hc2 hnl h1c hs1 hcs hnews h htk hcur hz0 hz1 hz2 hb hcm hzl hk hm
  have e1 : ¬ (k : Int) = 0 := by omega
  have e2 : ((0 : Int) == (k : Int)) = false := by simp; omega
  have e3 : k ≤ cap := by omega
  have e4 : (k : Int) ≤ (k : Int) + (m : Int) := by omega
  go_enter Try.func25, Try.ntmps25
  go_wp2_with fail
  go_region_law (refine step_append_row rfl (.tmp 22) (.tmp 25) 56 rfl 60 i0 Try.underlying56 hi0 g 0 cap cur (by simp [Act.eval, Act.put]) HH.out A m (cap - k) news (by simp [Act.eval, Act.put]) (by rw [HZ1.out]; exact HNL.out) hsrc.out H1C.out (by omega) (by rw [HZ1.out, HNL.out, HCS.out]; omega) W1 (by rw [HW1.out, HC1.out]) ?_)
  go_wp2_with fail
  go_ret
  have hB2 : Blk (W1.setRow g c2) g 60 c2 := setRow_heap _ _ _ _ _ _ HB1.out
  refine ⟨rfl, ⟨HNL.out, .inr ⟨g, cap, c2, rfl, HLOW.out, hB2, by omega, HCM.out, ?_, ?_⟩⟩, HF1.out.setRow (.inl rfl) _⟩
  · rw [HC2.out]
    have h1 := HZL.out
    have h2 := HS1.out
    simp only [List.size_toArray, List.length_append, List.length_take, List.length_drop, Array.length_toList] at h1 ⊢
    omega
  · have h0 := HNL.out
    have h1 : c1.toList.take (m * 2) = news := by
      rw [HC1.out, Nat.zero_mul, List.take_zero, List.nil_append, List.take_append_of_le_length (by omega), List.take_of_length_le (by omega)]
    have h3 : (c1.toList.take (m * 2)).length = m * 2 := by rw [h1, h0]
    rw [HC2.out, Nat.add_zero, List.append_assoc, List.take_append_of_le_length (by omega), List.take_of_length_le (by omega), h1]
theorem own_cap {w : World} {base size n : Nat} {e : TypeId} {v : Value} {xs : List Value} (h : w.ownsRow base e size v n xs) : ∃ A c, v = .slice A n c ∧ n ≤ c := by
  rcases h.2 with ⟨rfl, rfl⟩ | ⟨g1, cap, cur, rfl, hb, h1, hc, _⟩
  · exact ⟨none, 0, rfl, Nat.le_refl _⟩
  · exact ⟨_, cap, rfl, hc⟩
theorem del_none (w : World) (A : Option Addr) (n cap : Nat) (hc : n ≤ cap) :
    Calls Try.prog 25 #[.slice A n cap, .int .i64 0, .int .i64 0] w fun e w' => e = .returned (.slice A n cap) ∧ w' = w := by
  go_enter Try.func25, Try.ntmps25
  go_wp2_with fail
  go_ret
  exact ⟨rfl, rfl⟩
theorem del_any (w : World) (base : Nat) (v : Value) (a b : List (Int × Nat)) (h : w.ownsRow base 60 2 v (a ++ b).length (pc (thC (a ++ b)))) :
    Calls Try.prog 25 #[v, .int .i64 0, .int .i64 (a.length : Int)] w fun e w' => ∃ v', e = .returned v' ∧ w'.ownsRow base 60 2 v' b.length (pc (thC b)) ∧ v'.ownBlock = v.ownBlock ∧ Fr (fun k => v.ownBlock = some k) w w' := by
  by_cases ha : 0 < a.length
  · obtain ⟨g, cap, rfl, _, _⟩ := h.form (by rw [List.length_append]; omega)
    rw [List.length_append] at h ⊢
    refine (del_some w base g cap a b ha h).mono ?_
    rintro e w' ⟨rfl, h1, h2⟩
    exact ⟨_, rfl, h1, rfl, h2.mono (fun k hk => by rw [hk]; rfl)⟩
  · have : a = [] := List.eq_nil_of_length_eq_zero (by omega)
    subst this
    obtain ⟨A, c, rfl, hc⟩ := own_cap h
    refine (del_none w A _ c hc).mono ?_
    rintro e w' ⟨rfl, rfl⟩
    exact ⟨_, rfl, by simpa using h, rfl, Fr.refl _ _⟩
end Go.Proofs.Ytjphmiemakmcbaa
