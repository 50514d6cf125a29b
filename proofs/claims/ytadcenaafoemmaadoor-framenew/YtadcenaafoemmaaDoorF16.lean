/-
  A copy of a slice of registers; a slice without room. No condition.
-/
import Derived.Test.YtadcenaafoemmaaDoorF13
import Derived.ArgAppend
import Derived.Lib.SliceRun
import Derived.Lib.BufferMore
import Derived.Test.YtadcenaafoemmaaDoorF56
import Derived.Deep.RegionLawGrows
import Derived.BigQuiet
import Derived.IntWalk
namespace Go.Proofs.YtadcenaafoemmaaDoor
open Go.RowKit

theorem info_i64 : (Tryd.prog.info? 2).map (fun i => (i.zero, i.size, i.bytes)) = some (some (.int .i64 0), 1, 8) := by kernel_rfl

set_option maxHeartbeats 8000000 in
set_option maxRecDepth 100000 in
theorem clone64_any (w : World) (P : Option Addr) (path : List Int) (pc : Nat) (hN : P = none → pc = 0) (hP : IntsA w P path) (h50 : path.length ≤ 1000) :
    Calls Tryd.prog 82 #[.slice P path.length pc] w fun e w' => ∃ v, e = .returned v ∧ w'.ownsRow w.heap.size 2 1 v path.length (ints path) ∧ Fr None' w w' := by
  cases P with
  | none =>
    have hz := hN rfl
    subst hz
    have he : path = [] := by
      rcases Nat.eq_zero_or_pos path.length with h | h
      · exact List.eq_nil_of_length_eq_zero h
      · obtain ⟨b, off, h', _⟩ := hP h
        cases h'
    subst he
    have hq : (binOp .eql 34 (.slice none 0 0) (.slice none 0 0)).run Tryd.prog w = .ok (.bool true) w := by kernel_rfl
    simp only [List.length_nil]
    clear hP hN h50
    go_enter Tryd.func82, Tryd.ntmps82
    go_wp2_with fail
    go_ret
    exact ⟨_, rfl, ⟨rfl, .inl ⟨rfl, rfl⟩⟩, Fr.refl _ _⟩
  | some p =>
    have hq : (binOp .eql 34 (.slice (some p) path.length pc) (.slice none 0 0)).run Tryd.prog w = .ok (.bool false) w := Lib.run_eql_slice_some_nil w p _ _ Tryd.underlying34
    clear hN
    obtain ⟨i0, hi0, hz0, hz1, hz2⟩ := info3 info_i64
    have hpos : 0 < path.length → ∃ b off : Nat, p = ⟨b, off, none⟩ ∧ ∀ (j : Nat) (x : Int), path[j]? = some x → w.cell? ⟨b, off + j, none⟩ = some (Value.int .i64 x) := fun h => by
      obtain ⟨b, off, h1, h2⟩ := hP h
      cases h1
      exact ⟨b, off, rfl, h2⟩
    clear hP
    go_enter Tryd.func82, Tryd.ntmps82
    go_wp2_with (first | (at_builtin; refine wpList_append_arg _ rfl _ _ 34 rfl 2 i0 _ 1 8 Tryd.underlying34 hi0 hz0 hz1 hz2 rfl (by decide) w.heap.size 0 0 0 [] rfl rfl ?olds p path.length pc (ints path) rfl ?len ?c1 ?c2 ?spare ?maxLen ?bytes ?room ?grow) | fail)
    case olds => intro j u h; cases h
    case len => simp [ints]
    case c1 =>
      intro j u hj
      rw [ints, List.getElem?_map] at hj
      obtain ⟨x, hx, rfl⟩ := Option.map_eq_some_iff.1 hj
      have hlt := (List.getElem?_eq_some_iff.1 hx).1
      obtain ⟨b, off, rfl, hc⟩ := hpos (by omega)
      rw [show (⟨b, off, none⟩ : Addr).add j = ⟨b, off + j, none⟩ by unfold Addr.add; split <;> simp_all]
      exact ((Fr.refl None' w).alloc _).held (hc j x hx) (fun h => h)
    case c2 =>
      intro u hu
      obtain ⟨x, _, rfl⟩ := List.mem_map.1 hu
      rfl
    case spare =>
      intro h j hj
      simp only [ints, List.length_map] at hj
      omega
    case maxLen => unfold maxLen; omega
    case bytes => omega
    case room =>
      intro h0
      subst h0
      change wpList _ _ _ _ _ (w.alloc (.cells #[] 2))
      go_wp2_with fail
      go_ret
      exact ⟨_, rfl, ⟨rfl, .inr ⟨w.heap.size, 0, #[], rfl, Nat.le_refl _, heap_alloc_new w _, Nat.le_refl _, by decide, rfl, rfl⟩⟩, (Fr.refl _ _).alloc _⟩
    case grow =>
      intro _ v' w' hown hgr
      go_wp2_with fail
      go_ret
      refine ⟨v', rfl, ⟨hown.1, hown.2.imp id (fun ⟨g, cap, cur, h1, h2, h3⟩ => ⟨g, cap, cur, h1, by omega, h3⟩)⟩, ((Fr.refl None' w).alloc _).trans ⟨hgr.os, hgr.tape, hgr.output, hgr.size, fun k hk _ => hgr.block k hk (by simp)⟩⟩
end Go.Proofs.YtadcenaafoemmaaDoor

/-
  What begin comes to: a task that is too deep is not begun; else its function, its arguments and its path are told. No condition.
-/
namespace Go.Proofs.YtadcenaafoemmaaDoor
open Go.RowKit

theorem fclip_any (w : World) (A : Option Addr) (n cp : Nat) (h : n ≤ cp) (_hn : n ≤ 1000000) : Calls Tryd.prog 81 #[.slice A n cp] w fun e w' => e = .returned (.slice A n n) ∧ w' = w := by
  have h1 : (n : Int) ≤ (cp : Int) := by omega
  go_enter Tryd.func81, Tryd.ntmps81
  go_wp2_with fail
  go_ret
  exact ⟨rfl, rfl⟩

set_option maxHeartbeats 8000000 in
set_option maxRecDepth 100000 in
theorem fbegin_deep (w : World) (t F base : Nat) (at_ : Int) (regs : List Int) (bud dep : Int) (h8 : regs.length = 8) (pb poff n pcp : Nat) (hT : Blk w t 115 (tnL at_ regs F (.slice (some ⟨pb, poff, none⟩) n pcp) bud dep).toArray)
    (fn at0 st kd : Int) (P : Option Addr) (path : List Int) (pc : Nat) (regs0 hands : List Int) (hB : Blk w F 95 (frL fn at0 st kd (.slice P path.length pc) regs0 hands).toArray) (KK R H : Int) (op a k : Int) (b cc : Nat) (hd : dep ≤ (path.length : Int)) (_h1000 : path.length ≤ 1000) :
    Calls Tryd.prog 78 #[.pointer (some ⟨t, 0, none⟩), .agg #[.int .i64 op, .int .i64 a, .int .i64 (b : Int), .int .i64 (cc : Int), .int .i64 k], .agg #[.int .i64 KK, .int .i64 0, .int .i64 R, .int .i64 0, .int .i64 H, .int .i64 0, nilS, nilS]] w (DoPost w base t F fn at0 st (.slice P path.length pc) regs0 hands (.slice (some ⟨pb, poff, none⟩) n pcp) bud dep ⟨failE 4, at_, regs, kd⟩) := by
  have HT := Lib.hid hT
  have HB := Lib.hid hB
  clear hT hB
  go_enter Tryd.func78, Tryd.ntmps78
  go_upto_region 1 with (fail)
  generalize hW : (((w.alloc (.cells _ 98)).alloc (.cells _ 36)).alloc (.cells _ 36)) = W
  have hI : Blk W w.heap.size 98 #[.int .i64 op, .int .i64 a, .int .i64 (b : Int), .int .i64 (cc : Int), .int .i64 k] := by rw [← hW]; exact ((Blk.new _ _ _).alloc _).alloc _
  have hE : Blk W (w.heap.size + 1) 36 #[.int .i64 KK, .int .i64 0, .int .i64 R, .int .i64 0, .int .i64 H, .int .i64 0, nilS, nilS] := by
    have h := Blk.new (w.alloc (.cells #[.int .i64 op, .int .i64 a, .int .i64 (b : Int), .int .i64 (cc : Int), .int .i64 k] 98)) 36 #[.int .i64 KK, .int .i64 0, .int .i64 R, .int .i64 0, .int .i64 H, .int .i64 0, nilS, nilS]
    rw [show (w.alloc (.cells #[.int .i64 op, .int .i64 a, .int .i64 (b : Int), .int .i64 (cc : Int), .int .i64 k] 98)).heap.size = w.heap.size + 1 by simp] at h
    rw [← hW]; exact h.alloc _
  have hG : Blk W (w.heap.size + 1 + 1) 36 efZ := by
    have h := Blk.new ((w.alloc (.cells #[.int .i64 op, .int .i64 a, .int .i64 (b : Int), .int .i64 (cc : Int), .int .i64 k] 98)).alloc (.cells #[.int .i64 KK, .int .i64 0, .int .i64 R, .int .i64 0, .int .i64 H, .int .i64 0, nilS, nilS] 36)) 36 efZ
    rw [show ((w.alloc (.cells #[.int .i64 op, .int .i64 a, .int .i64 (b : Int), .int .i64 (cc : Int), .int .i64 k] 98)).alloc (.cells #[.int .i64 KK, .int .i64 0, .int .i64 R, .int .i64 0, .int .i64 H, .int .i64 0, nilS, nilS] 36)).heap.size = w.heap.size + 1 + 1 by simp] at h
    rw [← hW]; exact h
  have hF : Fr None' w W := by rw [← hW]; exact (((Fr.refl _ _).alloc _).alloc _).alloc _
  have hT1 := HT.out.fr hF (fun h => h)
  have hB1 := HB.out.fr hF (fun h => h)
  have q12 : W.cell? ⟨t, 12, none⟩ = some (.int .i64 dep) := by rw [hT1.cell]; exact (tn_rest h8).2.2.2.2
  have q4 : W.cell? ⟨F, 4, none⟩ = some (.slice P path.length pc) := by rw [hB1.cell]; rfl
  have htl := HT.out.lt
  have hFl := HB.out.lt
  have HT1 := Lib.hid hT1
  have HB1 := Lib.hid hB1
  have HI := Lib.hid hI
  have HE := Lib.hid hE
  have HG := Lib.hid hG
  have HF := Lib.hid hF
  have t9 : W.cell? ⟨t, 9, none⟩ = some (.pointer (some ⟨F, 0, none⟩)) := by rw [HT1.out.cell]; exact (tn_rest h8).2.1
  clear hI hE hG hF hT1 hB1 HT HB hW
  go_upto_region 2 with (fail)
  have hq : decide (dep ≤ (path.length : Int)) = true := decide_eq_true hd
  go_quiet (fail)
  generalize hV : W.drewN _ = V
  have HFV : Hid (Fr None' w V) := Lib.hid (by rw [← hV]; exact HF.out.drewN _)
  have HTV : Hid (Blk V t 115 _) := Lib.hid (by rw [← hV]; exact HT1.out.drewN _)
  have HBV : Hid (Blk V F 95 _) := Lib.hid (by rw [← hV]; exact HB1.out.drewN _)
  have HGV : Hid (Blk V (w.heap.size + 1 + 1) 36 efZ) := Lib.hid (by rw [← hV]; exact HG.out.drewN _)
  clear HF HT1 HB1 HG HE HI q12 q4 hV
  go_wp2_with fail
  refine (ffails_any _ 4).mono ?_
  rintro e w1 ⟨rfl, hF1⟩
  have hG1 := HGV.out.fr hF1 (fun h => h)
  have HG1 := Lib.hid hG1
  have HT2 := Lib.hid (HTV.out.fr hF1 (fun h => h))
  have HB2 := Lib.hid (HBV.out.fr hF1 (fun h => h))
  have HF2 := Lib.hid (HFV.out.trans hF1)
  have e0 : w1.cell? ⟨(w.heap.size + 1 + 1), 0, none⟩ = some (.int .i64 0) := by rw [hG1.cell]; rfl
  have y0 : w1.frozen? ⟨(w.heap.size + 1 + 1), 0, none⟩ = false := hG1.frozen _
  have e1 : w1.cell? ⟨(w.heap.size + 1 + 1), 1, none⟩ = some (.int .i64 0) := by rw [hG1.cell]; rfl
  have y1 : w1.frozen? ⟨(w.heap.size + 1 + 1), 1, none⟩ = false := hG1.frozen _
  have e2 : w1.cell? ⟨(w.heap.size + 1 + 1), 2, none⟩ = some (.int .i64 0) := by rw [hG1.cell]; rfl
  have y2 : w1.frozen? ⟨(w.heap.size + 1 + 1), 2, none⟩ = false := hG1.frozen _
  have e3 : w1.cell? ⟨(w.heap.size + 1 + 1), 3, none⟩ = some (.int .i64 0) := by rw [hG1.cell]; rfl
  have y3 : w1.frozen? ⟨(w.heap.size + 1 + 1), 3, none⟩ = false := hG1.frozen _
  have e4 : w1.cell? ⟨(w.heap.size + 1 + 1), 4, none⟩ = some (.int .i64 0) := by rw [hG1.cell]; rfl
  have y4 : w1.frozen? ⟨(w.heap.size + 1 + 1), 4, none⟩ = false := hG1.frozen _
  have e5 : w1.cell? ⟨(w.heap.size + 1 + 1), 5, none⟩ = some (.int .i64 0) := by rw [hG1.cell]; rfl
  have y5 : w1.frozen? ⟨(w.heap.size + 1 + 1), 5, none⟩ = false := hG1.frozen _
  have e6 : w1.cell? ⟨(w.heap.size + 1 + 1), 6, none⟩ = some (nilS) := by rw [hG1.cell]; rfl
  have y6 : w1.frozen? ⟨(w.heap.size + 1 + 1), 6, none⟩ = false := hG1.frozen _
  have e7 : w1.cell? ⟨(w.heap.size + 1 + 1), 7, none⟩ = some (nilS) := by rw [hG1.cell]; rfl
  have y7 : w1.frozen? ⟨(w.heap.size + 1 + 1), 7, none⟩ = false := hG1.frozen _
  clear hG1 hF1 HGV HTV HBV HFV
  unfold efC
  go_wp2_with fail
  refine bodyPost_ret (results_cell_row rfl _ _ (w.heap.size + 1 + 1) 36 (efC 8 0 0 0 0 4 nilS nilS) (0, 0) _ rfl (ef_stored (HG1.out) _ _ _ _ _ _ _ _) Tryd.underlying36 rfl (by kernel_rfl)) rfl ?_
  exact ⟨_, _, rfl, EfAt.nil _ _ _ _ _ _ _ _, HT2.out.fr (ef_frame (Fr.refl (At (w.heap.size + 1 + 1)) _) (.inl rfl) _ _ _ _ _ _ _ _) (by show ¬ t = _; omega), HB2.out.fr (ef_frame (Fr.refl (At (w.heap.size + 1 + 1)) _) (.inl rfl) _ _ _ _ _ _ _ _) (by show ¬ F = _; omega), (ef_frame HF2.out (.inr (by omega)) _ _ _ _ _ _ _ _).mono (fun _ h => h.elim)⟩
end Go.Proofs.YtadcenaafoemmaaDoor
