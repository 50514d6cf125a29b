/-
  What the operations do that are not plain and begin no task.
-/
import Derived.Test.YtbhnnnpofindiaaDoorMemE
namespace Go.Proofs.YtbhnnnpofindiaaDoor
open Go.RowKit

abbrev failE (k : Int) : Ending := .panicked [{ v := .iface 76 (.int .i64 k), recovered := false }]
abbrev longE : Ending := .panicked [{ v := .iface 78 (.agg #[]), recovered := false }]

/-- What a call on a task comes to that turns its own block alone. -/
def OwnPost (c : Cx) (i : Ti) (w : World) (t' : Tk) (sv : Value) (ov : Bool) (v : Int) (e : Ending) (w' : World) : Prop :=
  e = .returned (.tuple #[]) ∧ TkAt c i w' t' sv ov v ∧ Fr (At i.g) w w'

theorem flush_step (r : List Int) (l : List (Nat × Int)) (k : Nat) (s : Nat × Int) (h : l[k]? = some s) : flushR r (l.take (k + 1)) = (flushR r (l.take k)).set s.1 s.2 := by
  unfold flushR
  rw [take_snoc l k s h, List.foldl_append]
  rfl
theorem flush_len (r : List Int) (l : List (Nat × Int)) : (flushR r l).length = r.length := by
  unfold flushR
  induction l generalizing r with
  | nil => rfl
  | cons s l ih => rw [List.foldl_cons, ih]; simp

theorem spwC_at (l : List (Nat × Int)) (k : Nat) (s : Nat × Int) (h : l[k]? = some s) (j : Nat) (hj : j < 2) : (spwC l)[k * 2 + j]? = [Value.int .i64 s.1, .int .i64 s.2][j]? :=
  flat_at (fun s : Nat × Int => [Value.int .i64 s.1, .int .i64 s.2]) 2 (fun _ => rfl) l k j s h hj

set_option maxHeartbeats 8000000 in
set_option maxRecDepth 100000 in
theorem sync_any (c : Cx) (i : Ti) (w : World) (t : Tk) (sv : Value) (ov : Bool) (v : Int) (hT : TkAt c i w t sv ov v) (hn : t.spw.length ≤ 1000000) (us : Array Value) :
    Calls Tryd.prog 41 #[.pointer (some ⟨i.g, 0, none⟩), .agg us] w (OwnPost c i w (flush t) (.slice none 0 0) ov v) := by
  obtain ⟨g, hg⟩ : ∃ g, g = i.g := ⟨_, rfl⟩
  rw [← hg]
  have HG := Lib.hid hg
  have hB := hT.blk
  rw [← hg] at hB
  have hT4 := hT.f4
  obtain ⟨A, cp, hsv⟩ := own_slice hT.spw
  subst hsv
  have c22 : w.cell? ⟨g, 22, none⟩ = some (.slice A t.spw.length cp) := by rw [hB.cell]; exact (tk_at hT.r8 hT.f4).2.2.2.2.2.1
  have hRd := Rd.of_own hT.spw
  have HRd := Lib.hid hRd
  have HB := Lib.hid hB
  have HT := Lib.hid hT
  have hgl := hB.lt
  clear hB hT hg hRd
  go_enter Tryd.func41, Tryd.ntmps41
  go_wp2_with fail
  generalize hW0 : w.alloc (.cells us 55) = W0
  have hF0 : Fr (At g) w W0 := by rw [← hW0]; exact (Fr.refl _ _).alloc _
  have HB0 : Hid (Blk W0 g 106 (tkL c.W (.slice i.CA i.code.length i.cc) (.slice i.pA i.path.length i.pc) i.me t (.slice A t.spw.length cp) ov v).toArray) := Lib.hid (by rw [← hW0]; exact HB.out.alloc _)
  have HF0 := Lib.hid hF0
  clear hW0 hF0 c22
  go_loopw [11] (fun j wx => ∃ k : Nat, k ≤ t.spw.length ∧ j = .int .i64 k ∧ Hid (Blk wx g 106 (tkL c.W (.slice i.CA i.code.length i.cc) (.slice i.pA i.path.length i.pc) i.me { t with regs := flushR t.regs (t.spw.take k) } (.slice A t.spw.length cp) ov v).toArray) ∧ Hid (Fr (At g) w wx)) (fun j _ => t.spw.length - (intOf j).toNat)
  case atStart => exact ⟨0, by omega, rfl, HB0, HF0⟩
  case round =>
    obtain ⟨k, hk, rfl, HBk, HFk⟩ := hrel
    have hl8 : (flushR t.regs (t.spw.take k)).length = 8 := by rw [flush_len]; exact HT.out.r8
    by_cases hkl : k < t.spw.length
    · obtain ⟨s, hs⟩ : ∃ s, t.spw[k]? = some s := ⟨_, List.getElem?_eq_getElem hkl⟩
      have hs8 := HT.out.reg8 s (List.mem_of_getElem? hs)
      have hok := own_fr HT.out.spw HFk.out (fun k' hk' hb => by
        have he : k' = g := hb
        subst he
        exact own_ne HT.out.spw (HG.out ▸ HT.out.blk) (by decide) hk')
      obtain ⟨b, off, hA, _, hc⟩ := (Rd.of_own hok).2 (by omega)
      subst hA
      have d1 := hc (k * 2) _ (spwC_at t.spw k s hs 0 (by decide))
      have d2 := hc (k * 2 + 1) _ (spwC_at t.spw k s hs 1 (by decide))
      have HST := Lib.hid (flush_step t.regs t.spw k s hs)
      rw [← Nat.add_assoc] at d2
      clear hs hok hc
      go_wp2_with fail
      generalize hW1 : wr.alloc (.cells _ 117) = W1
      have HB1 : Hid (Blk W1 g 106 _) := Lib.hid (by rw [← hW1]; exact HBk.out.alloc _)
      have hBn : Blk W1 wr.heap.size 117 #[.int .i64 s.1, .int .i64 s.2] := by rw [← hW1]; exact Blk.new _ _ _
      have HF1 : Hid (Fr (At g) w W1) := Lib.hid (by rw [← hW1]; exact HFk.out.alloc _)
      have e1 : W1.cell? ⟨wr.heap.size, 0, none⟩ = some (.int .i64 s.1) := by rw [hBn.cell]; rfl
      have e2 : W1.cell? ⟨wr.heap.size, 1, none⟩ = some (.int .i64 s.2) := by rw [hBn.cell]; rfl
      have e3 : W1.cell? ⟨g, 1 + s.1, none⟩ = some (.int .i64 (reg { t with regs := flushR t.regs (t.spw.take k) } s.1)) := by rw [HB1.out.cell]; exact tk_reg hl8 s.1 hs8
      have f1 := HB1.out.frozen (1 + s.1)
      have i1 : (0 : Int) ≤ (s.1 : Int) := by omega
      have j1 : (s.1 : Int) < 8 := by omega
      clear hW1 hBn d1 d2
      go_still_tail 9, (by kernel_rfl)
      change wpList _ _ _ _ _ (World.drew _)
      go_wp2_with fail
      have hset := HB1.out.set_ (1 + s.1) (.int .i64 s.2)
      rw [tk_setR hl8 s.1 hs8] at hset
      refine ⟨⟨k + 1, by omega, by go_num, Lib.hid ?_, Lib.hid ?_⟩, by simp [intOf]; omega⟩
      · rw [HST.out]
        exact hset.drew
      · exact (HF1.out.setCell (p := ⟨g, 1 + s.1, none⟩) (.inl rfl) _).drew
    · obtain rfl : k = t.spw.length := by omega
      have c22 : wr.cell? ⟨g, 22, none⟩ = some (.slice A t.spw.length cp) := by rw [HBk.out.cell]; exact (tk_at (t := { t with regs := flushR t.regs (t.spw.take t.spw.length) }) hl8 hT4).2.2.2.2.2.1
      have f22 := HBk.out.frozen 22
      go_wp2_with fail
      go_end0
      have hset := HBk.out.set_ 22 (.slice none 0 0)
      rw [tk_setSpw (t := { t with regs := flushR t.regs (t.spw.take t.spw.length) }) hl8 hT4 _ []] at hset
      rw [List.take_length] at hset hl8
      have hF : Fr (At i.g) w (wr.setCell ⟨g, 22, none⟩ (.slice none 0 0)) := by rw [← HG.out]; exact HFk.out.setCell (p := ⟨g, 22, none⟩) (.inl rfl) _
      have hT := HT.out
      refine ⟨rfl, ⟨by rw [← HG.out]; exact hset, hT.low, hl8, hT4, ⟨rfl, .inl ⟨rfl, rfl⟩⟩, fun s hs => by simp [flush] at hs, ?_, ?_, hT.pcap⟩, hF⟩
      · exact hT.cod.fr hF (fun b hb hk => by have := hT.low; unfold At at hk; omega)
      · exact hT.pth.fr hF (fun k cs hk hb => by
          have he : k = i.g := hb
          subst he
          exact Blk.ne_ hk hT.blk (by decide) rfl)
end Go.Proofs.YtbhnnnpofindiaaDoor
