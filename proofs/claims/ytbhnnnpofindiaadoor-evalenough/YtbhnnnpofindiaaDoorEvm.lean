/-
  evaluate comes to the run of its task.
-/
import Derived.Test.YtbhnnnpofindiaaDoorEvl
import Derived.Deep.Cut
namespace Go.Proofs.YtbhnnnpofindiaaDoor
open Go.RowKit

/-- What holds of a program that may run, and of its limits. -/
structure PFits (c : Cx) : Prop where
  bud1 : 1 ≤ c.bud
  bud : c.bud ≤ 10000
  dep : c.dep ≤ 30
  fn : ∀ y ∈ c.L, (0 ≤ y.f.arity ∧ y.f.arity ≤ 4) ∧ (1 ≤ y.f.code.length ∧ y.f.code.length ≤ 64) ∧ (∀ x ∈ y.f.code, insE (fns c.L) y.f.code.length x = 0) ∧ lastOk y.f.code

theorem EvOK.less {c : Cx} {M N : Nat} (h : EvOK c N) (hm : M ≤ N) : EvOK c M :=
  fun w sh tv lv ll fn y args A ac path pA pc futs h1 h2 => h w sh tv lv ll fn y args A ac path pA pc futs h1 (by omega)

/-- How many instructions are left, in memory. -/
def leftOf (w : World) (b : Nat) : Nat := match w.cell? ⟨b, 3, none⟩ with
  | some (.int _ n) => n.toNat
  | _ => 0
theorem leftOf_at {c : Cx} {w : World} {sh : Sh} {tv lv : Value} {ll : List LEnt} (h : ShAt c w sh tv lv ll) : leftOf w c.W = sh.left.toNat := by
  unfold leftOf
  rw [h.blk.cell]
  rfl
theorem info_ent : (Tryd.prog.info? 49).map (fun i => (i.zero, i.size, i.bytes)) = some (some (.agg #[.slice none 0 0, .int .i64 0]), 2, 32) := by kernel_rfl

/-- What the rounds of a task keep. -/
def Rel (c : Cx) (i : Ti) (w : World) (tv lv : Value) (r : Out × Sh) (wx : World) : Prop :=
  ∃ t sh tv' lv' ll sv ov v, ShAt c wx sh tv' lv' ll ∧ TkAt c i wx t sv ov v ∧ Fr (ShB c tv lv) w wx ∧ Newer w tv tv' ∧ Newer w lv lv' ∧ Newer w (.slice none 0 0) sv ∧
    ((ov = false ∧ v = 0 ∧ Goes c i t sh ∧ runF (fns c.L) c.bud c.dep i.code i.path i.me t sh = r) ∨ (ov = true ∧ r = (.ok v, sh)))

theorem rel_frame {c : Cx} {i : Ti} {w wx w' : World} {tv lv tv' lv' sv : Value} (hF : Fr (ShB c tv lv) w wx) (n1 : Newer w tv tv') (n2 : Newer w lv lv') (n3 : Newer w (.slice none 0 0) sv) (hg : w.heap.size ≤ i.g) (hF' : Fr (TkB c i tv' lv' sv) wx w') : Fr (ShB c tv lv) w w' :=
  hF.then hF' (fun k hk => by
    rcases hk with h | h | h | h | h
    · exact .inr (by omega)
    · rcases n3 k h with h' | h'
      · cases h'
      · exact .inr h'
    · exact .inl (.inl h)
    · rcases n1 k h with h' | h'
      · exact .inl (.inr (.inl h'))
      · exact .inr h'
    · rcases n2 k h with h' | h'
      · exact .inl (.inr (.inr h'))
      · exact .inr h')

theorem done_lt {fs : List Fn} {bud dep : Int} {code : List Ins} {path : List Int} {me : Nat} {t t' : Tk} {sh sh' : Sh} {v : Int} (h : stepR fs bud dep code path me t sh = .done v t' sh') : sh'.left.toNat < sh.left.toNat := by
  unfold stepR at h
  by_cases h3 : steps sh me = bud
  · rw [if_pos h3] at h; cases h
  rw [if_neg h3] at h
  by_cases h0 : sh.left ≤ 0
  · rw [if_pos h0] at h; cases h
  rw [if_neg h0] at h
  have tk := tick_lt (sh := sh) (me := me) h0
  unfold doR at h
  generalize exec (code.getD t.pc ⟨0, 0, 0, 0, 0⟩) { t with pc := t.pc + 1 } = ex at h
  cases ex with
  | next t2 => cases h
  | tell v t2 => cases h
  | fin v t2 =>
    injection h with _ _ h3
    subst h3
    exact tk
  | fail k => cases h
  | call =>
    simp only at h
    split at h
    · cases h
    · generalize kidR fs bud dep path (code.getD t.pc ⟨0, 0, 0, 0, 0⟩) { t with pc := t.pc + 1 } (tick sh me) = r at h
      obtain ⟨o, sh2⟩ := r
      cases o <;> cases h

set_option maxHeartbeats 16000000 in
set_option maxRecDepth 100000 in
theorem eval_next (c : Cx) (hP : PFits c) (N : Nat) (hE : EvOK c N) : EvOK c (N + 1) := by
  intro w sh tv lv ll fn y args A ac path pA pc futs hS hN hy hA h8 hp hpd hpc h4 hLim
  obtain ⟨r, hr⟩ : ∃ r, runF (fns c.L) c.bud c.dep y.f.code path sh.log.length (newTk args futs) (enter sh path) = r := ⟨_, rfl⟩
  rw [hr]
  obtain ⟨Wb, hWb⟩ : ∃ Wb, Wb = c.W := ⟨_, rfl⟩
  obtain ⟨f0, f1, f2, f3, rfl⟩ := list4 h4
  have hfe : (futC [f0, f1, f2, f3]).toArray = #[.bool f0.1, .int .i64 f0.2, .bool f1.1, .int .i64 f1.2, .bool f2.1, .int .i64 f2.2, .bool f3.1, .int .i64 f3.2] := rfl
  rw [hfe, ← hWb]
  have hfn : fn < c.L.length := (List.getElem?_eq_some_iff.1 hy).1
  obtain ⟨pb, poff, hPA, _, _, pr1, hcod⟩ := hS.prog.at_ hy
  have BS := hS.blk
  rw [← hWb] at BS
  obtain ⟨lA, lc, hlv⟩ := own_slice hS.log
  have s0 : w.cell? ⟨Wb, 0, none⟩ = some (.slice (some ⟨pb, poff, none⟩) c.L.length c.pc) := by rw [BS.cell, ← hPA]; rfl
  have s7 : w.cell? ⟨Wb, 7, none⟩ = some (.slice lA ll.length lc) := by rw [BS.cell, ← hlv]; rfl
  have hWl : Wb < w.heap.size := BS.lt
  have HR := Lib.hid hr
  have HWb := Lib.hid hWb
  have HS0 := Lib.hid hS
  have HE := Lib.hid hE
  have HP := Lib.hid hP
  have HY := Lib.hid hy
  have HA := Lib.hid hA
  have HPp := Lib.hid hp
  have HL := Lib.hid hLim
  have HLV := Lib.hid hlv
  have HBS := Lib.hid BS
  have HCOD := Lib.hid hcod
  have hdep := hP.dep
  have hllen : Hid (ll.length = sh.log.length) := Lib.hid (by rw [← hS.same, List.length_map])
  have hl1 : ll.length ≤ 1000000 := by have := hLim.2; rw [hllen.out]; simp [enter] at this; omega
  have i1 : (0 : Int) ≤ (fn : Int) := by omega
  have i2 : (fn : Int) < (c.L.length : Int) := by omega
  clear hr hWb hS hE hP hy hA hp hLim hlv BS hcod hPA h4 hfe
  go_enter Tryd.func25, Tryd.ntmps25
  go_wp2_with fail
  generalize hW1 : w.alloc (.cells _ 82) = W1
  have hF1 : Fr (fun _ => False) w W1 := by rw [← hW1]; exact (Fr.refl _ _).alloc _
  have hB1 : Blk W1 w.heap.size 82 #[.bool f0.1, .int .i64 f0.2, .bool f1.1, .int .i64 f1.2, .bool f2.1, .int .i64 f2.2, .bool f3.1, .int .i64 f3.2] := by rw [← hW1]; exact Blk.new _ _ _
  have a0 : W1.cell? ⟨Wb, 0, none⟩ = some (.slice (some ⟨pb, poff, none⟩) c.L.length c.pc) := hF1.held s0 (fun h => h)
  have a7 : W1.cell? ⟨Wb, 7, none⟩ = some (.slice lA ll.length lc) := hF1.held s7 (fun h => h)
  have apr : W1.cell? ⟨pb, poff + fn * 2 + 1, none⟩ = some (.slice y.A y.f.code.length y.c) := hF1.held pr1 (fun h => h)
  have b0 : W1.cell? ⟨w.heap.size, 0, none⟩ = some (.bool f0.1) := by rw [hB1.cell]; rfl
  have b1 : W1.cell? ⟨w.heap.size, 1, none⟩ = some (.int .i64 f0.2) := by rw [hB1.cell]; rfl
  have b2 : W1.cell? ⟨w.heap.size, 2, none⟩ = some (.bool f1.1) := by rw [hB1.cell]; rfl
  have b3 : W1.cell? ⟨w.heap.size, 3, none⟩ = some (.int .i64 f1.2) := by rw [hB1.cell]; rfl
  have b4 : W1.cell? ⟨w.heap.size, 4, none⟩ = some (.bool f2.1) := by rw [hB1.cell]; rfl
  have b5 : W1.cell? ⟨w.heap.size, 5, none⟩ = some (.int .i64 f2.2) := by rw [hB1.cell]; rfl
  have b6 : W1.cell? ⟨w.heap.size, 6, none⟩ = some (.bool f3.1) := by rw [hB1.cell]; rfl
  have b7 : W1.cell? ⟨w.heap.size, 7, none⟩ = some (.int .i64 f3.2) := by rw [hB1.cell]; rfl
  have hs1 : w.heap.size ≤ W1.heap.size := hF1.size
  have HF1 := Lib.hid hF1
  clear hW1 hF1 hB1 s0 s7 pr1
  go_still_tail 17, (by kernel_rfl)
  change wpList _ _ _ _ _ (World.drew _)
  go_upto_region 2 with (fail)
  generalize hW2 : (W1.alloc _).drew = W2
  have hB2 : Blk W2 W1.heap.size 106 (tkL c.W (.slice y.A y.f.code.length y.c) (.slice pA path.length pc) ll.length (newTk [] [f0, f1, f2, f3]) (.slice none 0 0) false 0).toArray := by rw [← hW2, ← HWb.out]; exact (Blk.new _ _ _).drew
  have hF2 : Fr (fun _ => False) w W2 := by rw [← hW2]; exact (HF1.out.alloc _).drew
  have hA2 : IntsA W2 A args := fun h0 => by
    obtain ⟨b, off, e, hc⟩ := HA.out h0
    exact ⟨b, off, e, fun j x hx => hF2.held (hc j x hx) (fun h => h)⟩
  obtain ⟨g, hg⟩ : ∃ g, W1.heap.size = g := ⟨_, rfl⟩
  rw [hg] at hB2 ⊢
  obtain ⟨W3, hcp, hB3, hF3⟩ := copy_any W2 g _ _ _ _ _ hB2 A args ac hA2 h8 3
  have hgl : w.heap.size ≤ g := by omega
  have hg2 : g < W2.heap.size := hB2.lt
  have HF3 : Hid (Fr (fun _ => False) w W3) := Lib.hid (hF2.then hF3 (fun k hk => .inr (by have hk' : k = g := hk; omega)))
  have HB3 := Lib.hid hB3
  clear hW2 hB2 hF2 hA2 hF3 a0 a7 apr b0 b1 b2 b3 b4 b5 b6 b7 HF1 hg
  go_upto_region 3 with (fail)
  have hS3 := HS0.out.keep HF3.out (fun _ h => h.elim)
  have BS3 := hS3.blk
  rw [← HWb.out] at BS3
  have m7 : W3.cell? ⟨Wb, 7, none⟩ = some (.slice lA ll.length lc) := by rw [BS3.cell, ← HLV.out]; rfl
  obtain ⟨ie, hie, hz0, hz1, hz2⟩ := info3 info_ent
  have hown3 := hS3.log
  rw [HLV.out] at hown3
  have own4 := own_fr hown3 ((Fr.refl (fun _ => False) W3).alloc (.cells #[.slice pA path.length pc, .int .i64 0] 49)) (fun _ _ h => h)
  have hbase : c.base ≤ W3.heap.size := by have := hS3.low; have := hS3.blk.lt; omega
  have hlW : (Value.slice lA ll.length lc).ownBlock ≠ some Wb := own_ne hown3 BS3 (by decide)
  have hlg : (Value.slice lA ll.length lc).ownBlock ≠ some g := own_ne hown3 HB3.out (by decide)
  have hWb3 : Wb < W3.heap.size := BS3.lt
  have hg3 : g < W3.heap.size := HB3.out.lt
  have f7 := BS3.frozen 7
  have HS3 := Lib.hid hS3
  have HBS3 := Lib.hid BS3
  have HlW := Lib.hid hlW
  have Hlg := Lib.hid hlg
  have HOWN4 := Lib.hid own4
  clear hcp hS3 BS3 hown3 hlW hlg own4
  go_wp2_with (at_builtin; refine wpList_append_lies _ rfl _ _ _ rfl c.base 49 ie _ 2 32 Tryd.underlying28 hie hz0 hz1 hz2 rfl (by omega) (.slice lA ll.length lc) ll.length _ rfl HOWN4.out ⟨W3.heap.size, 0, none⟩ 1 1 [.slice pA path.length pc, .int .i64 0] rfl rfl (World.news_of_block (cs := #[.slice pA path.length pc, .int .i64 0]) (t := 49) (fr := (0, 0)) (heap_alloc_new W3 _)) (by simp [Value.oneCell']) (by omega) (by unfold maxLen; omega) (by omega) (by simp; omega) (W3.heap.size + 1) (by simp) ?_)
  intro gb cap w4 hown4 hg4 hat hlt4
  have hF4 : Fr (fun k => (Value.slice lA ll.length lc).ownBlock = some k) W3 w4 := ((Fr.refl (fun k => (Value.slice lA ll.length lc).ownBlock = some k) W3).alloc _).trans ((Fr.grown hg4).mono (fun _ h => h.symm))
  have m7' : w4.cell? ⟨Wb, 7, none⟩ = some (.slice lA ll.length lc) := hF4.held m7 HlW.out
  have f7' : w4.frozen? ⟨Wb, 7, none⟩ = false := by rw [World.frozen?_of_block (hF4.block Wb hWb3 HlW.out)]; exact f7
  have HO4 := Lib.hid hown4
  have HF4 := Lib.hid hF4
  have HNW : Hid (Newer w lv (.slice (some ⟨gb, 0, none⟩) (ll.length + 1) cap)) := Lib.hid (fun k hk => by
    have hk' : gb = k := by simpa [Value.ownBlock] using hk
    subst hk'
    rcases hat with h | h
    · exact .inl (by rw [HLV.out]; exact h)
    · exact .inr (by have := HF3.out.size; omega))
  clear hown4 hg4 hat hF4
  go_wp2_with fail
  generalize hW5 : w4.setCell ⟨Wb, 7, none⟩ _ = W5
  have hFW : Fr (At Wb) w4 W5 := by rw [← hW5]; exact (Fr.refl (At Wb) w4).setCell (p := ⟨Wb, 7, none⟩) (.inl rfl) _
  obtain ⟨i, hi⟩ : ∃ i : Ti, i = ⟨g, y.A, y.c, y.f.code, pA, pc, path, ll.length⟩ := ⟨_, rfl⟩
  have hB5 : Blk W5 g 106 (tkL c.W (.slice y.A y.f.code.length y.c) (.slice pA path.length pc) ll.length (newTk args [f0, f1, f2, f3]) (.slice none 0 0) false 0).toArray :=
    (HB3.out.fr HF4.out Hlg.out).fr hFW (fun h => by
      have h' : g = Wb := h
      subst h'
      exact Blk.ne_ HB3.out HBS3.out (by decide) rfl)
  have hS3 := HS3.out
  have n5 : ∀ k, (k = Wb ∨ (Value.slice lA ll.length lc).ownBlock = some k) → ShB c tv lv k := fun k hk => by
    rcases hk with h | h
    · exact .inl (by rw [h, HWb.out])
    · exact .inr (.inr (by rw [HLV.out]; exact h))
  have hF35 : Fr (ShB c tv lv) W3 W5 := ((HF4.out.mono (fun k h => .inr h)).trans (hFW.mono (fun k h => .inl h)) : Fr (fun k => k = Wb ∨ (Value.slice lA ll.length lc).ownBlock = some k) W3 W5).mono n5
  have hF05 : Fr (ShB c tv lv) w W5 := (HF3.out.mono (fun _ h => h.elim)).trans hF35
  have typ : ∀ k, ShB c tv lv k → Typed W3 c.base ST k := fun k hk => ShB.typed hS3 hk
  have hS5 : ShAt c W5 (enter sh path) tv (.slice (some ⟨gb, 0, none⟩) (ll.length + 1) cap) (ll ++ [⟨path, 0, pA, pc⟩]) := by
    have hblk4 := HBS3.out.fr HF4.out HlW.out
    refine ⟨?_, hS3.low, ?_, ?_, ?_, ?_, heap_keep hF35 hS3.pmap (fun hb => (typ _ hb).ne_map hS3.pmap rfl), heap_keep hF35 hS3.dmap (fun hb => (typ _ hb).ne_map hS3.dmap rfl), hS3.prog.fr hF35 (fun b hb hk => by have := (typ _ hk).1; omega)⟩
    · have := hblk4.set_ 7 (.slice (some ⟨gb, 0, none⟩) (ll.length + 1) cap)
      rw [← hW5, ← HWb.out]
      exact this
    · refine own_fr (own_fr hS3.told HF4.out (fun k hk h => own_apart hS3.told hS3.log (by decide) k hk (by rw [HLV.out]; exact h))) hFW (fun k hk h => ?_)
      have h' : k = Wb := h
      subst h'
      exact own_ne hS3.told HBS3.out (by decide) hk
    · have := own_fr HO4.out hFW (fun k hk h => by
        have h' : k = Wb := h
        subst h'
        exact own_ne HO4.out hblk4 (by decide) hk)
      simpa [LEnt.cells] using this
    · rw [List.map_append, hS3.same]; rfl
    · intro x hx
      rcases List.mem_append.1 hx with hx | hx
      · exact (hS3.paths x hx).fr hF35 (fun k cs hk hb => (typ _ hb).ne hk (by unfold ST; decide) rfl)
      · rw [List.mem_singleton.1 hx]
        exact HPp.out.fr hF05 (fun k cs hk hb => (ShB.typed HS0.out hb).ne hk (by unfold ST; decide) rfl)
  have h8' : (newTk args [f0, f1, f2, f3]).regs.length = 8 := by simp [newTk]; omega
  have hT5 : TkAt c i W5 (newTk args [f0, f1, f2, f3]) (.slice none 0 0) false 0 := by
    subst hi
    exact ⟨hB5, by have := HS0.out.low; have := HS0.out.blk.lt; show c.base ≤ g; omega, h8', rfl, ⟨rfl, .inl ⟨rfl, rfl⟩⟩, fun s hs => by simp [newTk] at hs,
      HCOD.out.fr hF05 (fun b hb hk => by have := (ShB.typed HS0.out hk).1; omega), HPp.out.fr hF05 (fun k cs hk hb => (ShB.typed HS0.out hb).ne hk (by unfold ST; decide) rfl), hpc⟩
  have hPf := HP.out.fn y (List.mem_of_getElem? HY.out)
  have hFit : Fits c i := by
    subst hi
    refine ⟨HP.out.bud, hPf.2.2.1, fun z hz => (HP.out.fn z hz).1, ⟨?_, hpd⟩, ?_⟩
    · show path.length ≤ 30; omega
    · show y.f.code.length ≤ 1000; omega
  have hGo : Goes c i (newTk args [f0, f1, f2, f3]) (enter sh path) := by
    have hl := HL.out
    have h0 : steps (enter sh path) ll.length = 0 := by
      unfold steps enter
      rw [hllen.out, List.getElem?_append_right (Nat.le_refl _)]
      simp
    subst hi
    unfold Lim at hl
    have h5 := hl.2
    have hb1 := HP.out.bud1
    refine ⟨?_, ?_, ?_, ?_, ?_, ?_, hl⟩
    · show ll.length < (enter sh path).log.length
      rw [hllen.out]; simp [enter]
    · show 0 < y.f.code.length; omega
    · show 0 ≤ steps (enter sh path) ll.length; omega
    · show steps (enter sh path) ll.length ≤ c.bud; omega
    · show 0 + (enter sh path).left.toNat ≤ 1000000; omega
    · show 0 + (enter sh path).left.toNat ≤ 1000000; omega
  have hr0 : runF (fns c.L) c.bud c.dep i.code i.path i.me (newTk args [f0, f1, f2, f3]) (enter sh path) = r := by
    subst hi
    show runF (fns c.L) c.bud c.dep y.f.code path ll.length _ _ = r
    rw [hllen.out]
    exact HR.out
  have HLAST : Hid (lastOk i.code) := Lib.hid (by subst hi; exact hPf.2.2.2)
  have HIG : Hid (i.g = g) := Lib.hid (by subst hi; rfl)
  have hREL : Rel c i w tv lv r W5 := ⟨_, _, tv, _, _, _, false, 0, hS5, hT5, hF05, Newer.refl _ _, HNW.out, Newer.refl _ _, .inl ⟨rfl, rfl, hGo, hr0⟩⟩
  have hleft : leftOf W5 Wb ≤ N := by rw [HWb.out, leftOf_at hS5]; show sh.left.toNat ≤ N; omega
  have HREL := Lib.hid hREL
  have HFit := Lib.hid hFit
  have hgi : w.heap.size ≤ i.g := by rw [HIG.out]; exact hgl
  clear hW5 hFW hB5 hS3 n5 hF35 hF05 typ hS5 h8' hT5 hPf hFit hGo hr0 hREL hi m7' f7' m7 f7 HO4 HF4 HNW HOWN4 HlW Hlg HS3 HBS3 HB3 HF3 hie hz0 hz1 hz2
  go_loopw [] (fun wx => Hid (Rel c i w tv lv r wx) ∧ leftOf wx Wb ≤ N) (fun wx => leftOf wx Wb)
  case atStart => exact ⟨HREL, hleft⟩
  case round =>
    obtain ⟨HRx, hlx⟩ := hrel
    obtain ⟨t, sh', tv', lv', ll', sv, ov, v, hS, hT, hFr, n1, n2, n3, hcs⟩ := HRx.out
    have BT := hT.blk
    rw [HIG.out] at BT
    have c23 : wr.cell? ⟨g, 23, none⟩ = some (.bool ov) := by rw [BT.cell]; exact (tk_at hT.r8 hT.f4).2.2.2.2.2.2.1
    have c24 : wr.cell? ⟨g, 24, none⟩ = some (.int .i64 v) := by rw [BT.cell]; exact (tk_at hT.r8 hT.f4).2.2.2.2.2.2.2
    have hle : leftOf wr Wb = sh'.left.toNat := by rw [HWb.out]; exact leftOf_at hS
    have HLe := Lib.hid hle
    have HS := Lib.hid hS
    have HT := Lib.hid hT
    have HFr := Lib.hid hFr
    have HN1 := Lib.hid n1
    have HN2 := Lib.hid n2
    have HN3 := Lib.hid n3
    clear hS hT hFr n1 n2 n3 BT HRx hle
    rcases hcs with ⟨rfl, rfl, hGo, hrun⟩ | ⟨rfl, hrun⟩
    · have hst := step_any c i wr t sv tv' lv' sh' ll' HT.out HS.out hGo HFit.out (HE.out.less (by have := HLe.out; omega))
      rw [HIG.out] at hst
      rw [runF_stepR _ _ _ _ _ _ _ _ hGo.pc] at hrun
      have HGo := Lib.hid hGo
      obtain ⟨R, hR⟩ : ∃ R, stepR (fns c.L) c.bud c.dep i.code i.path i.me t sh' = R := ⟨_, rfl⟩
      rw [hR] at hst hrun
      have HST := Lib.hid hst
      have HRUN := Lib.hid hrun
      have HRR := Lib.hid hR
      clear hst hrun hGo hR c24
      go_wp2_with fail
      refine HST.out.mono ?_
      intro e w6 hp
      cases R with
      | next t2 sh2 =>
        obtain ⟨rfl, tv2, lv2, ll2, sv2, hS6, hT6, hF6, m1, m2, m3⟩ := hp
        have hgn := goes_next HGo.out HFit.out HLAST.out HRR.out
        have hsz := HFr.out.size
        have hREL : Rel c i w tv lv r w6 := ⟨t2, sh2, tv2, lv2, ll2, sv2, false, 0, hS6, hT6, rel_frame HFr.out HN1.out HN2.out HN3.out hgi hF6, HN1.out.trans m1 hsz, HN2.out.trans m2 hsz, HN3.out.trans m3 hsz, .inl ⟨rfl, rfl, hgn.1, HRUN.out⟩⟩
        have hl6 : leftOf w6 Wb = sh2.left.toNat := by rw [HWb.out]; exact leftOf_at hS6
        have hl7 : leftOf w6 Wb < leftOf wr Wb := by rw [hl6, HLe.out]; exact hgn.2
        have HREL2 := Lib.hid hREL
        clear hS6 hT6 hF6 m1 m2 m3 hgn hREL hl6
        go_wp2_with fail
        exact ⟨⟨HREL2, by omega⟩, hl7⟩
      | done v2 t2 sh2 =>
        obtain ⟨rfl, tv2, lv2, ll2, sv2, hS6, hT6, hF6, m1, m2, m3⟩ := hp
        have hgn := done_lt HRR.out
        have hsz := HFr.out.size
        have hREL : Rel c i w tv lv r w6 := ⟨t2, sh2, tv2, lv2, ll2, sv2, true, v2, hS6, hT6, rel_frame HFr.out HN1.out HN2.out HN3.out hgi hF6, HN1.out.trans m1 hsz, HN2.out.trans m2 hsz, HN3.out.trans m3 hsz, .inr ⟨rfl, HRUN.out.symm⟩⟩
        have hl6 : leftOf w6 Wb = sh2.left.toNat := by rw [HWb.out]; exact leftOf_at hS6
        have hl7 : leftOf w6 Wb < leftOf wr Wb := by rw [hl6, HLe.out]; exact hgn
        have HREL2 := Lib.hid hREL
        clear hS6 hT6 hF6 m1 m2 m3 hgn hREL hl6
        go_wp2_with fail
        exact ⟨⟨HREL2, by omega⟩, hl7⟩
      | fail k2 sh2 =>
        obtain ⟨rfl, tv2, lv2, ll2, hS6, hF6⟩ := hp
        have hpost : EvPost c w tv lv r (failE k2) w6 := by
          rw [← HRUN.out]
          exact ⟨rfl, tv2, lv2, ll2, hS6, rel_frame HFr.out HN1.out HN2.out HN3.out hgi hF6⟩
        have HPO := Lib.hid hpost
        clear hS6 hF6 hpost
        go_wp2_with fail
        exact ⟨rfl, HPO.out⟩
      | long sh2 =>
        obtain ⟨rfl, hF6⟩ := hp
        have hpost : EvPost c w tv lv r longE w6 := by
          rw [← HRUN.out]
          exact ⟨rfl, rel_frame HFr.out HN1.out HN2.out HN3.out hgi hF6⟩
        have HPO := Lib.hid hpost
        clear hF6 hpost
        go_wp2_with fail
        exact ⟨rfl, HPO.out⟩
    · have hpost : EvPost c w tv lv r (.returned (.int .i64 v)) wr := by
        rw [hrun]
        exact ⟨rfl, tv', lv', ll', HS.out, HFr.out, HN1.out, HN2.out⟩
      have HPO := Lib.hid hpost
      clear hrun hpost
      go_wp2_with fail
      go_ret
      exact HPO.out

theorem eval_all (c : Cx) (hP : PFits c) : ∀ N, EvOK c N
  | 0 => fun _ _ _ _ _ _ _ _ _ _ _ _ _ _ _ h => absurd h (by omega)
  | N + 1 => eval_next c hP N (eval_all c hP N)
end Go.Proofs.YtbhnnnpofindiaaDoor
