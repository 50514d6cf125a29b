/-
  What a turn's do comes to, whatever the instruction. No condition.
-/
import Derived.Test.YtadcenaafoemmaaDoorF2A
import Derived.Test.YtadcenaafoemmaaDoorF2B
import Derived.Test.YtadcenaafoemmaaDoorF3
import Derived.Test.YtadcenaafoemmaaDoorF12
import Derived.Test.YtadcenaafoemmaaDoorF13
import Derived.Test.YtadcenaafoemmaaDoorF14
import Derived.Test.YtadcenaafoemmaaDoorF18
import Derived.Test.YtadcenaafoemmaaDoorPureF
namespace Go.Proofs.YtadcenaafoemmaaDoor
open Go.RowKit

section
variable {w : World} {t F base : Nat} {fn at0 st at_ kd bud dep : Int} {pv pg : Value} {regs0 hands regs : List Int}
theorem goes_post (hB : Blk w F 95 (frL fn at0 st kd pv regs0 hands).toArray) (hne : F ≠ t) {at2 : Int} {r2 : List Int} {e : Ending} {w' : World} (h : Goes w t F at2 r2 pg bud dep e w') : DoPost w base t F fn at0 st pv regs0 hands pg bud dep ⟨gE, at2, r2, kd⟩ e w' :=
  ⟨_, _, h.1, EfAt.nil _ _ _ _ _ _ _ _, h.2.1, hB.fr h.2.2 hne, h.2.2.mono (fun _ h => .inl h)⟩
theorem quiet_post (hT : Blk w t 115 (tnL at_ regs F pg bud dep).toArray) (hB : Blk w F 95 (frL fn at0 st kd pv regs0 hands).toArray) {kind value reg fnn hand why : Int} {e : Ending} {w' : World} (h : e = .returned (.agg (efC kind value reg fnn hand why nilS nilS)) ∧ Fr None' w w') : DoPost w base t F fn at0 st pv regs0 hands pg bud dep ⟨⟨kind, value, reg, fnn, hand, why, [], []⟩, at_, regs, kd⟩ e w' :=
  ⟨_, _, h.1, EfAt.nil _ _ _ _ _ _ _ _, hT.fr h.2 (fun h => h), hB.fr h.2 (fun h => h), h.2.mono (fun _ h => h.elim)⟩
theorem div_post (hB : Blk w F 95 (frL fn at0 st kd pv regs0 hands).toArray) (hne : F ≠ t) {kind value reg fnn hand why : Int} {r2 : List Int} {tc : Array Value} (htc : tc = (tnL at_ r2 F pg bud dep).toArray) {e : Ending} {w' : World} (h : e = .returned (.agg (efC kind value reg fnn hand why nilS nilS)) ∧ Blk w' t 115 tc ∧ Fr (At t) w w') : DoPost w base t F fn at0 st pv regs0 hands pg bud dep ⟨⟨kind, value, reg, fnn, hand, why, [], []⟩, at_, r2, kd⟩ e w' := by
  subst htc
  exact ⟨_, _, h.1, EfAt.nil _ _ _ _ _ _ _ _, h.2.1, hB.fr h.2.2 hne, h.2.2.mono (fun _ h => .inl h)⟩
end

theorem do_any (w : World) (t F base : Nat) (fn at0 st at_ kd bud dep : Int) (regs hands : List Int) (h8 : regs.length = 8) (h4 : hands.length = 4) (pb poff n pcp : Nat) (L : List LFn) (hn : L.length = n) (hR : FnRow w (fun b => b < w.heap.size) (some ⟨pb, poff, none⟩) L) (hpF : pb ≠ F)
    (hT : Blk w t 115 (tnL at_ regs F (.slice (some ⟨pb, poff, none⟩) n pcp) bud dep).toArray) (P : Option Addr) (path : List Int) (pc : Nat) (hB : Blk w F 95 (frL fn at0 st kd (.slice P path.length pc) regs hands).toArray)
    (h1000 : path.length ≤ 1000) (hpc : path.length ≤ pc) (hNn : P = none → pc = 0) (hP : IntsA w P path) (hbase : base ≤ w.heap.size) (har : ∀ y ∈ L, 0 ≤ y.f.arity) (x : Ins) (pl : Nat) (op a b c : Nat) (hx : InsOk (fns L) pl x op a b c) :
    Calls Tryd.prog 28 #[.pointer (some ⟨t, 0, none⟩), .agg #[.int .i64 (op : Int), .int .i64 (a : Int), .int .i64 (b : Int), .int .i64 (c : Int), .int .i64 x.k]] w (DoPost w base t F fn at0 st (.slice P path.length pc) regs hands (.slice (some ⟨pb, poff, none⟩) n pcp) bud dep (xstep op a b c x.k (arityAt (fns L) x.c).toNat at_ kd dep regs hands path)) := by
  have hne : F ≠ t := fun h => Blk.ne_ hT hB (by decide) h.symm
  have ha := hx.a8
  have hb := hx.b8
  have h1 := hx.op1
  have h17 := hx.op17
  have ra := some_getD (l := regs) (i := a) (by omega)
  have rb := some_getD (l := regs) (i := b) (by omega)
  have hF0 := fun (W : World) (hF : Fr None' w W) => And.intro (hT.fr hF (fun h => h)) (hB.fr hF (fun h => h))
  have hcall : op = 11 ∨ op = 13 → ∃ ar : Nat, ar = (arityAt (fns L) x.c).toNat ∧ c < n ∧ ar + b ≤ 8 ∧ w.cell? ⟨pb, poff + c * 2, none⟩ = some (.int .i64 (ar : Int)) := fun ho => by
    obtain ⟨hcL, harb⟩ := hx.fn ho
    rw [show (fns L).length = L.length by simp [fns]] at hcL
    obtain ⟨y, hy⟩ : ∃ y, L[c]? = some y := ⟨_, List.getElem?_eq_getElem hcL⟩
    obtain ⟨b', off', hA, _, hc', _, _⟩ := hR.at_ hy
    injection hA with hA
    injection hA with hA1 hA2
    subst hA1 hA2
    have hya := har y (List.mem_of_getElem? hy)
    have hAR : arityAt (fns L) x.c = y.f.arity := by unfold arityAt; rw [hx.ec, Int.toNat_natCast, fns, List.getElem?_map, hy]; rfl
    refine ⟨y.f.arity.toNat, by rw [hAR], by omega, by rw [← hAR, hx.ec]; exact harb, ?_⟩
    rw [hc']
    congr 2
    omega
  have hcases : op = 1 ∨ op = 2 ∨ op = 3 ∨ op = 4 ∨ op = 5 ∨ op = 6 ∨ op = 7 ∨ op = 8 ∨ op = 9 ∨ op = 10 ∨ op = 11 ∨ op = 12 ∨ op = 13 ∨ op = 14 ∨ op = 15 ∨ op = 16 ∨ op = 17 := by omega
  rcases hcases with rfl | rfl | rfl | rfl | rfl | rfl | rfl | rfl | rfl | rfl | rfl | rfl | rfl | rfl | rfl | rfl | rfl
  · exact (do_set w t F at_ regs _ bud dep h8 hT x.k b c a ha).mono (fun e w' h => goes_post hB hne h)
  · exact (do_move w t F at_ regs _ bud dep h8 hT x.k c a b ha _ rb).mono (fun e w' h => goes_post hB hne h)
  · exact (do_add w t F at_ regs _ bud dep h8 hT x.k a b c ha _ _ rb (some_getD (by have := hx.c8 (by decide) (by decide); omega))).mono (fun e w' h => goes_post hB hne h)
  · exact (do_sub w t F at_ regs _ bud dep h8 hT x.k a b c ha _ _ rb (some_getD (by have := hx.c8 (by decide) (by decide); omega))).mono (fun e w' h => goes_post hB hne h)
  · exact (do_mul w t F at_ regs _ bud dep h8 hT x.k a b c ha _ _ rb (some_getD (by have := hx.c8 (by decide) (by decide); omega))).mono (fun e w' h => goes_post hB hne h)
  · have hc8 := hx.c8 (by decide) (by decide)
    have rc := some_getD (l := regs) (i := c) (by omega)
    by_cases h0 : regs.getD c 0 = 0
    · have e : xstep 6 a b c x.k (arityAt (fns L) x.c).toNat at_ kd dep regs hands path = ⟨failE 1, at_, regs, kd⟩ := if_pos h0
      rw [e]
      refine dox_div w t F base hT.lt hB.lt fn at0 st _ regs hands _ bud dep _ a b c x.k (Lib.hid (fun W hF => ?_))
      refine (fdiv_no W t _ (hF0 W hF).1 6 x.k a b c hc8 (by rw [← h0]; exact tn_reg h8 rc)).mono (fun e w' h => div_post (hF0 W hF).2 hne rfl h)
    · have e : xstep 6 a b c x.k (arityAt (fns L) x.c).toNat at_ kd dep regs hands path = ⟨gE, at_, regs.set a (wrap64 ((regs.getD b 0).tdiv (regs.getD c 0))), kd⟩ := if_neg h0
      rw [e]
      refine dox_div w t F base hT.lt hB.lt fn at0 st _ regs hands _ bud dep _ a b c x.k (Lib.hid (fun W hF => ?_))
      refine (fdiv_yes W t _ (hF0 W hF).1 6 x.k a b c ha hb hc8 _ (tn_reg h8 ra) _ _ h0 (tn_reg h8 rb) (tn_reg h8 rc)).mono (fun e w' h => div_post (hF0 W hF).2 hne (tn_setR h8 ha _) h)
  · exact (do_less w t F at_ regs _ bud dep h8 hT x.k a b c ha _ _ rb (some_getD (by have := hx.c8 (by decide) (by decide); omega))).mono (fun e w' h => goes_post hB hne h)
  · exact (do_same w t F at_ regs _ bud dep h8 hT x.k a b c ha _ _ rb (some_getD (by have := hx.c8 (by decide) (by decide); omega))).mono (fun e w' h => goes_post hB hne h)
  · exact (do_jump w t F at_ regs _ bud dep h8 hT x.k a b c).mono (fun e w' h => goes_post hB hne h)
  · exact (do_zero w t F at_ regs _ bud dep h8 hT x.k b c a _ ra).mono (fun e w' h => goes_post hB hne h)
  · obtain ⟨ar, har', hcn, harb, hcell⟩ := hcall (.inl rfl)
    rw [← har']
    by_cases hd : dep ≤ (path.length : Int)
    · have e : xstep 11 a b c x.k ar at_ kd dep regs hands path = ⟨failE 4, at_, regs, kd⟩ := if_pos hd
      rw [e]
      refine dox_spawn w t F base hT.lt hB.lt fn at0 st _ regs hands _ bud dep _ a b c x.k (Lib.hid (fun W hF => ?_))
      have hl := hF.size
      refine fspawn_any W t F base (by have := hT.lt; omega) (by have := hB.lt; omega) fn at0 st _ regs hands _ bud dep _ 11 a b c x.k (Lib.hid (fun W2 hF2 => ?_))
      exact fbegin_deep W2 t F base at_ regs bud dep h8 pb poff n pcp (hF0 W2 (hF.trans hF2)).1 fn at0 st kd P path pc regs hands (hF0 W2 (hF.trans hF2)).2 3 a 0 11 a x.k b c hd h1000
    · have e : xstep 11 a b c x.k ar at_ kd dep regs hands path = ⟨⟨3, 0, a, c, 0, 0, ((regs.drop b).take ar), path ++ [kd]⟩, at_, regs, wrap64 (kd + 1)⟩ := if_neg hd
      rw [e]
      refine dox_spawn w t F base hT.lt hB.lt fn at0 st _ regs hands _ bud dep _ a b c x.k (Lib.hid (fun W hF => ?_))
      have hl := hF.size
      refine fspawn_any W t F base (by have := hT.lt; omega) (by have := hB.lt; omega) fn at0 st _ regs hands _ bud dep _ 11 a b c x.k (Lib.hid (fun W2 hF2 => ?_))
      have hl2 := hF2.size
      exact fbegin_go W2 t F base at_ regs bud dep h8 pb poff n pcp (hF0 W2 (hF.trans hF2)).1 fn at0 st kd P path pc regs hands (hF0 W2 (hF.trans hF2)).2 3 a 0 11 a x.k b c hd h1000 ar hcn ((hF.trans hF2).held hcell (fun h => h)) hpF harb hb hpc hNn (fun h => by
        obtain ⟨bb, boff, e1, e2⟩ := hP h
        exact ⟨bb, boff, e1, fun j y hy => (hF.trans hF2).held (e2 j y hy) (fun h => h)⟩) (by omega)
  · refine dox_sync w t F base hT.lt hB.lt fn at0 st _ regs hands _ bud dep _ a b c x.k (Lib.hid (fun W hF => ?_))
    exact (fsync_any W _ 12 a b c x.k).mono (fun e w' h => quiet_post (hF0 W hF).1 (hF0 W hF).2 h)
  · obtain ⟨ar, har', hcn, harb, hcell⟩ := hcall (.inr rfl)
    rw [← har']
    by_cases hd : dep ≤ (path.length : Int)
    · have e : xstep 13 a b c x.k ar at_ kd dep regs hands path = ⟨failE 4, at_, regs, kd⟩ := if_pos hd
      rw [e]
      refine dox_future w t F base hT.lt hB.lt fn at0 st _ regs hands _ bud dep _ a b c x.k (Lib.hid (fun W hF => ?_))
      have hl := hF.size
      refine ffuture_any W t F base (by have := hT.lt; omega) (by have := hB.lt; omega) fn at0 st _ regs hands _ bud dep _ 13 a b c x.k (Lib.hid (fun W2 hF2 => ?_))
      exact fbegin_deep W2 t F base at_ regs bud dep h8 pb poff n pcp (hF0 W2 (hF.trans hF2)).1 fn at0 st kd P path pc regs hands (hF0 W2 (hF.trans hF2)).2 4 0 a 13 a x.k b c hd h1000
    · have e : xstep 13 a b c x.k ar at_ kd dep regs hands path = ⟨⟨4, 0, 0, c, a, 0, ((regs.drop b).take ar), path ++ [kd]⟩, at_, regs, wrap64 (kd + 1)⟩ := if_neg hd
      rw [e]
      refine dox_future w t F base hT.lt hB.lt fn at0 st _ regs hands _ bud dep _ a b c x.k (Lib.hid (fun W hF => ?_))
      have hl := hF.size
      refine ffuture_any W t F base (by have := hT.lt; omega) (by have := hB.lt; omega) fn at0 st _ regs hands _ bud dep _ 13 a b c x.k (Lib.hid (fun W2 hF2 => ?_))
      have hl2 := hF2.size
      exact fbegin_go W2 t F base at_ regs bud dep h8 pb poff n pcp (hF0 W2 (hF.trans hF2)).1 fn at0 st kd P path pc regs hands (hF0 W2 (hF.trans hF2)).2 4 0 a 13 a x.k b c hd h1000 ar hcn ((hF.trans hF2).held hcell (fun h => h)) hpF harb hb hpc hNn (fun h => by
        obtain ⟨bb, boff, e1, e2⟩ := hP h
        exact ⟨bb, boff, e1, fun j y hy => (hF.trans hF2).held (e2 j y hy) (fun h => h)⟩) (by omega)
  · have hb4 := hx.tch rfl
    have hh := fun fc => fr_hand (fn := fn) (at_ := at0) (st := st) (kd := kd) (pv := fc) h8 h4 (some_getD (l := hands) (i := b) (by omega))
    by_cases h0 : hands.getD b 0 = 0
    · have e : xstep 14 a b c x.k (arityAt (fns L) x.c).toNat at_ kd dep regs hands path = ⟨failE 2, at_, regs, kd⟩ := if_pos h0
      rw [e]
      refine dox_touch w t F base hT.lt hB.lt fn at0 st _ regs hands _ bud dep _ a b c x.k (Lib.hid (fun W hF => ?_))
      refine (ftouch_any W t F _ _ (hF0 W hF).1 (hF0 W hF).2 (tn_rest h8).2.1 14 a c x.k b _ hb4 (hh _)).mono (fun e w' h => ?_)
      rw [h0, touE_no] at h
      exact quiet_post (hF0 W hF).1 (hF0 W hF).2 h
    · have e : xstep 14 a b c x.k (arityAt (fns L) x.c).toNat at_ kd dep regs hands path = ⟨⟨6, 0, a, 0, hands.getD b 0, 0, [], []⟩, at_, regs, kd⟩ := if_neg h0
      rw [e]
      refine dox_touch w t F base hT.lt hB.lt fn at0 st _ regs hands _ bud dep _ a b c x.k (Lib.hid (fun W hF => ?_))
      refine (ftouch_any W t F _ _ (hF0 W hF).1 (hF0 W hF).2 (tn_rest h8).2.1 14 a c x.k b _ hb4 (hh _)).mono (fun e w' h => ?_)
      rw [touE_yes _ h0] at h
      exact quiet_post (hF0 W hF).1 (hF0 W hF).2 h
  · exact (do_emit w t F at_ regs _ bud dep h8 hT b c x.k a _ ra).mono (fun e w' h => quiet_post hT hB h)
  · exact (do_fail w t F at_ regs _ bud dep h8 hT a b c x.k).mono (fun e w' h => quiet_post hT hB h)
  · exact (do_ret w t F at_ regs _ bud dep h8 hT a b c x.k).mono (fun e w' h => quiet_post hT hB h)
end Go.Proofs.YtadcenaafoemmaaDoor
