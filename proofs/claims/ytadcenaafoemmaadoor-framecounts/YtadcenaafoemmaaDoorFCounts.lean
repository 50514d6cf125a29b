/-
  haymowlaw12.FrameCounts returns true for every case. No condition.
-/
import Derived.Test.YtadcenaafoemmaaDoorFCD
import Derived.Test.YtadcenaafoemmaaDoorRows
import Derived.Test.YtadcenaafoemmaaDoorTie
import Derived.Test.YtadcenaafoemmaaDoorCards
namespace Go.Proofs.YtadcenaafoemmaaDoor.frameCounts
open Go.ChangeShapes Go.WideShapes Go.ChangeAt Go.RowKit

set_option maxHeartbeats 64000000 in
set_option maxRecDepth 100000 in
theorem walk_f (w : World) (hT : FieldsAt w) (PA : Option Addr) (L : List LFn) (c : Nat) (bud dep fn at_ st kd : Int) (FA : Option Addr) (path : List Int) (fc : Nat) (r0 r1 r2 r3 r4 r5 r6 r7 q0 q1 q2 q3 : Int)
    (hR : FnRow w (fun b => b < w.heap.size) PA L) (hP : IntsA w FA path) (hst : i64 st) :
    Calls Tryd.prog 6 #[.agg #[.slice PA L.length c, .int .i64 bud, .int .i64 dep, .int .i64 fn, .int .i64 at_, .int .i64 st, .int .i64 kd, .slice FA path.length fc, .int .i64 r0, .int .i64 r1, .int .i64 r2, .int .i64 r3, .int .i64 r4, .int .i64 r5, .int .i64 r6, .int .i64 r7, .int .i64 q0, .int .i64 q1, .int .i64 q2, .int .i64 q3]] w fun e w' => e = .returned (.bool true) ∧ Fr None' w w' := by
  have HT := Lib.hid hT
  have HR := Lib.hid hR
  have HP := Lib.hid hP
  have HST := Lib.hid hst
  clear hT hR hP hst
  go_enter Tryd.func6, Tryd.ntmps6
  go_upto_region 1 with (fail)
  generalize hW : w.alloc (.cells _ 29) = W
  have hF : Fr None' w W := by rw [← hW]; exact (Fr.refl _ _).alloc _
  have hZ : Blk W w.heap.size 29 #[.slice PA L.length c, .int .i64 bud, .int .i64 dep, .int .i64 fn, .int .i64 at_, .int .i64 st, .int .i64 kd, .slice FA path.length fc, .int .i64 r0, .int .i64 r1, .int .i64 r2, .int .i64 r3, .int .i64 r4, .int .i64 r5, .int .i64 r6, .int .i64 r7, .int .i64 q0, .int .i64 q1, .int .i64 q2, .int .i64 q3] := by rw [← hW]; exact Blk.new _ _ _
  have HLT := Lib.hid (light_any W _ PA c L (HR.out.fr hF (fun _ _ h => h)))
  have z0 : W.cell? ⟨w.heap.size, 0, none⟩ = some (.slice PA L.length c) := by rw [hZ.cell]; rfl
  have z1 : W.cell? ⟨w.heap.size, 1, none⟩ = some (.int .i64 bud) := by rw [hZ.cell]; rfl
  have z2 : W.cell? ⟨w.heap.size, 2, none⟩ = some (.int .i64 dep) := by rw [hZ.cell]; rfl
  have z3 : W.cell? ⟨w.heap.size, 3, none⟩ = some (.int .i64 fn) := by rw [hZ.cell]; rfl
  have z4 : W.cell? ⟨w.heap.size, 4, none⟩ = some (.int .i64 at_) := by rw [hZ.cell]; rfl
  have z5 : W.cell? ⟨w.heap.size, 5, none⟩ = some (.int .i64 st) := by rw [hZ.cell]; rfl
  have z6 : W.cell? ⟨w.heap.size, 6, none⟩ = some (.int .i64 kd) := by rw [hZ.cell]; rfl
  have z7 : W.cell? ⟨w.heap.size, 7, none⟩ = some (.slice FA path.length fc) := by rw [hZ.cell]; rfl
  have z8 : W.cell? ⟨w.heap.size, 8, none⟩ = some (.int .i64 r0) := by rw [hZ.cell]; rfl
  have z9 : W.cell? ⟨w.heap.size, 9, none⟩ = some (.int .i64 r1) := by rw [hZ.cell]; rfl
  have z10 : W.cell? ⟨w.heap.size, 10, none⟩ = some (.int .i64 r2) := by rw [hZ.cell]; rfl
  have z11 : W.cell? ⟨w.heap.size, 11, none⟩ = some (.int .i64 r3) := by rw [hZ.cell]; rfl
  have z12 : W.cell? ⟨w.heap.size, 12, none⟩ = some (.int .i64 r4) := by rw [hZ.cell]; rfl
  have z13 : W.cell? ⟨w.heap.size, 13, none⟩ = some (.int .i64 r5) := by rw [hZ.cell]; rfl
  have z14 : W.cell? ⟨w.heap.size, 14, none⟩ = some (.int .i64 r6) := by rw [hZ.cell]; rfl
  have z15 : W.cell? ⟨w.heap.size, 15, none⟩ = some (.int .i64 r7) := by rw [hZ.cell]; rfl
  have z16 : W.cell? ⟨w.heap.size, 16, none⟩ = some (.int .i64 q0) := by rw [hZ.cell]; rfl
  have z17 : W.cell? ⟨w.heap.size, 17, none⟩ = some (.int .i64 q1) := by rw [hZ.cell]; rfl
  have z18 : W.cell? ⟨w.heap.size, 18, none⟩ = some (.int .i64 q2) := by rw [hZ.cell]; rfl
  have z19 : W.cell? ⟨w.heap.size, 19, none⟩ = some (.int .i64 q3) := by rw [hZ.cell]; rfl
  have HZ := Lib.hid hZ
  have HW := Lib.hid hF
  clear hW hF hZ
  go_wp2_with fail
  refine HLT.out.mono ?_
  rintro e w1 ⟨t, rfl, hlt, hw⟩
  have hw := hw.symm
  subst hw
  clear HLT
  cases t with
  | false =>
    go_wp2_with fail
    go_ret
    exact ⟨rfl, HW.out⟩
  | true =>
    obtain ⟨hl20, hl70⟩ := hlt rfl
    by_cases b1 : path.length ≤ 50
    · have c1 : decide ((50 : Int) < (path.length : Int)) = false := decide_eq_false (by omega)
      have HGV := Lib.hid (given_f W fn at_ st kd FA path fc r0 r1 r2 r3 r4 r5 r6 r7 q0 q1 q2 q3 (HP.out.fr HW.out) (by omega) HST.out.1)
      have HL70 := Lib.hid hl70
      clear hl70 hlt
      go_wp2_with fail
      refine HGV.out.mono ?_
      rintro e w1 ⟨F, hFl, rfl, hf, hF1⟩
      have HFR := Lib.hid hf
      have hZl : w.heap.size < W.heap.size := HZ.out.lt
      have HZ := Lib.hid (HZ.out.fr hF1 (fun h => h))
      have HW := Lib.hid (HW.out.trans hF1)
      clear HGV hf hF1 z0 z1 z2 z3 z4 z5 z6 z7 z8 z9 z10 z11 z12 z13 z14 z15 z16 z17 z18 z19 c1
      obtain ⟨f, hfe⟩ : ∃ f : FR, f = ⟨fn, at_, st, kd, path, [r0, r1, r2, r3, r4, r5, r6, r7], [q0, q1, q2, q3]⟩ := ⟨_, rfl⟩
      rw [← hfe] at HFR
      have hf1000 : f.path.length ≤ 1000 := by rw [hfe]; show path.length ≤ 1000; omega
      have HFE := Lib.hid hfe
      clear hfe
      have HOF : Hid (∀ W, Fr None' w W → Calls Tryd.prog 12 #[.slice PA L.length c] W fun e w' => ∃ v L', e = .returned v ∧ fns L' = fns L ∧ Made w' W.heap.size v L' ∧ Fr None' W w') := Lib.hid (fun W hF => of_any W PA c L ((HR.out.fr hF (fun _ _ h => h)).mono (fun b h => Nat.lt_of_lt_of_le h hF.size)) (by omega) (fun x hx => by have := HL70.out x hx; omega))
      obtain ⟨r, hr⟩ : ∃ r, r = execP (fns L) bud dep f := ⟨_, rfl⟩
      have HEX : Hid (∀ (W : World) (v : Value) (base : Nat) (L' : List LFn), fns L' = fns L → Made W base v L' → F < base → FrameAt W F f → Fr None' w W → Calls Tryd.prog 11 #[v, .agg #[.int .i64 bud, .int .i64 dep], .pointer (some ⟨F, 0, none⟩)] W (ExecPost W F r)) := Lib.hid (fun W v base L' hfns hM hFb hf hF => by
        rw [hr]
        exact exec_made W v L L' base F bud dep f hfns hl20 HL70.out hM hFb (HT.out.fr hF (fun h => h)) hf hf1000)
      have HRR := Lib.hid hr
      clear hr
      generalize w1 = W at *
      go_upto_region 4 with (fail)
      go_cut [4, 5] (fun v v' wx => ∃ E ea ep, v = .pointer (some ⟨E, 0, none⟩) ∧ v' = .int .i64 r.2.1 ∧ w.heap.size < E ∧ E ≠ F ∧ Blk wx E 36 (efC r.1.kind r.1.value r.1.reg r.1.fn r.1.hand r.1.why ea ep) ∧ EfAt wx w.heap.size r.1 ea ep ∧ FrameAt wx F r.2.2 ∧ Blk wx w.heap.size 29 #[.slice PA L.length c, .int .i64 bud, .int .i64 dep, .int .i64 fn, .int .i64 at_, .int .i64 st, .int .i64 kd, .slice FA path.length fc, .int .i64 r0, .int .i64 r1, .int .i64 r2, .int .i64 r3, .int .i64 r4, .int .i64 r5, .int .i64 r6, .int .i64 r7, .int .i64 q0, .int .i64 q1, .int .i64 q2, .int .i64 q3] ∧ Fr None' w wx)
      case first =>
        refine r4c_any w W PA L c bud dep [.slice PA L.length c, .int .i64 bud, .int .i64 dep, .int .i64 fn, .int .i64 at_, .int .i64 st, .int .i64 kd, .slice FA path.length fc, .int .i64 r0, .int .i64 r1, .int .i64 r2, .int .i64 r3, .int .i64 r4, .int .i64 r5, .int .i64 r6, .int .i64 r7, .int .i64 q0, .int .i64 q1, .int .i64 q2, .int .i64 q3] (Lib.hid rfl) (Lib.hid rfl) (Lib.hid rfl) HZ HW F f r (by omega) HFR HEX HOF _ _ _ _ _ _ _ _ _ _ _ _ _ _ _ _ _ _ _ _ _ _ _ _ _ _ _ _ _ _ _ _ _ _ _ _ _ _ _ _ _ _ _ _ _ _ _ _ _ _ _ _ _ _ _ _ _ _ _ _ _ _ _ _ _ _ _ _ _ _ _ _ _ _ _ _ _ _ _ _ _ _ _ _ _ _ _ _ _ _ _ _ _ _ _ _ _ _ _ _ _ _ _ _ _ _ _ _ _ _ _ _ _ _ _ _ _ _ _ _ _ _ _ _ _ _ _ _ _ _ _ _ _ _ _ _ _ _ _ _ _ _ _ _ _ _ _ _ _ _ _ _ _ _ _ _ _ _ _ (fun _ _ d _ _ h => by cases d <;> exact h) ?_
        intro v v' wx _ _ _ _ _ _ _ _ _ _ _ _ _ hrel
        go_wp2_with fail
        go_meet
        exact hrel
      case rest =>
        obtain ⟨E, ea, ep, rfl, rfl, hwE, hEF, hG, hEf, hFR2, hZ2, hW2⟩ := hcut
        refine ‹∀ (a : Act) (w : World), Code.wp Tryd.prog _ _ a w → _› _ _ ?_
        have HZ := Lib.hid hZ2
        have HW := Lib.hid hW2
        have HAW : Hid (∀ W, Fr None' w W → Calls Tryd.prog 16 #[] W fun e w' => e = .returned (.bool true) ∧ Fr None' W w') := Lib.hid (fun W hF => awake_any W (HT.out.fr hF (fun h => h)))
        have KEY : Hid (r.2.2 = f → Calls Tryd.prog 15 #[.pointer (some ⟨F, 0, none⟩), .agg #[.int .i64 fn, .int .i64 at_, .int .i64 st, .int .i64 kd, .slice FA path.length fc, .int .i64 r0, .int .i64 r1, .int .i64 r2, .int .i64 r3, .int .i64 r4, .int .i64 r5, .int .i64 r6, .int .i64 r7, .int .i64 q0, .int .i64 q1, .int .i64 q2, .int .i64 q3]] wc fun e w' => e = .returned (.bool true) ∧ Fr None' wc w') := Lib.hid (fun h => by
          have h1 := hFR2
          rw [h, HFE.out] at h1
          exact alike_same wc F _ h1 FA fc (HP.out.fr hW2) (by show path.length ≤ 1000; omega))
        have hstf : f.steps = st := by rw [HFE.out]
        rcases exec_cases (fns L) bud dep f with ⟨_, hx⟩ | ⟨_, _, hx⟩ | ⟨_, _, hb, hx⟩ | ⟨hright, x, hix, hb, hx⟩
        · have hr := HRR.out.trans hx
          subst hr
          exact fcna_any w _ F E PA L c bud dep fn at_ st kd FA path fc r0 r1 r2 r3 r4 r5 r6 r7 q0 q1 q2 q3  (by rw [hG.cell]; rfl) (by rw [hG.cell]; rfl) HZ HW HAW (Lib.hid (KEY.out rfl)) _ _ _ _ _ _ _ _ _ _ _ _ _ _ _ _ _ _ _ _ _ _ _ _ _ _ _ _ _ _ _ _ _ _ _ _ _ _ _ _ _ _ _ _ _ _ _ _ _ _ _ _ _ _ _ _ _ _ _ _ _ _ _ _ _ _ _ _ _ _ _ _ _ _ _ _ _ _ _ _ _ _ _ _ _ _ _ _ _ _ _ _ _ _ _ _ _ _ _ _ _ _ _ _ _ _ _ _ _ _ _ _ _ _ _ _ _ _ _ _ _ _ _ _ _ _ _ _ _ _ _ _ _ _ _ _ _ _ _ _ _ _ _ _ _ _ _ _ _ _ _ _ _ _ _ _
        · have hr := HRR.out.trans hx
          subst hr
          exact fcns_any w _ F E PA L c bud dep fn at_ st kd FA path fc r0 r1 r2 r3 r4 r5 r6 r7 q0 q1 q2 q3  (by rw [hG.cell]; rfl) (by rw [hG.cell]; rfl) HZ HW HAW (Lib.hid (KEY.out rfl)) _ _ _ _ _ _ _ _ _ _ _ _ _ _ _ _ _ _ _ _ _ _ _ _ _ _ _ _ _ _ _ _ _ _ _ _ _ _ _ _ _ _ _ _ _ _ _ _ _ _ _ _ _ _ _ _ _ _ _ _ _ _ _ _ _ _ _ _ _ _ _ _ _ _ _ _ _ _ _ _ _ _ _ _ _ _ _ _ _ _ _ _ _ _ _ _ _ _ _ _ _ _ _ _ _ _ _ _ _ _ _ _ _ _ _ _ _ _ _ _ _ _ _ _ _ _ _ _ _ _ _ _ _ _ _ _ _ _ _ _ _ _ _ _ _ _ _ _ _ _ _ _ _ _ _ _
        · have hr := HRR.out.trans hx
          subst hr
          rw [hstf] at hb
          exact fcno_any w _ F E PA L c bud dep fn at_ st kd FA path fc r0 r1 r2 r3 r4 r5 r6 r7 q0 q1 q2 q3 hb (by rw [hG.cell]; rfl) (by rw [hG.cell]; rfl) HZ HW HAW (Lib.hid (KEY.out rfl)) _ _ _ _ _ _ _ _ _ _ _ _ _ _ _ _ _ _ _ _ _ _ _ _ _ _ _ _ _ _ _ _ _ _ _ _ _ _ _ _ _ _ _ _ _ _ _ _ _ _ _ _ _ _ _ _ _ _ _ _ _ _ _ _ _ _ _ _ _ _ _ _ _ _ _ _ _ _ _ _ _ _ _ _ _ _ _ _ _ _ _ _ _ _ _ _ _ _ _ _ _ _ _ _ _ _ _ _ _ _ _ _ _ _ _ _ _ _ _ _ _ _ _ _ _ _ _ _ _ _ _ _ _ _ _ _ _ _ _ _ _ _ _ _ _ _ _ _ _ _ _ _ _ _ _ _
        · have hr := HRR.out.trans hx
          subst hr
          rw [hstf] at hb
          obtain ⟨fnn, atn, gg, opn, a, bbn, cn, hfn, hat, hg, hgx, hok⟩ := ins_at hright hix
          have hfn' : fn = fnn := by have h := hfn; rw [HFE.out] at h; exact h
          have hat' : at_ = atn := by have h := hat; rw [HFE.out] at h; exact h
          subst hfn' hat'
          rw [fns, List.getElem?_map] at hg
          obtain ⟨g, hgl, rfl⟩ := Option.map_eq_some_iff.1 hg
          have hfl := (List.getElem?_eq_some_iff.1 hgl).1
          have hal := (List.getElem?_eq_some_iff.1 hgx).1
          have hRc := HR.out.fr hW2 (fun _ _ h => h)
          obtain ⟨b, off, hPA, _, _, hcell, hI⟩ := hRc.at_ hgl
          obtain ⟨ib, io, hyA, _, i0, i1, i2, i3, i4⟩ := hI.at_ hgx
          subst hPA
          rw [hyA] at hcell
          rw [hok.ea] at i1
          have HS0 : Hid ((fun w' : World => w'.cell? ⟨w.heap.size, 0, none⟩ = some (.slice (some ⟨b, off, none⟩) L.length c) ∧ w'.cell? ⟨w.heap.size, 3, none⟩ = some (.int .i64 (fnn : Int)) ∧ w'.cell? ⟨w.heap.size, 4, none⟩ = some (.int .i64 (atn : Int)) ∧ w'.cell? ⟨b, off + fnn * 2 + 1, none⟩ = some (.slice (some ⟨ib, io, none⟩) g.f.code.length g.c) ∧ w'.cell? ⟨ib, io + atn * 5, none⟩ = some (.int .i64 x.op) ∧ w'.cell? ⟨ib, io + atn * 5 + 1, none⟩ = some (.int .i64 (a : Int)) ∧ w'.cell? ⟨ib, io + atn * 5 + 2, none⟩ = some (.int .i64 x.b) ∧ w'.cell? ⟨ib, io + atn * 5 + 3, none⟩ = some (.int .i64 x.c) ∧ w'.cell? ⟨ib, io + atn * 5 + 4, none⟩ = some (.int .i64 x.k)) wc) := Lib.hid ⟨by rw [hZ2.cell]; rfl, by rw [hZ2.cell]; rfl, by rw [hZ2.cell]; rfl, hcell, i0, i1, i2, i3, i4⟩
          have hst2 : st ≤ 1000000 := by have := (right_chk hright).2.2.2.1; omega
          obtain ⟨o, ho⟩ : ∃ o, o = stepF (fns L) dep x f := ⟨_, rfl⟩
          rw [← ho] at hG hFR2
          have hox : o = xstep opn a bbn cn x.k (arityAt (fns L) x.c).toNat (f.at_ + 1) f.kids dep f.regs f.hands f.path := by
            rw [ho]
            unfold stepF
            rw [hok.eop, hok.ea, hok.eb, hok.ec]
            rfl
          obtain ⟨P, pc, hB, _, _, _⟩ := hFR2.blk
          have hreg : ∀ i, i ≠ a → o.regs[i]? = f.regs[i]? := fun i hi => by rw [hox]; exact xstep_regs opn a bbn cn x.k _ _ _ dep _ _ _ i hi
          have hkids := xstep_kids opn a bbn cn x.k (arityAt (fns L) x.c).toNat (f.at_ + 1) f.kids dep f.regs f.hands f.path
          rw [← hox] at hkids
          have h8 : o.regs.length = 8 := by rw [hox, xstep_len, HFE.out]; rfl
          obtain ⟨s0, s1, s2, s3, s4, s5, s6, s7, hs⟩ : ∃ s0 s1 s2 s3 s4 s5 s6 s7, o.regs = [s0, s1, s2, s3, s4, s5, s6, s7] := by
            match h : o.regs, h8 with
            | [s0, s1, s2, s3, s4, s5, s6, s7], _ => exact ⟨_, _, _, _, _, _, _, _, rfl⟩
          rw [hs, HFE.out] at hreg
          have hrg : ∀ i, i ≠ a → [s0, s1, s2, s3, s4, s5, s6, s7][i]? = [r0, r1, r2, r3, r4, r5, r6, r7][i]? := hreg
          have hB' : Blk wc F 95 (frL (fnn : Int) o.at_ (st + 1) o.kids (.slice P path.length pc) [s0, s1, s2, s3, s4, s5, s6, s7] [q0, q1, q2, q3]).toArray := by
            have h := hB
            unfold afterF at h
            simp only at h
            rw [hs, HFE.out] at h
            exact h
          have hkd : f.kids = kd := by rw [HFE.out]
          rw [hkd] at hkids
          by_cases hk0 : o.kids = kd
          · rw [hk0] at hB'
            have HB := Lib.hid hB'
            by_cases hk8 : o.ef.kind = 8
            · by_cases hy3 : o.ef.why = 3
              · rw [hk8, hy3] at hG
                exact fcds3_any w _ F E b off ib io g.f.code.length g.c x.op x.b x.c x.k L c bud dep fnn atn st kd FA path fc r0 r1 r2 r3 r4 r5 r6 r7 q0 q1 q2 q3 o.at_  P pc s0 s1 s2 s3 s4 s5 s6 s7 a HST.out.1 hst2 hrg hb hfl hal HS0 (by rw [hG.cell]; rfl) (by rw [hG.cell]; rfl) HZ HB HW HAW _ _ _ _ _ _ _ _ _ _ _ _ _ _ _ _ _ _ _ _ _ _ _ _ _ _ _ _ _ _ _ _ _ _ _ _ _ _ _ _ _ _ _ _ _ _ _ _ _ _ _ _ _ _ _ _ _ _ _ _ _ _ _ _ _ _ _ _ _ _ _ _ _ _ _ _ _ _ _ _ _ _ _ _ _ _ _ _ _ _ _ _ _ _ _ _ _ _ _ _ _ _ _ _ _ _ _ _ _ _ _ _ _ _ _ _ _ _ _ _ _ _ _ _ _ _ _ _ _ _ _ _ _ _ _ _ _ _ _ _ _ _ _ _ _ _ _ _ _ _ _ _ _ _ _ _
              · rw [hk8] at hG
                exact fcds2_any w _ F E b off ib io g.f.code.length g.c x.op x.b x.c x.k L c bud dep fnn atn st kd FA path fc r0 r1 r2 r3 r4 r5 r6 r7 q0 q1 q2 q3 o.at_  P pc s0 s1 s2 s3 s4 s5 s6 s7 a HST.out.1 hst2 hrg _ hy3 hfl hal HS0 (by rw [hG.cell]; rfl) (by rw [hG.cell]; rfl) HZ HB HW HAW _ _ _ _ _ _ _ _ _ _ _ _ _ _ _ _ _ _ _ _ _ _ _ _ _ _ _ _ _ _ _ _ _ _ _ _ _ _ _ _ _ _ _ _ _ _ _ _ _ _ _ _ _ _ _ _ _ _ _ _ _ _ _ _ _ _ _ _ _ _ _ _ _ _ _ _ _ _ _ _ _ _ _ _ _ _ _ _ _ _ _ _ _ _ _ _ _ _ _ _ _ _ _ _ _ _ _ _ _ _ _ _ _ _ _ _ _ _ _ _ _ _ _ _ _ _ _ _ _ _ _ _ _ _ _ _ _ _ _ _ _ _ _ _ _ _ _ _ _ _ _ _ _ _ _ _
            · exact fcds1_any w _ F E b off ib io g.f.code.length g.c x.op x.b x.c x.k L c bud dep fnn atn st kd FA path fc r0 r1 r2 r3 r4 r5 r6 r7 q0 q1 q2 q3 o.at_  P pc s0 s1 s2 s3 s4 s5 s6 s7 a HST.out.1 hst2 hrg _ _ hk8 hfl hal HS0 (by rw [hG.cell]; rfl) (by rw [hG.cell]; rfl) HZ HB HW HAW _ _ _ _ _ _ _ _ _ _ _ _ _ _ _ _ _ _ _ _ _ _ _ _ _ _ _ _ _ _ _ _ _ _ _ _ _ _ _ _ _ _ _ _ _ _ _ _ _ _ _ _ _ _ _ _ _ _ _ _ _ _ _ _ _ _ _ _ _ _ _ _ _ _ _ _ _ _ _ _ _ _ _ _ _ _ _ _ _ _ _ _ _ _ _ _ _ _ _ _ _ _ _ _ _ _ _ _ _ _ _ _ _ _ _ _ _ _ _ _ _ _ _ _ _ _ _ _ _ _ _ _ _ _ _ _ _ _ _ _ _ _ _ _ _ _ _ _ _ _ _ _ _ _ _ _
          · obtain ⟨hk2, hk34⟩ := hkids.resolve_left hk0
            have HB := Lib.hid hB'
            rcases hk34 with hk3 | hk4
            · rw [hk3] at hG
              exact fcdb_any w _ F E b off ib io g.f.code.length g.c x.op x.b x.c x.k L c bud dep fnn atn st kd FA path fc r0 r1 r2 r3 r4 r5 r6 r7 q0 q1 q2 q3 o.at_ o.kids P pc s0 s1 s2 s3 s4 s5 s6 s7 a HST.out.1 hst2 hrg hk2 hk0 _ hfl hal HS0 (by rw [hG.cell]; rfl) (by rw [hG.cell]; rfl) HZ HB HW HAW _ _ _ _ _ _ _ _ _ _ _ _ _ _ _ _ _ _ _ _ _ _ _ _ _ _ _ _ _ _ _ _ _ _ _ _ _ _ _ _ _ _ _ _ _ _ _ _ _ _ _ _ _ _ _ _ _ _ _ _ _ _ _ _ _ _ _ _ _ _ _ _ _ _ _ _ _ _ _ _ _ _ _ _ _ _ _ _ _ _ _ _ _ _ _ _ _ _ _ _ _ _ _ _ _ _ _ _ _ _ _ _ _ _ _ _ _ _ _ _ _ _ _ _ _ _ _ _ _ _ _ _ _ _ _ _ _ _ _ _ _ _ _ _ _ _ _ _ _ _ _ _ _ _ _ _
            · rw [hk4] at hG
              exact fcdf_any w _ F E b off ib io g.f.code.length g.c x.op x.b x.c x.k L c bud dep fnn atn st kd FA path fc r0 r1 r2 r3 r4 r5 r6 r7 q0 q1 q2 q3 o.at_ o.kids P pc s0 s1 s2 s3 s4 s5 s6 s7 a HST.out.1 hst2 hrg hk2 hk0 _ hfl hal HS0 (by rw [hG.cell]; rfl) (by rw [hG.cell]; rfl) HZ HB HW HAW _ _ _ _ _ _ _ _ _ _ _ _ _ _ _ _ _ _ _ _ _ _ _ _ _ _ _ _ _ _ _ _ _ _ _ _ _ _ _ _ _ _ _ _ _ _ _ _ _ _ _ _ _ _ _ _ _ _ _ _ _ _ _ _ _ _ _ _ _ _ _ _ _ _ _ _ _ _ _ _ _ _ _ _ _ _ _ _ _ _ _ _ _ _ _ _ _ _ _ _ _ _ _ _ _ _ _ _ _ _ _ _ _ _ _ _ _ _ _ _ _ _ _ _ _ _ _ _ _ _ _ _ _ _ _ _ _ _ _ _ _ _ _ _ _ _ _ _ _ _ _ _ _ _ _ _
    · have c1 : decide ((50 : Int) < (path.length : Int)) = true := decide_eq_true (by omega)
      go_wp2_with fail
      go_ret
      exact ⟨rfl, HW.out⟩

theorem walked {w : World} (z : CaseV) (hz : CaseAt w z) (hT : FieldsAt w) :
    Calls Tryd.prog 6 #[z.val] w fun e w' => e = .returned (.bool true) ∧ Below w.heap.size w w' := by
  obtain ⟨PA, L, c, bud, dep, ⟨fn, at_, st, kd, path, regs, hands⟩, FA, fc⟩ := z
  obtain ⟨hR, ⟨hp, h8, h4, hfn, hat, hst, hkd⟩, _, _⟩ := hz
  simp only at hR hp h8 h4 hfn hat hst hkd
  match regs, h8 with
  | [r0, r1, r2, r3, r4, r5, r6, r7], _ =>
    match hands, h4 with
    | [q0, q1, q2, q3], _ => exact (walk_f w hT PA L c bud dep fn at_ st kd FA path fc r0 r1 r2 r3 r4 r5 r6 r7 q0 q1 q2 q3 hR hp hst).mono fun _ _ ⟨he, hf⟩ => ⟨he, hf.below (Nat.le_refl _) (fun _ h => h.elim)⟩

set_option maxRecDepth 100000 in
theorem lifted (os : Os) (started : os.Started) (H : Type) (enc : TypeId × Value → H) :
    ReturnsInHanded {} Tryd.checked os 6 .any (fun w args => (Rows.frameCountsSpec.pre enc Tryd.prog Tryd.f6 [] false w args ∧ laidMetH Tryd.prog laidN w) ∧ sizedMet enc Tryd.prog Tryd.f6 (OpenSpec.ofChange Rows.frameCountsSpec) false w args)
      (Rows.frameCountsSpec.post enc Tryd.prog Tryd.f6 false true false false) := by
  refine returnsInHanded_of_change_and (C := Tryd.checked) (X := fun w _ => laidMetH Tryd.prog laidN w) (fun _ _ _ hh h => h.of_heap hh) own started (by kernel_rfl) Tryd.func6
    (ChangeSpec.witness_shaped (enc := enc) (C := Tryd.checked) (os := os) (X := fun w _ => laidMetH Tryd.prog laidN w) false (World.doorLaid Tryd.prog 400 os) #[.agg #[.slice none 0 0, .int .i64 0, .int .i64 0, .int .i64 0, .int .i64 0, .int .i64 0, .int .i64 0, .slice none 0 0, .int .i64 0, .int .i64 0, .int .i64 0, .int .i64 0, .int .i64 0, .int .i64 0, .int .i64 0, .int .i64 0, .int .i64 0, .int .i64 0, .int .i64 0, .int .i64 0]] 8 rfl (World.shaped_of_RefB (by kernel_rfl) (by kernel_rfl)) (by kernel_rfl) (by kernel_rfl) (by kernel_rfl) (door_met os _)) ?_
  intro W base args ds gs before hval0 hW _ _ hL _
  have hval : ∀ (j : Nat) t v, Tryd.f6.params[j]? = some t → args[j]? = some v → Value.okWide Tryd.prog W .any base t v := hval0
  have hW' := hW
  obtain ⟨p, q, hA0, hV, rfl, hfz, hnd⟩ := hW
  have hA : DataW.TrodAll enc Tryd.prog W 0 (fun _ => true) true Tryd.f6.params.toList args.toList ds p := hA0
  rw [Tryd.params6] at hA hval
  obtain ⟨v0, vs0, d0, ds0, p0, q0, hargs, rfl, rfl, h0, r0⟩ := trodAll_cons hA
  obtain ⟨rfl, rfl, rfl⟩ := trodAll_nil r0
  obtain rfl : args = #[v0] := by cases args; simp_all
  obtain ⟨rfl, rfl⟩ := trodVars_none hV
  have k0 := h0
  have lt0 : ∀ x ∈ p0, x.block < W.heap.size := by obtain ⟨m, hm⟩ := k0; exact DataW.trod_lt m _ _ _ hm
  obtain ⟨z0, rfl, w0⟩ := open_case (hval 0 29 v0 rfl rfl) h0
  clear hA0 hval0
  refine (walked (w := W) z0 w0 (of_laid hL)).mono fun e W' ⟨he, bel⟩ => ?_
  subst he
  exact ⟨_, rfl, _, _, _, [], _, [], hW', trodAll_mk1 (shut_bool Tryd.underlying4 _), (trodAll_cons_mk (Below.trod laidOut (by kernel_rfl) (of_decide_eq_true (by kernel_rfl)) k0 bel lt0) trodAll_mk0), rfl, bel.frame _, fun h => by cases h⟩

theorem over : Rows.FrameCountsSaid :=
  OpenClaim.holds_of_wide 6 Tryd.f6 rfl rfl rfl rfl rfl rfl rfl ⟨rfl, rfl, rfl, rfl, rfl⟩ rfl rfl rfl rfl rfl (by kernel_rfl) Tryd.func6 (by kernel_rfl)
    (of_decide_eq_true (by kernel_rfl)) (by unfold Func.isWrapper; first | (rw [if_pos (by decide +kernel)]; kernel_rfl) | (rw [if_neg (by decide +kernel)]; exact ⟨rfl, rfl⟩))
    (fun os started H enc _ => lifted os started H enc)

/-- The statement: the row, and what it lists tied to the program's text. -/
theorem proved : Rows.FrameCountsCardSaid :=
  Claim7.holds_tied_plain_at .later [] [.data] true (true, "b153ba6c92dccebf2ef61313fca4816a80f60c00a694c8625512765b05d36f05") true
    over (fun _ h => by cases h) (by kernel_rfl) (fun _ h => by cases h) frameCounts_row_tie rfl ⟨rfl, rfl⟩ (by kernel_rfl) rfl
    (fun f fn hf hfn => by
      obtain rfl : f = 6 := Option.some.inj ((show Tryd.prog.funcNamed "haymow/haymowlaw12.FrameCounts" = some 6 by kernel_rfl).symm.trans hf) |>.symm
      obtain rfl : fn = Tryd.f6 := (Option.some.inj (Tryd.func6.symm.trans hfn)).symm
      exact ⟨by kernel_rfl, fun j t ht => by
        rw [Tryd.params6] at ht
        match j, ht with
        | 0, ht =>
          obtain rfl : t = 29 := by simpa using ht.symm
          exact (show Tryd.prog.wantsStandIn 29 = false by kernel_rfl)
        | j + 1, ht => simp at ht⟩)
    (by kernel_rfl)
#print axioms proved
end Go.Proofs.YtadcenaafoemmaaDoor.frameCounts
