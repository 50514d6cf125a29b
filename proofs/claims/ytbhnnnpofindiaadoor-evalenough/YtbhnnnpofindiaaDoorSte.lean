/-
  One step of a task.
-/
import Derived.Test.YtbhnnnpofindiaaDoorLogE
namespace Go.Proofs.YtbhnnnpofindiaaDoor
open Go.RowKit

/-- What a task that goes on keeps. -/
structure Goes (c : Cx) (i : Ti) (t : Tk) (sh : Sh) : Prop where
  me : i.me < sh.log.length
  pc : t.pc < i.code.length
  s0 : 0 ≤ steps sh i.me
  s1 : steps sh i.me ≤ c.bud
  kids : t.kids + sh.left.toNat ≤ 1000000
  spw : t.spw.length + sh.left.toNat ≤ 1000000
  lim : Lim sh

/-- What holds of the program. -/
structure Fits (c : Cx) (i : Ti) : Prop where
  bud : c.bud ≤ 10000
  ins : ∀ x ∈ i.code, insE (fns c.L) i.code.length x = 0
  ari : ∀ y ∈ c.L, 0 ≤ y.f.arity ∧ y.f.arity ≤ 4
  path : i.path.length ≤ 30 ∧ (i.path.length : Int) ≤ c.dep
  len : i.code.length ≤ 1000

theorem TkB.typed {c : Cx} {i : Ti} {w : World} {t : Tk} {sv tv lv : Value} {ov : Bool} {v : Int} {sh : Sh} {ll : List LEnt} (hT : TkAt c i w t sv ov v) (hS : ShAt c w sh tv lv ll) {g : Nat} {cs : Array Value} (hB : Blk w g 55 cs) : ¬ TkB c i tv lv sv g := by
  rintro (h | h | h)
  · subst h
    exact Blk.ne_ hB hT.blk (by decide) rfl
  · exact own_ne hT.spw hB (by decide) h
  · exact (ShB.typed hS h).ne hB (by unfold ST; decide) rfl

/-- A part ahead of a step turns nothing but what the step may turn. -/
theorem st_comp {c : Cx} {i : Ti} {w W : World} {tv lv sv : Value} {R : Rs} {e : Ending} {w' : World} (h : StPost c i W tv lv sv R e w') (hF : Fr (TkB c i tv lv sv) w W) : StPost c i w tv lv sv R e w' := by
  have hN : ∀ {v v' : Value}, Newer W v v' → Newer w v v' := fun h k hk => (h k hk).imp id (fun h' => Nat.le_trans hF.size h')
  cases R with
  | next t' sh' =>
    obtain ⟨he, tv', lv', ll', sv', h1, h2, h3, h4, h5, h6⟩ := h
    exact ⟨he, tv', lv', ll', sv', h1, h2, hF.trans h3, hN h4, hN h5, hN h6⟩
  | done v t' sh' =>
    obtain ⟨he, tv', lv', ll', sv', h1, h2, h3, h4, h5, h6⟩ := h
    exact ⟨he, tv', lv', ll', sv', h1, h2, hF.trans h3, hN h4, hN h5, hN h6⟩
  | fail k sh' =>
    obtain ⟨he, tv', lv', ll', h1, h2⟩ := h
    exact ⟨he, tv', lv', ll', h1, hF.trans h2⟩
  | long sh' => exact ⟨h.1, hF.trans h.2⟩

theorem at_typed {c : Cx} {i : Ti} {w : World} {t : Tk} {sv : Value} {ov : Bool} {v : Int} (hT : TkAt c i w t sv ov v) : ∀ k, At i.g k → Typed w c.base TT k := fun k hk => by
  have hk' : k = i.g := hk
  subst hk'
  exact Typed.blk hT.blk hT.low (.inl rfl)

theorem st_own {c : Cx} {i : Ti} {W : World} {tv lv sv : Value} {t t' : Tk} {sh : Sh} {ll : List LEnt} {w' : World} (hT : TkAt c i W t sv false 0) (hS : ShAt c W sh tv lv ll) (hT' : TkAt c i w' t' sv false 0) (hF : Fr (At i.g) W w') : StPost c i W tv lv sv (.next t' sh) (.returned (.tuple #[])) w' :=
  ⟨rfl, tv, lv, ll, sv, hS.keep hF (at_typed hT), hT', hF.mono (fun _k hk => .inl hk), Newer.refl _ _, Newer.refl _ _, Newer.refl _ _⟩
theorem st_fail {c : Cx} {i : Ti} {W : World} {tv lv sv : Value} {t : Tk} {sh : Sh} {ll : List LEnt} {w' : World} {k : Int} (hT : TkAt c i W t sv false 0) (hS : ShAt c W sh tv lv ll) (hF : Fr (At i.g) W w') : StPost c i W tv lv sv (.fail k sh) (failE k) w' :=
  ⟨rfl, tv, lv, ll, hS.keep hF (at_typed hT), hF.mono (fun _k hk => .inl hk)⟩
theorem nil_newer {w : World} {v : Value} : Newer w v (.slice none 0 0) := fun k hk => by cases hk

theorem do_call (fs : List Fn) (bud dep : Int) (path : List Int) (x : Ins) (t : Tk) (sh : Sh) (h : exec x t = .call) : doR fs bud dep path x t sh = tookR x t (beginR fs bud dep path x t sh) := by
  unfold doR beginR
  rw [h]
  simp only
  by_cases hd : (path.length : Int) = dep
  · rw [if_pos hd, if_pos hd]; rfl
  · rw [if_neg hd, if_neg hd]
    generalize kidR fs bud dep path x t sh = r
    obtain ⟨o, sh2⟩ := r
    cases o <;> rfl

set_option maxHeartbeats 16000000 in
set_option maxRecDepth 100000 in
theorem step_bud (c : Cx) (i : Ti) (w : World) (t : Tk) (sv tv lv : Value) (sh : Sh) (ll : List LEnt) (hT : TkAt c i w t sv false 0) (hS : ShAt c w sh tv lv ll) (hG : Goes c i t sh) (hF : Fits c i) (h3 : steps sh i.me = c.bud) :
    Calls Tryd.prog 47 #[.pointer (some ⟨i.g, 0, none⟩)] w (StPost c i w tv lv sv (.fail 3 sh)) := by
  obtain ⟨g, hg⟩ : ∃ g, g = i.g := ⟨_, rfl⟩
  obtain ⟨Wb, hWb⟩ : ∃ Wb, Wb = c.W := ⟨_, rfl⟩
  rw [← hg]
  have HG := Lib.hid hg
  have HWb := Lib.hid hWb
  have BT := hT.blk
  have BS := hS.blk
  rw [← hg] at BT
  rw [← hWb] at BS
  have hmel : i.me < ll.length := by have := hG.me; rw [← hS.same, List.length_map] at this; exact this
  obtain ⟨le, hle⟩ : ∃ le, ll[i.me]? = some le := ⟨_, List.getElem?_eq_getElem hmel⟩
  have hst := steps_at hS.same hle
  obtain ⟨lb, cap, hlv, hlb, hllt⟩ := hS.log.form (by omega)
  have hlc := hS.log.cells (g := lb) (by rw [hlv]; rfl) (i.me * 2 + 1) (.int .i64 le.steps) (by
    have := flat_at LEnt.cells 2 LEnt.cells_length ll i.me 1 le hle (by decide)
    rw [this]; rfl)
  have hadd : (⟨lb, 0, none⟩ : Addr).add (i.me * 2 + 1) = ⟨lb, i.me * 2 + 1, none⟩ := by unfold Addr.add; split <;> simp_all
  rw [hadd] at hlc
  have c9 : w.cell? ⟨g, 9, none⟩ = some (.pointer (some ⟨Wb, 0, none⟩)) := by rw [BT.cell, hWb]; exact (tk_at hT.r8 hT.f4).1
  have c12 : w.cell? ⟨g, 12, none⟩ = some (.int .i64 i.me) := by rw [BT.cell]; exact (tk_at hT.r8 hT.f4).2.2.2.1
  have s1 : w.cell? ⟨Wb, 1, none⟩ = some (.int .i64 c.bud) := by rw [BS.cell]; rfl
  have s3 : w.cell? ⟨Wb, 3, none⟩ = some (.int .i64 sh.left) := by rw [BS.cell]; rfl
  have s7 : w.cell? ⟨Wb, 7, none⟩ = some (.slice (some ⟨lb, 0, none⟩) ll.length cap) := by rw [BS.cell, ← hlv]; rfl
  have z3 := BS.frozen 3
  have hbud := hF.bud
  have hg0 := hG.s0
  have hg1 := hG.s1
  rw [hst] at hg0 hg1
  have hl6 := hG.lim.1
  have HLE := Lib.hid hle
  have HLV := Lib.hid hlv
  have HST := Lib.hid hst
  have HT := Lib.hid hT
  have HS0 := Lib.hid hS
  have HGo := Lib.hid hG
  have HFi := Lib.hid hF
  have HBT := Lib.hid BT
  have HBS := Lib.hid BS
  have im : (0 : Int) ≤ (i.me : Int) := by omega
  have jm : (i.me : Int) < (ll.length : Int) := by omega
  clear hT hS hg hWb hG hF hle hst hadd hlv BT BS
  rw [HST.out] at h3
  rw [← h3] at s1
  have hq : (le.steps == le.steps) = true := by simp
  clear h3
  go_enter Tryd.func47, Tryd.ntmps47
  go_wp2_with fail
  go_quiet (fail)
  go_wp2_with fail
  exact ⟨rfl, rfl, tv, lv, ll, HS0.out.keep ((Fr.refl (fun _ => False) w).drewN _) (fun _ h => h.elim), (Fr.refl _ _).drewN _⟩

set_option maxHeartbeats 16000000 in
set_option maxRecDepth 100000 in
theorem step_long (c : Cx) (i : Ti) (w : World) (t : Tk) (sv tv lv : Value) (sh : Sh) (ll : List LEnt) (hT : TkAt c i w t sv false 0) (hS : ShAt c w sh tv lv ll) (hG : Goes c i t sh) (hF : Fits c i) (h3 : steps sh i.me ≠ c.bud) (h0 : sh.left ≤ 0) :
    Calls Tryd.prog 47 #[.pointer (some ⟨i.g, 0, none⟩)] w (StPost c i w tv lv sv (.long sh)) := by
  obtain ⟨g, hg⟩ : ∃ g, g = i.g := ⟨_, rfl⟩
  obtain ⟨Wb, hWb⟩ : ∃ Wb, Wb = c.W := ⟨_, rfl⟩
  rw [← hg]
  have HG := Lib.hid hg
  have HWb := Lib.hid hWb
  have BT := hT.blk
  have BS := hS.blk
  rw [← hg] at BT
  rw [← hWb] at BS
  have hmel : i.me < ll.length := by have := hG.me; rw [← hS.same, List.length_map] at this; exact this
  obtain ⟨le, hle⟩ : ∃ le, ll[i.me]? = some le := ⟨_, List.getElem?_eq_getElem hmel⟩
  have hst := steps_at hS.same hle
  obtain ⟨lb, cap, hlv, hlb, hllt⟩ := hS.log.form (by omega)
  have hlc := hS.log.cells (g := lb) (by rw [hlv]; rfl) (i.me * 2 + 1) (.int .i64 le.steps) (by
    have := flat_at LEnt.cells 2 LEnt.cells_length ll i.me 1 le hle (by decide)
    rw [this]; rfl)
  have hadd : (⟨lb, 0, none⟩ : Addr).add (i.me * 2 + 1) = ⟨lb, i.me * 2 + 1, none⟩ := by unfold Addr.add; split <;> simp_all
  rw [hadd] at hlc
  have c9 : w.cell? ⟨g, 9, none⟩ = some (.pointer (some ⟨Wb, 0, none⟩)) := by rw [BT.cell, hWb]; exact (tk_at hT.r8 hT.f4).1
  have c12 : w.cell? ⟨g, 12, none⟩ = some (.int .i64 i.me) := by rw [BT.cell]; exact (tk_at hT.r8 hT.f4).2.2.2.1
  have s1 : w.cell? ⟨Wb, 1, none⟩ = some (.int .i64 c.bud) := by rw [BS.cell]; rfl
  have s3 : w.cell? ⟨Wb, 3, none⟩ = some (.int .i64 sh.left) := by rw [BS.cell]; rfl
  have s7 : w.cell? ⟨Wb, 7, none⟩ = some (.slice (some ⟨lb, 0, none⟩) ll.length cap) := by rw [BS.cell, ← hlv]; rfl
  have z3 := BS.frozen 3
  have hbud := hF.bud
  have hg0 := hG.s0
  have hg1 := hG.s1
  rw [hst] at hg0 hg1
  have hl6 := hG.lim.1
  have HLE := Lib.hid hle
  have HLV := Lib.hid hlv
  have HST := Lib.hid hst
  have HT := Lib.hid hT
  have HS0 := Lib.hid hS
  have HGo := Lib.hid hG
  have HFi := Lib.hid hF
  have HBT := Lib.hid BT
  have HBS := Lib.hid BS
  have im : (0 : Int) ≤ (i.me : Int) := by omega
  have jm : (i.me : Int) < (ll.length : Int) := by omega
  clear hT hS hg hWb hG hF hle hst hadd hlv BT BS
  rw [HST.out] at h3
  have hq : (le.steps == c.bud) = false := by simpa using h3
  clear h3
  go_enter Tryd.func47, Tryd.ntmps47
  go_wp2_with fail
  go_quiet (fail)
  go_wp2_with fail
  exact ⟨rfl, rfl, (Fr.refl _ _).drewN _⟩

set_option maxHeartbeats 16000000 in
set_option maxRecDepth 100000 in
theorem step_do (c : Cx) (i : Ti) (w : World) (t : Tk) (sv tv lv : Value) (sh : Sh) (ll : List LEnt) (hT : TkAt c i w t sv false 0) (hS : ShAt c w sh tv lv ll) (hG : Goes c i t sh) (hF : Fits c i) (h3 : steps sh i.me ≠ c.bud) (h0 : ¬ sh.left ≤ 0) (hE : EvOK c sh.left.toNat) (x : Ins) (hx : i.code[t.pc]? = some x) :
    Calls Tryd.prog 47 #[.pointer (some ⟨i.g, 0, none⟩)] w (StPost c i w tv lv sv (doR (fns c.L) c.bud c.dep i.path x { t with pc := t.pc + 1 } (tick sh i.me))) := by
  obtain ⟨R, hR⟩ : ∃ R, doR (fns c.L) c.bud c.dep i.path x { t with pc := t.pc + 1 } (tick sh i.me) = R := ⟨_, rfl⟩
  rw [hR]
  have HR := Lib.hid hR
  have HE := Lib.hid hE
  have HX := Lib.hid hx
  clear hR hE hx
  obtain ⟨g, hg⟩ : ∃ g, g = i.g := ⟨_, rfl⟩
  obtain ⟨Wb, hWb⟩ : ∃ Wb, Wb = c.W := ⟨_, rfl⟩
  rw [← hg]
  have HG := Lib.hid hg
  have HWb := Lib.hid hWb
  have BT := hT.blk
  have BS := hS.blk
  rw [← hg] at BT
  rw [← hWb] at BS
  have hmel : i.me < ll.length := by have := hG.me; rw [← hS.same, List.length_map] at this; exact this
  obtain ⟨le, hle⟩ : ∃ le, ll[i.me]? = some le := ⟨_, List.getElem?_eq_getElem hmel⟩
  have hst := steps_at hS.same hle
  obtain ⟨lb, cap, hlv, hlb, hllt⟩ := hS.log.form (by omega)
  have hlc := hS.log.cells (g := lb) (by rw [hlv]; rfl) (i.me * 2 + 1) (.int .i64 le.steps) (by
    have := flat_at LEnt.cells 2 LEnt.cells_length ll i.me 1 le hle (by decide)
    rw [this]; rfl)
  have hadd : (⟨lb, 0, none⟩ : Addr).add (i.me * 2 + 1) = ⟨lb, i.me * 2 + 1, none⟩ := by unfold Addr.add; split <;> simp_all
  rw [hadd] at hlc
  have c9 : w.cell? ⟨g, 9, none⟩ = some (.pointer (some ⟨Wb, 0, none⟩)) := by rw [BT.cell, hWb]; exact (tk_at hT.r8 hT.f4).1
  have c12 : w.cell? ⟨g, 12, none⟩ = some (.int .i64 i.me) := by rw [BT.cell]; exact (tk_at hT.r8 hT.f4).2.2.2.1
  have s1 : w.cell? ⟨Wb, 1, none⟩ = some (.int .i64 c.bud) := by rw [BS.cell]; rfl
  have s3 : w.cell? ⟨Wb, 3, none⟩ = some (.int .i64 sh.left) := by rw [BS.cell]; rfl
  have s7 : w.cell? ⟨Wb, 7, none⟩ = some (.slice (some ⟨lb, 0, none⟩) ll.length cap) := by rw [BS.cell, ← hlv]; rfl
  have z3 := BS.frozen 3
  have hbud := hF.bud
  have hg0 := hG.s0
  have hg1 := hG.s1
  rw [hst] at hg0 hg1
  have hl6 := hG.lim.1
  have HLE := Lib.hid hle
  have HLV := Lib.hid hlv
  have HST := Lib.hid hst
  have HT := Lib.hid hT
  have HS0 := Lib.hid hS
  have HGo := Lib.hid hG
  have HFi := Lib.hid hF
  have HBT := Lib.hid BT
  have HBS := Lib.hid BS
  have im : (0 : Int) ≤ (i.me : Int) := by omega
  have jm : (i.me : Int) < (ll.length : Int) := by omega
  clear hT hS hg hWb hG hF hle hst hadd hlv BT BS
  rw [HST.out] at h3
  have hq : (le.steps == c.bud) = false := by simpa using h3
  have hlt : le.steps < 10000 := by omega
  have hdec : decide (sh.left ≤ 0) = false := by simpa using h0
  have hlp : 0 < sh.left := by omega
  have hlq : sh.left ≤ 1000000 := by omega
  have H0 := Lib.hid h0
  clear h3 h0
  go_enter Tryd.func47, Tryd.ntmps47
  go_wp2_with fail
  go_quiet (fail)
  go_wp2_with fail
  generalize hW1 : (w.drewN _).setCell ⟨Wb, 3, none⟩ _ = W1
  have h1 : ShAt c W1 { sh with left := sh.left - 1 } tv lv ll ∧ Fr (ShB c tv lv) w W1 := by
    rw [← hW1, HWb.out]
    exact ⟨(ShAt.less (HS0.out.keep ((Fr.refl (fun _ => False) w).drewN _) (fun _ h => h.elim)) (sh.left - 1) _ rfl).1, ((Fr.refl _ w).drewN _).trans (ShAt.less (HS0.out.keep ((Fr.refl (fun _ => False) w).drewN _) (fun _ h => h.elim)) (sh.left - 1) _ rfl).2⟩
  have hT1 := HT.out.keep h1.2 (fun k hk => ShB.typed HS0.out hk)
  have BS1 := h1.1.blk
  have BT1 := hT1.blk
  rw [← HWb.out] at BS1
  rw [← HG.out] at BT1
  have m12 : W1.cell? ⟨g, 12, none⟩ = some (.int .i64 i.me) := by rw [BT1.cell]; exact (tk_at hT1.r8 hT1.f4).2.2.2.1
  have m7 : W1.cell? ⟨Wb, 7, none⟩ = some (.slice (some ⟨lb, 0, none⟩) ll.length cap) := by rw [BS1.cell, ← HLV.out]; rfl
  have hlog1 := h1.1.log
  rw [HLV.out] at hlog1
  have ml : W1.cell? ⟨lb, i.me * 2 + 1, none⟩ = some (.int .i64 le.steps) := by
    have hh := hlog1.cells (g := lb) rfl (i.me * 2 + 1) (.int .i64 le.steps) (by
      rw [flat_at LEnt.cells 2 LEnt.cells_length ll i.me 1 le HLE.out (by decide)]; rfl)
    have hadd : (⟨lb, 0, none⟩ : Addr).add (i.me * 2 + 1) = ⟨lb, i.me * 2 + 1, none⟩ := by unfold Addr.add; split <;> simp_all
    rwa [hadd] at hh
  have zl : W1.frozen? ⟨lb, i.me * 2 + 1, none⟩ = false := by
    rcases hlog1.2 with ⟨h0, _⟩ | ⟨g', cap', cur, hv, _, hh, _⟩
    · cases h0
    · injection hv with hv1 _ _
      injection hv1 with hv1
      injection hv1 with hv1
      subst hv1
      exact Blk.frozen (t := 49) hh _
  have HS1 := Lib.hid h1.1
  have HF1 := Lib.hid h1.2
  have HT1 := Lib.hid hT1
  clear hW1 h1 hT1 BS1 BT1 hlog1 c9 c12 s1 s3 s7 hlc z3
  go_still_tail 14, (by kernel_rfl)
  change wpList _ _ _ _ _ (World.drew _)
  go_wp2_with fail
  generalize hW2 : World.drew _ = W2
  have h2 : ShAt c W2 (tick sh i.me) tv lv (ll.modify i.me LEnt.up) ∧ Fr (ShB c tv lv) W1 W2 := by
    have hs1 := HS1.out
    rw [HLV.out] at hs1 ⊢
    have := hs1.up i.me le HLE.out (.int .i64 (le.steps + 1)) rfl
    rw [← hW2]
    exact ⟨this.1.keep ((Fr.refl (fun _ => False) _).drew) (fun _ h => h.elim), this.2.drew⟩
  have hT2 := HT1.out.keep h2.2 (fun k hk => ShB.typed HS1.out hk)
  have BT2 := hT2.blk
  rw [← HG.out] at BT2
  obtain ⟨cb, coff, hCA, _, x0, x1, x2, x3, x4⟩ := hT2.cod.at_ HX.out
  have n0 : W2.cell? ⟨g, 0, none⟩ = some (.int .i64 t.pc) := by rw [BT2.cell]; exact tk_pc
  have n10 : W2.cell? ⟨g, 10, none⟩ = some (.slice (some ⟨cb, coff, none⟩) i.code.length i.cc) := by rw [BT2.cell, ← hCA]; exact (tk_at hT2.r8 hT2.f4).2.1
  have HS2 := Lib.hid h2.1
  have HF2 := Lib.hid (HF1.out.trans h2.2)
  have HT2 := Lib.hid hT2
  have hpc := HGo.out.pc
  have hlen := HFi.out.len
  have ip : (0 : Int) ≤ (t.pc : Int) := by omega
  have jp : (t.pc : Int) < (i.code.length : Int) := by omega
  have hg2 : g < W2.heap.size := BT2.lt
  clear hW2 h2 hT2 BT2 hCA m12 m7 ml zl
  refine region_K 11 (fun w' => w'.cell? ⟨g, 0, none⟩ = some (.int .i64 t.pc) ∧ w'.cell? ⟨g, 10, none⟩ = some (.slice (some ⟨cb, coff, none⟩) i.code.length i.cc) ∧ w'.cell? ⟨cb, coff + t.pc * 5, none⟩ = some (.int .i64 x.op) ∧ w'.cell? ⟨cb, coff + t.pc * 5 + 1, none⟩ = some (.int .i64 x.a) ∧ w'.cell? ⟨cb, coff + t.pc * 5 + 2, none⟩ = some (.int .i64 x.b) ∧ w'.cell? ⟨cb, coff + t.pc * 5 + 3, none⟩ = some (.int .i64 x.c) ∧ w'.cell? ⟨cb, coff + t.pc * 5 + 4, none⟩ = some (.int .i64 x.k)) (by kernel_rfl) ?_
  have HS : (fun w' : World => w'.cell? ⟨g, 0, none⟩ = some (.int .i64 t.pc) ∧ w'.cell? ⟨g, 10, none⟩ = some (.slice (some ⟨cb, coff, none⟩) i.code.length i.cc) ∧ w'.cell? ⟨cb, coff + t.pc * 5, none⟩ = some (.int .i64 x.op) ∧ w'.cell? ⟨cb, coff + t.pc * 5 + 1, none⟩ = some (.int .i64 x.a) ∧ w'.cell? ⟨cb, coff + t.pc * 5 + 2, none⟩ = some (.int .i64 x.b) ∧ w'.cell? ⟨cb, coff + t.pc * 5 + 3, none⟩ = some (.int .i64 x.c) ∧ w'.cell? ⟨cb, coff + t.pc * 5 + 4, none⟩ = some (.int .i64 x.k)) W2.drew := ⟨n0, n10, x0, x1, x2, x3, x4⟩
  refine AnyK.take (i := 0) rfl (by decide) (by kernel_rfl) (by kernel_rfl) (by kernel_rfl) (fun _ _ _ _ h => h) HS (fun K hK => ?_)
  go_simp
  refine hK.out _ ⟨_, by rfl, Or.inl ⟨by rfl, by intro w hSw; (try dsimp only at hSw); go_simp⟩, ?_⟩
  clear hK K
  refine AnyK.take (i := 1) rfl (by decide) (by kernel_rfl) (by kernel_rfl) (by kernel_rfl) (fun _ _ _ _ h => h) HS (fun K hK => ?_)
  go_simp
  refine hK.out _ ⟨_, by rfl, Or.inl ⟨by rfl, by intro w hSw; (try dsimp only at hSw); go_simp⟩, ?_⟩
  clear hK K
  refine AnyK.take (i := 2) rfl (by decide) (by kernel_rfl) (by kernel_rfl) (by kernel_rfl) (fun _ _ _ _ h => h) HS (fun K hK => ?_)
  go_simp
  refine hK.out _ ⟨_, by rfl, Or.inl ⟨by rfl, by intro w hSw; (try dsimp only at hSw); go_simp⟩, ?_⟩
  clear hK K
  refine AnyK.take (i := 3) rfl (by decide) (by kernel_rfl) (by kernel_rfl) (by kernel_rfl) (fun _ _ _ _ h => h) HS (fun K hK => ?_)
  go_simp
  refine hK.out _ ⟨_, by rfl, Or.inl ⟨by rfl, by intro w hSw; (try dsimp only at hSw); go_simp⟩, ?_⟩
  clear hK K
  refine AnyK.take (i := 4) rfl (by decide) (by kernel_rfl) (by kernel_rfl) (by kernel_rfl) (fun _ _ _ _ h => h) HS (fun K hK => ?_)
  go_simp
  refine hK.out _ ⟨_, by rfl, Or.inl ⟨by rfl, by intro w hSw; (try dsimp only at hSw); go_simp⟩, ?_⟩
  clear hK K
  refine AnyK.take (i := 5) rfl (by decide) (by kernel_rfl) (by kernel_rfl) (by kernel_rfl) (fun _ _ _ _ h => h) HS (fun K hK => ?_)
  go_simp
  refine hK.out _ ⟨_, by rfl, Or.inl ⟨by rfl, by intro w hSw; (try dsimp only at hSw); go_simp⟩, ?_⟩
  clear hK K
  refine AnyK.take (i := 6) rfl (by decide) (by kernel_rfl) (by kernel_rfl) (by kernel_rfl) (fun _ _ _ _ h => h) HS (fun K hK => ?_)
  go_simp
  refine hK.out _ ⟨_, by rfl, Or.inl ⟨by rfl, by intro w hSw; (try dsimp only at hSw); go_simp⟩, ?_⟩
  clear hK K
  refine AnyK.take (i := 7) rfl (by decide) (by kernel_rfl) (by kernel_rfl) (by kernel_rfl) (fun _ _ _ _ h => h) HS (fun K hK => ?_)
  go_simp
  refine hK.out _ ⟨_, by rfl, Or.inl ⟨by rfl, by intro w hSw; (try dsimp only at hSw); go_simp⟩, ?_⟩
  clear hK K
  refine AnyK.take (i := 8) rfl (by decide) (by kernel_rfl) (by kernel_rfl) (by kernel_rfl) (fun _ _ _ _ h => h) HS (fun K hK => ?_)
  go_simp
  refine hK.out _ ⟨_, by rfl, Or.inl ⟨by rfl, by intro w hSw; (try dsimp only at hSw); go_simp⟩, ?_⟩
  clear hK K
  refine AnyK.take (i := 9) rfl (by decide) (by kernel_rfl) (by kernel_rfl) (by kernel_rfl) (fun _ _ _ _ h => h) HS (fun K hK => ?_)
  go_simp
  refine hK.out _ ⟨_, by rfl, Or.inl ⟨by rfl, by intro w hSw; (try dsimp only at hSw); go_simp⟩, ?_⟩
  clear hK K
  refine AnyK.take (i := 10) rfl (by decide) (by kernel_rfl) (by kernel_rfl) (by kernel_rfl) (fun _ _ _ _ h => h) HS (fun K hK => ?_)
  go_simp
  refine hK.out _ ⟨_, by rfl, Or.inl ⟨by rfl, by intro w hSw; (try dsimp only at hSw); go_simp⟩, ?_⟩
  clear hK K
  refine AnyK.one (i := 11) rfl (by kernel_rfl) (fun K hK => ?_)
  go_simp
  have hFa : Fr (fun _ => False) W2 (W2.alloc (.cells #[.int .i64 0, .int .i64 0, .int .i64 0, .int .i64 0, .int .i64 0] 55)).drew := ((Fr.refl _ _).alloc _).drew
  refine hK.out _ _ (fun _ => ⟨hFa.held n0 (fun h => h), hFa.held n10 (fun h => h), hFa.held x0 (fun h => h), hFa.held x1 (fun h => h), hFa.held x2 (fun h => h), hFa.held x3 (fun h => h), hFa.held x4 (fun h => h)⟩) ?_
  clear hK K
  refine AnyK.one (i := 12) rfl (by kernel_rfl) (fun K hK => ?_)
  go_simp
  refine hK.out _ _ (fun h => absurd (h.symm.trans (by kernel_rfl : _ = true)) (by decide)) ?_
  clear hK K
  refine AnyK.done (by kernel_rfl) ?_ _
  have z0 : W2.frozen? ⟨g, 0, none⟩ = false := by have BT2 := HT2.out.blk; rw [← HG.out] at BT2; exact BT2.frozen 0
  clear hFa HS x0 x1 x2 x3 x4 n10
  go_wp2_with fail
  generalize hW4 : World.drew _ = W4
  have hB4i : Blk W4 W2.heap.size 55 #[.int .i64 x.op, .int .i64 x.a, .int .i64 x.b, .int .i64 x.c, .int .i64 x.k] := by
    rw [← hW4]
    have := Blk.new (W2.setCell ⟨g, 0, none⟩ (.int .i64 ((t.pc : Int) + 1))) 55 #[.int .i64 x.op, .int .i64 x.a, .int .i64 x.b, .int .i64 x.c, .int .i64 x.k]
    rw [show (W2.setCell ⟨g, 0, none⟩ (.int .i64 ((t.pc : Int) + 1))).heap.size = W2.heap.size by simp [World.setCell]] at this
    exact this.drew
  have hF4 : Fr (At i.g) W2 W4 := by
    rw [← hW4, ← HG.out]
    exact (((Fr.refl (At g) W2).setCell (p := ⟨g, 0, none⟩) (.inl rfl) _).alloc _).drew
  have hT4 : TkAt c i W4 { t with pc := t.pc + 1 } sv false 0 := by
    refine HT2.out.turn hF4 ?_ HT2.out.r8 HT2.out.f4 rfl
    have BT2 := HT2.out.blk
    have hs := ((BT2.set_ 0 (.int .i64 ((t.pc : Int) + 1))).alloc (.cells #[.int .i64 x.op, .int .i64 x.a, .int .i64 x.b, .int .i64 x.c, .int .i64 x.k] 55)).drew
    rw [tk_setPc (t.pc + 1) _ (by simp)] at hs
    rw [← hW4, HG.out]
    exact hs
  have HS4 := Lib.hid (HS2.out.keep hF4 (at_typed HT2.out))
  have HF4 := Lib.hid (((HF2.out.mono (fun k h => .inr (.inr h))).trans (hF4.mono (fun k h => .inl h))) : Fr (TkB c i tv lv sv) w W4)
  have HT4 := Lib.hid hT4
  have HB4 := Lib.hid hB4i
  obtain ⟨op, a, b, cc, hok⟩ := ins_ok (HFi.out.ins x (List.mem_of_getElem? HX.out))
  obtain ⟨t1, ht1⟩ : ∃ t1, ({ t with pc := t.pc + 1 } : Tk) = t1 := ⟨_, rfl⟩
  have hkk : t1.kids + (tick sh i.me).left.toNat ≤ 1000000 := by rw [← ht1]; have := HGo.out.kids; have := tick_lt (sh := sh) (me := i.me) (by have := H0.out; omega); show t.kids + _ ≤ _; omega
  have hss : t1.spw.length + (tick sh i.me).left.toNat ≤ 1000000 := by rw [← ht1]; have := HGo.out.spw; have := tick_lt (sh := sh) (me := i.me) (by have := H0.out; omega); show t.spw.length + _ ≤ _; omega
  have hLL : (tick sh i.me).told.length + (tick sh i.me).left.toNat ≤ 1000000 ∧ (tick sh i.me).log.length + 1 + (tick sh i.me).left.toNat ≤ 1000000 := by
    have h1 := HGo.out.lim
    have h2 := tick_lt (sh := sh) (me := i.me) (by have := H0.out; omega)
    have h3 : (tick sh i.me).log.length = sh.log.length := by simp [tick]
    have h4 : (tick sh i.me).told = sh.told := rfl
    rw [h3, h4]
    unfold Lim at h1
    omega
  have hEE : EvOK c ((tick sh i.me).left.toNat + 1) := by
    have h5 : (tick sh i.me).left.toNat + 1 = sh.left.toNat := by have h0 := H0.out; show (sh.left - 1).toNat + 1 = _; omega
    rw [h5]; exact HE.out
  have HEE := Lib.hid hEE
  rw [ht1] at HR HT4
  obtain ⟨sh1, hsh1⟩ : ∃ sh1, tick sh i.me = sh1 := ⟨_, rfl⟩
  rw [hsh1] at HR HS4 hkk hss hLL HEE
  obtain ⟨xo, xa, xb, xc, xk⟩ := x
  obtain ⟨e1, e2, e3, e4, op1, op17, a8, b8, c8, fut, tch, fnn, place⟩ := hok
  simp only at e1 e2 e3 e4
  subst e1 e2 e3 e4
  have HOK : Hid (InsOk (fns c.L) i.code.length ⟨op, a, b, cc, xk⟩ op a b cc) := Lib.hid ⟨rfl, rfl, rfl, rfl, op1, op17, a8, b8, c8, fut, tch, fnn, place⟩
  have HC8 := Lib.hid c8
  have HFUT := Lib.hid fut
  have HTCH := Lib.hid tch
  have HPL := Lib.hid place
  have HHB : Hid (sh1.told.length ≤ 1000000 ∧ t1.spw.length ≤ 1000000 ∧ t1.kids ≤ 1000000) := Lib.hid ⟨by omega, by omega, by omega⟩
  have HLL := Lib.hid hLL
  clear hW4 hB4i hF4 hT4 hEE hLL hkk hss ht1 hsh1 c8 fut tch fnn place HX HT2 HS2 HF2 HT1 HS1 HF1 HT HS0 HBT HBS HE H0 HGo HLE HLV HST n0 z0 hq hdec
  have s4 : W4.cell? ⟨Wb, 4, none⟩ = some (.map (some c.pm)) := by rw [HWb.out, HS4.out.blk.cell]; rfl
  have d0 : W4.cell? ⟨W2.heap.size, 0, none⟩ = some (.int .i64 (op : Int)) := by rw [HB4.out.cell]; rfl
  have hcase : op = 1 ∨ op = 2 ∨ op = 3 ∨ op = 4 ∨ op = 5 ∨ op = 6 ∨ op = 7 ∨ op = 8 ∨ op = 9 ∨ op = 10 ∨ op = 11 ∨ op = 12 ∨ op = 13 ∨ op = 14 ∨ op = 15 ∨ op = 16 ∨ op = 17 := by omega
  clear op1 op17
  rcases hcase with rfl | rfl | rfl | rfl | rfl | rfl | rfl | rfl | rfl | rfl | rfl | rfl | rfl | rfl | rfl | rfl | rfl
  · obtain rfl : R = .next (setR t1 a xk) sh1 := HR.out.symm.trans rfl
    have hl : ∀ n, (Instr.lookup 70 (.map (some c.pm)) (.int .i64 1) true).run Tryd.prog (W4.drewN n) = .ok (.tuple #[.func (.func 30) #[] #[], .bool true]) (W4.drewN n) := fun n => look_pl (W4.drewN n) c.pm HS4.out.pmap 1 (by decide)
    go_quiet (fail)
    go_wp2_with fail
    generalize hW5 : W4.drewN _ = W5
    have hF45 : Fr (fun _ => False) W4 W5 := by rw [← hW5]; exact (Fr.refl _ _).drewN _
    have HT5 := Lib.hid ((HT4.out.keep hF45 (fun _ h => h.elim)).keep ((Fr.refl (fun _ => False) W5).drew) (fun _ h => h.elim))
    have HS5 := Lib.hid ((HS4.out.keep hF45 (fun _ h => h.elim)).keep ((Fr.refl (fun _ => False) W5).drew) (fun _ h => h.elim))
    have hB5 := HB4.out.fr hF45 (fun h => h)
    have q0 : W5.cell? ⟨W2.heap.size, 0, none⟩ = some (.int .i64 1) := by rw [hB5.cell]; rfl
    have q1 : W5.cell? ⟨W2.heap.size, 1, none⟩ = some (.int .i64 a) := by rw [hB5.cell]; rfl
    have q2 : W5.cell? ⟨W2.heap.size, 2, none⟩ = some (.int .i64 b) := by rw [hB5.cell]; rfl
    have q3 : W5.cell? ⟨W2.heap.size, 3, none⟩ = some (.int .i64 cc) := by rw [hB5.cell]; rfl
    have q4 : W5.cell? ⟨W2.heap.size, 4, none⟩ = some (.int .i64 xk) := by rw [hB5.cell]; rfl
    have HF5 : Hid (Fr (TkB c i tv lv sv) w W5.drew) := Lib.hid (HF4.out.trans (hF45.drew.mono (fun _ h => h.elim)))
    have s5 : W5.cell? ⟨Wb, 5, none⟩ = some (.map (some c.dm)) := by rw [HWb.out, (HS4.out.keep hF45 (fun _ h => h.elim)).blk.cell]; rfl
    have hB6 : Blk W5.drew g 106 (tkL c.W (.slice i.CA i.code.length i.cc) (.slice i.pA i.path.length i.pc) i.me t1 sv false 0).toArray := by rw [HG.out]; exact HT5.out.blk
    have HB6 := Lib.hid hB6
    clear hW5 hF45 hB5 hl s4 d0 hB6
    go_still_tail 5, (by kernel_rfl)
    change wpList _ _ _ _ _ (World.drew _)
    go_wp2_with fail
    refine (set_op W5.drew g _ _ HB6.out 1 xk a a8 b cc _ (tk_reg HT5.out.r8 a a8)).mono ?_
    rintro e w6 ⟨rfl, hB7, hF6⟩
    rw [tk_setR HT5.out.r8 a a8] at hB7
    have HB7 := Lib.hid hB7
    have HF6 := Lib.hid hF6
    clear hB7 hF6
    go_wp2_with fail
    go_end0
    have hF6' : Fr (At i.g) W5.drew w6 := by rw [← HG.out]; exact HF6.out
    exact st_comp (st_own HT5.out HS5.out (HT5.out.turn hF6' (by rw [← HG.out]; exact HB7.out) (by rw [setR_len]; exact HT5.out.r8) HT5.out.f4 rfl) hF6') HF5.out
  · obtain rfl : R = .next (setR t1 a (reg t1 b)) sh1 := HR.out.symm.trans rfl
    have hl : ∀ n, (Instr.lookup 70 (.map (some c.pm)) (.int .i64 2) true).run Tryd.prog (W4.drewN n) = .ok (.tuple #[.func (.func 31) #[] #[], .bool true]) (W4.drewN n) := fun n => look_pl (W4.drewN n) c.pm HS4.out.pmap 2 (by decide)
    go_quiet (fail)
    go_wp2_with fail
    generalize hW5 : W4.drewN _ = W5
    have hF45 : Fr (fun _ => False) W4 W5 := by rw [← hW5]; exact (Fr.refl _ _).drewN _
    have HT5 := Lib.hid ((HT4.out.keep hF45 (fun _ h => h.elim)).keep ((Fr.refl (fun _ => False) W5).drew) (fun _ h => h.elim))
    have HS5 := Lib.hid ((HS4.out.keep hF45 (fun _ h => h.elim)).keep ((Fr.refl (fun _ => False) W5).drew) (fun _ h => h.elim))
    have hB5 := HB4.out.fr hF45 (fun h => h)
    have q0 : W5.cell? ⟨W2.heap.size, 0, none⟩ = some (.int .i64 2) := by rw [hB5.cell]; rfl
    have q1 : W5.cell? ⟨W2.heap.size, 1, none⟩ = some (.int .i64 a) := by rw [hB5.cell]; rfl
    have q2 : W5.cell? ⟨W2.heap.size, 2, none⟩ = some (.int .i64 b) := by rw [hB5.cell]; rfl
    have q3 : W5.cell? ⟨W2.heap.size, 3, none⟩ = some (.int .i64 cc) := by rw [hB5.cell]; rfl
    have q4 : W5.cell? ⟨W2.heap.size, 4, none⟩ = some (.int .i64 xk) := by rw [hB5.cell]; rfl
    have HF5 : Hid (Fr (TkB c i tv lv sv) w W5.drew) := Lib.hid (HF4.out.trans (hF45.drew.mono (fun _ h => h.elim)))
    have s5 : W5.cell? ⟨Wb, 5, none⟩ = some (.map (some c.dm)) := by rw [HWb.out, (HS4.out.keep hF45 (fun _ h => h.elim)).blk.cell]; rfl
    have hB6 : Blk W5.drew g 106 (tkL c.W (.slice i.CA i.code.length i.cc) (.slice i.pA i.path.length i.pc) i.me t1 sv false 0).toArray := by rw [HG.out]; exact HT5.out.blk
    have HB6 := Lib.hid hB6
    clear hW5 hF45 hB5 hl s4 d0 hB6
    go_still_tail 5, (by kernel_rfl)
    change wpList _ _ _ _ _ (World.drew _)
    go_wp2_with fail
    refine (move_op W5.drew g _ _ HB6.out 2 xk a a8 b b8 cc _ (tk_reg HT5.out.r8 a a8) _ (tk_reg HT5.out.r8 b b8)).mono ?_
    rintro e w6 ⟨rfl, hB7, hF6⟩
    rw [tk_setR HT5.out.r8 a a8] at hB7
    have HB7 := Lib.hid hB7
    have HF6 := Lib.hid hF6
    clear hB7 hF6
    go_wp2_with fail
    go_end0
    have hF6' : Fr (At i.g) W5.drew w6 := by rw [← HG.out]; exact HF6.out
    exact st_comp (st_own HT5.out HS5.out (HT5.out.turn hF6' (by rw [← HG.out]; exact HB7.out) (by rw [setR_len]; exact HT5.out.r8) HT5.out.f4 rfl) hF6') HF5.out
  · obtain rfl : R = .next (setR t1 a (wrap64 (reg t1 b + reg t1 cc))) sh1 := HR.out.symm.trans rfl
    have hl : ∀ n, (Instr.lookup 70 (.map (some c.pm)) (.int .i64 3) true).run Tryd.prog (W4.drewN n) = .ok (.tuple #[.func (.func 32) #[] #[], .bool true]) (W4.drewN n) := fun n => look_pl (W4.drewN n) c.pm HS4.out.pmap 3 (by decide)
    go_quiet (fail)
    go_wp2_with fail
    generalize hW5 : W4.drewN _ = W5
    have hF45 : Fr (fun _ => False) W4 W5 := by rw [← hW5]; exact (Fr.refl _ _).drewN _
    have HT5 := Lib.hid ((HT4.out.keep hF45 (fun _ h => h.elim)).keep ((Fr.refl (fun _ => False) W5).drew) (fun _ h => h.elim))
    have HS5 := Lib.hid ((HS4.out.keep hF45 (fun _ h => h.elim)).keep ((Fr.refl (fun _ => False) W5).drew) (fun _ h => h.elim))
    have hB5 := HB4.out.fr hF45 (fun h => h)
    have q0 : W5.cell? ⟨W2.heap.size, 0, none⟩ = some (.int .i64 3) := by rw [hB5.cell]; rfl
    have q1 : W5.cell? ⟨W2.heap.size, 1, none⟩ = some (.int .i64 a) := by rw [hB5.cell]; rfl
    have q2 : W5.cell? ⟨W2.heap.size, 2, none⟩ = some (.int .i64 b) := by rw [hB5.cell]; rfl
    have q3 : W5.cell? ⟨W2.heap.size, 3, none⟩ = some (.int .i64 cc) := by rw [hB5.cell]; rfl
    have q4 : W5.cell? ⟨W2.heap.size, 4, none⟩ = some (.int .i64 xk) := by rw [hB5.cell]; rfl
    have HF5 : Hid (Fr (TkB c i tv lv sv) w W5.drew) := Lib.hid (HF4.out.trans (hF45.drew.mono (fun _ h => h.elim)))
    have s5 : W5.cell? ⟨Wb, 5, none⟩ = some (.map (some c.dm)) := by rw [HWb.out, (HS4.out.keep hF45 (fun _ h => h.elim)).blk.cell]; rfl
    have hB6 : Blk W5.drew g 106 (tkL c.W (.slice i.CA i.code.length i.cc) (.slice i.pA i.path.length i.pc) i.me t1 sv false 0).toArray := by rw [HG.out]; exact HT5.out.blk
    have HB6 := Lib.hid hB6
    clear hW5 hF45 hB5 hl s4 d0 hB6
    go_still_tail 5, (by kernel_rfl)
    change wpList _ _ _ _ _ (World.drew _)
    go_wp2_with fail
    refine (add_op W5.drew g _ _ HB6.out 3 xk a a8 b b8 cc (HC8.out (by decide) (by decide)) _ (tk_reg HT5.out.r8 a a8) _ (tk_reg HT5.out.r8 b b8) _ (tk_reg HT5.out.r8 cc (HC8.out (by decide) (by decide)))).mono ?_
    rintro e w6 ⟨rfl, hB7, hF6⟩
    rw [tk_setR HT5.out.r8 a a8] at hB7
    have HB7 := Lib.hid hB7
    have HF6 := Lib.hid hF6
    clear hB7 hF6
    go_wp2_with fail
    go_end0
    have hF6' : Fr (At i.g) W5.drew w6 := by rw [← HG.out]; exact HF6.out
    exact st_comp (st_own HT5.out HS5.out (HT5.out.turn hF6' (by rw [← HG.out]; exact HB7.out) (by rw [setR_len]; exact HT5.out.r8) HT5.out.f4 rfl) hF6') HF5.out
  · obtain rfl : R = .next (setR t1 a (wrap64 (reg t1 b - reg t1 cc))) sh1 := HR.out.symm.trans rfl
    have hl : ∀ n, (Instr.lookup 70 (.map (some c.pm)) (.int .i64 4) true).run Tryd.prog (W4.drewN n) = .ok (.tuple #[.func (.func 33) #[] #[], .bool true]) (W4.drewN n) := fun n => look_pl (W4.drewN n) c.pm HS4.out.pmap 4 (by decide)
    go_quiet (fail)
    go_wp2_with fail
    generalize hW5 : W4.drewN _ = W5
    have hF45 : Fr (fun _ => False) W4 W5 := by rw [← hW5]; exact (Fr.refl _ _).drewN _
    have HT5 := Lib.hid ((HT4.out.keep hF45 (fun _ h => h.elim)).keep ((Fr.refl (fun _ => False) W5).drew) (fun _ h => h.elim))
    have HS5 := Lib.hid ((HS4.out.keep hF45 (fun _ h => h.elim)).keep ((Fr.refl (fun _ => False) W5).drew) (fun _ h => h.elim))
    have hB5 := HB4.out.fr hF45 (fun h => h)
    have q0 : W5.cell? ⟨W2.heap.size, 0, none⟩ = some (.int .i64 4) := by rw [hB5.cell]; rfl
    have q1 : W5.cell? ⟨W2.heap.size, 1, none⟩ = some (.int .i64 a) := by rw [hB5.cell]; rfl
    have q2 : W5.cell? ⟨W2.heap.size, 2, none⟩ = some (.int .i64 b) := by rw [hB5.cell]; rfl
    have q3 : W5.cell? ⟨W2.heap.size, 3, none⟩ = some (.int .i64 cc) := by rw [hB5.cell]; rfl
    have q4 : W5.cell? ⟨W2.heap.size, 4, none⟩ = some (.int .i64 xk) := by rw [hB5.cell]; rfl
    have HF5 : Hid (Fr (TkB c i tv lv sv) w W5.drew) := Lib.hid (HF4.out.trans (hF45.drew.mono (fun _ h => h.elim)))
    have s5 : W5.cell? ⟨Wb, 5, none⟩ = some (.map (some c.dm)) := by rw [HWb.out, (HS4.out.keep hF45 (fun _ h => h.elim)).blk.cell]; rfl
    have hB6 : Blk W5.drew g 106 (tkL c.W (.slice i.CA i.code.length i.cc) (.slice i.pA i.path.length i.pc) i.me t1 sv false 0).toArray := by rw [HG.out]; exact HT5.out.blk
    have HB6 := Lib.hid hB6
    clear hW5 hF45 hB5 hl s4 d0 hB6
    go_still_tail 5, (by kernel_rfl)
    change wpList _ _ _ _ _ (World.drew _)
    go_wp2_with fail
    refine (sub_op W5.drew g _ _ HB6.out 4 xk a a8 b b8 cc (HC8.out (by decide) (by decide)) _ (tk_reg HT5.out.r8 a a8) _ (tk_reg HT5.out.r8 b b8) _ (tk_reg HT5.out.r8 cc (HC8.out (by decide) (by decide)))).mono ?_
    rintro e w6 ⟨rfl, hB7, hF6⟩
    rw [tk_setR HT5.out.r8 a a8] at hB7
    have HB7 := Lib.hid hB7
    have HF6 := Lib.hid hF6
    clear hB7 hF6
    go_wp2_with fail
    go_end0
    have hF6' : Fr (At i.g) W5.drew w6 := by rw [← HG.out]; exact HF6.out
    exact st_comp (st_own HT5.out HS5.out (HT5.out.turn hF6' (by rw [← HG.out]; exact HB7.out) (by rw [setR_len]; exact HT5.out.r8) HT5.out.f4 rfl) hF6') HF5.out
  · obtain rfl : R = .next (setR t1 a (wrap64 (reg t1 b * reg t1 cc))) sh1 := HR.out.symm.trans rfl
    have hl : ∀ n, (Instr.lookup 70 (.map (some c.pm)) (.int .i64 5) true).run Tryd.prog (W4.drewN n) = .ok (.tuple #[.func (.func 34) #[] #[], .bool true]) (W4.drewN n) := fun n => look_pl (W4.drewN n) c.pm HS4.out.pmap 5 (by decide)
    go_quiet (fail)
    go_wp2_with fail
    generalize hW5 : W4.drewN _ = W5
    have hF45 : Fr (fun _ => False) W4 W5 := by rw [← hW5]; exact (Fr.refl _ _).drewN _
    have HT5 := Lib.hid ((HT4.out.keep hF45 (fun _ h => h.elim)).keep ((Fr.refl (fun _ => False) W5).drew) (fun _ h => h.elim))
    have HS5 := Lib.hid ((HS4.out.keep hF45 (fun _ h => h.elim)).keep ((Fr.refl (fun _ => False) W5).drew) (fun _ h => h.elim))
    have hB5 := HB4.out.fr hF45 (fun h => h)
    have q0 : W5.cell? ⟨W2.heap.size, 0, none⟩ = some (.int .i64 5) := by rw [hB5.cell]; rfl
    have q1 : W5.cell? ⟨W2.heap.size, 1, none⟩ = some (.int .i64 a) := by rw [hB5.cell]; rfl
    have q2 : W5.cell? ⟨W2.heap.size, 2, none⟩ = some (.int .i64 b) := by rw [hB5.cell]; rfl
    have q3 : W5.cell? ⟨W2.heap.size, 3, none⟩ = some (.int .i64 cc) := by rw [hB5.cell]; rfl
    have q4 : W5.cell? ⟨W2.heap.size, 4, none⟩ = some (.int .i64 xk) := by rw [hB5.cell]; rfl
    have HF5 : Hid (Fr (TkB c i tv lv sv) w W5.drew) := Lib.hid (HF4.out.trans (hF45.drew.mono (fun _ h => h.elim)))
    have s5 : W5.cell? ⟨Wb, 5, none⟩ = some (.map (some c.dm)) := by rw [HWb.out, (HS4.out.keep hF45 (fun _ h => h.elim)).blk.cell]; rfl
    have hB6 : Blk W5.drew g 106 (tkL c.W (.slice i.CA i.code.length i.cc) (.slice i.pA i.path.length i.pc) i.me t1 sv false 0).toArray := by rw [HG.out]; exact HT5.out.blk
    have HB6 := Lib.hid hB6
    clear hW5 hF45 hB5 hl s4 d0 hB6
    go_still_tail 5, (by kernel_rfl)
    change wpList _ _ _ _ _ (World.drew _)
    go_wp2_with fail
    refine (mul_op W5.drew g _ _ HB6.out 5 xk a a8 b b8 cc (HC8.out (by decide) (by decide)) _ (tk_reg HT5.out.r8 a a8) _ (tk_reg HT5.out.r8 b b8) _ (tk_reg HT5.out.r8 cc (HC8.out (by decide) (by decide)))).mono ?_
    rintro e w6 ⟨rfl, hB7, hF6⟩
    rw [tk_setR HT5.out.r8 a a8] at hB7
    have HB7 := Lib.hid hB7
    have HF6 := Lib.hid hF6
    clear hB7 hF6
    go_wp2_with fail
    go_end0
    have hF6' : Fr (At i.g) W5.drew w6 := by rw [← HG.out]; exact HF6.out
    exact st_comp (st_own HT5.out HS5.out (HT5.out.turn hF6' (by rw [← HG.out]; exact HB7.out) (by rw [setR_len]; exact HT5.out.r8) HT5.out.f4 rfl) hF6') HF5.out
  · by_cases hz : reg t1 cc = 0
    · obtain rfl : R = .fail 1 sh1 := HR.out.symm.trans (by unfold doR exec; show (match (if reg t1 cc = 0 then Stp.fail 1 else _) with | .next t' => _ | .tell v t' => _ | .fin v t' => _ | .fail k => Rs.fail k sh1 | .call => _) = _; rw [if_pos hz])
      have hl : ∀ n, (Instr.lookup 70 (.map (some c.pm)) (.int .i64 6) true).run Tryd.prog (W4.drewN n) = .ok (.tuple #[.nilFunc, .bool false]) (W4.drewN n) := fun n => look_pl (W4.drewN n) c.pm HS4.out.pmap 6 (by decide)
      go_quiet (fail)
      go_wp2_with fail
      generalize hW5 : W4.drewN _ = W5
      have hF45 : Fr (fun _ => False) W4 W5 := by rw [← hW5]; exact (Fr.refl _ _).drewN _
      have HT5 := Lib.hid ((HT4.out.keep hF45 (fun _ h => h.elim)).keep ((Fr.refl (fun _ => False) W5).drew) (fun _ h => h.elim))
      have HS5 := Lib.hid ((HS4.out.keep hF45 (fun _ h => h.elim)).keep ((Fr.refl (fun _ => False) W5).drew) (fun _ h => h.elim))
      have hB5 := HB4.out.fr hF45 (fun h => h)
      have q0 : W5.cell? ⟨W2.heap.size, 0, none⟩ = some (.int .i64 6) := by rw [hB5.cell]; rfl
      have q1 : W5.cell? ⟨W2.heap.size, 1, none⟩ = some (.int .i64 a) := by rw [hB5.cell]; rfl
      have q2 : W5.cell? ⟨W2.heap.size, 2, none⟩ = some (.int .i64 b) := by rw [hB5.cell]; rfl
      have q3 : W5.cell? ⟨W2.heap.size, 3, none⟩ = some (.int .i64 cc) := by rw [hB5.cell]; rfl
      have q4 : W5.cell? ⟨W2.heap.size, 4, none⟩ = some (.int .i64 xk) := by rw [hB5.cell]; rfl
      have HF5 : Hid (Fr (TkB c i tv lv sv) w W5.drew) := Lib.hid (HF4.out.trans (hF45.drew.mono (fun _ h => h.elim)))
      have s5 : W5.cell? ⟨Wb, 5, none⟩ = some (.map (some c.dm)) := by rw [HWb.out, (HS4.out.keep hF45 (fun _ h => h.elim)).blk.cell]; rfl
      have hB6 : Blk W5.drew g 106 (tkL c.W (.slice i.CA i.code.length i.cc) (.slice i.pA i.path.length i.pc) i.me t1 sv false 0).toArray := by rw [HG.out]; exact HT5.out.blk
      have HB6 := Lib.hid hB6
      clear hW5 hF45 hB5 hl s4 d0 hB6
      have hl2 : (Instr.lookup 72 (.map (some c.dm)) (.int .i64 6) false).run Tryd.prog W5.drew = .ok (.func (.func 39) #[] #[]) W5.drew := look_ev W5.drew c.dm HS5.out.dmap 6 (by decide)
      have hl3 : (Instr.lookup 72 (.map (some c.dm)) (.int .i64 6) false).run Tryd.prog W5 = .ok (.func (.func 39) #[] #[]) W5 := look_ev W5 c.dm HS5.out.dmap 6 (by decide)
      have hC := div_any c i W5.drew t1 sv false 0 HT5.out 6 xk a b cc a8 b8 (HC8.out (by decide) (by decide))
      rw [← HG.out] at hC
      have HC := Lib.hid hC
      clear hC
      go_still_tail 9, (by kernel_rfl)
      change wpList _ _ _ _ _ (World.drew _)
      go_wp2_with fail
      refine HC.out.mono ?_
      rw [if_pos hz]
      rintro e w6 ⟨rfl, hF6⟩
      clear hz
      have HF6 := Lib.hid hF6
      clear hF6
      go_wp2_with fail
      exact ⟨rfl, st_comp (st_fail HT5.out HS5.out HF6.out) HF5.out⟩
    · obtain rfl : R = .next (setR t1 a (wrap64 ((reg t1 b).tdiv (reg t1 cc)))) sh1 := HR.out.symm.trans (by unfold doR exec; show (match (if reg t1 cc = 0 then Stp.fail 1 else Stp.next (setR t1 a (wrap64 ((reg t1 b).tdiv (reg t1 cc))))) with | .next t' => Rs.next t' sh1 | .tell v t' => _ | .fin v t' => _ | .fail k => _ | .call => _) = _; rw [if_neg hz])
      have hl : ∀ n, (Instr.lookup 70 (.map (some c.pm)) (.int .i64 6) true).run Tryd.prog (W4.drewN n) = .ok (.tuple #[.nilFunc, .bool false]) (W4.drewN n) := fun n => look_pl (W4.drewN n) c.pm HS4.out.pmap 6 (by decide)
      go_quiet (fail)
      go_wp2_with fail
      generalize hW5 : W4.drewN _ = W5
      have hF45 : Fr (fun _ => False) W4 W5 := by rw [← hW5]; exact (Fr.refl _ _).drewN _
      have HT5 := Lib.hid ((HT4.out.keep hF45 (fun _ h => h.elim)).keep ((Fr.refl (fun _ => False) W5).drew) (fun _ h => h.elim))
      have HS5 := Lib.hid ((HS4.out.keep hF45 (fun _ h => h.elim)).keep ((Fr.refl (fun _ => False) W5).drew) (fun _ h => h.elim))
      have hB5 := HB4.out.fr hF45 (fun h => h)
      have q0 : W5.cell? ⟨W2.heap.size, 0, none⟩ = some (.int .i64 6) := by rw [hB5.cell]; rfl
      have q1 : W5.cell? ⟨W2.heap.size, 1, none⟩ = some (.int .i64 a) := by rw [hB5.cell]; rfl
      have q2 : W5.cell? ⟨W2.heap.size, 2, none⟩ = some (.int .i64 b) := by rw [hB5.cell]; rfl
      have q3 : W5.cell? ⟨W2.heap.size, 3, none⟩ = some (.int .i64 cc) := by rw [hB5.cell]; rfl
      have q4 : W5.cell? ⟨W2.heap.size, 4, none⟩ = some (.int .i64 xk) := by rw [hB5.cell]; rfl
      have HF5 : Hid (Fr (TkB c i tv lv sv) w W5.drew) := Lib.hid (HF4.out.trans (hF45.drew.mono (fun _ h => h.elim)))
      have s5 : W5.cell? ⟨Wb, 5, none⟩ = some (.map (some c.dm)) := by rw [HWb.out, (HS4.out.keep hF45 (fun _ h => h.elim)).blk.cell]; rfl
      have hB6 : Blk W5.drew g 106 (tkL c.W (.slice i.CA i.code.length i.cc) (.slice i.pA i.path.length i.pc) i.me t1 sv false 0).toArray := by rw [HG.out]; exact HT5.out.blk
      have HB6 := Lib.hid hB6
      clear hW5 hF45 hB5 hl s4 d0 hB6
      have hl2 : (Instr.lookup 72 (.map (some c.dm)) (.int .i64 6) false).run Tryd.prog W5.drew = .ok (.func (.func 39) #[] #[]) W5.drew := look_ev W5.drew c.dm HS5.out.dmap 6 (by decide)
      have hl3 : (Instr.lookup 72 (.map (some c.dm)) (.int .i64 6) false).run Tryd.prog W5 = .ok (.func (.func 39) #[] #[]) W5 := look_ev W5 c.dm HS5.out.dmap 6 (by decide)
      have hC := div_any c i W5.drew t1 sv false 0 HT5.out 6 xk a b cc a8 b8 (HC8.out (by decide) (by decide))
      rw [← HG.out] at hC
      have HC := Lib.hid hC
      clear hC
      go_still_tail 9, (by kernel_rfl)
      change wpList _ _ _ _ _ (World.drew _)
      go_wp2_with fail
      refine HC.out.mono ?_
      rw [if_neg hz]
      rintro e w6 ⟨rfl, hT6, hF6⟩
      clear hz
      have HT6 := Lib.hid hT6
      have HF6 := Lib.hid hF6
      clear hT6 hF6
      go_wp2_with fail
      go_end0
      exact st_comp (st_own HT5.out HS5.out HT6.out HF6.out) HF5.out
  · obtain rfl : R = .next (setR t1 a (boolI (decide (reg t1 b < reg t1 cc)))) sh1 := HR.out.symm.trans rfl
    have hl : ∀ n, (Instr.lookup 70 (.map (some c.pm)) (.int .i64 7) true).run Tryd.prog (W4.drewN n) = .ok (.tuple #[.func (.func 35) #[] #[], .bool true]) (W4.drewN n) := fun n => look_pl (W4.drewN n) c.pm HS4.out.pmap 7 (by decide)
    go_quiet (fail)
    go_wp2_with fail
    generalize hW5 : W4.drewN _ = W5
    have hF45 : Fr (fun _ => False) W4 W5 := by rw [← hW5]; exact (Fr.refl _ _).drewN _
    have HT5 := Lib.hid ((HT4.out.keep hF45 (fun _ h => h.elim)).keep ((Fr.refl (fun _ => False) W5).drew) (fun _ h => h.elim))
    have HS5 := Lib.hid ((HS4.out.keep hF45 (fun _ h => h.elim)).keep ((Fr.refl (fun _ => False) W5).drew) (fun _ h => h.elim))
    have hB5 := HB4.out.fr hF45 (fun h => h)
    have q0 : W5.cell? ⟨W2.heap.size, 0, none⟩ = some (.int .i64 7) := by rw [hB5.cell]; rfl
    have q1 : W5.cell? ⟨W2.heap.size, 1, none⟩ = some (.int .i64 a) := by rw [hB5.cell]; rfl
    have q2 : W5.cell? ⟨W2.heap.size, 2, none⟩ = some (.int .i64 b) := by rw [hB5.cell]; rfl
    have q3 : W5.cell? ⟨W2.heap.size, 3, none⟩ = some (.int .i64 cc) := by rw [hB5.cell]; rfl
    have q4 : W5.cell? ⟨W2.heap.size, 4, none⟩ = some (.int .i64 xk) := by rw [hB5.cell]; rfl
    have HF5 : Hid (Fr (TkB c i tv lv sv) w W5.drew) := Lib.hid (HF4.out.trans (hF45.drew.mono (fun _ h => h.elim)))
    have s5 : W5.cell? ⟨Wb, 5, none⟩ = some (.map (some c.dm)) := by rw [HWb.out, (HS4.out.keep hF45 (fun _ h => h.elim)).blk.cell]; rfl
    have hB6 : Blk W5.drew g 106 (tkL c.W (.slice i.CA i.code.length i.cc) (.slice i.pA i.path.length i.pc) i.me t1 sv false 0).toArray := by rw [HG.out]; exact HT5.out.blk
    have HB6 := Lib.hid hB6
    clear hW5 hF45 hB5 hl s4 d0 hB6
    go_still_tail 5, (by kernel_rfl)
    change wpList _ _ _ _ _ (World.drew _)
    go_wp2_with fail
    refine (less_op W5.drew g _ _ HB6.out 7 xk a a8 b b8 cc (HC8.out (by decide) (by decide)) _ (tk_reg HT5.out.r8 a a8) _ (tk_reg HT5.out.r8 b b8) _ (tk_reg HT5.out.r8 cc (HC8.out (by decide) (by decide)))).mono ?_
    rintro e w6 ⟨rfl, hB7, hF6⟩
    rw [tk_setR HT5.out.r8 a a8] at hB7
    have HB7 := Lib.hid hB7
    have HF6 := Lib.hid hF6
    clear hB7 hF6
    go_wp2_with fail
    go_end0
    have hF6' : Fr (At i.g) W5.drew w6 := by rw [← HG.out]; exact HF6.out
    exact st_comp (st_own HT5.out HS5.out (HT5.out.turn hF6' (by rw [← HG.out]; exact HB7.out) (by rw [setR_len]; exact HT5.out.r8) HT5.out.f4 rfl) hF6') HF5.out
  · obtain rfl : R = .next (setR t1 a (boolI (reg t1 b == reg t1 cc))) sh1 := HR.out.symm.trans rfl
    have hl : ∀ n, (Instr.lookup 70 (.map (some c.pm)) (.int .i64 8) true).run Tryd.prog (W4.drewN n) = .ok (.tuple #[.func (.func 36) #[] #[], .bool true]) (W4.drewN n) := fun n => look_pl (W4.drewN n) c.pm HS4.out.pmap 8 (by decide)
    go_quiet (fail)
    go_wp2_with fail
    generalize hW5 : W4.drewN _ = W5
    have hF45 : Fr (fun _ => False) W4 W5 := by rw [← hW5]; exact (Fr.refl _ _).drewN _
    have HT5 := Lib.hid ((HT4.out.keep hF45 (fun _ h => h.elim)).keep ((Fr.refl (fun _ => False) W5).drew) (fun _ h => h.elim))
    have HS5 := Lib.hid ((HS4.out.keep hF45 (fun _ h => h.elim)).keep ((Fr.refl (fun _ => False) W5).drew) (fun _ h => h.elim))
    have hB5 := HB4.out.fr hF45 (fun h => h)
    have q0 : W5.cell? ⟨W2.heap.size, 0, none⟩ = some (.int .i64 8) := by rw [hB5.cell]; rfl
    have q1 : W5.cell? ⟨W2.heap.size, 1, none⟩ = some (.int .i64 a) := by rw [hB5.cell]; rfl
    have q2 : W5.cell? ⟨W2.heap.size, 2, none⟩ = some (.int .i64 b) := by rw [hB5.cell]; rfl
    have q3 : W5.cell? ⟨W2.heap.size, 3, none⟩ = some (.int .i64 cc) := by rw [hB5.cell]; rfl
    have q4 : W5.cell? ⟨W2.heap.size, 4, none⟩ = some (.int .i64 xk) := by rw [hB5.cell]; rfl
    have HF5 : Hid (Fr (TkB c i tv lv sv) w W5.drew) := Lib.hid (HF4.out.trans (hF45.drew.mono (fun _ h => h.elim)))
    have s5 : W5.cell? ⟨Wb, 5, none⟩ = some (.map (some c.dm)) := by rw [HWb.out, (HS4.out.keep hF45 (fun _ h => h.elim)).blk.cell]; rfl
    have hB6 : Blk W5.drew g 106 (tkL c.W (.slice i.CA i.code.length i.cc) (.slice i.pA i.path.length i.pc) i.me t1 sv false 0).toArray := by rw [HG.out]; exact HT5.out.blk
    have HB6 := Lib.hid hB6
    clear hW5 hF45 hB5 hl s4 d0 hB6
    go_still_tail 5, (by kernel_rfl)
    change wpList _ _ _ _ _ (World.drew _)
    go_wp2_with fail
    refine (same_op W5.drew g _ _ HB6.out 8 xk a a8 b b8 cc (HC8.out (by decide) (by decide)) _ (tk_reg HT5.out.r8 a a8) _ (tk_reg HT5.out.r8 b b8) _ (tk_reg HT5.out.r8 cc (HC8.out (by decide) (by decide)))).mono ?_
    rintro e w6 ⟨rfl, hB7, hF6⟩
    rw [tk_setR HT5.out.r8 a a8] at hB7
    have HB7 := Lib.hid hB7
    have HF6 := Lib.hid hF6
    clear hB7 hF6
    go_wp2_with fail
    go_end0
    have hF6' : Fr (At i.g) W5.drew w6 := by rw [← HG.out]; exact HF6.out
    exact st_comp (st_own HT5.out HS5.out (HT5.out.turn hF6' (by rw [← HG.out]; exact HB7.out) (by rw [setR_len]; exact HT5.out.r8) HT5.out.f4 rfl) hF6') HF5.out
  · obtain ⟨hp0, hp1⟩ := HPL.out (.inl rfl)
    obtain ⟨kk, rfl⟩ := Int.eq_ofNat_of_zero_le hp0
    obtain rfl : R = .next { t1 with pc := kk } sh1 := HR.out.symm.trans rfl
    have hl : ∀ n, (Instr.lookup 70 (.map (some c.pm)) (.int .i64 9) true).run Tryd.prog (W4.drewN n) = .ok (.tuple #[.func (.func 37) #[] #[], .bool true]) (W4.drewN n) := fun n => look_pl (W4.drewN n) c.pm HS4.out.pmap 9 (by decide)
    go_quiet (fail)
    go_wp2_with fail
    generalize hW5 : W4.drewN _ = W5
    have hF45 : Fr (fun _ => False) W4 W5 := by rw [← hW5]; exact (Fr.refl _ _).drewN _
    have HT5 := Lib.hid ((HT4.out.keep hF45 (fun _ h => h.elim)).keep ((Fr.refl (fun _ => False) W5).drew) (fun _ h => h.elim))
    have HS5 := Lib.hid ((HS4.out.keep hF45 (fun _ h => h.elim)).keep ((Fr.refl (fun _ => False) W5).drew) (fun _ h => h.elim))
    have hB5 := HB4.out.fr hF45 (fun h => h)
    have q0 : W5.cell? ⟨W2.heap.size, 0, none⟩ = some (.int .i64 9) := by rw [hB5.cell]; rfl
    have q1 : W5.cell? ⟨W2.heap.size, 1, none⟩ = some (.int .i64 a) := by rw [hB5.cell]; rfl
    have q2 : W5.cell? ⟨W2.heap.size, 2, none⟩ = some (.int .i64 b) := by rw [hB5.cell]; rfl
    have q3 : W5.cell? ⟨W2.heap.size, 3, none⟩ = some (.int .i64 cc) := by rw [hB5.cell]; rfl
    have q4 : W5.cell? ⟨W2.heap.size, 4, none⟩ = some (.int .i64 (kk : Int)) := by rw [hB5.cell]; rfl
    have HF5 : Hid (Fr (TkB c i tv lv sv) w W5.drew) := Lib.hid (HF4.out.trans (hF45.drew.mono (fun _ h => h.elim)))
    have s5 : W5.cell? ⟨Wb, 5, none⟩ = some (.map (some c.dm)) := by rw [HWb.out, (HS4.out.keep hF45 (fun _ h => h.elim)).blk.cell]; rfl
    have hB6 : Blk W5.drew g 106 (tkL c.W (.slice i.CA i.code.length i.cc) (.slice i.pA i.path.length i.pc) i.me t1 sv false 0).toArray := by rw [HG.out]; exact HT5.out.blk
    have HB6 := Lib.hid hB6
    clear hW5 hF45 hB5 hl s4 d0 hB6
    go_still_tail 5, (by kernel_rfl)
    change wpList _ _ _ _ _ (World.drew _)
    go_wp2_with fail
    refine (jump_op W5.drew g _ _ HB6.out 9 kk a b cc _ tk_pc).mono ?_
    rintro e w6 ⟨rfl, hB7, hF6⟩
    rw [tk_setPc kk _ rfl] at hB7
    have HB7 := Lib.hid hB7
    have HF6 := Lib.hid hF6
    clear hB7 hF6
    go_wp2_with fail
    go_end0
    have hF6' : Fr (At i.g) W5.drew w6 := by rw [← HG.out]; exact HF6.out
    exact st_comp (st_own HT5.out HS5.out (HT5.out.turn hF6' (by rw [← HG.out]; exact HB7.out) HT5.out.r8 HT5.out.f4 rfl) hF6') HF5.out
  · obtain ⟨hp0, hp1⟩ := HPL.out (.inr rfl)
    obtain ⟨kk, rfl⟩ := Int.eq_ofNat_of_zero_le hp0
    obtain ⟨pp, hpp⟩ : ∃ pp, (if reg t1 a = 0 then kk else t1.pc) = pp := ⟨_, rfl⟩
    obtain rfl : R = .next { t1 with pc := pp } sh1 := HR.out.symm.trans (by
      unfold doR exec
      show (match (if reg t1 a = 0 then Stp.next { t1 with pc := kk } else Stp.next t1) with | .next t' => Rs.next t' sh1 | .tell v t' => _ | .fin v t' => _ | .fail k => _ | .call => _) = _
      rw [← hpp]
      by_cases h : reg t1 a = 0
      · rw [if_pos h, if_pos h]
      · rw [if_neg h, if_neg h])
    have HPP := Lib.hid hpp
    clear hpp
    have hl : ∀ n, (Instr.lookup 70 (.map (some c.pm)) (.int .i64 10) true).run Tryd.prog (W4.drewN n) = .ok (.tuple #[.func (.func 38) #[] #[], .bool true]) (W4.drewN n) := fun n => look_pl (W4.drewN n) c.pm HS4.out.pmap 10 (by decide)
    go_quiet (fail)
    go_wp2_with fail
    generalize hW5 : W4.drewN _ = W5
    have hF45 : Fr (fun _ => False) W4 W5 := by rw [← hW5]; exact (Fr.refl _ _).drewN _
    have HT5 := Lib.hid ((HT4.out.keep hF45 (fun _ h => h.elim)).keep ((Fr.refl (fun _ => False) W5).drew) (fun _ h => h.elim))
    have HS5 := Lib.hid ((HS4.out.keep hF45 (fun _ h => h.elim)).keep ((Fr.refl (fun _ => False) W5).drew) (fun _ h => h.elim))
    have hB5 := HB4.out.fr hF45 (fun h => h)
    have q0 : W5.cell? ⟨W2.heap.size, 0, none⟩ = some (.int .i64 10) := by rw [hB5.cell]; rfl
    have q1 : W5.cell? ⟨W2.heap.size, 1, none⟩ = some (.int .i64 a) := by rw [hB5.cell]; rfl
    have q2 : W5.cell? ⟨W2.heap.size, 2, none⟩ = some (.int .i64 b) := by rw [hB5.cell]; rfl
    have q3 : W5.cell? ⟨W2.heap.size, 3, none⟩ = some (.int .i64 cc) := by rw [hB5.cell]; rfl
    have q4 : W5.cell? ⟨W2.heap.size, 4, none⟩ = some (.int .i64 (kk : Int)) := by rw [hB5.cell]; rfl
    have HF5 : Hid (Fr (TkB c i tv lv sv) w W5.drew) := Lib.hid (HF4.out.trans (hF45.drew.mono (fun _ h => h.elim)))
    have s5 : W5.cell? ⟨Wb, 5, none⟩ = some (.map (some c.dm)) := by rw [HWb.out, (HS4.out.keep hF45 (fun _ h => h.elim)).blk.cell]; rfl
    have hB6 : Blk W5.drew g 106 (tkL c.W (.slice i.CA i.code.length i.cc) (.slice i.pA i.path.length i.pc) i.me t1 sv false 0).toArray := by rw [HG.out]; exact HT5.out.blk
    have HB6 := Lib.hid hB6
    clear hW5 hF45 hB5 hl s4 d0 hB6
    go_still_tail 5, (by kernel_rfl)
    change wpList _ _ _ _ _ (World.drew _)
    go_wp2_with fail
    refine (zero_op W5.drew g _ _ HB6.out 10 kk a a8 b cc _ (tk_reg HT5.out.r8 a a8) _ tk_pc).mono ?_
    rintro e w6 ⟨rfl, hB7, hF6⟩
    rw [tk_setPc pp _ (by rw [← HPP.out]; unfold zeroTo; split <;> rfl)] at hB7
    have HB7 := Lib.hid hB7
    have HF6 := Lib.hid hF6
    clear hB7 hF6
    go_wp2_with fail
    go_end0
    have hF6' : Fr (At i.g) W5.drew w6 := by rw [← HG.out]; exact HF6.out
    exact st_comp (st_own HT5.out HS5.out (HT5.out.turn hF6' (by rw [← HG.out]; exact HB7.out) HT5.out.r8 HT5.out.f4 rfl) hF6') HF5.out
  · have hRR := HR.out.symm.trans (do_call _ _ _ _ _ t1 sh1 rfl)
    have HRR := Lib.hid hRR
    clear hRR HR
    have hl : ∀ n, (Instr.lookup 70 (.map (some c.pm)) (.int .i64 11) true).run Tryd.prog (W4.drewN n) = .ok (.tuple #[.nilFunc, .bool false]) (W4.drewN n) := fun n => look_pl (W4.drewN n) c.pm HS4.out.pmap 11 (by decide)
    go_quiet (fail)
    go_wp2_with fail
    generalize hW5 : W4.drewN _ = W5
    have hF45 : Fr (fun _ => False) W4 W5 := by rw [← hW5]; exact (Fr.refl _ _).drewN _
    have HT5 := Lib.hid ((HT4.out.keep hF45 (fun _ h => h.elim)).keep ((Fr.refl (fun _ => False) W5).drew) (fun _ h => h.elim))
    have HS5 := Lib.hid ((HS4.out.keep hF45 (fun _ h => h.elim)).keep ((Fr.refl (fun _ => False) W5).drew) (fun _ h => h.elim))
    have hB5 := HB4.out.fr hF45 (fun h => h)
    have q0 : W5.cell? ⟨W2.heap.size, 0, none⟩ = some (.int .i64 11) := by rw [hB5.cell]; rfl
    have q1 : W5.cell? ⟨W2.heap.size, 1, none⟩ = some (.int .i64 a) := by rw [hB5.cell]; rfl
    have q2 : W5.cell? ⟨W2.heap.size, 2, none⟩ = some (.int .i64 b) := by rw [hB5.cell]; rfl
    have q3 : W5.cell? ⟨W2.heap.size, 3, none⟩ = some (.int .i64 cc) := by rw [hB5.cell]; rfl
    have q4 : W5.cell? ⟨W2.heap.size, 4, none⟩ = some (.int .i64 xk) := by rw [hB5.cell]; rfl
    have HF5 : Hid (Fr (TkB c i tv lv sv) w W5.drew) := Lib.hid (HF4.out.trans (hF45.drew.mono (fun _ h => h.elim)))
    have s5 : W5.cell? ⟨Wb, 5, none⟩ = some (.map (some c.dm)) := by rw [HWb.out, (HS4.out.keep hF45 (fun _ h => h.elim)).blk.cell]; rfl
    have hB6 : Blk W5.drew g 106 (tkL c.W (.slice i.CA i.code.length i.cc) (.slice i.pA i.path.length i.pc) i.me t1 sv false 0).toArray := by rw [HG.out]; exact HT5.out.blk
    have HB6 := Lib.hid hB6
    clear hW5 hF45 hB5 hl s4 d0 hB6
    have hl2 : (Instr.lookup 72 (.map (some c.dm)) (.int .i64 11) false).run Tryd.prog W5.drew = .ok (.func (.func 40) #[] #[]) W5.drew := look_ev W5.drew c.dm HS5.out.dmap 11 (by decide)
    have hl3 : (Instr.lookup 72 (.map (some c.dm)) (.int .i64 11) false).run Tryd.prog W5 = .ok (.func (.func 40) #[] #[]) W5 := look_ev W5 c.dm HS5.out.dmap 11 (by decide)
    have hC := spawn_any c i W5.drew t1 sv tv lv sh1 _ HT5.out HS5.out ⟨11, a, b, cc, xk⟩ a b cc HOK.out HFi.out.path HHB.out.2.2 HHB.out.2.1 HFi.out.ari HEE.out HLL.out
    rw [← HG.out] at hC
    have HC := Lib.hid hC
    clear hC
    go_still_tail 9, (by kernel_rfl)
    change wpList _ _ _ _ _ (World.drew _)
    go_wp2_with fail
    refine HC.out.mono ?_
    intro e w6 hp
    have hp2 : StPost c i w tv lv sv R e w6 := by rw [HRR.out]; exact st_comp hp HF5.out
    have HP2 := Lib.hid hp2
    clear hp hp2
    cases R with
    | next t' sh' =>
      obtain ⟨rfl, hrest⟩ := HP2.out
      clear hrest
      go_wp2_with fail
      go_end0
      exact HP2.out
    | done v t' sh' =>
      obtain ⟨rfl, hrest⟩ := HP2.out
      clear hrest
      go_wp2_with fail
      go_end0
      exact HP2.out
    | fail k' sh' =>
      obtain ⟨rfl, hrest⟩ := HP2.out
      clear hrest
      go_wp2_with fail
      exact ⟨rfl, HP2.out⟩
    | long sh' =>
      obtain ⟨rfl, hrest⟩ := HP2.out
      clear hrest
      go_wp2_with fail
      exact ⟨rfl, HP2.out⟩
  · obtain rfl : R = .next (flush t1) sh1 := HR.out.symm.trans rfl
    have hl : ∀ n, (Instr.lookup 70 (.map (some c.pm)) (.int .i64 12) true).run Tryd.prog (W4.drewN n) = .ok (.tuple #[.nilFunc, .bool false]) (W4.drewN n) := fun n => look_pl (W4.drewN n) c.pm HS4.out.pmap 12 (by decide)
    go_quiet (fail)
    go_wp2_with fail
    generalize hW5 : W4.drewN _ = W5
    have hF45 : Fr (fun _ => False) W4 W5 := by rw [← hW5]; exact (Fr.refl _ _).drewN _
    have HT5 := Lib.hid ((HT4.out.keep hF45 (fun _ h => h.elim)).keep ((Fr.refl (fun _ => False) W5).drew) (fun _ h => h.elim))
    have HS5 := Lib.hid ((HS4.out.keep hF45 (fun _ h => h.elim)).keep ((Fr.refl (fun _ => False) W5).drew) (fun _ h => h.elim))
    have hB5 := HB4.out.fr hF45 (fun h => h)
    have q0 : W5.cell? ⟨W2.heap.size, 0, none⟩ = some (.int .i64 12) := by rw [hB5.cell]; rfl
    have q1 : W5.cell? ⟨W2.heap.size, 1, none⟩ = some (.int .i64 a) := by rw [hB5.cell]; rfl
    have q2 : W5.cell? ⟨W2.heap.size, 2, none⟩ = some (.int .i64 b) := by rw [hB5.cell]; rfl
    have q3 : W5.cell? ⟨W2.heap.size, 3, none⟩ = some (.int .i64 cc) := by rw [hB5.cell]; rfl
    have q4 : W5.cell? ⟨W2.heap.size, 4, none⟩ = some (.int .i64 xk) := by rw [hB5.cell]; rfl
    have HF5 : Hid (Fr (TkB c i tv lv sv) w W5.drew) := Lib.hid (HF4.out.trans (hF45.drew.mono (fun _ h => h.elim)))
    have s5 : W5.cell? ⟨Wb, 5, none⟩ = some (.map (some c.dm)) := by rw [HWb.out, (HS4.out.keep hF45 (fun _ h => h.elim)).blk.cell]; rfl
    have hB6 : Blk W5.drew g 106 (tkL c.W (.slice i.CA i.code.length i.cc) (.slice i.pA i.path.length i.pc) i.me t1 sv false 0).toArray := by rw [HG.out]; exact HT5.out.blk
    have HB6 := Lib.hid hB6
    clear hW5 hF45 hB5 hl s4 d0 hB6
    have hl2 : (Instr.lookup 72 (.map (some c.dm)) (.int .i64 12) false).run Tryd.prog W5.drew = .ok (.func (.func 41) #[] #[]) W5.drew := look_ev W5.drew c.dm HS5.out.dmap 12 (by decide)
    have hl3 : (Instr.lookup 72 (.map (some c.dm)) (.int .i64 12) false).run Tryd.prog W5 = .ok (.func (.func 41) #[] #[]) W5 := look_ev W5 c.dm HS5.out.dmap 12 (by decide)
    have hC := sync_any c i W5.drew t1 sv false 0 HT5.out HHB.out.2.1 #[.int .i64 12, .int .i64 a, .int .i64 b, .int .i64 cc, .int .i64 xk]
    rw [← HG.out] at hC
    have HC := Lib.hid hC
    clear hC
    go_still_tail 9, (by kernel_rfl)
    change wpList _ _ _ _ _ (World.drew _)
    go_wp2_with fail
    refine HC.out.mono ?_
    rintro e w6 ⟨rfl, hT6, hF6⟩
    have HT6 := Lib.hid hT6
    have HF6 := Lib.hid hF6
    clear hT6 hF6
    go_wp2_with fail
    go_end0
    exact st_comp ⟨rfl, tv, lv, _, .slice none 0 0, HS5.out.keep HF6.out (at_typed HT5.out), HT6.out, HF6.out.mono (fun k hk => .inl hk), Newer.refl _ _, Newer.refl _ _, nil_newer⟩ HF5.out
  · have hRR := HR.out.symm.trans (do_call _ _ _ _ _ t1 sh1 rfl)
    have HRR := Lib.hid hRR
    clear hRR HR
    have hl : ∀ n, (Instr.lookup 70 (.map (some c.pm)) (.int .i64 13) true).run Tryd.prog (W4.drewN n) = .ok (.tuple #[.nilFunc, .bool false]) (W4.drewN n) := fun n => look_pl (W4.drewN n) c.pm HS4.out.pmap 13 (by decide)
    go_quiet (fail)
    go_wp2_with fail
    generalize hW5 : W4.drewN _ = W5
    have hF45 : Fr (fun _ => False) W4 W5 := by rw [← hW5]; exact (Fr.refl _ _).drewN _
    have HT5 := Lib.hid ((HT4.out.keep hF45 (fun _ h => h.elim)).keep ((Fr.refl (fun _ => False) W5).drew) (fun _ h => h.elim))
    have HS5 := Lib.hid ((HS4.out.keep hF45 (fun _ h => h.elim)).keep ((Fr.refl (fun _ => False) W5).drew) (fun _ h => h.elim))
    have hB5 := HB4.out.fr hF45 (fun h => h)
    have q0 : W5.cell? ⟨W2.heap.size, 0, none⟩ = some (.int .i64 13) := by rw [hB5.cell]; rfl
    have q1 : W5.cell? ⟨W2.heap.size, 1, none⟩ = some (.int .i64 a) := by rw [hB5.cell]; rfl
    have q2 : W5.cell? ⟨W2.heap.size, 2, none⟩ = some (.int .i64 b) := by rw [hB5.cell]; rfl
    have q3 : W5.cell? ⟨W2.heap.size, 3, none⟩ = some (.int .i64 cc) := by rw [hB5.cell]; rfl
    have q4 : W5.cell? ⟨W2.heap.size, 4, none⟩ = some (.int .i64 xk) := by rw [hB5.cell]; rfl
    have HF5 : Hid (Fr (TkB c i tv lv sv) w W5.drew) := Lib.hid (HF4.out.trans (hF45.drew.mono (fun _ h => h.elim)))
    have s5 : W5.cell? ⟨Wb, 5, none⟩ = some (.map (some c.dm)) := by rw [HWb.out, (HS4.out.keep hF45 (fun _ h => h.elim)).blk.cell]; rfl
    have hB6 : Blk W5.drew g 106 (tkL c.W (.slice i.CA i.code.length i.cc) (.slice i.pA i.path.length i.pc) i.me t1 sv false 0).toArray := by rw [HG.out]; exact HT5.out.blk
    have HB6 := Lib.hid hB6
    clear hW5 hF45 hB5 hl s4 d0 hB6
    have hl2 : (Instr.lookup 72 (.map (some c.dm)) (.int .i64 13) false).run Tryd.prog W5.drew = .ok (.func (.func 42) #[] #[]) W5.drew := look_ev W5.drew c.dm HS5.out.dmap 13 (by decide)
    have hl3 : (Instr.lookup 72 (.map (some c.dm)) (.int .i64 13) false).run Tryd.prog W5 = .ok (.func (.func 42) #[] #[]) W5 := look_ev W5 c.dm HS5.out.dmap 13 (by decide)
    have hC := future_any c i W5.drew t1 sv tv lv sh1 _ HT5.out HS5.out ⟨13, a, b, cc, xk⟩ a b cc HOK.out HFi.out.path HHB.out.2.2 HHB.out.2.1 HFi.out.ari HEE.out HLL.out
    rw [← HG.out] at hC
    have HC := Lib.hid hC
    clear hC
    go_still_tail 9, (by kernel_rfl)
    change wpList _ _ _ _ _ (World.drew _)
    go_wp2_with fail
    refine HC.out.mono ?_
    intro e w6 hp
    have hp2 : StPost c i w tv lv sv R e w6 := by rw [HRR.out]; exact st_comp hp HF5.out
    have HP2 := Lib.hid hp2
    clear hp hp2
    cases R with
    | next t' sh' =>
      obtain ⟨rfl, hrest⟩ := HP2.out
      clear hrest
      go_wp2_with fail
      go_end0
      exact HP2.out
    | done v t' sh' =>
      obtain ⟨rfl, hrest⟩ := HP2.out
      clear hrest
      go_wp2_with fail
      go_end0
      exact HP2.out
    | fail k' sh' =>
      obtain ⟨rfl, hrest⟩ := HP2.out
      clear hrest
      go_wp2_with fail
      exact ⟨rfl, HP2.out⟩
    | long sh' =>
      obtain ⟨rfl, hrest⟩ := HP2.out
      clear hrest
      go_wp2_with fail
      exact ⟨rfl, HP2.out⟩
  · by_cases hz : (t1.futs.getD b (false, 0)).1 = true
    · obtain rfl : R = .next (setR t1 a (t1.futs.getD b (false, 0)).2) sh1 := HR.out.symm.trans (by unfold doR exec; show (match (if (t1.futs.getD b (false, 0)).1 = true then Stp.next (setR t1 a (t1.futs.getD b (false, 0)).2) else Stp.fail 2) with | .next t' => Rs.next t' sh1 | .tell v t' => _ | .fin v t' => _ | .fail k => _ | .call => _) = _; rw [if_pos hz])
      have hl : ∀ n, (Instr.lookup 70 (.map (some c.pm)) (.int .i64 14) true).run Tryd.prog (W4.drewN n) = .ok (.tuple #[.nilFunc, .bool false]) (W4.drewN n) := fun n => look_pl (W4.drewN n) c.pm HS4.out.pmap 14 (by decide)
      go_quiet (fail)
      go_wp2_with fail
      generalize hW5 : W4.drewN _ = W5
      have hF45 : Fr (fun _ => False) W4 W5 := by rw [← hW5]; exact (Fr.refl _ _).drewN _
      have HT5 := Lib.hid ((HT4.out.keep hF45 (fun _ h => h.elim)).keep ((Fr.refl (fun _ => False) W5).drew) (fun _ h => h.elim))
      have HS5 := Lib.hid ((HS4.out.keep hF45 (fun _ h => h.elim)).keep ((Fr.refl (fun _ => False) W5).drew) (fun _ h => h.elim))
      have hB5 := HB4.out.fr hF45 (fun h => h)
      have q0 : W5.cell? ⟨W2.heap.size, 0, none⟩ = some (.int .i64 14) := by rw [hB5.cell]; rfl
      have q1 : W5.cell? ⟨W2.heap.size, 1, none⟩ = some (.int .i64 a) := by rw [hB5.cell]; rfl
      have q2 : W5.cell? ⟨W2.heap.size, 2, none⟩ = some (.int .i64 b) := by rw [hB5.cell]; rfl
      have q3 : W5.cell? ⟨W2.heap.size, 3, none⟩ = some (.int .i64 cc) := by rw [hB5.cell]; rfl
      have q4 : W5.cell? ⟨W2.heap.size, 4, none⟩ = some (.int .i64 xk) := by rw [hB5.cell]; rfl
      have HF5 : Hid (Fr (TkB c i tv lv sv) w W5.drew) := Lib.hid (HF4.out.trans (hF45.drew.mono (fun _ h => h.elim)))
      have s5 : W5.cell? ⟨Wb, 5, none⟩ = some (.map (some c.dm)) := by rw [HWb.out, (HS4.out.keep hF45 (fun _ h => h.elim)).blk.cell]; rfl
      have hB6 : Blk W5.drew g 106 (tkL c.W (.slice i.CA i.code.length i.cc) (.slice i.pA i.path.length i.pc) i.me t1 sv false 0).toArray := by rw [HG.out]; exact HT5.out.blk
      have HB6 := Lib.hid hB6
      clear hW5 hF45 hB5 hl s4 d0 hB6
      have hl2 : (Instr.lookup 72 (.map (some c.dm)) (.int .i64 14) false).run Tryd.prog W5.drew = .ok (.func (.func 43) #[] #[]) W5.drew := look_ev W5.drew c.dm HS5.out.dmap 14 (by decide)
      have hl3 : (Instr.lookup 72 (.map (some c.dm)) (.int .i64 14) false).run Tryd.prog W5 = .ok (.func (.func 43) #[] #[]) W5 := look_ev W5 c.dm HS5.out.dmap 14 (by decide)
      have hC := touch_any c i W5.drew t1 sv false 0 HT5.out 14 xk cc a b a8 (HOK.out.tch rfl)
      rw [← HG.out] at hC
      have HC := Lib.hid hC
      clear hC
      go_still_tail 9, (by kernel_rfl)
      change wpList _ _ _ _ _ (World.drew _)
      go_wp2_with fail
      refine HC.out.mono ?_
      rw [if_pos hz]
      rintro e w6 ⟨rfl, hT6, hF6⟩
      clear hz
      have HT6 := Lib.hid hT6
      have HF6 := Lib.hid hF6
      clear hT6 hF6
      go_wp2_with fail
      go_end0
      exact st_comp (st_own HT5.out HS5.out HT6.out HF6.out) HF5.out
    · obtain rfl : R = .fail 2 sh1 := HR.out.symm.trans (by unfold doR exec; show (match (if (t1.futs.getD b (false, 0)).1 = true then Stp.next (setR t1 a (t1.futs.getD b (false, 0)).2) else Stp.fail 2) with | .next t' => _ | .tell v t' => _ | .fin v t' => _ | .fail k => Rs.fail k sh1 | .call => _) = _; rw [if_neg hz])
      have hl : ∀ n, (Instr.lookup 70 (.map (some c.pm)) (.int .i64 14) true).run Tryd.prog (W4.drewN n) = .ok (.tuple #[.nilFunc, .bool false]) (W4.drewN n) := fun n => look_pl (W4.drewN n) c.pm HS4.out.pmap 14 (by decide)
      go_quiet (fail)
      go_wp2_with fail
      generalize hW5 : W4.drewN _ = W5
      have hF45 : Fr (fun _ => False) W4 W5 := by rw [← hW5]; exact (Fr.refl _ _).drewN _
      have HT5 := Lib.hid ((HT4.out.keep hF45 (fun _ h => h.elim)).keep ((Fr.refl (fun _ => False) W5).drew) (fun _ h => h.elim))
      have HS5 := Lib.hid ((HS4.out.keep hF45 (fun _ h => h.elim)).keep ((Fr.refl (fun _ => False) W5).drew) (fun _ h => h.elim))
      have hB5 := HB4.out.fr hF45 (fun h => h)
      have q0 : W5.cell? ⟨W2.heap.size, 0, none⟩ = some (.int .i64 14) := by rw [hB5.cell]; rfl
      have q1 : W5.cell? ⟨W2.heap.size, 1, none⟩ = some (.int .i64 a) := by rw [hB5.cell]; rfl
      have q2 : W5.cell? ⟨W2.heap.size, 2, none⟩ = some (.int .i64 b) := by rw [hB5.cell]; rfl
      have q3 : W5.cell? ⟨W2.heap.size, 3, none⟩ = some (.int .i64 cc) := by rw [hB5.cell]; rfl
      have q4 : W5.cell? ⟨W2.heap.size, 4, none⟩ = some (.int .i64 xk) := by rw [hB5.cell]; rfl
      have HF5 : Hid (Fr (TkB c i tv lv sv) w W5.drew) := Lib.hid (HF4.out.trans (hF45.drew.mono (fun _ h => h.elim)))
      have s5 : W5.cell? ⟨Wb, 5, none⟩ = some (.map (some c.dm)) := by rw [HWb.out, (HS4.out.keep hF45 (fun _ h => h.elim)).blk.cell]; rfl
      have hB6 : Blk W5.drew g 106 (tkL c.W (.slice i.CA i.code.length i.cc) (.slice i.pA i.path.length i.pc) i.me t1 sv false 0).toArray := by rw [HG.out]; exact HT5.out.blk
      have HB6 := Lib.hid hB6
      clear hW5 hF45 hB5 hl s4 d0 hB6
      have hl2 : (Instr.lookup 72 (.map (some c.dm)) (.int .i64 14) false).run Tryd.prog W5.drew = .ok (.func (.func 43) #[] #[]) W5.drew := look_ev W5.drew c.dm HS5.out.dmap 14 (by decide)
      have hl3 : (Instr.lookup 72 (.map (some c.dm)) (.int .i64 14) false).run Tryd.prog W5 = .ok (.func (.func 43) #[] #[]) W5 := look_ev W5 c.dm HS5.out.dmap 14 (by decide)
      have hC := touch_any c i W5.drew t1 sv false 0 HT5.out 14 xk cc a b a8 (HOK.out.tch rfl)
      rw [← HG.out] at hC
      have HC := Lib.hid hC
      clear hC
      go_still_tail 9, (by kernel_rfl)
      change wpList _ _ _ _ _ (World.drew _)
      go_wp2_with fail
      refine HC.out.mono ?_
      rw [if_neg hz]
      rintro e w6 ⟨rfl, hF6⟩
      clear hz
      have HF6 := Lib.hid hF6
      clear hF6
      go_wp2_with fail
      exact ⟨rfl, st_comp (st_fail HT5.out HS5.out HF6.out) HF5.out⟩
  · obtain rfl : R = .next t1 { sh1 with told := sh1.told ++ [reg t1 a] } := HR.out.symm.trans rfl
    have hl : ∀ n, (Instr.lookup 70 (.map (some c.pm)) (.int .i64 15) true).run Tryd.prog (W4.drewN n) = .ok (.tuple #[.nilFunc, .bool false]) (W4.drewN n) := fun n => look_pl (W4.drewN n) c.pm HS4.out.pmap 15 (by decide)
    go_quiet (fail)
    go_wp2_with fail
    generalize hW5 : W4.drewN _ = W5
    have hF45 : Fr (fun _ => False) W4 W5 := by rw [← hW5]; exact (Fr.refl _ _).drewN _
    have HT5 := Lib.hid ((HT4.out.keep hF45 (fun _ h => h.elim)).keep ((Fr.refl (fun _ => False) W5).drew) (fun _ h => h.elim))
    have HS5 := Lib.hid ((HS4.out.keep hF45 (fun _ h => h.elim)).keep ((Fr.refl (fun _ => False) W5).drew) (fun _ h => h.elim))
    have hB5 := HB4.out.fr hF45 (fun h => h)
    have q0 : W5.cell? ⟨W2.heap.size, 0, none⟩ = some (.int .i64 15) := by rw [hB5.cell]; rfl
    have q1 : W5.cell? ⟨W2.heap.size, 1, none⟩ = some (.int .i64 a) := by rw [hB5.cell]; rfl
    have q2 : W5.cell? ⟨W2.heap.size, 2, none⟩ = some (.int .i64 b) := by rw [hB5.cell]; rfl
    have q3 : W5.cell? ⟨W2.heap.size, 3, none⟩ = some (.int .i64 cc) := by rw [hB5.cell]; rfl
    have q4 : W5.cell? ⟨W2.heap.size, 4, none⟩ = some (.int .i64 xk) := by rw [hB5.cell]; rfl
    have HF5 : Hid (Fr (TkB c i tv lv sv) w W5.drew) := Lib.hid (HF4.out.trans (hF45.drew.mono (fun _ h => h.elim)))
    have s5 : W5.cell? ⟨Wb, 5, none⟩ = some (.map (some c.dm)) := by rw [HWb.out, (HS4.out.keep hF45 (fun _ h => h.elim)).blk.cell]; rfl
    have hB6 : Blk W5.drew g 106 (tkL c.W (.slice i.CA i.code.length i.cc) (.slice i.pA i.path.length i.pc) i.me t1 sv false 0).toArray := by rw [HG.out]; exact HT5.out.blk
    have HB6 := Lib.hid hB6
    clear hW5 hF45 hB5 hl s4 d0 hB6
    have hl2 : (Instr.lookup 72 (.map (some c.dm)) (.int .i64 15) false).run Tryd.prog W5.drew = .ok (.func (.func 44) #[] #[]) W5.drew := look_ev W5.drew c.dm HS5.out.dmap 15 (by decide)
    have hl3 : (Instr.lookup 72 (.map (some c.dm)) (.int .i64 15) false).run Tryd.prog W5 = .ok (.func (.func 44) #[] #[]) W5 := look_ev W5 c.dm HS5.out.dmap 15 (by decide)
    have hC := emit_any c i W5.drew t1 sv tv lv false 0 sh1 _ HT5.out HS5.out a a8 15 b cc xk HHB.out.1
    rw [← HG.out] at hC
    have HC := Lib.hid hC
    clear hC
    go_still_tail 9, (by kernel_rfl)
    change wpList _ _ _ _ _ (World.drew _)
    go_wp2_with fail
    refine HC.out.mono ?_
    rintro e w6 ⟨rfl, tv', hS6, hT6, hF6, hn⟩
    have HS6 := Lib.hid hS6
    have HT6 := Lib.hid hT6
    have HF6 := Lib.hid hF6
    have HN := Lib.hid hn
    clear hS6 hT6 hF6 hn
    go_wp2_with fail
    go_end0
    exact st_comp ⟨rfl, tv', lv, _, sv, HS6.out, HT6.out, HF6.out.mono (fun k hk => .inr (.inr hk)), HN.out, Newer.refl _ _, Newer.refl _ _⟩ HF5.out
  · obtain rfl : R = .fail xk sh1 := HR.out.symm.trans rfl
    have hl : ∀ n, (Instr.lookup 70 (.map (some c.pm)) (.int .i64 16) true).run Tryd.prog (W4.drewN n) = .ok (.tuple #[.nilFunc, .bool false]) (W4.drewN n) := fun n => look_pl (W4.drewN n) c.pm HS4.out.pmap 16 (by decide)
    go_quiet (fail)
    go_wp2_with fail
    generalize hW5 : W4.drewN _ = W5
    have hF45 : Fr (fun _ => False) W4 W5 := by rw [← hW5]; exact (Fr.refl _ _).drewN _
    have HT5 := Lib.hid ((HT4.out.keep hF45 (fun _ h => h.elim)).keep ((Fr.refl (fun _ => False) W5).drew) (fun _ h => h.elim))
    have HS5 := Lib.hid ((HS4.out.keep hF45 (fun _ h => h.elim)).keep ((Fr.refl (fun _ => False) W5).drew) (fun _ h => h.elim))
    have hB5 := HB4.out.fr hF45 (fun h => h)
    have q0 : W5.cell? ⟨W2.heap.size, 0, none⟩ = some (.int .i64 16) := by rw [hB5.cell]; rfl
    have q1 : W5.cell? ⟨W2.heap.size, 1, none⟩ = some (.int .i64 a) := by rw [hB5.cell]; rfl
    have q2 : W5.cell? ⟨W2.heap.size, 2, none⟩ = some (.int .i64 b) := by rw [hB5.cell]; rfl
    have q3 : W5.cell? ⟨W2.heap.size, 3, none⟩ = some (.int .i64 cc) := by rw [hB5.cell]; rfl
    have q4 : W5.cell? ⟨W2.heap.size, 4, none⟩ = some (.int .i64 xk) := by rw [hB5.cell]; rfl
    have HF5 : Hid (Fr (TkB c i tv lv sv) w W5.drew) := Lib.hid (HF4.out.trans (hF45.drew.mono (fun _ h => h.elim)))
    have s5 : W5.cell? ⟨Wb, 5, none⟩ = some (.map (some c.dm)) := by rw [HWb.out, (HS4.out.keep hF45 (fun _ h => h.elim)).blk.cell]; rfl
    have hB6 : Blk W5.drew g 106 (tkL c.W (.slice i.CA i.code.length i.cc) (.slice i.pA i.path.length i.pc) i.me t1 sv false 0).toArray := by rw [HG.out]; exact HT5.out.blk
    have HB6 := Lib.hid hB6
    clear hW5 hF45 hB5 hl s4 d0 hB6
    have hl2 : (Instr.lookup 72 (.map (some c.dm)) (.int .i64 16) false).run Tryd.prog W5.drew = .ok (.func (.func 45) #[] #[]) W5.drew := look_ev W5.drew c.dm HS5.out.dmap 16 (by decide)
    have hl3 : (Instr.lookup 72 (.map (some c.dm)) (.int .i64 16) false).run Tryd.prog W5 = .ok (.func (.func 45) #[] #[]) W5 := look_ev W5 c.dm HS5.out.dmap 16 (by decide)
    have hC := fail_any W5.drew ⟨i.g, 0, none⟩ 16 a b cc xk
    rw [← HG.out] at hC
    have HC := Lib.hid hC
    clear hC
    go_still_tail 9, (by kernel_rfl)
    change wpList _ _ _ _ _ (World.drew _)
    go_wp2_with fail
    refine HC.out.mono ?_
    rintro e w6 ⟨rfl, hF6⟩
    have HF6 := Lib.hid hF6
    clear hF6
    go_wp2_with fail
    exact ⟨rfl, st_comp (st_fail HT5.out HS5.out (HF6.out.mono (fun _ h => h.elim))) HF5.out⟩
  · obtain rfl : R = .done (reg (flush t1) a) (flush t1) sh1 := HR.out.symm.trans rfl
    have hl : ∀ n, (Instr.lookup 70 (.map (some c.pm)) (.int .i64 17) true).run Tryd.prog (W4.drewN n) = .ok (.tuple #[.nilFunc, .bool false]) (W4.drewN n) := fun n => look_pl (W4.drewN n) c.pm HS4.out.pmap 17 (by decide)
    go_quiet (fail)
    go_wp2_with fail
    generalize hW5 : W4.drewN _ = W5
    have hF45 : Fr (fun _ => False) W4 W5 := by rw [← hW5]; exact (Fr.refl _ _).drewN _
    have HT5 := Lib.hid ((HT4.out.keep hF45 (fun _ h => h.elim)).keep ((Fr.refl (fun _ => False) W5).drew) (fun _ h => h.elim))
    have HS5 := Lib.hid ((HS4.out.keep hF45 (fun _ h => h.elim)).keep ((Fr.refl (fun _ => False) W5).drew) (fun _ h => h.elim))
    have hB5 := HB4.out.fr hF45 (fun h => h)
    have q0 : W5.cell? ⟨W2.heap.size, 0, none⟩ = some (.int .i64 17) := by rw [hB5.cell]; rfl
    have q1 : W5.cell? ⟨W2.heap.size, 1, none⟩ = some (.int .i64 a) := by rw [hB5.cell]; rfl
    have q2 : W5.cell? ⟨W2.heap.size, 2, none⟩ = some (.int .i64 b) := by rw [hB5.cell]; rfl
    have q3 : W5.cell? ⟨W2.heap.size, 3, none⟩ = some (.int .i64 cc) := by rw [hB5.cell]; rfl
    have q4 : W5.cell? ⟨W2.heap.size, 4, none⟩ = some (.int .i64 xk) := by rw [hB5.cell]; rfl
    have HF5 : Hid (Fr (TkB c i tv lv sv) w W5.drew) := Lib.hid (HF4.out.trans (hF45.drew.mono (fun _ h => h.elim)))
    have s5 : W5.cell? ⟨Wb, 5, none⟩ = some (.map (some c.dm)) := by rw [HWb.out, (HS4.out.keep hF45 (fun _ h => h.elim)).blk.cell]; rfl
    have hB6 : Blk W5.drew g 106 (tkL c.W (.slice i.CA i.code.length i.cc) (.slice i.pA i.path.length i.pc) i.me t1 sv false 0).toArray := by rw [HG.out]; exact HT5.out.blk
    have HB6 := Lib.hid hB6
    clear hW5 hF45 hB5 hl s4 d0 hB6
    have hl2 : (Instr.lookup 72 (.map (some c.dm)) (.int .i64 17) false).run Tryd.prog W5.drew = .ok (.func (.func 46) #[] #[]) W5.drew := look_ev W5.drew c.dm HS5.out.dmap 17 (by decide)
    have hl3 : (Instr.lookup 72 (.map (some c.dm)) (.int .i64 17) false).run Tryd.prog W5 = .ok (.func (.func 46) #[] #[]) W5 := look_ev W5 c.dm HS5.out.dmap 17 (by decide)
    have hC := ret_any c i W5.drew t1 sv 0 HT5.out HHB.out.2.1 17 b cc xk a a8
    rw [← HG.out] at hC
    have HC := Lib.hid hC
    clear hC
    go_still_tail 9, (by kernel_rfl)
    change wpList _ _ _ _ _ (World.drew _)
    go_wp2_with fail
    refine HC.out.mono ?_
    rintro e w6 ⟨rfl, hT6, hF6⟩
    have HT6 := Lib.hid hT6
    have HF6 := Lib.hid hF6
    clear hT6 hF6
    go_wp2_with fail
    go_end0
    exact st_comp ⟨rfl, tv, lv, _, .slice none 0 0, HS5.out.keep HF6.out (at_typed HT5.out), HT6.out, HF6.out.mono (fun k hk => .inl hk), Newer.refl _ _, Newer.refl _ _, nil_newer⟩ HF5.out
end Go.Proofs.YtbhnnnpofindiaaDoor
