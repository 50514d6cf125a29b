/-
  spawn and future: a task is begun, and what it came to is kept.
-/
import Derived.Test.YtbhnnnpofindiaaDoorBgn
namespace Go.Proofs.YtbhnnnpofindiaaDoor
open Go.RowKit

def beginR (fs : List Fn) (bud dep : Int) (path : List Int) (x : Ins) (t : Tk) (sh : Sh) : Out × Sh := if (path.length : Int) = dep then (.fail 4, sh) else kidR fs bud dep path x t sh
def tookR (x : Ins) (t : Tk) (r : Out × Sh) : Rs := match r.1 with
  | .ok v => .next (took x v t) r.2
  | .fail k => .fail k r.2
  | .long => .long r.2

theorem begin_any (c : Cx) (i : Ti) (w : World) (t : Tk) (sv tv lv : Value) (sh : Sh) (ll : List LEnt) (hT : TkAt c i w t sv false 0) (hS : ShAt c w sh tv lv ll) (x : Ins) (op a b cc : Nat) (hx : InsOk (fns c.L) i.code.length x op a b cc) (hop : op = 11 ∨ op = 13)
    (hpl : i.path.length ≤ 30 ∧ (i.path.length : Int) ≤ c.dep) (hk : t.kids ≤ 1000000) (har : ∀ y ∈ c.L, 0 ≤ y.f.arity ∧ y.f.arity ≤ 4) (hE : EvOK c (sh.left.toNat + 1)) (hLim : sh.told.length + sh.left.toNat ≤ 1000000 ∧ sh.log.length + 1 + sh.left.toNat ≤ 1000000) :
    Calls Tryd.prog 53 #[.pointer (some ⟨i.g, 0, none⟩), .agg #[.int .i64 op, .int .i64 a, .int .i64 b, .int .i64 cc, .int .i64 x.k]] w
      (BgPost c i w t sv tv lv (beginR (fns c.L) c.bud c.dep i.path x t sh)) := by
  unfold beginR
  by_cases hd : (i.path.length : Int) = c.dep
  · rw [if_pos hd]
    exact begin_deep c i w t sv tv lv sh ll hT hS x op a b cc hx hop hpl hk har hE hLim hd
  · rw [if_neg hd]
    exact begin_go c i w t sv tv lv sh ll hT hS x op a b cc hx hop hpl hk har hE hLim hd

/-- What a step comes to. -/
def StPost (c : Cx) (i : Ti) (w : World) (tv lv sv : Value) (r : Rs) (e : Ending) (w' : World) : Prop := match r with
  | .next t' sh' => e = .returned (.tuple #[]) ∧ ∃ tv' lv' ll' sv', ShAt c w' sh' tv' lv' ll' ∧ TkAt c i w' t' sv' false 0 ∧ Fr (TkB c i tv lv sv) w w' ∧ Newer w tv tv' ∧ Newer w lv lv' ∧ Newer w sv sv'
  | .done v t' sh' => e = .returned (.tuple #[]) ∧ ∃ tv' lv' ll' sv', ShAt c w' sh' tv' lv' ll' ∧ TkAt c i w' t' sv' true v ∧ Fr (TkB c i tv lv sv) w w' ∧ Newer w tv tv' ∧ Newer w lv lv' ∧ Newer w sv sv'
  | .fail k sh' => e = failE k ∧ ∃ tv' lv' ll', ShAt c w' sh' tv' lv' ll' ∧ Fr (TkB c i tv lv sv) w w'
  | .long _ => e = longE ∧ Fr (TkB c i tv lv sv) w w'

theorem info_sto : (Tryd.prog.info? 117).map (fun i => (i.zero, i.size, i.bytes)) = some (some (.agg #[.int .i64 0, .int .i64 0]), 2, 16) := by kernel_rfl

theorem BgB.sub {c : Cx} {i : Ti} {tv lv sv : Value} (k : Nat) (h : BgB c i tv lv k) : TkB c i tv lv sv k := by
  rcases h with h | h
  · exact .inl h
  · exact .inr (.inr h)
/-- An instruction's own block stays while a task is begun. -/
theorem BgB.instr {c : Cx} {i : Ti} {w : World} {t : Tk} {sv tv lv : Value} {ov : Bool} {v : Int} {sh : Sh} {ll : List LEnt} (hT : TkAt c i w t sv ov v) (hS : ShAt c w sh tv lv ll) {g : Nat} {cs : Array Value} (hB : Blk w g 55 cs) : ¬ BgB c i tv lv g := by
  rintro (h | h)
  · subst h
    exact Blk.ne_ hB hT.blk (by decide) rfl
  · exact (ShB.typed hS h).ne hB (by unfold ST; decide) rfl

set_option maxHeartbeats 8000000 in
set_option maxRecDepth 100000 in
theorem spawn_any (c : Cx) (i : Ti) (w : World) (t : Tk) (sv tv lv : Value) (sh : Sh) (ll : List LEnt) (hT : TkAt c i w t sv false 0) (hS : ShAt c w sh tv lv ll) (x : Ins) (a b cc : Nat) (hx : InsOk (fns c.L) i.code.length x 11 a b cc)
    (hpl : i.path.length ≤ 30 ∧ (i.path.length : Int) ≤ c.dep) (hk : t.kids ≤ 1000000) (hsp : t.spw.length ≤ 1000000) (har : ∀ y ∈ c.L, 0 ≤ y.f.arity ∧ y.f.arity ≤ 4) (hE : EvOK c (sh.left.toNat + 1)) (hLim : sh.told.length + sh.left.toNat ≤ 1000000 ∧ sh.log.length + 1 + sh.left.toNat ≤ 1000000) :
    Calls Tryd.prog 40 #[.pointer (some ⟨i.g, 0, none⟩), .agg #[.int .i64 11, .int .i64 a, .int .i64 b, .int .i64 cc, .int .i64 x.k]] w
      (StPost c i w tv lv sv (tookR x t (beginR (fns c.L) c.bud c.dep i.path x t sh))) := by
  obtain ⟨r, hr⟩ : ∃ r, beginR (fns c.L) c.bud c.dep i.path x t sh = r := ⟨_, rfl⟩
  rw [hr]
  have HR := Lib.hid hr
  obtain ⟨g, hg⟩ : ∃ g, g = i.g := ⟨_, rfl⟩
  rw [← hg]
  have HG := Lib.hid hg
  have HT := Lib.hid hT
  have HS0 := Lib.hid hS
  have ha8 := hx.a8
  have HOP : Hid (x.op = 11) := Lib.hid hx.eop
  have HEA : Hid (x.a.toNat = a) := Lib.hid (by rw [hx.ea]; rfl)
  have _hh := hx.op1
  have HBG := Lib.hid (fun W (h1 : TkAt c i W t sv false 0) (h2 : ShAt c W sh tv lv ll) => begin_any c i W t sv tv lv sh ll h1 h2 x 11 a b cc hx (by decide) hpl hk har hE hLim)
  have hgl := hT.blk.lt
  rw [← hg] at hgl
  clear hT hS hg hE hx har hr
  go_enter Tryd.func40, Tryd.ntmps40
  go_wp2_with fail
  generalize hW : w.alloc (.cells _ 55) = W
  have hFW : Fr (fun _ => False) w W := by rw [← hW]; exact (Fr.refl _ _).alloc _
  have B2 : Blk W w.heap.size 55 #[.int .i64 11, .int .i64 a, .int .i64 b, .int .i64 cc, .int .i64 x.k] := by rw [← hW]; exact Blk.new _ _ _
  have HTW := Lib.hid ((HT.out.keep hFW (fun _ h => h.elim)).keep ((Fr.refl (fun _ => False) W).drew) (fun _ h => h.elim))
  have HSW := Lib.hid ((HS0.out.keep hFW (fun _ h => h.elim)).keep ((Fr.refl (fun _ => False) W).drew) (fun _ h => h.elim))
  have BT := HTW.out.blk
  rw [← HG.out] at BT
  have c22 : W.cell? ⟨g, 22, none⟩ = some sv := by have := BT.cell 22; rw [(tk_at HTW.out.r8 HTW.out.f4).2.2.2.2.2.1] at this; exact this
  have d0 : W.cell? ⟨w.heap.size, 0, none⟩ = some (.int .i64 11) := by rw [B2.cell]; rfl
  have d1 : W.cell? ⟨w.heap.size, 1, none⟩ = some (.int .i64 a) := by rw [B2.cell]; rfl
  have d2 : W.cell? ⟨w.heap.size, 2, none⟩ = some (.int .i64 b) := by rw [B2.cell]; rfl
  have d3 : W.cell? ⟨w.heap.size, 3, none⟩ = some (.int .i64 cc) := by rw [B2.cell]; rfl
  have d4 : W.cell? ⟨w.heap.size, 4, none⟩ = some (.int .i64 x.k) := by rw [B2.cell]; rfl
  have HNI := Lib.hid (BgB.instr HTW.out HSW.out B2.drew)
  have HB2 := Lib.hid B2
  have hWs : w.heap.size < W.heap.size := B2.lt
  have HFW := Lib.hid hFW
  have hFx : ∀ W6, Fr (BgB c i tv lv) W.drew W6 → Fr (TkB c i tv lv sv) w W6 := fun W6 h => ((HFW.out.mono (fun _ h => h.elim)).drew).trans (h.mono BgB.sub)
  have HFx := Lib.hid hFx
  have hNx : ∀ v v', Newer W.drew v v' → Newer w v v' := fun v v' h k hk => (h k hk).imp id (fun h' => by have : W.heap.size ≤ k := h'; omega)
  have HNx := Lib.hid hNx
  clear hW hFW BT B2 hFx hNx
  have hbg := HBG.out W.drew HTW.out HSW.out
  rw [← HG.out, HR.out] at hbg
  have HB := Lib.hid hbg
  clear hbg
  refine region_K 11 (fun w' : World => w'.cell? ⟨g, 22, none⟩ = some sv ∧ w'.cell? ⟨w.heap.size, 0, none⟩ = some (.int .i64 11) ∧ w'.cell? ⟨w.heap.size, 1, none⟩ = some (.int .i64 a) ∧ w'.cell? ⟨w.heap.size, 2, none⟩ = some (.int .i64 b) ∧ w'.cell? ⟨w.heap.size, 3, none⟩ = some (.int .i64 cc) ∧ w'.cell? ⟨w.heap.size, 4, none⟩ = some (.int .i64 x.k)) (by kernel_rfl) ?_
  have HS : (fun w' : World => w'.cell? ⟨g, 22, none⟩ = some sv ∧ w'.cell? ⟨w.heap.size, 0, none⟩ = some (.int .i64 11) ∧ w'.cell? ⟨w.heap.size, 1, none⟩ = some (.int .i64 a) ∧ w'.cell? ⟨w.heap.size, 2, none⟩ = some (.int .i64 b) ∧ w'.cell? ⟨w.heap.size, 3, none⟩ = some (.int .i64 cc) ∧ w'.cell? ⟨w.heap.size, 4, none⟩ = some (.int .i64 x.k)) W.drew := ⟨c22, d0, d1, d2, d3, d4⟩
  refine AnyK.take (i := 0) rfl (by decide) (by kernel_rfl) (by kernel_rfl) (by kernel_rfl) (fun _ _ _ _ h => h) HS (fun K hK => ?_)
  go_simp
  refine hK.out _ ⟨_, by rfl, Or.inl ⟨by rfl, by intro w hSw; (try dsimp only at hSw); go_simp⟩, ?_⟩
  clear hK K
  refine AnyK.take (i := 1) rfl (by decide) (by kernel_rfl) (by kernel_rfl) (by kernel_rfl) (fun _ _ _ _ h => h) HS (fun K hK => ?_)
  go_simp
  refine hK.out _ ⟨_, by rfl, Or.inl ⟨by rfl, by intro w hSw; (try dsimp only at hSw); go_simp⟩, ?_⟩
  clear hK K
  refine AnyK.take (i := 2) rfl (by decide) (by kernel_rfl) (by kernel_rfl) (by kernel_rfl) (fun _ _ _ _ h => h) HS (fun K hK => ?_)
  go_simp
  refine hK.out _ ⟨_, by rfl, Or.inl ⟨by rfl, by intro w hSw; (try dsimp only at hSw); go_simp⟩, ?_⟩
  clear hK K
  refine AnyK.take (i := 3) rfl (by decide) (by kernel_rfl) (by kernel_rfl) (by kernel_rfl) (fun _ _ _ _ h => h) HS (fun K hK => ?_)
  go_simp
  refine hK.out _ ⟨_, by rfl, Or.inl ⟨by rfl, by intro w hSw; (try dsimp only at hSw); go_simp⟩, ?_⟩
  clear hK K
  refine AnyK.take (i := 4) rfl (by decide) (by kernel_rfl) (by kernel_rfl) (by kernel_rfl) (fun _ _ _ _ h => h) HS (fun K hK => ?_)
  go_simp
  refine hK.out _ ⟨_, by rfl, Or.inl ⟨by rfl, by intro w hSw; (try dsimp only at hSw); go_simp⟩, ?_⟩
  clear hK K
  refine AnyK.take (i := 5) rfl (by decide) (by kernel_rfl) (by kernel_rfl) (by kernel_rfl) (fun _ _ _ _ h => h) HS (fun K hK => ?_)
  go_simp
  refine hK.out _ ⟨_, by rfl, Or.inl ⟨by rfl, by intro w hSw; (try dsimp only at hSw); go_simp⟩, ?_⟩
  clear hK K
  refine AnyK.take (i := 6) rfl (by decide) (by kernel_rfl) (by kernel_rfl) (by kernel_rfl) (fun _ _ _ _ h => h) HS (fun K hK => ?_)
  go_simp
  refine hK.out _ ⟨_, by rfl, Or.inl ⟨by rfl, by intro w hSw; (try dsimp only at hSw); go_simp⟩, ?_⟩
  clear hK K
  refine AnyK.take (i := 7) rfl (by decide) (by kernel_rfl) (by kernel_rfl) (by kernel_rfl) (fun _ _ _ _ h => h) HS (fun K hK => ?_)
  go_simp
  refine hK.out _ ⟨_, by rfl, Or.inl ⟨by rfl, by intro w hSw; (try dsimp only at hSw); go_simp⟩, ?_⟩
  clear hK K
  refine AnyK.take (i := 8) rfl (by decide) (by kernel_rfl) (by kernel_rfl) (by kernel_rfl) (fun _ _ _ _ h => h) HS (fun K hK => ?_)
  go_simp
  refine hK.out _ ⟨_, by rfl, Or.inl ⟨by rfl, by intro w hSw; (try dsimp only at hSw); go_simp⟩, ?_⟩
  clear hK K
  refine AnyK.one (i := 9) rfl (by kernel_rfl) (fun K hK => ?_)
  go_simp
  refine HB.out.mono ?_
  intro e w6 hp
  obtain ⟨o, sh2⟩ := r
  cases o with
  | fail k' =>
    obtain ⟨rfl, tv', lv', ll', hS6, hF6⟩ := hp
    have HS6 := Lib.hid hS6
    have HF6 := Lib.hid hF6
    clear hS6 hF6
    go_wp2_with fail
    exact ⟨rfl, rfl, tv', lv', ll', HS6.out, HFx.out _ HF6.out⟩
  | long =>
    obtain ⟨rfl, hF6⟩ := hp
    have HF6 := Lib.hid hF6
    clear hF6
    go_wp2_with fail
    exact ⟨rfl, rfl, HFx.out _ HF6.out⟩
  | ok v =>
    obtain ⟨rfl, tv', lv', ll', hS6, hT6, hF6, n1, n2⟩ := hp
    have HS6 := Lib.hid hS6
    have HT6 := Lib.hid hT6
    have HF6 := Lib.hid hF6
    have HN1 := Lib.hid n1
    have HN2 := Lib.hid n2
    have BT6 := hT6.blk
    rw [← HG.out] at BT6
    have HB6 := Lib.hid BT6
    have c22' : w6.cell? ⟨g, 22, none⟩ = some sv := by rw [BT6.cell]; exact (tk_at (t := { t with kids := t.kids + 1 }) hT6.r8 hT6.f4).2.2.2.2.2.1
    have f22 := BT6.frozen 22
    have hB26 := HB2.out.drew.fr hF6 HNI.out
    have HSS6 : (fun w' : World => w'.cell? ⟨g, 22, none⟩ = some sv ∧ w'.cell? ⟨w.heap.size, 0, none⟩ = some (.int .i64 11) ∧ w'.cell? ⟨w.heap.size, 1, none⟩ = some (.int .i64 a) ∧ w'.cell? ⟨w.heap.size, 2, none⟩ = some (.int .i64 b) ∧ w'.cell? ⟨w.heap.size, 3, none⟩ = some (.int .i64 cc) ∧ w'.cell? ⟨w.heap.size, 4, none⟩ = some (.int .i64 x.k)) w6 := ⟨c22', by rw [hB26.cell]; rfl, by rw [hB26.cell]; rfl, by rw [hB26.cell]; rfl, by rw [hB26.cell]; rfl, by rw [hB26.cell]; rfl⟩
    have hg6 : g < w6.heap.size := BT6.lt
    have HB26 := Lib.hid hB26
    have hs6 : W.heap.size ≤ w6.heap.size := hF6.size
    clear hS6 hT6 hF6 n1 n2 BT6 hB26
    refine hK.out _ _ (fun _ => HSS6) ?_
    clear hK K
    refine AnyK.take (i := 10) rfl (by decide) (by kernel_rfl) (by kernel_rfl) (by kernel_rfl) (fun _ _ _ _ h => h) HSS6 (fun K hK => ?_)
    go_simp
    refine hK.out _ ⟨_, by rfl, Or.inl ⟨by rfl, by intro w hSw; (try dsimp only at hSw); go_simp⟩, ?_⟩
    clear hK K
    refine AnyK.one (i := 11) rfl (by kernel_rfl) (fun K hK => ?_)
    go_simp
    generalize hW7 : w6.alloc (.cells _ 117) = W7
    have hF7 : Fr (fun _ => False) w6 W7 := by rw [← hW7]; exact (Fr.refl _ _).alloc _
    have hnew : W7.heap[w6.heap.size]? = some (.cells #[.int .i64 a, .int .i64 v] 117) := by rw [← hW7]; exact heap_alloc_new w6 _
    have hs7 : W7.heap.size = w6.heap.size + 1 := by rw [← hW7]; simp
    have HSS7 : (fun w' : World => w'.cell? ⟨g, 22, none⟩ = some sv ∧ w'.cell? ⟨w.heap.size, 0, none⟩ = some (.int .i64 11) ∧ w'.cell? ⟨w.heap.size, 1, none⟩ = some (.int .i64 a) ∧ w'.cell? ⟨w.heap.size, 2, none⟩ = some (.int .i64 b) ∧ w'.cell? ⟨w.heap.size, 3, none⟩ = some (.int .i64 cc) ∧ w'.cell? ⟨w.heap.size, 4, none⟩ = some (.int .i64 x.k)) W7 := ⟨hF7.held HSS6.1 (fun h => h), hF7.held HSS6.2.1 (fun h => h), hF7.held HSS6.2.2.1 (fun h => h), hF7.held HSS6.2.2.2.1 (fun h => h), hF7.held HSS6.2.2.2.2.1 (fun h => h), hF7.held HSS6.2.2.2.2.2 (fun h => h)⟩
    refine hK.out _ _ (fun _ => HSS7) ?_
    clear hK K hW7
    obtain ⟨i1, hi1, hz0, hz1, hz2⟩ := info3 info_sto
    have own7 := own_fr HT6.out.spw hF7 (fun _ _ h => h)
    have hb7 : c.base ≤ W7.heap.size := by have := HT6.out.low; have := HT6.out.blk.lt; omega
    refine AnyK.one (i := 12) rfl (by kernel_rfl) (fun K hK => ?_)
    refine step_append_lies W7 (by rfl) _ _ _ (by rfl) c.base 117 i1 _ 2 16 Tryd.underlying104 hi1 hz0 hz1 hz2 rfl (by omega) sv t.spw.length _ (by rfl) own7 ⟨w6.heap.size, 0, none⟩ 1 1 [.int .i64 a, .int .i64 v] (by rfl) (by rfl) (World.news_of_block (cs := #[.int .i64 a, .int .i64 v]) (t := 117) (fr := (0, 0)) hnew) (by simp [Value.oneCell']) (by omega) (by unfold maxLen; omega) (by omega) hb7 (w6.heap.size + 1) hs7 ?_
    intro gb cap w8 hown8 hg8 hat hlt8
    have hsg : sv.ownBlock ≠ some g := own_ne HT6.out.spw HB6.out (by decide)
    have hsn : sv.ownBlock ≠ some w.heap.size := own_ne HT6.out.spw HB26.out (by decide)
    have hF8 : Fr (fun k => sv.ownBlock = some k) w6 w8 := (hF7.mono (fun _ h => h.elim)).trans ((Fr.grown hg8).mono (fun _ h => h.symm))
    have c22'' : w8.cell? ⟨g, 22, none⟩ = some sv := hF8.held HSS6.1 hsg
    have f22' : w8.frozen? ⟨g, 22, none⟩ = false := by rw [World.frozen?_of_block (hF8.block g hg6 hsg)]; exact f22
    have HSS8 : (fun w' : World => w'.cell? ⟨g, 22, none⟩ = some sv ∧ w'.cell? ⟨w.heap.size, 0, none⟩ = some (.int .i64 11) ∧ w'.cell? ⟨w.heap.size, 1, none⟩ = some (.int .i64 a) ∧ w'.cell? ⟨w.heap.size, 2, none⟩ = some (.int .i64 b) ∧ w'.cell? ⟨w.heap.size, 3, none⟩ = some (.int .i64 cc) ∧ w'.cell? ⟨w.heap.size, 4, none⟩ = some (.int .i64 x.k)) w8 := ⟨c22'', hF8.held HSS6.2.1 hsn, hF8.held HSS6.2.2.1 hsn, hF8.held HSS6.2.2.2.1 hsn, hF8.held HSS6.2.2.2.2.1 hsn, hF8.held HSS6.2.2.2.2.2 hsn⟩
    refine hK.out _ _ (fun _ => HSS8) ?_
    clear hK K
    have HO8 := Lib.hid hown8
    have HF8 := Lib.hid hF8
    have HSG := Lib.hid hsg
    have HNW : Hid (Newer w sv (.slice (some ⟨gb, 0, none⟩) (t.spw.length + 1) cap)) := Lib.hid (fun k hk => by
      have hk' : gb = k := by simpa [Value.ownBlock] using hk
      subst hk'
      rcases hat with h | h
      · exact .inl h
      · exact .inr (by omega))
    clear hown8 hg8 hat own7 hnew hs7 hF7 hF8 hsg hsn HSS7
    refine AnyK.one (i := 13) rfl (by kernel_rfl) (fun K hK => ?_)
    go_simp
    refine hK.out _ _ (fun _ => HSS8) ?_
    clear hK K
    refine AnyK.one (i := 14) rfl (by kernel_rfl) (fun K hK => ?_)
    go_simp
    refine hK.out _ _ (fun _ => HSS8) ?_
    clear hK K
    refine AnyK.one (i := 15) rfl (by kernel_rfl) (fun K hK => ?_)
    go_simp
    refine hK.out _ _ (fun h => absurd (h.symm.trans (by kernel_rfl : _ = true)) (by decide)) ?_
    clear hK K
    refine AnyK.done (by kernel_rfl) ?_ _
    go_wp2_with fail
    go_end0
    have hT6 := HT6.out
    have hB8 := HB6.out.fr HF8.out HSG.out
    have hset := hB8.set_ 22 (.slice (some ⟨gb, 0, none⟩) (t.spw.length + 1) cap)
    rw [tk_setSpw (t := { t with kids := t.kids + 1 }) hT6.r8 hT6.f4 _ (t.spw ++ [(a, v)])] at hset
    have hFg : Fr (At g) w8 (w8.setCell ⟨g, 22, none⟩ (.slice (some ⟨gb, 0, none⟩) (t.spw.length + 1) cap)) := (Fr.refl (At g) w8).setCell (p := ⟨g, 22, none⟩) (.inl rfl) _
    have hF9 : Fr (fun k => k = g ∨ sv.ownBlock = some k) w6 (w8.setCell ⟨g, 22, none⟩ (.slice (some ⟨gb, 0, none⟩) (t.spw.length + 1) cap)) := (HF8.out.mono (fun _ h => .inr h)).trans (hFg.mono (fun _ h => .inl h))
    have typ9 : ∀ k, (k = g ∨ sv.ownBlock = some k) → Typed w6 c.base TT k := fun k hk => by
      rcases hk with h | h
      · subst h
        exact Typed.blk HB6.out (by rw [HG.out]; exact hT6.low) (.inl rfl)
      · exact Typed.own hT6.spw h (.inr (.inl rfl))
    have hFall : Fr (TkB c i tv lv sv) w (w8.setCell ⟨g, 22, none⟩ (.slice (some ⟨gb, 0, none⟩) (t.spw.length + 1) cap)) := (HFx.out _ HF6.out).trans (hF9.mono (fun k hk => by
      rcases hk with h | h
      · exact .inl (by rw [h, HG.out])
      · exact .inr (.inl h)))
    have htook : took x v t = { t with kids := t.kids + 1, spw := t.spw ++ [(a, v)] } := by
      unfold took
      rw [if_pos HOP.out, HEA.out]
    show StPost c i w tv lv sv (.next (took x v t) sh2) _ _
    rw [htook]
    refine ⟨rfl, tv', lv', ll', _, HS6.out.keep hF9 typ9, ⟨by rw [← HG.out]; exact hset, hT6.low, hT6.r8, hT6.f4, ?_, ?_, hT6.cod.fr hF9 (fun b hb hk => by have := (typ9 _ hk).1; omega), hT6.pth.fr hF9 (fun k cs hk h => (typ9 _ h).ne hk (by unfold TT; decide) rfl), hT6.pcap⟩, hFall, HNx.out _ _ HN1.out, HNx.out _ _ HN2.out, HNW.out⟩
    · have := own_fr HO8.out hFg (fun k hk h => by
        have h' : k = g := h
        subst h'
        exact own_ne HO8.out hB8 (by decide) hk)
      simpa [spwC] using this
    · intro s hs
      rcases List.mem_append.1 hs with hs | hs
      · exact hT6.reg8 s hs
      · rw [List.mem_singleton.1 hs]; exact ha8

set_option maxHeartbeats 8000000 in
set_option maxRecDepth 100000 in
theorem future_any (c : Cx) (i : Ti) (w : World) (t : Tk) (sv tv lv : Value) (sh : Sh) (ll : List LEnt) (hT : TkAt c i w t sv false 0) (hS : ShAt c w sh tv lv ll) (x : Ins) (a b cc : Nat) (hx : InsOk (fns c.L) i.code.length x 13 a b cc)
    (hpl : i.path.length ≤ 30 ∧ (i.path.length : Int) ≤ c.dep) (hk : t.kids ≤ 1000000) (_hsp : t.spw.length ≤ 1000000) (har : ∀ y ∈ c.L, 0 ≤ y.f.arity ∧ y.f.arity ≤ 4) (hE : EvOK c (sh.left.toNat + 1)) (hLim : sh.told.length + sh.left.toNat ≤ 1000000 ∧ sh.log.length + 1 + sh.left.toNat ≤ 1000000) :
    Calls Tryd.prog 42 #[.pointer (some ⟨i.g, 0, none⟩), .agg #[.int .i64 13, .int .i64 a, .int .i64 b, .int .i64 cc, .int .i64 x.k]] w
      (StPost c i w tv lv sv (tookR x t (beginR (fns c.L) c.bud c.dep i.path x t sh))) := by
  obtain ⟨r, hr⟩ : ∃ r, beginR (fns c.L) c.bud c.dep i.path x t sh = r := ⟨_, rfl⟩
  rw [hr]
  have HR := Lib.hid hr
  obtain ⟨g, hg⟩ : ∃ g, g = i.g := ⟨_, rfl⟩
  rw [← hg]
  have HG := Lib.hid hg
  have HT := Lib.hid hT
  have HS0 := Lib.hid hS
  have ha8 := hx.a8
  have HOP : Hid (x.op = 13) := Lib.hid hx.eop
  have HEA : Hid (x.a.toNat = a) := Lib.hid (by rw [hx.ea]; rfl)
  have ha4 : a < 4 := hx.fut rfl
  have HBG := Lib.hid (fun W (h1 : TkAt c i W t sv false 0) (h2 : ShAt c W sh tv lv ll) => begin_any c i W t sv tv lv sh ll h1 h2 x 13 a b cc hx (by decide) hpl hk har hE hLim)
  have hgl := hT.blk.lt
  rw [← hg] at hgl
  clear hT hS hg hE hx har hr
  go_enter Tryd.func42, Tryd.ntmps42
  go_wp2_with fail
  generalize hW : w.alloc (.cells _ 55) = W
  have hFW : Fr (fun _ => False) w W := by rw [← hW]; exact (Fr.refl _ _).alloc _
  have B2 : Blk W w.heap.size 55 #[.int .i64 13, .int .i64 a, .int .i64 b, .int .i64 cc, .int .i64 x.k] := by rw [← hW]; exact Blk.new _ _ _
  have HTW := Lib.hid ((HT.out.keep hFW (fun _ h => h.elim)).keep ((Fr.refl (fun _ => False) W).drew) (fun _ h => h.elim))
  have HSW := Lib.hid ((HS0.out.keep hFW (fun _ h => h.elim)).keep ((Fr.refl (fun _ => False) W).drew) (fun _ h => h.elim))
  have BT := HTW.out.blk
  rw [← HG.out] at BT
  have c22 : W.cell? ⟨g, 22, none⟩ = some sv := by have := BT.cell 22; rw [(tk_at HTW.out.r8 HTW.out.f4).2.2.2.2.2.1] at this; exact this
  have d0 : W.cell? ⟨w.heap.size, 0, none⟩ = some (.int .i64 13) := by rw [B2.cell]; rfl
  have d1 : W.cell? ⟨w.heap.size, 1, none⟩ = some (.int .i64 a) := by rw [B2.cell]; rfl
  have d2 : W.cell? ⟨w.heap.size, 2, none⟩ = some (.int .i64 b) := by rw [B2.cell]; rfl
  have d3 : W.cell? ⟨w.heap.size, 3, none⟩ = some (.int .i64 cc) := by rw [B2.cell]; rfl
  have d4 : W.cell? ⟨w.heap.size, 4, none⟩ = some (.int .i64 x.k) := by rw [B2.cell]; rfl
  have HNI := Lib.hid (BgB.instr HTW.out HSW.out B2.drew)
  have HB2 := Lib.hid B2
  have hWs : w.heap.size < W.heap.size := B2.lt
  have HFW := Lib.hid hFW
  have hFx : ∀ W6, Fr (BgB c i tv lv) W.drew W6 → Fr (TkB c i tv lv sv) w W6 := fun W6 h => ((HFW.out.mono (fun _ h => h.elim)).drew).trans (h.mono BgB.sub)
  have HFx := Lib.hid hFx
  have hNx : ∀ v v', Newer W.drew v v' → Newer w v v' := fun v v' h k hk => (h k hk).imp id (fun h' => by have : W.heap.size ≤ k := h'; omega)
  have HNx := Lib.hid hNx
  clear hW hFW BT B2 hFx hNx
  have hbg := HBG.out W.drew HTW.out HSW.out
  rw [← HG.out, HR.out] at hbg
  have HB := Lib.hid hbg
  clear hbg
  have ia : (0 : Int) ≤ (a : Int) := by omega
  have ja : (a : Int) < 4 := by omega
  refine region_K 9 (fun w' : World => w'.cell? ⟨g, 22, none⟩ = some sv ∧ w'.cell? ⟨w.heap.size, 0, none⟩ = some (.int .i64 13) ∧ w'.cell? ⟨w.heap.size, 1, none⟩ = some (.int .i64 a) ∧ w'.cell? ⟨w.heap.size, 2, none⟩ = some (.int .i64 b) ∧ w'.cell? ⟨w.heap.size, 3, none⟩ = some (.int .i64 cc) ∧ w'.cell? ⟨w.heap.size, 4, none⟩ = some (.int .i64 x.k)) (by kernel_rfl) ?_
  have HS : (fun w' : World => w'.cell? ⟨g, 22, none⟩ = some sv ∧ w'.cell? ⟨w.heap.size, 0, none⟩ = some (.int .i64 13) ∧ w'.cell? ⟨w.heap.size, 1, none⟩ = some (.int .i64 a) ∧ w'.cell? ⟨w.heap.size, 2, none⟩ = some (.int .i64 b) ∧ w'.cell? ⟨w.heap.size, 3, none⟩ = some (.int .i64 cc) ∧ w'.cell? ⟨w.heap.size, 4, none⟩ = some (.int .i64 x.k)) W.drew := ⟨c22, d0, d1, d2, d3, d4⟩
  refine AnyK.take (i := 0) rfl (by decide) (by kernel_rfl) (by kernel_rfl) (by kernel_rfl) (fun _ _ _ _ h => h) HS (fun K hK => ?_)
  go_simp
  refine hK.out _ ⟨_, by rfl, Or.inl ⟨by rfl, by intro w hSw; (try dsimp only at hSw); go_simp⟩, ?_⟩
  clear hK K
  refine AnyK.take (i := 1) rfl (by decide) (by kernel_rfl) (by kernel_rfl) (by kernel_rfl) (fun _ _ _ _ h => h) HS (fun K hK => ?_)
  go_simp
  refine hK.out _ ⟨_, by rfl, Or.inl ⟨by rfl, by intro w hSw; (try dsimp only at hSw); go_simp⟩, ?_⟩
  clear hK K
  refine AnyK.take (i := 2) rfl (by decide) (by kernel_rfl) (by kernel_rfl) (by kernel_rfl) (fun _ _ _ _ h => h) HS (fun K hK => ?_)
  go_simp
  refine hK.out _ ⟨_, by rfl, Or.inl ⟨by rfl, by intro w hSw; (try dsimp only at hSw); go_simp⟩, ?_⟩
  clear hK K
  refine AnyK.take (i := 3) rfl (by decide) (by kernel_rfl) (by kernel_rfl) (by kernel_rfl) (fun _ _ _ _ h => h) HS (fun K hK => ?_)
  go_simp
  refine hK.out _ ⟨_, by rfl, Or.inl ⟨by rfl, by intro w hSw; (try dsimp only at hSw); go_simp⟩, ?_⟩
  clear hK K
  refine AnyK.take (i := 4) rfl (by decide) (by kernel_rfl) (by kernel_rfl) (by kernel_rfl) (fun _ _ _ _ h => h) HS (fun K hK => ?_)
  go_simp
  refine hK.out _ ⟨_, by rfl, Or.inl ⟨by rfl, by intro w hSw; (try dsimp only at hSw); go_simp⟩, ?_⟩
  clear hK K
  refine AnyK.take (i := 7) rfl (by decide) (by kernel_rfl) (by kernel_rfl) (by kernel_rfl) (fun _ _ _ _ h => h) HS (fun K hK => ?_)
  go_simp
  refine hK.out _ ⟨_, by rfl, Or.inl ⟨by rfl, by intro w hSw; (try dsimp only at hSw); go_simp⟩, ?_⟩
  clear hK K
  refine AnyK.take (i := 8) rfl (by decide) (by kernel_rfl) (by kernel_rfl) (by kernel_rfl) (fun _ _ _ _ h => h) HS (fun K hK => ?_)
  go_simp
  refine hK.out _ ⟨_, by rfl, Or.inl ⟨by rfl, by intro w hSw; (try dsimp only at hSw); go_simp⟩, ?_⟩
  clear hK K
  refine AnyK.one (i := 5) rfl (by kernel_rfl) (fun K hK => ?_)
  go_simp
  refine HB.out.mono ?_
  intro e w6 hp
  obtain ⟨o, sh2⟩ := r
  cases o with
  | fail k' =>
    obtain ⟨rfl, tv', lv', ll', hS6, hF6⟩ := hp
    have HS6 := Lib.hid hS6
    have HF6 := Lib.hid hF6
    clear hS6 hF6
    go_wp2_with fail
    exact ⟨rfl, rfl, tv', lv', ll', HS6.out, HFx.out _ HF6.out⟩
  | long =>
    obtain ⟨rfl, hF6⟩ := hp
    have HF6 := Lib.hid hF6
    clear hF6
    go_wp2_with fail
    exact ⟨rfl, rfl, HFx.out _ HF6.out⟩
  | ok v =>
    obtain ⟨rfl, tv', lv', ll', hS6, hT6, hF6, n1, n2⟩ := hp
    have HS6 := Lib.hid hS6
    have HT6 := Lib.hid hT6
    have HF6 := Lib.hid hF6
    have HN1 := Lib.hid n1
    have HN2 := Lib.hid n2
    have BT6 := hT6.blk
    rw [← HG.out] at BT6
    have HB6 := Lib.hid BT6
    have c22' : w6.cell? ⟨g, 22, none⟩ = some sv := by rw [BT6.cell]; exact (tk_at (t := { t with kids := t.kids + 1 }) hT6.r8 hT6.f4).2.2.2.2.2.1
    have f22 := BT6.frozen 22
    have hB26 := HB2.out.drew.fr hF6 HNI.out
    have HSS6 : (fun w' : World => w'.cell? ⟨g, 22, none⟩ = some sv ∧ w'.cell? ⟨w.heap.size, 0, none⟩ = some (.int .i64 13) ∧ w'.cell? ⟨w.heap.size, 1, none⟩ = some (.int .i64 a) ∧ w'.cell? ⟨w.heap.size, 2, none⟩ = some (.int .i64 b) ∧ w'.cell? ⟨w.heap.size, 3, none⟩ = some (.int .i64 cc) ∧ w'.cell? ⟨w.heap.size, 4, none⟩ = some (.int .i64 x.k)) w6 := ⟨c22', by rw [hB26.cell]; rfl, by rw [hB26.cell]; rfl, by rw [hB26.cell]; rfl, by rw [hB26.cell]; rfl, by rw [hB26.cell]; rfl⟩
    have hg6 : g < w6.heap.size := BT6.lt
    have HB26 := Lib.hid hB26
    have hs6 : W.heap.size ≤ w6.heap.size := hF6.size
    clear hS6 hT6 hF6 n1 n2 BT6 hB26
    refine hK.out _ _ (fun _ => HSS6) ?_
    clear hK K
    refine AnyK.take (i := 6) rfl (by decide) (by kernel_rfl) (by kernel_rfl) (by kernel_rfl) (fun _ _ _ _ h => h) HSS6 (fun K hK => ?_)
    go_simp
    refine hK.out _ ⟨_, by rfl, Or.inl ⟨by rfl, by intro w hSw; (try dsimp only at hSw); go_simp⟩, ?_⟩
    clear hK K
    have fu := tk_fut (W := c.W) (cd := .slice i.CA i.code.length i.cc) (pa := .slice i.pA i.path.length i.pc) (me := i.me) (t := { t with kids := t.kids + 1 }) (sv := sv) (ov := false) (v := 0) HT6.out.r8 HT6.out.f4 a ha4
    have q1 := HB6.out.cell (14 + a * 2)
    rw [fu.1] at q1
    have q2 := HB6.out.cell (14 + a * 2 + 1)
    rw [fu.2] at q2
    have z1 := HB6.out.frozen (14 + a * 2)
    have z2 := HB6.out.frozen (14 + a * 2 + 1)
    clear fu
    refine AnyK.one (i := 9) rfl (by kernel_rfl) (fun K hK => ?_)
    go_simp
    refine hK.out _ _ (fun _ => HSS6) ?_
    clear hK K
    refine AnyK.one (i := 10) rfl (by kernel_rfl) (fun K hK => ?_)
    go_simp
    have hB7 := (HB6.out.set_ (14 + a * 2) (.bool true)).set_ (14 + a * 2 + 1) (.int .i64 v)
    have hF7 : Fr (At g) w6 ((w6.setCell ⟨g, 14 + a * 2, none⟩ (.bool true)).setCell ⟨g, 14 + a * 2 + 1, none⟩ (.int .i64 v)) := ((Fr.refl (At g) w6).setCell (p := ⟨g, 14 + a * 2, none⟩) (.inl rfl) _).setCell (p := ⟨g, 14 + a * 2 + 1, none⟩) (.inl rfl) _
    have hT6 := HT6.out
    rw [tk_setFut (t := { t with kids := t.kids + 1 }) hT6.r8 hT6.f4 a ha4 v] at hB7
    have hni : ¬ At g w.heap.size := fun h => by have h' : w.heap.size = g := h; omega
    have h4' : (t.futs.set a (true, v)).length = 4 := by rw [List.length_set]; exact hT6.f4
    have HSS7 : (fun w' : World => w'.cell? ⟨g, 22, none⟩ = some sv ∧ w'.cell? ⟨w.heap.size, 0, none⟩ = some (.int .i64 13) ∧ w'.cell? ⟨w.heap.size, 1, none⟩ = some (.int .i64 a) ∧ w'.cell? ⟨w.heap.size, 2, none⟩ = some (.int .i64 b) ∧ w'.cell? ⟨w.heap.size, 3, none⟩ = some (.int .i64 cc) ∧ w'.cell? ⟨w.heap.size, 4, none⟩ = some (.int .i64 x.k)) ((w6.setCell ⟨g, 14 + a * 2, none⟩ (.bool true)).setCell ⟨g, 14 + a * 2 + 1, none⟩ (.int .i64 v)) := ⟨by rw [hB7.cell]; exact (tk_at (t := { t with kids := t.kids + 1, futs := t.futs.set a (true, v) }) hT6.r8 h4').2.2.2.2.2.1, hF7.held HSS6.2.1 hni, hF7.held HSS6.2.2.1 hni, hF7.held HSS6.2.2.2.1 hni, hF7.held HSS6.2.2.2.2.1 hni, hF7.held HSS6.2.2.2.2.2 hni⟩
    have HB7 := Lib.hid hB7
    have HF7 := Lib.hid hF7
    refine hK.out _ _ (fun _ => HSS7) ?_
    clear hK K hB7 hF7
    refine AnyK.done (by kernel_rfl) ?_ _
    go_wp2_with fail
    go_end0
    have htook : took x v t = { t with kids := t.kids + 1, futs := t.futs.set a (true, v) } := by
      unfold took
      rw [if_neg (by rw [HOP.out]; decide), HEA.out]
    show StPost c i w tv lv sv (.next (took x v t) sh2) _ _
    rw [htook]
    have hF7' : Fr (At i.g) w6 ((w6.setCell ⟨g, 14 + a * 2, none⟩ (.bool true)).setCell ⟨g, 14 + a * 2 + 1, none⟩ (.int .i64 v)) := by rw [← HG.out]; exact HF7.out
    refine ⟨rfl, tv', lv', ll', sv, HS6.out.keep hF7' (fun k hk => ?_), hT6.turn (t' := { t with kids := t.kids + 1, futs := t.futs.set a (true, v) }) hF7' (by rw [← HG.out]; exact HB7.out) hT6.r8 h4' rfl, (HFx.out _ HF6.out).trans (hF7'.mono (fun k hk => .inl hk)), HNx.out _ _ HN1.out, HNx.out _ _ HN2.out, Newer.refl _ _⟩
    have hk' : k = i.g := hk
    subst hk'
    exact Typed.blk hT6.blk hT6.low (.inl rfl)
end Go.Proofs.YtbhnnnpofindiaaDoor
