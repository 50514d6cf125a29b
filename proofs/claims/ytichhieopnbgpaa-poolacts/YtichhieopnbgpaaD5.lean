/-
  The document's home: a block goes to the front of its owner's row. No condition.
-/
import Derived.Test.YtichhieopnbgpaaD4
namespace Go.Proofs.Ytichhieopnbgpaa
open Go.RowKit

theorem step_app {P : Program} (w : World) {ops : Array Oper} {o : Oper} {a : Act} {K : Act → World → Prop} {R : Exit → Act → World → Prop} {E : Prop} (hgd : o.guard = none) (s x : Operand) (t : TypeId)
    (ho : o.op = .call { callee := .builtin .append, args := #[s, x], argTypes := #[t, t] })
    (base : Nat) (e : TypeId) (i : TypeInfo) (z : Value) (size bytes : Nat) (ht : P.underlying t = some (.slice e)) (hi : P.info? e = some i) (hz : i.zero = some z)
    (hsize : i.size = size) (hby : i.bytes = bytes) (hzs : z.cells.size = size) (hsz : 0 < size)
    (v : Value) (n : Nat) (xs : List Value) (hs : a.eval s = v) (hown : w.ownsRow base e size v n xs)
    (Q : Nat → Prop) (A : Option Addr) (m c : Nat) (news : List Value) (hx : a.eval x = .slice A m c) (hr : Rd w Q size A m news) (h1 : ∀ u ∈ news, u.oneCell' = true)
    (h63 : n + m ≤ maxLen) (hbytes : (n + m) * bytes ≤ 140737488355328) (hbase : base ≤ w.heap.size)
    (h : ∀ v' w', w'.ownsRow base e size v' (n + m) (xs ++ news) → w.grownBy w' v.ownBlock → (v'.ownBlock = v.ownBlock ∨ v'.ownBlock = some w.heap.size) → K (a.put o.dst v') w') :
    if Region.wanted o (yielded ops a.tmps) = true then Oper.wp P o a w K R else E := by
  have hw : Region.wanted o (yielded ops a.tmps) = true := by simp [Region.wanted, hgd]
  rw [if_pos hw]
  exact app_wp w s x t ho base e i z size bytes ht hi hz hsize hby hzs hsz v n xs hs hown Q A m c news hx hr h1 h63 hbytes hbase h

/-- A row that is new reads as its cells. -/
theorem rd_own {w : World} {base n cap g : Nat} {e : TypeId} {xs : List Value} {Q : Nat → Prop} (h : w.ownsRow base e 1 (.slice (some ⟨g, 0, none⟩) n cap) n xs) (hQ : Q g) : Rd w Q 1 (some ⟨g, 0, none⟩) n xs :=
  ⟨h.1, fun _ => ⟨g, 0, rfl, hQ, fun j u hu => by
    have hl := h.1
    rw [Nat.zero_add, World.ownsRow.cellAt h j (by have := (List.getElem?_eq_some_iff.1 hu).1; omega)]
    exact hu⟩⟩
section
variable {w : World} {Q : Nat → Prop} {x D fb rb : Nat} {S : Shp} {fv : List Value} {fl : List (List Nat)} {rv : List Value} {rl : List (List Nat)} {tv : Value} {tk : List Bool}
/-- What home leaves. -/
def HomeP (w : World) (Q : Nat → Prop) (x D fb rb : Nat) (S : Shp) (fl : List (List Nat)) (rv : List Value) (rl : List (List Nat)) (tv : Value) (tk : List Bool) (i : Nat) (l : List Nat) (w' : World) : Prop :=
  ∃ Q' fv', DR w' Q' x D fb rb S fv' (fl.set i l) rv rl tv tk ∧ Fr (fun k => k = fb) w w' ∧ (∀ b, Q' b → Q b ∨ w.heap.size ≤ b) ∧ ∀ b, Q b → Q' b
theorem home_end {w1 w4 : World} (h : DR w Q x D fb rb S fv fl rv rl tv tk) (hf1 : Fr F0 w w1) (hf4 : Fr (fun k => w1.heap.size ≤ k) w1 w4) {base n L cap g i : Nat} {l : List Nat} (hL : L = l.length) (hgb : w1.heap.size ≤ g) (_hbase : w.heap.size ≤ base)
    (ho : w4.ownsRow base 3 1 (.slice (some ⟨g, 0, none⟩) (1 + L) cap) (1 + L) ([.int .i64 (n : Int)] ++ nc l)) (hc : 1 + L ≤ cap) :
    HomeP w Q x D fb rb S fl rv rl tv tk i (n :: l) (w4.setCell ⟨fb, i, none⟩ (.slice (some ⟨g, 0, none⟩) (1 + L) cap)) := by
  have h1 := h.f0 hf1
  have h4 := h1.fr hf4 (fun k hk e => by have := h1.lt hk; omega)
  have hg := own_int ho rfl
  have h5 := h4.more (fun b => Q b ∨ b = g) (fun b hb => .inl hb) (fun b hb => by
    rcases hb with hb | rfl
    · exact h4.qi b hb
    · exact hg) (fun v hv b hb hq => by
    rcases hq with hq | rfl
    · exact h4.rq v hv b hb hq
    · have := h1.rr.lt hv hb; omega)
  have e1 : (n :: l).length = 1 + L := by simp [hL]; omega
  have h6 := h5.setrow i (l' := n :: l) (A := some ⟨g, 0, none⟩) (c := cap) (by rw [e1]; exact hc) (by rw [e1]; exact rd_own ho (.inr rfl))
  rw [e1] at h6
  refine ⟨_, _, h6, ?_, fun b hb => ?_, fun b hb => .inl hb⟩
  · refine ((hf1.f0.then hf4 (B := fun k => k = fb) (fun k hk => .inr (Nat.le_trans hf1.size hk))).setCell (p := ⟨fb, i, none⟩) (.inl rfl) _)
  · rcases hb with hb | rfl
    · exact .inl hb
    · exact .inr (Nat.le_trans hf1.size hgb)

set_option maxHeartbeats 16000000 in
set_option maxRecDepth 100000 in
theorem dhome_any (h : DR w Q x D fb rb S fv fl rv rl tv tk) (hk : Small S) (n a z o c : Nat) (hw : whr S n = some (a, z, o, c)) (l : List Nat) (hl : fl[o * 3 + c]? = some l) (hll : l.length ≤ 1000) :
    Calls Try.prog 43 #[.pointer (some ⟨D, 0, none⟩), .int .i64 (n : Int)] w fun e w' => e = .returned (.tuple #[]) ∧ HomeP w Q x D fb rb S fl rv rl tv tk (o * 3 + c) (n :: l) w' := by
  obtain ⟨i0, hi0, hz0, hz1, hz2⟩ := info_parts info_int
  have ha := whr_at hw
  have HWH := Lib.hid (dwhere_in h hk n ha.n1 ha.nm)
  rw [hw] at HWH
  have ho := ha.own
  have hc := ha.cls
  have hk4 := hk.k
  obtain ⟨v, hv⟩ := of_lt (show o * 3 + c < fv.length by have := h.fvl; omega)
  obtain ⟨A, cp, rfl, hcp, hR⟩ := h.row _ _ _ hv hl
  obtain ⟨L, hL⟩ : ∃ L, L = l.length := ⟨_, rfl⟩
  rw [← hL] at hv hR
  have HDR := Lib.hid h
  have HV := Lib.hid hv
  have HL := Lib.hid hL
  have HR := Lib.hid hR
  have g3 : (o : Int) < (S.k : Int) := by omega
  have g4 : (c : Int) < 3 := by omega
  have hL2 : L ≤ 1000 := by omega
  clear h hk hw ha hl hll hv hcp hR hL ho hc hk4
  simp only [whrV] at HWH
  go_enter Try.func43, Try.ntmps43
  go_wp2_with fail
  refine HWH.out.mono ?_
  rintro e w1 ⟨rfl, hF1⟩
  have HF1 := Lib.hid hF1
  have hD1 := HDR.out.f0 hF1
  obtain ⟨-, k7, -, -⟩ := hD1.cells
  have cf : w1.cell? ⟨fb, o * 3 + c, none⟩ = some (.slice A L cp) := by rw [hD1.hf.cell, List.getElem?_toArray, HV.out]
  have HR1 := Lib.hid (HR.out.fr hF1 (fun _ _ h => h))
  have HFB : Hid (fb < w1.heap.size) := hD1.hf.lt
  have zf : w1.frozen? ⟨fb, o * 3 + c, none⟩ = false := hD1.hf.frozen _
  have HDL : Hid (D < w1.heap.size) := hD1.hD.lt
  have HQ1 : Hid (∀ b, Q b → b < w1.heap.size) := Lib.hid (fun b hb => (hD1.qi b hb).lt)
  clear hF1 hD1 HWH
  go_wp2_with fail
  refine region_K 18 (fun w' : World => w'.cell? ⟨D, 7, none⟩ = some (.slice (some ⟨fb, 0, none⟩) S.k S.k) ∧ w'.cell? ⟨fb, o * 3 + c, none⟩ = some (.slice A L cp)) (by kernel_rfl) ?_
  have HS0 : (fun w' : World => w'.cell? ⟨D, 7, none⟩ = some (.slice (some ⟨fb, 0, none⟩) S.k S.k) ∧ w'.cell? ⟨fb, o * 3 + c, none⟩ = some (.slice A L cp)) w1.drew := ⟨k7, cf⟩
  refine AnyK.take (i := 0) rfl (by decide) (by kernel_rfl) (by kernel_rfl) (by kernel_rfl) (fun _ _ _ _ h => h) HS0 (fun K hK => ?_)
  go_simp
  refine hK.out _ ⟨_, by rfl, Or.inl ⟨by rfl, by intro w hSw; (try dsimp only at hSw); obtain ⟨hS1, hS2⟩ := hSw; go_simp⟩, ?_⟩
  clear hK K
  refine AnyK.take (i := 1) rfl (by decide) (by kernel_rfl) (by kernel_rfl) (by kernel_rfl) (fun _ _ _ _ h => h) HS0 (fun K hK => ?_)
  go_simp
  refine hK.out _ ⟨_, by rfl, Or.inl ⟨by rfl, by intro w hSw; (try dsimp only at hSw); obtain ⟨hS1, hS2⟩ := hSw; go_simp⟩, ?_⟩
  clear hK K
  refine AnyK.take (i := 2) rfl (by decide) (by kernel_rfl) (by kernel_rfl) (by kernel_rfl) (fun _ _ _ _ h => h) HS0 (fun K hK => ?_)
  go_simp
  refine hK.out _ ⟨_, by rfl, Or.inl ⟨by rfl, by intro w hSw; (try dsimp only at hSw); obtain ⟨hS1, hS2⟩ := hSw; go_simp⟩, ?_⟩
  clear hK K
  refine AnyK.take (i := 3) rfl (by decide) (by kernel_rfl) (by kernel_rfl) (by kernel_rfl) (fun _ _ _ _ h => h) HS0 (fun K hK => ?_)
  go_simp
  refine hK.out _ ⟨_, by rfl, Or.inl ⟨by rfl, by intro w hSw; (try dsimp only at hSw); obtain ⟨hS1, hS2⟩ := hSw; go_simp⟩, ?_⟩
  clear hK K
  refine AnyK.take (i := 4) rfl (by decide) (by kernel_rfl) (by kernel_rfl) (by kernel_rfl) (fun _ _ _ _ h => h) HS0 (fun K hK => ?_)
  go_simp
  refine hK.out _ ⟨_, by rfl, Or.inl ⟨by rfl, by intro w hSw; (try dsimp only at hSw); obtain ⟨hS1, hS2⟩ := hSw; go_simp⟩, ?_⟩
  clear hK K
  refine AnyK.take (i := 5) rfl (by decide) (by kernel_rfl) (by kernel_rfl) (by kernel_rfl) (fun _ _ _ _ h => h) HS0 (fun K hK => ?_)
  go_simp
  refine hK.out _ ⟨_, by rfl, Or.inl ⟨by rfl, by intro w hSw; (try dsimp only at hSw); obtain ⟨hS1, hS2⟩ := hSw; go_simp⟩, ?_⟩
  clear hK K
  refine AnyK.take (i := 6) rfl (by decide) (by kernel_rfl) (by kernel_rfl) (by kernel_rfl) (fun _ _ _ _ h => h) HS0 (fun K hK => ?_)
  go_simp
  refine hK.out _ ⟨_, by rfl, Or.inl ⟨by rfl, by intro w hSw; (try dsimp only at hSw); obtain ⟨hS1, hS2⟩ := hSw; go_simp⟩, ?_⟩
  clear hK K
  refine AnyK.take (i := 8) rfl (by decide) (by kernel_rfl) (by kernel_rfl) (by kernel_rfl) (fun _ _ _ _ h => h) HS0 (fun K hK => ?_)
  go_simp
  refine hK.out _ ⟨_, by rfl, Or.inl ⟨by rfl, by intro w hSw; (try dsimp only at hSw); obtain ⟨hS1, hS2⟩ := hSw; go_simp⟩, ?_⟩
  clear hK K
  refine AnyK.take (i := 9) rfl (by decide) (by kernel_rfl) (by kernel_rfl) (by kernel_rfl) (fun _ _ _ _ h => h) HS0 (fun K hK => ?_)
  go_simp
  refine hK.out _ ⟨_, by rfl, Or.inl ⟨by rfl, by intro w hSw; (try dsimp only at hSw); obtain ⟨hS1, hS2⟩ := hSw; go_simp⟩, ?_⟩
  clear hK K
  refine AnyK.take (i := 10) rfl (by decide) (by kernel_rfl) (by kernel_rfl) (by kernel_rfl) (fun _ _ _ _ h => h) HS0 (fun K hK => ?_)
  go_simp
  refine hK.out _ ⟨_, by rfl, Or.inl ⟨by rfl, by intro w hSw; (try dsimp only at hSw); obtain ⟨hS1, hS2⟩ := hSw; go_simp⟩, ?_⟩
  clear hK K
  refine AnyK.take (i := 11) rfl (by decide) (by kernel_rfl) (by kernel_rfl) (by kernel_rfl) (fun _ _ _ _ h => h) HS0 (fun K hK => ?_)
  go_simp
  refine hK.out _ ⟨_, by rfl, Or.inl ⟨by rfl, by intro w hSw; (try dsimp only at hSw); obtain ⟨hS1, hS2⟩ := hSw; go_simp⟩, ?_⟩
  clear hK K
  refine AnyK.take (i := 12) rfl (by decide) (by kernel_rfl) (by kernel_rfl) (by kernel_rfl) (fun _ _ _ _ h => h) HS0 (fun K hK => ?_)
  go_simp
  refine hK.out _ ⟨_, by rfl, Or.inl ⟨by rfl, by intro w hSw; (try dsimp only at hSw); obtain ⟨hS1, hS2⟩ := hSw; go_simp⟩, ?_⟩
  clear hK K
  refine AnyK.take (i := 13) rfl (by decide) (by kernel_rfl) (by kernel_rfl) (by kernel_rfl) (fun _ _ _ _ h => h) HS0 (fun K hK => ?_)
  go_simp
  refine hK.out _ ⟨_, by rfl, Or.inl ⟨by rfl, by intro w hSw; (try dsimp only at hSw); obtain ⟨hS1, hS2⟩ := hSw; go_simp⟩, ?_⟩
  clear hK K
  refine AnyK.take (i := 14) rfl (by decide) (by kernel_rfl) (by kernel_rfl) (by kernel_rfl) (fun _ _ _ _ h => h) HS0 (fun K hK => ?_)
  go_simp
  refine hK.out _ ⟨_, by rfl, Or.inl ⟨by rfl, by intro w hSw; (try dsimp only at hSw); obtain ⟨hS1, hS2⟩ := hSw; go_simp⟩, ?_⟩
  clear hK K
  refine AnyK.take (i := 15) rfl (by decide) (by kernel_rfl) (by kernel_rfl) (by kernel_rfl) (fun _ _ _ _ h => h) HS0 (fun K hK => ?_)
  go_simp
  refine hK.out _ ⟨_, by rfl, Or.inl ⟨by rfl, by intro w hSw; (try dsimp only at hSw); obtain ⟨hS1, hS2⟩ := hSw; go_simp⟩, ?_⟩
  clear hK K
  refine AnyK.take (i := 16) rfl (by decide) (by kernel_rfl) (by kernel_rfl) (by kernel_rfl) (fun _ _ _ _ h => h) HS0 (fun K hK => ?_)
  go_simp
  refine hK.out _ ⟨_, by rfl, Or.inl ⟨by rfl, by intro w hSw; (try dsimp only at hSw); obtain ⟨hS1, hS2⟩ := hSw; go_simp⟩, ?_⟩
  clear hK K
  refine AnyK.two (i := 7) (j := 18) rfl rfl (by kernel_rfl) (fun K hK => ?_) (fun K hK => ?_)
  · go_simp
    have hfa : Fr F0 w1.drew (w1.drew.alloc (.cells #[.int .i64 (n : Int)] 3)) := (Fr.refl _ _).alloc _
    have HS1 : (fun w' : World => w'.cell? ⟨D, 7, none⟩ = some (.slice (some ⟨fb, 0, none⟩) S.k S.k) ∧ w'.cell? ⟨fb, o * 3 + c, none⟩ = some (.slice A L cp)) (w1.drew.alloc (.cells #[.int .i64 (n : Int)] 3)) := ⟨hfa.held k7 (fun h => h), hfa.held cf (fun h => h)⟩
    have HLIT : Hid ((w1.drew.alloc (.cells #[.int .i64 (n : Int)] 3)).ownsRow w1.heap.size 3 1 (.slice (some ⟨w1.heap.size, 0, none⟩) 1 1) 1 [.int .i64 (n : Int)]) := Lib.hid ⟨rfl, .inr ⟨w1.heap.size, 1, #[.int .i64 (n : Int)], rfl, Nat.le_refl _, heap_alloc_new _ _, by decide, by decide, rfl, rfl⟩⟩
    have HRA := Lib.hid (HR1.out.fr (((Fr.refl F0 w1).drew).trans hfa) (fun _ _ h => h))
    have HSZA : Hid (w1.heap.size ≤ (w1.drew.alloc (.cells #[.int .i64 (n : Int)] 3)).heap.size) := hfa.size
    refine hK.out _ _ (fun _ => HS1) ?_
    clear hK K
    refine AnyK.two (i := 17) (j := 18) rfl rfl (by kernel_rfl) (fun K hK => ?_) (fun K hK => ?_)
    · refine step_app (w1.drew.alloc (.cells #[.int .i64 (n : Int)] 3)) (by rfl) _ _ _ (by rfl) w1.heap.size 3 i0 _ 1 8 Try.underlying75 hi0 hz0 hz1 hz2 rfl (by omega) (.slice (some ⟨w1.heap.size, 0, none⟩) 1 1) 1 _ (by rfl) HLIT.out Q A L cp (nc l) (by rfl) HRA.out (nc_one l) (by unfold maxLen; omega) (by omega) HSZA.out ?_
      intro v' w4 hown4 hg4 hor4
      obtain ⟨g, cap, hv', hgb, hglt⟩ := hown4.form (by omega)
      subst hv'
      have hcap : 1 + L ≤ cap := by
        rcases own_form hown4 with ⟨h1, _⟩ | ⟨_, _, h2, _⟩
        · cases h1
        · exact h2
      have hF4 : Fr (fun k => w1.heap.size ≤ k) w1 w4 := (((Fr.refl (fun k => w1.heap.size ≤ k) w1).drew).trans (hfa.f0)).trans ((Fr.grown hg4).mono (fun k h => by
        have : some k = some w1.heap.size := h
        injection this with this
        omega))
      have HS4 : (fun w' : World => w'.cell? ⟨D, 7, none⟩ = some (.slice (some ⟨fb, 0, none⟩) S.k S.k) ∧ w'.cell? ⟨fb, o * 3 + c, none⟩ = some (.slice A L cp)) w4 := ⟨hF4.held k7 (by have := HDL.out; show ¬ w1.heap.size ≤ D; omega), hF4.held cf (by have := HFB.out; show ¬ w1.heap.size ≤ fb; omega)⟩
      have zf4 : w4.frozen? ⟨fb, o * 3 + c, none⟩ = false := by
        rw [World.frozen?_of_block (a := ⟨fb, o * 3 + c, none⟩) (hF4.block fb HFB.out (by have := HFB.out; show ¬ w1.heap.size ≤ fb; omega))]
        exact zf
      have HEND := Lib.hid (home_end (i := o * 3 + c) HDR.out HF1.out hF4 HL.out hgb (HF1.out.size) hown4 hcap)
      have cf4 := HS4.2
      have k74 := HS4.1
      refine hK.out _ _ (fun _ => HS4) ?_
      clear hK K hown4 hg4 hor4 hgb hglt hF4 hcap
      refine AnyK.one (i := 18) rfl (by kernel_rfl) (fun K hK => ?_)
      go_simp
      refine hK.out _ _ (fun _ => HS4) ?_
      clear hK K
      refine AnyK.one (i := 19) rfl (by kernel_rfl) (fun K hK => ?_)
      go_simp
      refine hK.out _ _ (fun _ => HS4) ?_
      clear hK K
      refine AnyK.one (i := 20) rfl (by kernel_rfl) (fun K hK => ?_)
      go_simp
      refine hK.out _ _ (fun h => absurd (h.symm.trans (by kernel_rfl : _ = true)) (by decide)) ?_
      clear hK K
      refine AnyK.done (by kernel_rfl) ?_ _
      clear k7 cf zf HR1 hfa HS1 HLIT HRA HSZA HS4 zf4 cf4 k74
      go_wp2_with fail
      go_end0
      exact ⟨rfl, HEND.out⟩
    · go_simp
      refine hK.out _ _ (fun _ => HS1) ?_
      clear hK K
      refine AnyK.one (i := 17) rfl (by kernel_rfl) (fun K hK => ?_)
      refine step_app (w1.drew.alloc (.cells #[.int .i64 (n : Int)] 3)) (by rfl) _ _ _ (by rfl) w1.heap.size 3 i0 _ 1 8 Try.underlying75 hi0 hz0 hz1 hz2 rfl (by omega) (.slice (some ⟨w1.heap.size, 0, none⟩) 1 1) 1 _ (by rfl) HLIT.out Q A L cp (nc l) (by rfl) HRA.out (nc_one l) (by unfold maxLen; omega) (by omega) HSZA.out ?_
      intro v' w4 hown4 hg4 hor4
      obtain ⟨g, cap, hv', hgb, hglt⟩ := hown4.form (by omega)
      subst hv'
      have hcap : 1 + L ≤ cap := by
        rcases own_form hown4 with ⟨h1, _⟩ | ⟨_, _, h2, _⟩
        · cases h1
        · exact h2
      have hF4 : Fr (fun k => w1.heap.size ≤ k) w1 w4 := (((Fr.refl (fun k => w1.heap.size ≤ k) w1).drew).trans (hfa.f0)).trans ((Fr.grown hg4).mono (fun k h => by
        have : some k = some w1.heap.size := h
        injection this with this
        omega))
      have HS4 : (fun w' : World => w'.cell? ⟨D, 7, none⟩ = some (.slice (some ⟨fb, 0, none⟩) S.k S.k) ∧ w'.cell? ⟨fb, o * 3 + c, none⟩ = some (.slice A L cp)) w4 := ⟨hF4.held k7 (by have := HDL.out; show ¬ w1.heap.size ≤ D; omega), hF4.held cf (by have := HFB.out; show ¬ w1.heap.size ≤ fb; omega)⟩
      have zf4 : w4.frozen? ⟨fb, o * 3 + c, none⟩ = false := by
        rw [World.frozen?_of_block (a := ⟨fb, o * 3 + c, none⟩) (hF4.block fb HFB.out (by have := HFB.out; show ¬ w1.heap.size ≤ fb; omega))]
        exact zf
      have HEND := Lib.hid (home_end (i := o * 3 + c) HDR.out HF1.out hF4 HL.out hgb (HF1.out.size) hown4 hcap)
      have cf4 := HS4.2
      have k74 := HS4.1
      refine hK.out _ _ (fun _ => HS4) ?_
      clear hK K hown4 hg4 hor4 hgb hglt hF4 hcap
      refine AnyK.one (i := 19) rfl (by kernel_rfl) (fun K hK => ?_)
      go_simp
      refine hK.out _ _ (fun _ => HS4) ?_
      clear hK K
      refine AnyK.one (i := 20) rfl (by kernel_rfl) (fun K hK => ?_)
      go_simp
      refine hK.out _ _ (fun h => absurd (h.symm.trans (by kernel_rfl : _ = true)) (by decide)) ?_
      clear hK K
      refine AnyK.done (by kernel_rfl) ?_ _
      clear k7 cf zf HR1 hfa HS1 HLIT HRA HSZA HS4 zf4 cf4 k74
      go_wp2_with fail
      go_end0
      exact ⟨rfl, HEND.out⟩
  · go_simp
    refine hK.out _ _ (fun _ => HS0) ?_
    clear hK K
    refine AnyK.one (i := 7) rfl (by kernel_rfl) (fun K hK => ?_)
    go_simp
    have hfa : Fr F0 w1.drew (w1.drew.alloc (.cells #[.int .i64 (n : Int)] 3)) := (Fr.refl _ _).alloc _
    have HS1 : (fun w' : World => w'.cell? ⟨D, 7, none⟩ = some (.slice (some ⟨fb, 0, none⟩) S.k S.k) ∧ w'.cell? ⟨fb, o * 3 + c, none⟩ = some (.slice A L cp)) (w1.drew.alloc (.cells #[.int .i64 (n : Int)] 3)) := ⟨hfa.held k7 (fun h => h), hfa.held cf (fun h => h)⟩
    have HLIT : Hid ((w1.drew.alloc (.cells #[.int .i64 (n : Int)] 3)).ownsRow w1.heap.size 3 1 (.slice (some ⟨w1.heap.size, 0, none⟩) 1 1) 1 [.int .i64 (n : Int)]) := Lib.hid ⟨rfl, .inr ⟨w1.heap.size, 1, #[.int .i64 (n : Int)], rfl, Nat.le_refl _, heap_alloc_new _ _, by decide, by decide, rfl, rfl⟩⟩
    have HRA := Lib.hid (HR1.out.fr (((Fr.refl F0 w1).drew).trans hfa) (fun _ _ h => h))
    have HSZA : Hid (w1.heap.size ≤ (w1.drew.alloc (.cells #[.int .i64 (n : Int)] 3)).heap.size) := hfa.size
    refine hK.out _ _ (fun _ => HS1) ?_
    clear hK K
    refine AnyK.one (i := 17) rfl (by kernel_rfl) (fun K hK => ?_)
    refine step_app (w1.drew.alloc (.cells #[.int .i64 (n : Int)] 3)) (by rfl) _ _ _ (by rfl) w1.heap.size 3 i0 _ 1 8 Try.underlying75 hi0 hz0 hz1 hz2 rfl (by omega) (.slice (some ⟨w1.heap.size, 0, none⟩) 1 1) 1 _ (by rfl) HLIT.out Q A L cp (nc l) (by rfl) HRA.out (nc_one l) (by unfold maxLen; omega) (by omega) HSZA.out ?_
    intro v' w4 hown4 hg4 hor4
    obtain ⟨g, cap, hv', hgb, hglt⟩ := hown4.form (by omega)
    subst hv'
    have hcap : 1 + L ≤ cap := by
      rcases own_form hown4 with ⟨h1, _⟩ | ⟨_, _, h2, _⟩
      · cases h1
      · exact h2
    have hF4 : Fr (fun k => w1.heap.size ≤ k) w1 w4 := (((Fr.refl (fun k => w1.heap.size ≤ k) w1).drew).trans (hfa.f0)).trans ((Fr.grown hg4).mono (fun k h => by
      have : some k = some w1.heap.size := h
      injection this with this
      omega))
    have HS4 : (fun w' : World => w'.cell? ⟨D, 7, none⟩ = some (.slice (some ⟨fb, 0, none⟩) S.k S.k) ∧ w'.cell? ⟨fb, o * 3 + c, none⟩ = some (.slice A L cp)) w4 := ⟨hF4.held k7 (by have := HDL.out; show ¬ w1.heap.size ≤ D; omega), hF4.held cf (by have := HFB.out; show ¬ w1.heap.size ≤ fb; omega)⟩
    have zf4 : w4.frozen? ⟨fb, o * 3 + c, none⟩ = false := by
      rw [World.frozen?_of_block (a := ⟨fb, o * 3 + c, none⟩) (hF4.block fb HFB.out (by have := HFB.out; show ¬ w1.heap.size ≤ fb; omega))]
      exact zf
    have HEND := Lib.hid (home_end (i := o * 3 + c) HDR.out HF1.out hF4 HL.out hgb (HF1.out.size) hown4 hcap)
    have cf4 := HS4.2
    have k74 := HS4.1
    refine hK.out _ _ (fun _ => HS4) ?_
    clear hK K hown4 hg4 hor4 hgb hglt hF4 hcap
    refine AnyK.one (i := 19) rfl (by kernel_rfl) (fun K hK => ?_)
    go_simp
    refine hK.out _ _ (fun _ => HS4) ?_
    clear hK K
    refine AnyK.one (i := 20) rfl (by kernel_rfl) (fun K hK => ?_)
    go_simp
    refine hK.out _ _ (fun h => absurd (h.symm.trans (by kernel_rfl : _ = true)) (by decide)) ?_
    clear hK K
    refine AnyK.done (by kernel_rfl) ?_ _
    clear k7 cf zf HR1 hfa HS1 HLIT HRA HSZA HS4 zf4 cf4 k74
    go_wp2_with fail
    go_end0
    exact ⟨rfl, HEND.out⟩
end
end Go.Proofs.Ytichhieopnbgpaa
