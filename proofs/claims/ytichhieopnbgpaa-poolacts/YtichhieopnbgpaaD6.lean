/-
  The document's Give. No condition.
-/
import Derived.Test.YtichhieopnbgpaaD5
import Derived.Test.YtichhieopnbgpaaD7
namespace Go.Proofs.Ytichhieopnbgpaa
open Go.RowKit

section
variable {w : World} {Q : Nat → Prop} {x D fb rb : Nat} {S : Shp} {fv : List Value} {fl : List (List Nat)} {rv : List Value} {rl : List (List Nat)} {tv : Value} {tk : List Bool}
/-- The document's pool behind a step of its own. -/
def DStep (w : World) (Q : Nat → Prop) (x D fb rb : Nat) (S : Shp) (rv : List Value) (tv : Value) (fl : List (List Nat)) (rl : List (List Nat)) (tk : List Bool) (w' : World) : Prop :=
  ∃ Q' fv' rv', DR w' Q' x D fb rb S fv' fl rv' rl tv tk ∧ Fr (DB Q D fb rb rv tv) w w' ∧ ∀ k, DB Q' D fb rb rv' tv k → DB Q D fb rb rv tv k ∨ w.heap.size ≤ k
/-- A row that others gave back is another one. -/
theorem DR.setback {w4 : World} (h : DR w Q x D fb rb S fv fl rv rl tv tk) {i : Nat} {gv nv : Value} {l' : List Nat} (hgv : rv[i]? = some gv) (hF : Fr (fun k => gv.ownBlock = some k) w w4) (hO : w4.ownsRow x 3 1 nv l'.length (nc l'))
    (hor : ∀ k, nv.ownBlock = some k → gv.ownBlock = some k ∨ w.heap.size ≤ k) : DR (w4.setCell ⟨rb, i, none⟩ nv) Q x D fb rb S fv fl (rv.set i nv) (rl.set i l') tv tk := by
  have hgm := List.mem_of_getElem? hgv
  have hi : ∀ {b : Nat}, gv.ownBlock = some b → IntB w b := fun hb => h.ownInt hgm hb
  have hQ : ∀ b, Q b → ¬ gv.ownBlock = some b := fun b hb e => h.rq gv hgm b e hb
  have hD4 := h.hD.fr hF (fun e => (hi e).ne h.hD (by decide) rfl)
  have hf4 := h.hf.fr hF (fun e => (hi e).ne h.hf (by decide) rfl)
  have hr4 := h.hr.fr hF (fun e => (hi e).ne h.hr (by decide) rfl)
  have ht4 := own_fr h.ht hF (fun g hg e => h.tvint (hi e) hg)
  have rr4 := h.rr.turn hgv hF hO hor
  have hf : Fr (fun q => q = rb) w4 (w4.setCell ⟨rb, i, none⟩ nv) := (Fr.refl (fun q => q = rb) w4).setCell (p := ⟨rb, i, none⟩) (.inl rfl) _
  have hr5 := hr4.set_ i nv
  rw [List.setIfInBounds_toArray] at hr5
  have qi4 : ∀ b, Q b → IntB w4 b := fun b hb => (h.qi b hb).fr hF (hQ b hb)
  refine ⟨hD4.fr hf (Blk.ne_ hD4 hr4 (by decide)), hf4.fr hf (Blk.ne_ hf4 hr4 (by decide)), h.fl3, h.fvl, fun j v l h1 h2 => ?_, fun b hb => (qi4 b hb).fr hf ((qi4 b hb).ne hr4 (by decide)), hr5, rr4.fr hf (fun v hv k hk e => ?_), by rw [List.length_set]; exact h.rll, fun v hv b hb hq => ?_, own_fr ht4 hf (fun g hg e => by subst e; exact own_ne ht4 hr4 (by decide) hg), h.htl, Nat.le_trans h.hx (Nat.le_trans hF.size hf.size)⟩
  · obtain ⟨A, c, e, hc, hR⟩ := h.row j v l h1 h2
    exact ⟨A, c, e, hc, (hR.fr hF hQ).fr hf (fun b hb => (qi4 b hb).ne hr4 (by decide))⟩
  · subst e
    obtain ⟨j, hj⟩ := List.getElem?_of_mem hv
    obtain ⟨l, hl⟩ := of_lt (show j < (rl.set i l').length by have := lt_of hj; have := rr4.len; omega)
    exact own_ne (rr4.own j v l hj hl) hr4 (by decide) hk
  · obtain ⟨j, hj⟩ := List.getElem?_of_mem hv
    rcases set_at hj with ⟨_, rfl⟩ | ⟨_, hj⟩
    · rcases hor b hb with h1 | h1
      · exact h.rq gv hgm b h1 hq
      · have := (h.qi b hq).lt; omega
    · exact h.rq v (List.mem_of_getElem? hj) b hb hq
theorem DB.set {i : Nat} {gv nv : Value} {m : Nat} (hgv : rv[i]? = some gv) (hor : ∀ k, nv.ownBlock = some k → gv.ownBlock = some k ∨ m ≤ k) {k : Nat} (h : DB Q D fb rb (rv.set i nv) tv k) : DB Q D fb rb rv tv k ∨ m ≤ k := by
  rcases h with h | h | h | h | h | ⟨v, hv, hk⟩
  · exact .inl (.inl h)
  · exact .inl (.inr (.inl h))
  · exact .inl (.inr (.inr (.inl h)))
  · exact .inl (.inr (.inr (.inr (.inl h))))
  · exact .inl (.inr (.inr (.inr (.inr (.inl h)))))
  · obtain ⟨j, hj⟩ := List.getElem?_of_mem hv
    rcases set_at hj with ⟨_, rfl⟩ | ⟨_, hj⟩
    · rcases hor k hk with h1 | h1
      · exact .inl (.inr (.inr (.inr (.inr (.inr ⟨gv, List.mem_of_getElem? hgv, h1⟩)))))
      · exact .inr h1
    · exact .inl (.inr (.inr (.inr (.inr (.inr ⟨v, List.mem_of_getElem? hj, hk⟩)))))

set_option maxHeartbeats 4000000 in
set_option maxRecDepth 100000 in
theorem dwhere_out (h : DR w Q x D fb rb S fv fl rv rl tv tk) (n : Int) (hn : n < 1 ∨ (S.many : Int) < n) :
    Calls Try.prog 25 #[.pointer (some ⟨D, 0, none⟩), .int .i64 n] w fun e w' => e = .returned (.tuple #[.int .i64 0, .int .i64 0, .int .i64 0, .int .i64 0, .bool false]) ∧ w' = w := by
  obtain ⟨-, -, -, k9⟩ := h.cells
  obtain ⟨tb, tc, rfl, htc⟩ := h.tvform
  obtain ⟨T, hT⟩ : ∃ T, T = tk.length := ⟨_, rfl⟩
  have hlen := h.htl
  rw [← hT] at k9 hlen
  by_cases h1 : n < 1
  · have d1 : decide (n < 1) = true := decide_eq_true h1
    clear h hn htc hlen hT
    go_enter Try.func25, Try.ntmps25
    go_wp2_with fail
    refine bodyPost_ret (results_5 rfl _) rfl ?_
    exact ⟨rfl, rfl⟩
  · have d1 : decide (n < 1) = false := decide_eq_false h1
    have d2 : decide ((T : Int) ≤ n) = true := decide_eq_true (by omega)
    clear h hn htc hlen hT
    go_enter Try.func25, Try.ntmps25
    go_wp2_with fail
    refine bodyPost_ret (results_5 rfl _) rfl ?_
    exact ⟨rfl, rfl⟩
/-- What Where tells, of whatever number. -/
theorem dwhere_all (h : DR w Q x D fb rb S fv fl rv rl tv tk) (hk : Small S) (n : Int) : ∃ a z o c : Nat, ∃ f : Bool,
    Calls Try.prog 25 #[.pointer (some ⟨D, 0, none⟩), .int .i64 n] w fun e w' => e = .returned (.tuple #[.int .i64 (a : Int), .int .i64 (z : Int), .int .i64 (o : Int), .int .i64 (c : Int), .bool f]) ∧ Fr F0 w w' := by
  by_cases hn : n < 1 ∨ (S.many : Int) < n
  · exact ⟨0, 0, 0, 0, false, (dwhere_out h n hn).mono (fun e w' ⟨he, hw⟩ => ⟨he, hw ▸ Fr.refl _ _⟩)⟩
  · obtain ⟨m, rfl⟩ : ∃ m : Nat, n = m := ⟨n.toNat, by omega⟩
    obtain ⟨a, z, o, c, hw⟩ := whr_some (S := S) (n := m) (by omega) (by omega)
    have := dwhere_in h hk m (by omega) (by omega)
    rw [hw] at this
    exact ⟨a, z, o, c, true, this⟩
set_option maxHeartbeats 4000000 in
theorem dgive_no (h : DR w Q x D fb rb S fv fl rv rl tv tk) (hk : Small S) (i n : Int) (hi : i < 0 ∨ (S.k : Int) ≤ i) :
    Calls Try.prog 18 #[.pointer (some ⟨D, 0, none⟩), .int .i64 i, .int .i64 n] w fun e w' => e = .returned (.int .i64 1) ∧ Fr F0 w w' := by
  obtain ⟨a, z, o, c, f, hW⟩ := dwhere_all h hk n
  have HW := Lib.hid hW
  have HD := Lib.hid h
  clear h hk hW
  go_enter Try.func18, Try.ntmps18
  go_wp2_with fail
  refine HW.out.mono ?_
  rintro e w1 ⟨rfl, hF1⟩
  have HF1 := Lib.hid hF1
  have HWK := Lib.hid (dworker_no w1 D S.k ((HD.out.f0 hF1).cells.1) i hi)
  clear hF1 hi
  go_wp2_with fail
  refine HWK.out.mono ?_
  rintro e w2 ⟨rfl, rfl⟩
  go_wp2_with fail
  go_ret
  exact ⟨rfl, HF1.out⟩
set_option maxHeartbeats 4000000 in
theorem dgive_out (h : DR w Q x D fb rb S fv fl rv rl tv tk) (i : Nat) (hi : i < S.k) (n : Int) (hn : n < 1 ∨ (S.many : Int) < n) :
    Calls Try.prog 18 #[.pointer (some ⟨D, 0, none⟩), .int .i64 (i : Int), .int .i64 n] w fun e w' => e = .returned (.int .i64 12) ∧ Fr F0 w w' := by
  have HW := Lib.hid (dwhere_out h n hn)
  have HWK := Lib.hid (dworker_yes w D S.k (h.cells.1) i hi)
  clear h hn
  go_enter Try.func18, Try.ntmps18
  go_wp2_with fail
  refine HW.out.mono ?_
  rintro e w1 ⟨rfl, rfl⟩
  go_wp2_with fail
  refine HWK.out.mono ?_
  rintro e w2 ⟨rfl, rfl⟩
  go_wp2_with fail
  go_ret
  exact ⟨rfl, Fr.refl _ _⟩

theorem DStep.refl (h : DR w Q x D fb rb S fv fl rv rl tv tk) {w' : World} (hf : Fr F0 w w') : DStep w Q x D fb rb S rv tv fl rl tk w' :=
  ⟨Q, fv, rv, h.f0 hf, hf.f0, fun _ hk => .inl hk⟩

set_option maxHeartbeats 8000000 in
set_option maxRecDepth 100000 in
theorem dgive_in (h : DR w Q x D fb rb S fv fl rv rl tv tk) (hk : Small S) (i : Nat) (hi : i < S.k) (n a z o c : Nat) (hw : whr S n = some (a, z, o, c)) (hlen : ∀ l ∈ fl, l.length ≤ 1000) (hlen2 : ∀ l ∈ rl, l.length ≤ 1000) :
    Calls Try.prog 18 #[.pointer (some ⟨D, 0, none⟩), .int .i64 (i : Int), .int .i64 (n : Int)] w fun e w' =>
      (tk[n]? = some false → e = .returned (.int .i64 11) ∧ DStep w Q x D fb rb S rv tv fl rl tk w') ∧
      (tk[n]? = some true → i = o → e = .returned (.int .i64 0) ∧ DStep w Q x D fb rb S rv tv (fl.set (o * 3 + c) (n :: fl.getD (o * 3 + c) [])) rl (tk.set n false) w') ∧
      (tk[n]? = some true → i ≠ o → e = .returned (.int .i64 0) ∧ DStep w Q x D fb rb S rv tv fl (rl.set o (rl.getD o [] ++ [n])) (tk.set n false) w') := by
  obtain ⟨i0, hi0, hz0, hz1, hz2⟩ := info_parts info_int
  have ha := whr_at hw
  have hnm := ha.nm
  have hok := ha.own
  have hc3 := ha.cls
  have hk4 := hk.k
  have hsm := hk.n
  have HW := Lib.hid (dwhere_in h hk n ha.n1 ha.nm)
  rw [hw] at HW
  simp only [whrV] at HW
  obtain ⟨tb, tc, rfl, htc⟩ := h.tvform
  obtain ⟨T, hT⟩ : ∃ T, T = tk.length := ⟨_, rfl⟩
  have hT2 : T = S.many + 1 := by rw [hT]; exact h.htl
  have hnT : n < tk.length := by omega
  obtain ⟨f, hf⟩ := of_lt hnT
  have HK := Lib.hid hk
  have HWN := Lib.hid hw
  have HD := Lib.hid h
  have HTT := Lib.hid hT
  have HL1 := Lib.hid hlen
  have HL2 := Lib.hid hlen2
  have g1 : (n : Int) < (T : Int) := by omega
  clear ha hw h hk htc hT hlen hlen2
  cases f with
  | false =>
    have HFF := Lib.hid hf
    clear hf
    go_enter Try.func18, Try.ntmps18
    go_wp2_with fail
    refine HW.out.mono ?_
    rintro e w1 ⟨rfl, hF1⟩
    have HF1 := Lib.hid hF1
    have hD1 := HD.out.f0 hF1
    obtain ⟨k0, -, -, k9⟩ := hD1.cells
    rw [← HTT.out] at k9
    have ct : w1.cell? ⟨tb, n, none⟩ = some (.bool false) := by
      rw [World.ownsRow.cellAt hD1.ht n (by omega), bc_at HFF.out]
    have HWK := Lib.hid (dworker_yes w1 D S.k k0 i hi)
    clear hF1 hD1 HW
    go_wp2_with fail
    refine HWK.out.mono ?_
    rintro e w2 ⟨rfl, rfl⟩
    go_wp2_with fail
    go_ret
    refine ⟨fun _ => ⟨rfl, DStep.refl HD.out HF1.out⟩, fun h => ?_, fun h => ?_⟩
    · rw [HFF.out] at h; cases h
    · rw [HFF.out] at h; cases h
  | true =>
    have HFF := Lib.hid hf
    clear hf
    have b1 : i = o ∨ i ≠ o := by omega
    rcases b1 with hio | hio
    · subst hio
      go_enter Try.func18, Try.ntmps18
      go_wp2_with fail
      refine HW.out.mono ?_
      rintro e w1 ⟨rfl, hF1⟩
      have HF1 := Lib.hid hF1
      have hD1 := HD.out.f0 hF1
      obtain ⟨k0, -, -, k9⟩ := hD1.cells
      rw [← HTT.out] at k9
      have ct : w1.cell? ⟨tb, n, none⟩ = some (.bool true) := by
        rw [World.ownsRow.cellAt hD1.ht n (by omega), bc_at HFF.out]
      have zt : w1.frozen? ⟨tb, n, none⟩ = false := World.ownsRow.frozenAt hD1.ht n
      have HWK := Lib.hid (dworker_yes w1 D S.k k0 i hi)
      have HD2 := Lib.hid (hD1.flag n false hnT)
      obtain ⟨w2, hw2⟩ : ∃ w2, w2 = w1.setCell ⟨tb, n, none⟩ (.bool false) := ⟨_, rfl⟩
      have HF2 : Hid (Fr (fun k => k = tb) w w2) := Lib.hid (by
        rw [hw2]
        exact (hF1.f0 (B := fun k => k = tb)).setCell (p := ⟨tb, n, none⟩) (.inl rfl) _)
      rw [← hw2] at HD2
      clear hF1 hD1 HW
      go_wp2_with fail
      refine HWK.out.mono ?_
      rintro e wk ⟨rfl, rfl⟩
      obtain ⟨l, hl⟩ := of_lt (show i * 3 + c < fl.length by have := HD.out.fl3; omega)
      have HH := Lib.hid (dhome_any HD2.out HK.out n a z i c HWN.out l hl (HL1.out l (List.mem_of_getElem? hl)))
      have HGL := Lib.hid (getDL hl)
      clear hl
      go_wp2_with fail
      rw [← hw2]
      refine HH.out.mono ?_
      rintro e w3 ⟨rfl, Q', fv', hD3, hF3, hQ3, hQ4⟩
      have HD3 := Lib.hid hD3
      have HF3 := Lib.hid hF3
      have HQ3 := Lib.hid hQ3
      clear hD3 hF3 hQ3 hQ4 HH k0 k9 ct zt hw2
      go_wp2_with fail
      go_ret
      refine ⟨fun h => ?_, fun _ _ => ⟨rfl, Q', fv', rv, by rw [HGL.out]; exact HD3.out, ?_, fun k hk => ?_⟩, fun _ h => absurd rfl h⟩
      · rw [HFF.out] at h; cases h
      · exact (HF2.out.mono (fun k hk => .inr (.inr (.inr (.inl (by subst hk; rfl)))))).trans (HF3.out.mono (fun k hk => .inr (.inl hk)))
      · have hs := HF2.out.size
        rcases hk with hk | hk | hk | hk | hk | hk
        · exact .inl (.inl hk)
        · exact .inl (.inr (.inl hk))
        · exact .inl (.inr (.inr (.inl hk)))
        · exact .inl (.inr (.inr (.inr (.inl hk))))
        · rcases HQ3.out k hk with h1 | h1
          · exact .inl (.inr (.inr (.inr (.inr (.inl h1)))))
          · exact .inr (by omega)
        · exact .inl (.inr (.inr (.inr (.inr (.inr hk)))))
    · have e1 : ((o : Int) == (i : Int)) = false := beq_eq_false_iff_ne.2 (by omega)
      have e2 : decide ((o : Int) = (i : Int)) = false := decide_eq_false (by omega)
      have HIO := Lib.hid hio
      go_enter Try.func18, Try.ntmps18
      go_wp2_with fail
      refine HW.out.mono ?_
      rintro e w1 ⟨rfl, hF1⟩
      have HF1 := Lib.hid hF1
      have hD1 := HD.out.f0 hF1
      obtain ⟨k0, -, -, k9⟩ := hD1.cells
      rw [← HTT.out] at k9
      have ct : w1.cell? ⟨tb, n, none⟩ = some (.bool true) := by
        rw [World.ownsRow.cellAt hD1.ht n (by omega), bc_at HFF.out]
      have zt : w1.frozen? ⟨tb, n, none⟩ = false := World.ownsRow.frozenAt hD1.ht n
      have HWK := Lib.hid (dworker_yes w1 D S.k k0 i hi)
      have HD2 := Lib.hid (hD1.flag n false hnT)
      obtain ⟨w2, hw2⟩ : ∃ w2, w2 = w1.setCell ⟨tb, n, none⟩ (.bool false) := ⟨_, rfl⟩
      have HF2 : Hid (Fr (fun k => k = tb) w w2) := Lib.hid (by
        rw [hw2]
        exact (hF1.f0 (B := fun k => k = tb)).setCell (p := ⟨tb, n, none⟩) (.inl rfl) _)
      rw [← hw2] at HD2
      clear hF1 hD1 HW
      go_wp2_with fail
      refine HWK.out.mono ?_
      rintro e wk ⟨rfl, rfl⟩
      obtain ⟨v, hv⟩ := of_lt (show o < rv.length by have := HD.out.rr.len; have := HD.out.rll; omega)
      obtain ⟨l, hl⟩ := of_lt (show o < rl.length by have := HD.out.rll; omega)
      have HGL := Lib.hid (getDL hl)
      have hll := HL2.out l (List.mem_of_getElem? hl)
      have hown := HD2.out.rr.own o v l hv hl
      obtain ⟨A, cp, rfl⟩ := own_slice hown
      obtain ⟨L, hL⟩ : ∃ L, L = l.length := ⟨_, rfl⟩
      rw [← hL] at hown hv hll
      have HV := Lib.hid hv
      have HLL := Lib.hid hL
      have k8 : w2.cell? ⟨D, 8, none⟩ = some (.slice (some ⟨rb, 0, none⟩) S.k S.k) := HD2.out.cells.2.2.1
      have cr : w2.cell? ⟨rb, o, none⟩ = some (.slice A L cp) := by rw [HD2.out.hr.cell, List.getElem?_toArray, HV.out]
      have zr : w2.frozen? ⟨rb, o, none⟩ = false := HD2.out.hr.frozen _
      have g5 : (o : Int) < (S.k : Int) := by omega
      have HOWN := Lib.hid hown
      clear hl hv hown hL
      go_wp2_with fail
      rw [← hw2]
      clear hw2
      refine region_K 13 (fun w' : World => w'.cell? ⟨D, 8, none⟩ = some (.slice (some ⟨rb, 0, none⟩) S.k S.k) ∧ w'.cell? ⟨rb, o, none⟩ = some (.slice A L cp)) (by kernel_rfl) ?_
      have HS0 : (fun w' : World => w'.cell? ⟨D, 8, none⟩ = some (.slice (some ⟨rb, 0, none⟩) S.k S.k) ∧ w'.cell? ⟨rb, o, none⟩ = some (.slice A L cp)) w2.drew := ⟨k8, cr⟩
      refine AnyK.take (i := 0) rfl (by decide) (by kernel_rfl) (by kernel_rfl) (by kernel_rfl) (fun _ _ _ _ h => h) HS0 (fun K hK => ?_)
      go_simp
      refine hK.out _ ⟨_, by rfl, Or.inl ⟨by rfl, by intro w hSw; (try dsimp only at hSw); obtain ⟨hS1, hS2⟩ := hSw; go_simp⟩, ?_⟩
      clear hK K
      refine AnyK.take (i := 1) rfl (by decide) (by kernel_rfl) (by kernel_rfl) (by kernel_rfl) (fun _ _ _ _ h => h) HS0 (fun K hK => ?_)
      go_simp
      refine hK.out _ ⟨_, by rfl, Or.inl ⟨by rfl, by intro w hSw; (try dsimp only at hSw); obtain ⟨hS1, hS2⟩ := hSw; go_simp⟩, ?_⟩
      clear hK K
      refine AnyK.take (i := 2) rfl (by decide) (by kernel_rfl) (by kernel_rfl) (by kernel_rfl) (fun _ _ _ _ h => h) HS0 (fun K hK => ?_)
      go_simp
      refine hK.out _ ⟨_, by rfl, Or.inl ⟨by rfl, by intro w hSw; (try dsimp only at hSw); obtain ⟨hS1, hS2⟩ := hSw; go_simp⟩, ?_⟩
      clear hK K
      refine AnyK.take (i := 3) rfl (by decide) (by kernel_rfl) (by kernel_rfl) (by kernel_rfl) (fun _ _ _ _ h => h) HS0 (fun K hK => ?_)
      go_simp
      refine hK.out _ ⟨_, by rfl, Or.inl ⟨by rfl, by intro w hSw; (try dsimp only at hSw); obtain ⟨hS1, hS2⟩ := hSw; go_simp⟩, ?_⟩
      clear hK K
      refine AnyK.take (i := 4) rfl (by decide) (by kernel_rfl) (by kernel_rfl) (by kernel_rfl) (fun _ _ _ _ h => h) HS0 (fun K hK => ?_)
      go_simp
      refine hK.out _ ⟨_, by rfl, Or.inl ⟨by rfl, by intro w hSw; (try dsimp only at hSw); obtain ⟨hS1, hS2⟩ := hSw; go_simp⟩, ?_⟩
      clear hK K
      refine AnyK.take (i := 5) rfl (by decide) (by kernel_rfl) (by kernel_rfl) (by kernel_rfl) (fun _ _ _ _ h => h) HS0 (fun K hK => ?_)
      go_simp
      refine hK.out _ ⟨_, by rfl, Or.inl ⟨by rfl, by intro w hSw; (try dsimp only at hSw); obtain ⟨hS1, hS2⟩ := hSw; go_simp⟩, ?_⟩
      clear hK K
      refine AnyK.take (i := 6) rfl (by decide) (by kernel_rfl) (by kernel_rfl) (by kernel_rfl) (fun _ _ _ _ h => h) HS0 (fun K hK => ?_)
      go_simp
      refine hK.out _ ⟨_, by rfl, Or.inl ⟨by rfl, by intro w hSw; (try dsimp only at hSw); obtain ⟨hS1, hS2⟩ := hSw; go_simp⟩, ?_⟩
      clear hK K
      refine AnyK.take (i := 7) rfl (by decide) (by kernel_rfl) (by kernel_rfl) (by kernel_rfl) (fun _ _ _ _ h => h) HS0 (fun K hK => ?_)
      go_simp
      refine hK.out _ ⟨_, by rfl, Or.inl ⟨by rfl, by intro w hSw; (try dsimp only at hSw); obtain ⟨hS1, hS2⟩ := hSw; go_simp⟩, ?_⟩
      clear hK K
      refine AnyK.take (i := 8) rfl (by decide) (by kernel_rfl) (by kernel_rfl) (by kernel_rfl) (fun _ _ _ _ h => h) HS0 (fun K hK => ?_)
      go_simp
      refine hK.out _ ⟨_, by rfl, Or.inl ⟨by rfl, by intro w hSw; (try dsimp only at hSw); obtain ⟨hS1, hS2⟩ := hSw; go_simp⟩, ?_⟩
      clear hK K
      refine AnyK.take (i := 9) rfl (by decide) (by kernel_rfl) (by kernel_rfl) (by kernel_rfl) (fun _ _ _ _ h => h) HS0 (fun K hK => ?_)
      go_simp
      refine hK.out _ ⟨_, by rfl, Or.inl ⟨by rfl, by intro w hSw; (try dsimp only at hSw); obtain ⟨hS1, hS2⟩ := hSw; go_simp⟩, ?_⟩
      clear hK K
      refine AnyK.take (i := 10) rfl (by decide) (by kernel_rfl) (by kernel_rfl) (by kernel_rfl) (fun _ _ _ _ h => h) HS0 (fun K hK => ?_)
      go_simp
      refine hK.out _ ⟨_, by rfl, Or.inl ⟨by rfl, by intro w hSw; (try dsimp only at hSw); obtain ⟨hS1, hS2⟩ := hSw; go_simp⟩, ?_⟩
      clear hK K
      refine AnyK.take (i := 11) rfl (by decide) (by kernel_rfl) (by kernel_rfl) (by kernel_rfl) (fun _ _ _ _ h => h) HS0 (fun K hK => ?_)
      go_simp
      refine hK.out _ ⟨_, by rfl, Or.inl ⟨by rfl, by intro w hSw; (try dsimp only at hSw); obtain ⟨hS1, hS2⟩ := hSw; go_simp⟩, ?_⟩
      clear hK K
      refine AnyK.take (i := 12) rfl (by decide) (by kernel_rfl) (by kernel_rfl) (by kernel_rfl) (fun _ _ _ _ h => h) HS0 (fun K hK => ?_)
      go_simp
      refine hK.out _ ⟨_, by rfl, Or.inl ⟨by rfl, by intro w hSw; (try dsimp only at hSw); obtain ⟨hS1, hS2⟩ := hSw; go_simp⟩, ?_⟩
      clear hK K
      refine AnyK.one (i := 13) rfl (by kernel_rfl) (fun K hK => ?_)
      go_simp
      have hfa : Fr F0 w2 (w2.drew.alloc (.cells #[.int .i64 (n : Int)] 3)) := ((Fr.refl F0 w2).drew).alloc _
      have HS1 : (fun w' : World => w'.cell? ⟨D, 8, none⟩ = some (.slice (some ⟨rb, 0, none⟩) S.k S.k) ∧ w'.cell? ⟨rb, o, none⟩ = some (.slice A L cp)) (w2.drew.alloc (.cells #[.int .i64 (n : Int)] 3)) := ⟨hfa.held k8 (fun h => h), hfa.held cr (fun h => h)⟩
      have HOA := Lib.hid (own_fr HOWN.out hfa (fun _ _ h => h))
      have HRA : Hid (Rd (w2.drew.alloc (.cells #[.int .i64 (n : Int)] 3)) (fun _ => True) 1 (some ⟨w2.heap.size, 0, none⟩) 1 [.int .i64 (n : Int)]) := Lib.hid (Rd.of_blk (Blk.new w2.drew 3 [.int .i64 (n : Int)].toArray) rfl trivial)
      have HSZA : Hid (x ≤ (w2.drew.alloc (.cells #[.int .i64 (n : Int)] 3)).heap.size) := Nat.le_trans HD2.out.hx hfa.size
      have HDA := Lib.hid (HD2.out.f0 hfa)
      have HFA := Lib.hid hfa
      refine hK.out _ _ (fun _ => HS1) ?_
      clear hK K hfa
      refine AnyK.one (i := 14) rfl (by kernel_rfl) (fun K hK => ?_)
      refine step_app (w2.drew.alloc (.cells #[.int .i64 (n : Int)] 3)) (by rfl) _ _ _ (by rfl) x 3 i0 _ 1 8 Try.underlying75 hi0 hz0 hz1 hz2 rfl (by omega) (.slice A L cp) L _ (by rfl) HOA.out (fun _ => True) (some ⟨w2.heap.size, 0, none⟩) 1 1 [.int .i64 (n : Int)] (by rfl) HRA.out (by intro u hu; simp only [List.mem_singleton] at hu; subst hu; rfl) (by unfold maxLen; omega) (by omega) HSZA.out ?_
      intro v' w4 hown4 hg4 hor4
      have hF4 : Fr (fun k => (Value.slice A L cp).ownBlock = some k) (w2.drew.alloc (.cells #[.int .i64 (n : Int)] 3)) w4 := (Fr.grown hg4).mono (fun k h => h.symm)
      have hnr : (Value.slice A L cp).ownBlock ≠ some rb := fun e => own_ne HOA.out HDA.out.hr (by decide) e
      have hnD : (Value.slice A L cp).ownBlock ≠ some D := fun e => own_ne HOA.out HDA.out.hD (by decide) e
      have HS4 : (fun w' : World => w'.cell? ⟨D, 8, none⟩ = some (.slice (some ⟨rb, 0, none⟩) S.k S.k) ∧ w'.cell? ⟨rb, o, none⟩ = some (.slice A L cp)) w4 := ⟨hF4.held HS1.1 hnD, hF4.held HS1.2 hnr⟩
      have zr4 : w4.frozen? ⟨rb, o, none⟩ = false := by
        rw [World.frozen?_of_block (a := ⟨rb, o, none⟩) (hF4.block rb HDA.out.hr.lt hnr)]
        exact HDA.out.hr.frozen _
      have hown5 : w4.ownsRow x 3 1 v' (l ++ [n]).length (nc (l ++ [n])) := by
        have e1 : (l ++ [n]).length = L + 1 := by simp [HLL.out]
        have e2 : nc (l ++ [n]) = nc l ++ [.int .i64 (n : Int)] := by simp [nc]
        rw [e1, e2]; exact hown4
      have hor5 : ∀ k, v'.ownBlock = some k → (Value.slice A L cp).ownBlock = some k ∨ w2.heap.size ≤ k := by
        intro k hk
        rcases hor4 with h1 | h1
        · exact .inl (by rw [← h1]; exact hk)
        · rw [h1] at hk
          injection hk with hk
          have := HFA.out.size
          exact .inr (by omega)
      have HD5 := Lib.hid (HDA.out.setback HV.out hF4 hown5 (fun k hk => by
        rcases hor4 with h1 | h1
        · exact .inl (by rw [← h1]; exact hk)
        · rw [h1] at hk; injection hk with hk; exact .inr (by omega)))
      have HF5 : Hid (Fr (fun k => k = rb ∨ (Value.slice A L cp).ownBlock = some k) w2 (w4.setCell ⟨rb, o, none⟩ v')) := Lib.hid (((HFA.out.f0).trans (hF4.mono (fun k hk => .inr hk))).setCell (p := ⟨rb, o, none⟩) (.inl (.inl rfl)) _)
      have HOR5 := Lib.hid hor5
      have k84 := HS4.1
      have cr4 := HS4.2
      obtain ⟨nA, ncp, rfl⟩ := own_slice hown4
      refine hK.out _ _ (fun _ => HS4) ?_
      clear hK K hown4 hg4 hor4 hF4 hown5 hor5 hnr hnD
      refine AnyK.one (i := 15) rfl (by kernel_rfl) (fun K hK => ?_)
      go_simp
      refine hK.out _ _ (fun _ => HS4) ?_
      clear hK K
      refine AnyK.one (i := 16) rfl (by kernel_rfl) (fun K hK => ?_)
      go_simp
      refine hK.out _ _ (fun h => absurd (h.symm.trans (by kernel_rfl : _ = true)) (by decide)) ?_
      clear hK K
      refine AnyK.done (by kernel_rfl) ?_ _
      clear k0 k9 ct zt k8 cr zr HS0 HS1 HOA HRA HSZA HS4 zr4 k84 cr4 g5
      go_wp2_with fail
      go_ret
      refine ⟨fun h => ?_, fun _ h => absurd h HIO.out, fun _ _ => ⟨rfl, Q, fv, _, by rw [HGL.out]; exact HD5.out, ?_, fun k hk => ?_⟩⟩
      · rw [HFF.out] at h; cases h
      · exact (HF2.out.mono (fun k hk => .inr (.inr (.inr (.inl (by subst hk; rfl)))))).trans (HF5.out.mono (fun k hk => by
          rcases hk with hk | hk
          · exact .inr (.inr (.inl hk))
          · exact .inr (.inr (.inr (.inr (.inr ⟨_, List.mem_of_getElem? HV.out, hk⟩))))))
      · have hs := HF2.out.size
        rcases DB.set HV.out HOR5.out hk with h1 | h1
        · exact .inl h1
        · exact .inr (by omega)
end
end Go.Proofs.Ytichhieopnbgpaa
