/-
  Package pool: Where as the plain words have it; Take, release, Give, Free, Remote. No condition.
-/
import Derived.Test.YtichhieopnbgpaaP4
namespace Go.Proofs.Ytichhieopnbgpaa
open Go.RowKit

/-- What Where tells. -/
def whereV (S : Shp) (base : Nat) (n : Nat) : Value := match whr S n with
  | some (a, z, o, c) => .tuple #[.int .i64 ((base + a : Nat) : Int), .int .i64 (z : Int), .int .i64 (o : Int), .int .i64 (c : Int), .bool true]
  | none => .tuple #[.int .i64 0, .int .i64 0, .int .i64 0, .int .i64 0, .bool false]

theorem where_any (w : World) (P : Nat) (S : Shp) (base mp b t : Nat) (hP : PoolB w P S base mp b t) (hS : S.Ok) (hbase : base ≤ 100000) (n : Nat) (hn : 1 ≤ n) (hnb : n ≤ 9223372036854775807) :
    Calls Try.prog 24 #[.pointer (some ⟨P, 0, none⟩), .int .i64 (n : Int)] w fun e w' => e = .returned (whereV S base n) ∧ Fr F0 w w' := by
  unfold whereV whr
  rw [if_neg (by omega)]
  by_cases h0 : n - 1 < S.q0
  · rw [if_pos h0]
    exact (where_0 w P S base mp b t hP hS hbase n hn hnb h0)
  · rw [if_neg h0]
    by_cases h1 : n - 1 - S.q0 < S.q1
    · rw [if_pos h1]
      have := where_1 w P S base mp b t hP hS hbase n hn hnb (by omega) h1
      simpa [Nat.add_assoc] using this
    · rw [if_neg h1]
      by_cases h2 : n - 1 - S.q0 - S.q1 < S.q2
      · rw [if_pos h2]
        have := where_2 w P S base mp b t hP hS hbase n hn hnb (by omega) (by omega) h2
        simpa [Nat.add_assoc] using this
      · rw [if_neg h2]
        exact where_3 w P S base mp b t hP hS hbase n hn hnb (by omega) (by omega) (by omega)
theorem where_low (w : World) (P : Nat) (n : Int) (hn : n < 1) :
    Calls Try.prog 24 #[.pointer (some ⟨P, 0, none⟩), .int .i64 n] w fun e w' => e = .returned (.tuple #[.int .i64 0, .int .i64 0, .int .i64 0, .int .i64 0, .bool false]) ∧ w' = w := by
  have d : decide (n < 1) = true := decide_eq_true hn
  go_enter Try.func24, Try.ntmps24
  go_wp2_with fail
  refine bodyPost_ret (results_5 rfl _) rfl ?_
  exact ⟨rfl, rfl⟩
theorem where_nil (w : World) (n : Int) :
    Calls Try.prog 24 #[.pointer none, .int .i64 n] w fun e w' => e = .returned (.tuple #[.int .i64 0, .int .i64 0, .int .i64 0, .int .i64 0, .bool false]) ∧ w' = w := by
  go_enter Try.func24, Try.ntmps24
  go_wp2_with fail
  refine bodyPost_ret (results_5 rfl _) rfl ?_
  exact ⟨rfl, rfl⟩

section
variable (w : World) (x P mp ms b t : Nat) (S : Shp) (base : Nat) (st : Int) (vs : List Value) (ls : List (List Nat)) (tk : List Bool) (ws : List (Bool × Int))
theorem PR.cells (h : PR w x P mp ms b t S base st vs ls tk ws) : w.cell? ⟨P, 0, none⟩ = some (.pointer (some ⟨mp, 0, none⟩)) ∧ w.cell? ⟨P, 13, none⟩ = some (.slice (some ⟨b, 0, none⟩) S.k S.k) ∧ w.cell? ⟨P, 14, none⟩ = some (.slice (some ⟨t, 0, none⟩) (S.many + 1) (S.many + 1)) := by
  refine ⟨?_, ?_, ?_⟩ <;> (rw [h.hP.cell]; rfl)

set_option maxHeartbeats 8000000 in
set_option maxRecDepth 100000 in
theorem take_yes (h : PR w x P mp ms b t S base st vs ls tk ws) (hbase : base ≤ 100000) (i : Nat) (hi : i < S.k) (c : Nat) (hc : c < 3) (l0 : List Nat) (n : Nat) (hl : ls[i * 4 + c]? = some (l0 ++ [n])) (hll : l0.length ≤ 100000) (a z o cc : Nat) (hw : whr S n = some (a, z, o, cc))
    (hfree : ∀ k, k < z → ∃ m, ws[base + a + k]? = some (false, m)) :
    Calls Try.prog 15 #[.pointer (some ⟨P, 0, none⟩), .int .i64 (i : Int), .int .i64 (c : Int)] w fun e w' => e = .returned (.tuple #[.int .i64 (n : Int), .int .i64 0]) ∧ ∃ vs', PR w' x P mp ms b t S base st vs' (ls.set (i * 4 + c) l0) (tk.set n true) (setR ws (base + a) z (true, 0)) ∧ Fr (PB vs b t mp ms) w w' ∧ ∀ k, PB vs' b t mp ms k → PB vs b t mp ms k ∨ w.heap.size ≤ k := by
  have hat := whr_at hw
  have hS := h.hS
  obtain ⟨c0, c13, c14⟩ := h.cells
  obtain ⟨v, hv⟩ := of_lt (show i * 4 + c < vs.length by have := h.vlen; omega)
  have hown := h.hr.own _ v _ hv hl
  obtain ⟨A, cp, rfl⟩ := own_slice hown
  have hcb : w.cell? ⟨b, i * 4 + c, none⟩ = some (.slice A (l0.length + 1) cp) := by
    rw [h.hb.cell, List.getElem?_toArray, hv]; simp
  obtain ⟨g, hA, hlast⟩ := own_at hown (i := l0.length) (u := .int .i64 (n : Int)) (nc_at (by simp))
  subst hA
  have hmany := S.many
  have hq := hS.q
  have hnm : n ≤ 192000 := by have := hat.nm; unfold Shp.many at this; omega
  have g1 : (i : Int) < (S.k : Int) := by omega
  have g2 : (c : Int) < 3 := by omega
  have g3 : (n : Int) < (S.many : Int) + 1 := by have := hat.nm; omega
  have HHR := Lib.hid (hasrow_yes w P S base mp b t h.hP i hi c hc)
  have HWH : Hid (∀ w2, Fr F0 w w2 → Calls Try.prog 24 #[.pointer (some ⟨P, 0, none⟩), .int .i64 (n : Int)] w2 fun e w' => e = .returned (.tuple #[.int .i64 ((base + a : Nat) : Int), .int .i64 (z : Int), .int .i64 (o : Int), .int .i64 (cc : Int), .bool true]) ∧ Fr F0 w2 w') := Lib.hid (fun w2 hf => by
    have := where_any w2 P S base mp b t (h.f0 hf).hP hS hbase n hat.n1 (by omega)
    rwa [show whereV S base n = .tuple #[.int .i64 ((base + a : Nat) : Int), .int .i64 (z : Int), .int .i64 (o : Int), .int .i64 (cc : Int), .bool true] by unfold whereV; rw [hw]] at this)
  have H := Lib.hid h
  have HV := Lib.hid hv
  have HO := Lib.hid hown
  have HAT := Lib.hid hat
  have HLS := Lib.hid hl
  have HFREE := Lib.hid hfree
  obtain ⟨at_, hat_⟩ : ∃ at_, at_ = base + a := ⟨_, rfl⟩
  rw [← hat_] at HWH
  have HATE := Lib.hid hat_
  have hbl := cell_lt hcb
  obtain ⟨ix, hix⟩ : ∃ ix, ix = i * 4 + c := ⟨_, rfl⟩
  have hnl : (l0 ++ [n]).length = l0.length + 1 := by simp
  rw [hnl] at HO HV
  obtain ⟨L, hL⟩ : ∃ L, L = l0.length := ⟨_, rfl⟩
  rw [← hL] at HO HV hcb hlast hll
  have HLL := Lib.hid hL
  clear h hv hown hat hfree hat_ hw hl hmany hq hix ix hnl hL hS
  go_enter Try.func15, Try.ntmps15
  go_wp2_with fail
  refine HHR.out.mono ?_
  rintro e w1 ⟨rfl, rfl⟩
  go_wp2_with fail
  go_quiet (fail)
  go_wp2_with fail
  refine (HWH.out _ (by first | exact (Fr.refl _ _).drewN _ | exact (Fr.refl _ _).drew)).mono ?_
  rintro e w2 ⟨rfl, hF2⟩
  have HF2 : Hid (Fr F0 w1 w2) := Lib.hid (Fr.trans (by first | exact (Fr.refl _ _).drewN _ | exact (Fr.refl _ _).drew) hF2)
  have H2 := Lib.hid (H.out.f0 HF2.out)
  have hc0 := HF2.out.held c0 (fun h => h)
  have HLV := Lib.hid (live_ok w2 mp ms ws st H2.out.hm at_ z (by have := H2.out.w2; have := HAT.out.fits; rw [HATE.out]; omega) H2.out.w1 (by rw [HATE.out]; exact HFREE.out))
  clear hF2
  go_wp2_with fail
  refine HLV.out.mono ?_
  rintro e w3 ⟨rfl, hM3, hF3⟩
  have HF3 := Lib.hid hF3
  have H3 := Lib.hid (H2.out.mem hF3 hM3 (setR_length ws at_ z (true, 0)))
  obtain ⟨d0, d13, d14⟩ := H3.out.cells
  have hcb3 : w3.cell? ⟨b, i * 4 + c, none⟩ = some (.slice (some ⟨g, 0, none⟩) (L + 1) cp) := by rw [H3.out.hb.cell, List.getElem?_toArray, HV.out]
  have HO3 := Lib.hid (H3.out.hr.own _ _ _ HV.out HLS.out)
  have HT := Lib.hid (turn_less w3 x (some ⟨g, 0, none⟩) cp (L + 1) 1 L (l0 ++ [n]) (by have := HO3.out; rw [show (l0 ++ [n]).length = L + 1 by rw [HLL.out]; simp] at this; exact this) rfl (by omega) H3.out.hx)
  rw [show (l0 ++ [n]).take L = l0 by rw [HLL.out]; simp] at HT
  clear hM3 hF3 hcb hc0 c0 c13 c14
  go_wp2_with fail
  refine HT.out.mono ?_
  rintro e w4 ⟨A', c', rfl, hO4, hF4, hor4⟩
  rw [HLL.out] at hO4
  have HR4 := Lib.hid (H3.out.row HV.out hF4 hO4 (by rw [← HLL.out] at *; exact hor4))
  rw [← HLL.out] at HR4
  have HF4 := Lib.hid hF4
  have HOR4 := Lib.hid hor4
  have hvm := List.mem_of_getElem? HV.out
  have hcb4 : w4.cell? ⟨b, i * 4 + c, none⟩ = some (.slice (some ⟨g, 0, none⟩) (L + 1) cp) := hF4.held hcb3 (fun e => H3.out.ownT hvm H3.out.hb (by decide) e)
  have hfz4 : w4.frozen? ⟨b, i * 4 + c, none⟩ = false := by
    rw [World.frozen?_of_block (hF4.block b H3.out.hb.lt (fun e => H3.out.ownT hvm H3.out.hb (by decide) e))]
    exact H3.out.hb.frozen _
  clear hO4 hF4 hor4 hvm
  obtain ⟨w5, hw5⟩ : ∃ w5, w5 = w4.setCell ⟨b, i * 4 + c, none⟩ (.slice A' L c') := ⟨_, rfl⟩
  rw [← hw5] at HR4
  obtain ⟨u0, u13, u14⟩ := HR4.out.cells
  obtain ⟨tb, htb⟩ := of_lt (show n < tk.length by have := HR4.out.htl; have := HAT.out.nm; omega)
  have hct : w5.cell? ⟨t, n, none⟩ = some (.bool tb) := by rw [HR4.out.ht.cell, List.getElem?_toArray, bc_at htb]
  have hft := HR4.out.ht.frozen n
  have HR5 := Lib.hid (HR4.out.flag n true)
  rw [hw5] at u0 u13 u14 hct hft HR5
  clear htb
  go_wp2_with fail
  go_ret2
  refine ⟨rfl, _, by rw [← HATE.out]; exact HR5.out, ?_, fun k hk => ?_⟩
  · have f2 : Fr (PB vs b t mp ms) w1 w2 := HF2.out.f0
    have f3 : Fr (PB vs b t mp ms) w2 w3 := HF3.out.mono (fun k hk => hk.elim (fun h => .inr (.inr (.inl h))) (fun h => .inr (.inr (.inr (.inl h)))))
    have f4 : Fr (PB vs b t mp ms) w3 w4 := HF4.out.mono (fun k hk => .inr (.inr (.inr (.inr ⟨_, List.mem_of_getElem? HV.out, hk⟩))))
    exact (((f2.trans f3).trans f4).setCell (p := ⟨b, i * 4 + c, none⟩) (.inl (.inl rfl)) _).setCell (p := ⟨t, n, none⟩) (.inl (.inr (.inl rfl))) _
  · rcases PB.row HV.out HOR4.out hk with h1 | h1
    · exact .inl h1
    · exact .inr (by have := HF2.out.size; have := HF3.out.size; omega)

theorem take_empty (h : PR w x P mp ms b t S base st vs ls tk ws) (i : Nat) (hi : i < S.k) (c : Nat) (hc : c < 3) (hl : ls[i * 4 + c]? = some []) :
    Calls Try.prog 15 #[.pointer (some ⟨P, 0, none⟩), .int .i64 (i : Int), .int .i64 (c : Int)] w fun e w' => e = .returned (.tuple #[.int .i64 0, .int .i64 9]) ∧ w' = w := by
  obtain ⟨c0, c13, c14⟩ := h.cells
  obtain ⟨v, hv⟩ := of_lt (show i * 4 + c < vs.length by have := h.vlen; omega)
  have hown := h.hr.own _ v _ hv hl
  obtain ⟨A, cp, rfl⟩ := own_slice hown
  have hcb : w.cell? ⟨b, i * 4 + c, none⟩ = some (.slice A 0 cp) := by
    rw [h.hb.cell, List.getElem?_toArray, hv]; rfl
  have HHR := Lib.hid (hasrow_yes w P S base mp b t h.hP i hi c hc)
  have g1 : (i : Int) < (S.k : Int) := by omega
  have g2 : (c : Int) < 3 := by omega
  clear h hv hown hl
  go_enter Try.func15, Try.ntmps15
  go_wp2_with fail
  refine HHR.out.mono ?_
  rintro e w1 ⟨rfl, rfl⟩
  go_wp2_with fail
  go_ret2
  exact ⟨rfl, rfl⟩
theorem take_no (h : PR w x P mp ms b t S base st vs ls tk ws) (i c : Int) (hn : (i < 0 ∨ (S.k : Int) ≤ i) ∨ (c < 0 ∨ 3 ≤ c)) :
    Calls Try.prog 15 #[.pointer (some ⟨P, 0, none⟩), .int .i64 i, .int .i64 c] w fun e w' => e = .returned (.tuple #[.int .i64 0, .int .i64 1]) ∧ w' = w := by
  have HHR := Lib.hid (hasrow_no w P S base mp b t h.hP i c hn)
  clear h hn
  go_enter Try.func15, Try.ntmps15
  go_wp2_with fail
  refine HHR.out.mono ?_
  rintro e w1 ⟨rfl, rfl⟩
  go_wp2_with fail
  go_ret2
  exact ⟨rfl, rfl⟩
theorem take_nil (i c : Int) :
    Calls Try.prog 15 #[.pointer none, .int .i64 i, .int .i64 c] w fun e w' => e = .returned (.tuple #[.int .i64 0, .int .i64 1]) ∧ w' = w := by
  have HHR := Lib.hid (hasrow_nil w i c)
  go_enter Try.func15, Try.ntmps15
  go_wp2_with fail
  refine HHR.out.mono ?_
  rintro e w1 ⟨rfl, rfl⟩
  go_wp2_with fail
  go_ret2
  exact ⟨rfl, rfl⟩

theorem pfree_yes (h : PR w x P mp ms b t S base st vs ls tk ws) (i : Nat) (hi : i < S.k) (c : Nat) (hc : c < 3) (l : List Nat) (hl : ls[i * 4 + c]? = some l) :
    Calls Try.prog 29 #[.pointer (some ⟨P, 0, none⟩), .int .i64 (i : Int), .int .i64 (c : Int)] w fun e w' => e = .returned (.int .i64 (l.length : Int)) ∧ w' = w := by
  obtain ⟨c0, c13, c14⟩ := h.cells
  obtain ⟨v, hv⟩ := of_lt (show i * 4 + c < vs.length by have := h.vlen; omega)
  have hown := h.hr.own _ v _ hv hl
  obtain ⟨A, cp, rfl⟩ := own_slice hown
  have hcb : w.cell? ⟨b, i * 4 + c, none⟩ = some (.slice A l.length cp) := by
    rw [h.hb.cell, List.getElem?_toArray, hv]
  have HHR := Lib.hid (hasrow_yes w P S base mp b t h.hP i hi c hc)
  have g1 : (i : Int) < (S.k : Int) := by omega
  have g2 : (c : Int) < 3 := by omega
  clear h hv hown hl
  go_enter Try.func29, Try.ntmps29
  go_wp2_with fail
  refine HHR.out.mono ?_
  rintro e w1 ⟨rfl, rfl⟩
  go_wp2_with fail
  go_ret
  exact ⟨rfl, rfl⟩
theorem pfree_nil (i c : Int) :
    Calls Try.prog 29 #[.pointer none, .int .i64 i, .int .i64 c] w fun e w' => e = .returned (.int .i64 0) ∧ w' = w := by
  have HHR := Lib.hid (hasrow_nil w i c)
  go_enter Try.func29, Try.ntmps29
  go_wp2_with fail
  refine HHR.out.mono ?_
  rintro e w1 ⟨rfl, rfl⟩
  go_wp2_with fail
  go_ret
  exact ⟨rfl, rfl⟩
theorem remote_yes (h : PR w x P mp ms b t S base st vs ls tk ws) (i : Nat) (hi : i < S.k) (l : List Nat) (hl : ls[i * 4 + 3]? = some l) :
    Calls Try.prog 30 #[.pointer (some ⟨P, 0, none⟩), .int .i64 (i : Int)] w fun e w' => e = .returned (.int .i64 (l.length : Int)) ∧ w' = w := by
  obtain ⟨c0, c13, c14⟩ := h.cells
  obtain ⟨v, hv⟩ := of_lt (show i * 4 + 3 < vs.length by have := h.vlen; omega)
  have hown := h.hr.own _ v _ hv hl
  obtain ⟨A, cp, rfl⟩ := own_slice hown
  have hcb : w.cell? ⟨b, i * 4 + 3, none⟩ = some (.slice A l.length cp) := by
    rw [h.hb.cell, List.getElem?_toArray, hv]
  have HHR := Lib.hid (has_yes2 w P S base mp b t h.hP i hi)
  have g1 : (i : Int) < (S.k : Int) := by omega
  clear h hv hown hl
  go_enter Try.func30, Try.ntmps30
  go_wp2_with fail
  refine HHR.out.mono ?_
  rintro e w1 ⟨rfl, rfl⟩
  go_wp2_with fail
  go_ret
  exact ⟨rfl, rfl⟩
theorem remote_nil (i : Int) :
    Calls Try.prog 30 #[.pointer none, .int .i64 i] w fun e w' => e = .returned (.int .i64 0) ∧ w' = w := by
  have HHR := Lib.hid (has_nil2 w i)
  go_enter Try.func30, Try.ntmps30
  go_wp2_with fail
  refine HHR.out.mono ?_
  rintro e w1 ⟨rfl, rfl⟩
  go_wp2_with fail
  go_ret
  exact ⟨rfl, rfl⟩
end
end Go.Proofs.Ytichhieopnbgpaa
