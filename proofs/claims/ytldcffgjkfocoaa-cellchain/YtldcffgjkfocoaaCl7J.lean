/-
  Layer 13: a move of the laws' world turns no other block than the world's.
-/
import Derived.Test.YtldcffgjkfocoaaCl7
namespace Go.Proofs.Ytldcffgjkfocoaa
open Go.RowKit

/-- The world's own blocks. -/
def Qb (q : Pl) (i : Nat) : Prop := i = q.V ∨ i = q.P ∨ i = q.S ∨ i = q.L ∨ ∃ k, k < 6 ∧ (i = q.O k ∨ i = q.A k ∨ i = q.R k)
structure WorldJs (w1 w0 w : World) (q : Pl) (ops : Nat → PO) (m : List Int) (b : Nat) : Prop extends WorldIs w0 w q ops m b where
  fr1 : Fr (fun i => Qb q i ∨ w1.heap.size ≤ i) w1 w
theorem WorldJs.f0 {w1 w0 w w' : World} {q : Pl} {ops : Nat → PO} {m : List Int} {b : Nat} (h : WorldJs w1 w0 w q ops m b) (hf : Fr F0 w w') : WorldJs w1 w0 w' q ops m b :=
  ⟨h.toWorldIs.f0 hf, h.fr1.trans (hf.mono (fun _ h => h.elim))⟩
theorem WorldJs.drew {w1 w0 w : World} {q : Pl} {ops : Nat → PO} {m : List Int} {b : Nat} (h : WorldJs w1 w0 w q ops m b) : WorldJs w1 w0 w.drew q ops m b := h.f0 (Fr.refl _ _).drew
theorem WorldJs.mem {w1 w0 w w' : World} {q : Pl} {ops : Nat → PO} {m : List Int} {b c : Nat} (h : WorldJs w1 w0 w q ops m b) (hM : MI w' q.P q.S m c) (hf : Fr (Two q.P q.S) w w') : WorldJs w1 w0 w' q ops m c :=
  ⟨h.toWorldIs.mem hM hf, h.fr1.trans (hf.mono (fun i hi => .inl (by rcases hi with rfl | rfl; exact .inr (.inl rfl); exact .inr (.inr (.inl rfl)))))⟩
theorem WorldJs.moved {w1 w0 w w' : World} {q : Pl} {ops : Nat → PO} {m : List Int} {b k : Nat} (h : WorldJs w1 w0 w q ops m b) (hk : k < 6) (hf : Fr (Four (q.O k) (q.A k) q.P q.S) w w') :
    Blk w' q.V 42 (vcl q.P (m.getD 2 0) (m.getD 3 0) (m.getD 4 0) q.L (ptrs q.O) (ptrs q.R)) ∧ Blk w' q.L 2 (lcl (lks m)) ∧ (∀ i, i < 6 → Blk w' (q.R i) 30 (rco (ops i))) ∧ (∀ i, i < 6 → i ≠ k → OpAt w' (q.O i) (q.A i) (ops i)) := h.toWorldIs.moved hk hf
theorem WorldJs.next {w1_ w0 w w1 w2 : World} {q : Pl} {ops : Nat → PO} {m : List Int} {b k : Nat} (h : WorldJs w1_ w0 w q ops m b) (hk : k < 6) {v' : PO} {m' : List Int} (hs : stp (ops k) m = (v', m'))
    (hO1 : OpAt w1 (q.O k) (q.A k) v') (hM1 : MI w1 q.P q.S m' (b + 1)) (hF1 : Fr (Four (q.O k) (q.A k) q.P q.S) w w1)
    (hV2 : Blk w2 q.V 42 (vcl q.P (m'.getD 2 0) (m'.getD 3 0) (m'.getD 4 0) q.L (ptrs q.O) (ptrs q.R))) (hL2 : Blk w2 q.L 2 (lcl (lks m'))) (hR2 : Blk w2 (q.R k) 30 (rco v')) (hF2 : Fr (Tri q.V q.L (q.R k)) w1 w2) :
    WorldJs w1_ w0 w2 q (upd ops k v') m' (b + 1) := by
  refine ⟨h.toWorldIs.next hk hs hO1 hM1 hF1 hV2 hL2 hR2 hF2, (h.fr1.trans (hF1.mono (fun i hi => .inl ?_))).trans (hF2.mono (fun i hi => .inl ?_))⟩
  · rcases hi with rfl | rfl | rfl | rfl
    · exact .inr (.inr (.inr (.inr ⟨k, hk, .inl rfl⟩)))
    · exact .inr (.inr (.inr (.inr ⟨k, hk, .inr (.inl rfl)⟩)))
    · exact .inr (.inl rfl)
    · exact .inr (.inr (.inl rfl))
  · rcases hi with rfl | rfl | rfl
    · exact .inl rfl
    · exact .inr (.inr (.inr (.inl rfl)))
    · exact .inr (.inr (.inr (.inr ⟨k, hk, .inr (.inr rfl)⟩)))

set_option maxHeartbeats 8000000 in
set_option maxRecDepth 100000 in
theorem wmove_j (w1_ w0 w : World) (q : Pl) (ops : Nat → PO) (m : List Int) (b : Nat) (hW : WorldJs w1_ w0 w q ops m b) (hb : b < 800000) (who : Nat) (hwho : who < 256) (k : Nat) (hk : who % 6 = k) :
    Calls Try.prog 9 #[.pointer (some ⟨q.V, 0, none⟩), .int .u8 (who : Int)] w fun e w' => e = .returned (.bool true) ∧ WorldJs w1_ w0 w' q (upd ops k (stp (ops k) m).1) (stp (ops k) m).2 (b + 9) := by
  have hk6 : k < 6 := by omega
  obtain ⟨V, P, S, L, O, A, R⟩ := q
  have e1 : (who : Int) % 6 = (k : Int) := by omega
  have v0 : w.cell? ⟨V, 0, none⟩ = some (.pointer (some ⟨P, 0, none⟩)) := by rw [hW.hV.cell]; rfl
  have vo : w.cell? ⟨V, 6 + k, none⟩ = some (.pointer (some ⟨O k, 0, none⟩)) := by rw [hW.hV.cell]; exact (vcl_op k hk6).1
  have vr : w.cell? ⟨V, 12 + k, none⟩ = some (.pointer (some ⟨R k, 0, none⟩)) := by rw [hW.hV.cell]; exact (vcl_op k hk6).2
  obtain ⟨v', m', hs⟩ : ∃ v' m', stp (ops k) m = (v', m') := ⟨_, _, rfl⟩
  have hS := hW.sta k hk6
  have hlen' : m'.length = 20 := by have := stp_len (ops k) m; rw [hs] at this; exact this.trans hW.len
  have HMV := Lib.hid (move_any w.drew (O k) (A k) P S (ops k) m b (hW.drew.hO k hk6) hW.drew.hM (by omega) (hW.wf k hk6) (by rw [hS.base]; omega) (by rw [hS.base, hW.len]; omega) (by rw [hW.len]; exact hS.lk20))
  rw [hs] at HMV
  rw [hs]
  have HS := Lib.hid hs
  have HW := Lib.hid hW.drew
  clear hW hk hs hS
  dsimp only at HMV ⊢
  obtain ⟨ops', ho'⟩ : ∃ ops', ops' = upd ops k v' := ⟨_, rfl⟩
  have hok : ops' k = v' := by rw [ho']; exact upd_eq _ _ _
  rw [← ho']
  have HOP := Lib.hid ho'
  have HOK := Lib.hid hok
  clear ho' hok
  go_enter Try.func9, Try.ntmps9
  go_wp2_with fail
  go_region
  go_wp2_with fail
  refine HMV.out.mono ?_
  rintro e w1 ⟨rfl, hO1, hM1, hF1⟩
  obtain ⟨hV1, hL1, hR1, hOo⟩ := HW.out.moved hk6 hF1
  have HRM := Lib.hid (rmove_any w1 V L (R k) P k (ptrs O) (ptrs R) (ops k) m hk6 (HW.out.sta k hk6) (HW.out.wf k hk6) HW.out.len hV1 hL1 (hR1 k hk6))
  rw [HS.out] at HRM
  dsimp only at HRM
  have HO1 := Lib.hid hO1
  have HM1 := Lib.hid hM1
  have HF1 := Lib.hid hF1
  clear hO1 hM1 hF1 hV1 hL1 hR1 hOo v0 vo vr HMV
  go_wp2_with fail
  refine HRM.out.mono ?_
  rintro e w2 ⟨rfl, hV2, hL2, hR2, hF2⟩
  have hW2 := HW.out.next (w1 := w1) (w2 := w2) hk6 HS.out HO1.out HM1.out HF1.out hV2 hL2 hR2 hF2
  have HOE : Hid (OpAt w2 (O k) (A k) v') := by have := hW2.hO k hk6; rw [upd_eq] at this; exact Lib.hid this
  rw [← HOP.out] at hW2
  clear hV2 hL2 hR2 hF2 HRM HO1 HM1 HF1 HW HS
  obtain ⟨H2, hH2⟩ : ∃ H2, H2 = m'.getD 2 0 := ⟨_, rfl⟩
  obtain ⟨H3, hH3⟩ : ∃ H3, H3 = m'.getD 3 0 := ⟨_, rfl⟩
  obtain ⟨H4, hH4⟩ : ∃ H4, H4 = m'.getD 4 0 := ⟨_, rfl⟩
  have HH2 := Lib.hid hH2
  have HH3 := Lib.hid hH3
  have HH4 := Lib.hid hH4
  clear hH2 hH3 hH4
  have b2 : (H2 != H2) = false := by simp
  have b3 : (H3 != H3) = false := by simp
  have b4 : (H4 != H4) = false := by simp
  have b5 : (v'.ended != v'.ended) = false := by simp
  have v0 : w2.cell? ⟨V, 0, none⟩ = some (.pointer (some ⟨P, 0, none⟩)) := by rw [hW2.hV.cell]; rfl
  have HW2 := Lib.hid hW2
  have HLD : Hid (∀ (W : World) (c i : Nat) (n : Int), WorldJs w1_ w0 W ⟨V, P, S, L, O, A, R⟩ ops' m' c → c < 900000 → i < 20 → m'.getD i 0 = n → Calls Try.prog 12 #[.pointer (some ⟨P, 0, none⟩), .int .i64 (i : Int)] W fun e w' => e = .returned (.tuple #[.int .i64 n, .int .i64 0]) ∧ WorldJs w1_ w0 w' ⟨V, P, S, L, O, A, R⟩ ops' m' (c + 1)) :=
    Lib.hid (fun W c i n h hc hi hn => (load_mi h.hM hc i (by omega) n hn).mono fun _ _ ⟨he, hm, hf⟩ => ⟨he, h.mem hm hf⟩)
  clear hW2
  go_wp2_with fail
  refine (HLD.out w2 _ 2 H2 HW2.out (by omega) (by omega) HH2.out.symm).mono ?_
  rintro e w3 ⟨rfl, hW3⟩
  have v0 : w3.cell? ⟨V, 0, none⟩ = some (.pointer (some ⟨P, 0, none⟩)) := by rw [hW3.hV.cell]; rfl
  have HW3 := Lib.hid hW3
  clear hW3
  go_wp2_with fail
  refine (HLD.out w3 _ 3 H3 HW3.out (by omega) (by omega) HH3.out.symm).mono ?_
  rintro e w4 ⟨rfl, hW4⟩
  have v0 : w4.cell? ⟨V, 0, none⟩ = some (.pointer (some ⟨P, 0, none⟩)) := by rw [hW4.hV.cell]; rfl
  have HW4 := Lib.hid hW4
  clear hW4
  go_wp2_with fail
  refine (HLD.out w4 _ 4 H4 HW4.out (by omega) (by omega) HH4.out.symm).mono ?_
  rintro e w5 ⟨rfl, hW5⟩
  have v0 : w5.cell? ⟨V, 0, none⟩ = some (.pointer (some ⟨P, 0, none⟩)) := by rw [hW5.hV.cell]; rfl
  have v2 : w5.cell? ⟨V, 2, none⟩ = some (.int .i64 H2) := by rw [hW5.hV.cell, HH2.out]; rfl
  have v3 : w5.cell? ⟨V, 3, none⟩ = some (.int .i64 H3) := by rw [hW5.hV.cell, HH3.out]; rfl
  have v4 : w5.cell? ⟨V, 4, none⟩ = some (.int .i64 H4) := by rw [hW5.hV.cell, HH4.out]; rfl
  have r5 : w5.cell? ⟨R k, 5, none⟩ = some (.bool v'.ended) := by rw [(hW5.hR k hk6).cell, HOK.out]; rfl
  have HW5 := Lib.hid hW5
  clear hW5 HW2 HW3 HW4
  go_wp2_with fail
  go_loopw [15] (fun iv wx => ∃ j : Nat, 1 ≤ j ∧ j ≤ 6 ∧ iv = .int .i64 (j : Int) ∧ Hid (WorldJs w1_ w0 wx ⟨V, P, S, L, O, A, R⟩ ops' m' (b + 3 + j))) (fun iv _ => 6 - (intOf iv).toNat)
  case atStart => exact ⟨1, by omega, by omega, rfl, HW5⟩
  case round =>
    obtain ⟨j, hj1, hj6, rfl, HW⟩ := hrel
    clear v0 v2 v3 v4 r5 HW5 b2 b3 b4 b5
    have v0 : wr.cell? ⟨V, 0, none⟩ = some (.pointer (some ⟨P, 0, none⟩)) := by rw [HW.out.hV.cell]; rfl
    have v5 : wr.cell? ⟨V, 5, none⟩ = some (.slice (some ⟨L, 0, none⟩) 6 6) := by rw [HW.out.hV.cell]; rfl
    by_cases hj : j ≤ 5
    · have g1 : (j : Int) ≤ 5 := by omega
      have g2 : (j : Int) < 6 := by omega
      have g3 : j < 6 := by omega
      obtain ⟨N, hN⟩ : ∃ N, N = m'.getD (10 + j) 0 := ⟨_, rfl⟩
      have HN := Lib.hid hN
      clear hN
      have b1 : (N != N) = false := by simp
      have hld := HLD.out wr _ (10 + j) N HW.out (by omega) (by omega) HN.out.symm
      rw [show ((10 + j : Nat) : Int) = 10 + (j : Int) by omega] at hld
      have HL1 := Lib.hid hld
      clear hld
      go_wp2_with fail
      refine HL1.out.mono ?_
      rintro e w6 ⟨rfl, hW6⟩
      have v5 : w6.cell? ⟨V, 5, none⟩ = some (.slice (some ⟨L, 0, none⟩) 6 6) := by rw [hW6.hV.cell]; rfl
      have l5 : w6.cell? ⟨L, j, none⟩ = some (.int .i64 N) := by rw [hW6.hL.cell, HN.out]; exact lcl_get _ _ _ (lks_get m' j hj1 hj)
      have HW6 := Lib.hid hW6
      clear hW6 HL1 HW
      go_wp2_with fail
      exact ⟨⟨j + 1, by omega, by omega, by go_num, HW6⟩, by simp [intOf]; omega⟩
    · obtain rfl : j = 6 := by omega
      have hok := HW.out.hO k hk6
      rw [HOK.out] at hok
      have hwf := HW.out.wf k hk6
      rw [HOK.out] at hwf
      have hst := HW.out.sta k hk6
      rw [HOK.out] at hst
      cases hen : v'.ended with
      | false =>
        have hoe := hok.ho
        rw [hen] at hoe
        have HE := Lib.hid (end_no wr (O k) _ _ _ _ _ hoe)
        have hen2 : (!v'.ended) = true := by rw [hen]; rfl
        have HEN := Lib.hid hen
        clear hok hwf hst hoe hen
        go_wp2_with fail
        refine HE.out.mono ?_
        rintro e w6 ⟨rfl, hf6⟩
        have HW6 := Lib.hid (HW.out.f0 hf6)
        clear hf6
        go_wp2_with fail
        go_ret
        exact ⟨rfl, (HW6.out.f0 ((Fr.refl _ _).alloc _))⟩
      | true =>
        have hoe := hok.ho
        rw [hen] at hoe
        have HE := Lib.hid (end_yes wr (O k) _ _ _ _ _ hoe)
        have hen2 : (!v'.ended) = false := by rw [hen]; rfl
        have HEN := Lib.hid hen
        have HTOL := Lib.hid (hwf.tol hen)
        have hx := hst.x
        have hfil := hst.fil
        clear hok hwf hst hoe hen
        go_wp2_with fail
        refine HE.out.mono ?_
        rintro e w6 ⟨rfl, hf6⟩
        have hW6 := HW.out.f0 hf6
        have r0 : w6.cell? ⟨R k, 0, none⟩ = some (.int .i64 v'.x) := by rw [(hW6.hR k hk6).cell, HOK.out]; rfl
        have r3 : w6.cell? ⟨R k, 3, none⟩ = some (.int .i64 v'.val) := by rw [(hW6.hR k hk6).cell, HOK.out]; rfl
        have r4 : w6.cell? ⟨R k, 4, none⟩ = some (.int .i64 v'.why) := by rw [(hW6.hR k hk6).cell, HOK.out]; rfl
        have r6 : w6.cell? ⟨R k, 6, none⟩ = some (.bool v'.waits) := by rw [(hW6.hR k hk6).cell, HOK.out]; rfl
        have r7 : w6.cell? ⟨R k, 7, none⟩ = some (.int .i64 v'.first) := by rw [(hW6.hR k hk6).cell, HOK.out]; rfl
        have hrl := (hW6.hR k hk6).lt
        dsimp only at hrl
        have HW6 := Lib.hid hW6
        clear hW6 hf6 HW HE
        by_cases hk0 : k = 0
        · obtain ⟨z1, z2⟩ := HTOL.out.2 (.inl (by rw [hfil, hk0]; rfl))
          have g3 : ¬ 0 < v'.x := by rw [hx, hk0]; decide
          rw [z1, z2]
          clear hx hfil hk0 z1 z2
          go_wp2_with fail
          go_region
          go_wp2_with fail
          go_ret
          exact ⟨rfl, HW6.out.f0 (((Fr.refl _ _).alloc _).alloc _).drew⟩
        · have g3 : 0 < v'.x := by rw [hx]; omega
          have hf' : v'.fil = false := by
            rw [hfil]
            simpa using hk0
          cases hwt : v'.waits with
          | true =>
            obtain ⟨z1, z2⟩ := HTOL.out.2 (.inr hwt)
            rw [z1, z2]
            rw [hwt] at r6
            clear hx hfil hf' hwt hk0 z1 z2
            go_wp2_with fail
            go_region
            go_wp2_with fail
            go_ret
            exact ⟨rfl, HW6.out.f0 (((Fr.refl _ _).alloc _).alloc _).drew⟩
          | false =>
            obtain ⟨z1, z2⟩ := HTOL.out.1 hf' hwt
            rw [z1, z2]
            rw [hwt] at r6
            clear hx hfil hf' hwt hk0 z1 z2
            go_wp2_with fail
            go_region
            go_wp2_with fail
            go_region
            go_wp2_with fail
            go_ret
            exact ⟨rfl, HW6.out.f0 (((Fr.refl _ _).alloc _).alloc _).drew.drew⟩
end Go.Proofs.Ytldcffgjkfocoaa
