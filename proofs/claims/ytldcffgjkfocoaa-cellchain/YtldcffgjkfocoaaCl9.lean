/-
  Layer 13: the world of the laws is made.
-/
import Derived.Test.YtldcffgjkfocoaaCl8
import Derived.Deep.DeepCutAuto
namespace Go.Proofs.Ytldcffgjkfocoaa
open Go.RowKit

theorem ops0_wait (value why : Int) (j : Nat) (hj : 1 ≤ j) : ops0 value why j = wait0 2 (j : Int) (10 + j) := by
  unfold ops0; rw [if_neg (by omega)]

set_option maxHeartbeats 16000000 in
set_option maxRecDepth 100000 in
theorem world_any (w0 : World) (value why : Int) :
    Calls Try.prog 8 #[.int .i64 value, .int .i64 why] w0 fun e w' => ∃ q : Pl, e = .returned (.tuple #[.pointer (some ⟨q.V, 0, none⟩), .bool true]) ∧ WorldIs w0 w' q (ops0 value why) m0 0 := by
  have HN := Lib.hid (new_yes 20 (by decide) w0)
  go_enter Try.func8, Try.ntmps8
  go_wp2_with fail
  refine HN.out.mono ?_
  rintro e w1 ⟨rfl, hM1, hF1⟩
  obtain ⟨P, hP⟩ : ∃ P, P = w0.heap.size + 1 := ⟨_, rfl⟩
  obtain ⟨S, hS⟩ : ∃ S, S = w0.heap.size := ⟨_, rfl⟩
  rw [← hP, ← hS] at hM1
  rw [← hP]
  have hnP : w0.heap.size ≤ P := by omega
  have hnS : w0.heap.size ≤ S := by omega
  have hlv := live_any w1 P S _ 0 hM1 0 20 (by rw [List.length_replicate]; decide) (by decide)
  rw [live_m0] at hlv
  have HLV := Lib.hid hlv
  have HF1 := Lib.hid hF1
  clear hM1 hF1 hlv hP hS HN
  go_wp2_with fail
  refine HLV.out.mono ?_
  rintro e w2 ⟨rfl, hM2, hF2⟩
  have HM2 : Hid (MI w2 P S m0 0) := Lib.hid ⟨0, hM2, by omega, by omega⟩
  have HF2 : Hid (Fr F0 w0 w2) := Lib.hid (Fr.then HF1.out hF2 (fun i hi => .inr (by rcases hi with rfl | rfl <;> assumption)))
  clear hM2 hF2 HLV HF1
  go_upto_region 4 with (fail)
  go_cut [8] (fun v wx => ∃ V L : Nat, v = .pointer (some ⟨V, 0, none⟩) ∧ PartIs w0 wx ⟨V, P, S, L, fun _ => 0, fun _ => 0, fun _ => 0⟩ 0 0 0 0 (ops0 value why) m0 0)
  case first =>
    have HS0 : True := True.intro
    refine region_K 7 (fun _ : World => True) (by kernel_rfl) ?_
    have HS : (fun _ : World => True) (w2).drew := True.intro
    refine AnyK.take (i := 0) rfl (by decide) (by kernel_rfl) (by kernel_rfl) (by kernel_rfl) (fun _ _ _ _ h => h) HS (fun K hK => ?_)
    go_simp
    refine hK.out _ ⟨_, by rfl, Or.inl ⟨by rfl, by intro w hSw; (try dsimp only at hSw); go_simp⟩, ?_⟩
    clear hK K
    refine AnyK.two (i := 1) (j := 2) rfl rfl (by kernel_rfl) (fun K hK => ?_) (fun K hK => ?_)
    · go_simp
      refine (at_any (w2.drew) 2).mono ?_
      rintro e w1 ⟨rfl, hf1⟩
      have HF1 := Lib.hid (HF2.out.drew.trans hf1)
      have HX1 := Lib.hid (HM2.out.drew.fr hf1 (fun h => h) (fun h => h))
      clear hf1
      refine hK.out _ _ (fun _ => HS) ?_
      clear hK K
      refine AnyK.one (i := 2) rfl (by kernel_rfl) (fun K hK => ?_)
      have hmk := make6
      go_simp
      clear hmk
      have hf2 : Fr F0 (w1) ((w1).alloc (.cells (lcl (lks m0)) 2)) := ((Fr.refl _ _).alloc _)
      have hB2 : Blk ((w1).alloc (.cells (lcl (lks m0)) 2)) (w1).heap.size 2 (lcl (lks m0)) := Blk.new (w1) _ _
      obtain ⟨L, hL⟩ : ∃ L, L = (w1).heap.size := ⟨_, rfl⟩
      have hnL : w0.heap.size ≤ L := by have := HF1.out.size; omega
      rw [← hL] at hB2
      have HF2 := Lib.hid (HF1.out.trans hf2)
      have HX2 := Lib.hid (HX1.out.fr hf2 (fun h => h) (fun h => h))
      have HL2 := Lib.hid hB2
      clear hf2 hB2
      refine hK.out _ _ (fun _ => HS) ?_
      clear hK K
      rw [← hL]
      clear hL
      generalize (w1).alloc (.cells (lcl (lks m0)) 2) = w2 at *
      refine AnyK.take (i := 3) rfl (by decide) (by kernel_rfl) (by kernel_rfl) (by kernel_rfl) (fun _ _ _ _ h => h) HS (fun K hK => ?_)
      go_simp
      refine hK.out _ ⟨_, by rfl, Or.inl ⟨by rfl, by intro w hSw; (try dsimp only at hSw); go_simp⟩, ?_⟩
      clear hK K
      refine AnyK.take (i := 4) rfl (by decide) (by kernel_rfl) (by kernel_rfl) (by kernel_rfl) (fun _ _ _ _ h => h) HS (fun K hK => ?_)
      go_simp
      refine hK.out _ ⟨_, by rfl, Or.inl ⟨by rfl, by intro w hSw; (try dsimp only at hSw); go_simp⟩, ?_⟩
      clear hK K
      refine AnyK.one (i := 5) rfl (by kernel_rfl) (fun K hK => ?_)
      go_simp
      have hf3 : Fr F0 (w2) ((w2).alloc (.cells #[.pointer (some ⟨P, 0, none⟩), .int .i64 2, .int .i64 0, .int .i64 0, .int .i64 0, .slice (some ⟨L, 0, none⟩) 6 6, .pointer none, .pointer none, .pointer none, .pointer none, .pointer none, .pointer none, .pointer none, .pointer none, .pointer none, .pointer none, .pointer none, .pointer none] 42)) := (Fr.refl _ _).alloc _
      have hP3 : PartIs w0 ((w2).alloc (.cells #[.pointer (some ⟨P, 0, none⟩), .int .i64 2, .int .i64 0, .int .i64 0, .int .i64 0, .slice (some ⟨L, 0, none⟩) 6 6, .pointer none, .pointer none, .pointer none, .pointer none, .pointer none, .pointer none, .pointer none, .pointer none, .pointer none, .pointer none, .pointer none, .pointer none] 42)) ⟨(w2).heap.size, P, S, L, fun _ => 0, fun _ => 0, fun _ => 0⟩ 0 0 0 0 (ops0 value why) m0 0 :=
        ⟨Blk.new (w2) _ _, HX2.out.fr hf3 (fun h => h) (fun h => h), HL2.out.fr hf3 (fun h => h), fun k hk => by omega, fun k hk => by omega, fun i j hi => by omega, fun i j hi => by omega, ⟨HF2.out.size, hnP, hnS, hnL⟩, fun k hk => by omega, fun k hk => by omega, HF2.out.trans hf3, rfl, by omega⟩
      have HP3 := Lib.hid hP3
      clear hP3 hf3
      refine hK.out _ _ (fun _ => HS) ?_
      clear hK K
      refine AnyK.take (i := 6) rfl (by decide) (by kernel_rfl) (by kernel_rfl) (by kernel_rfl) (fun _ _ _ _ h => h) HS (fun K hK => ?_)
      go_simp
      refine hK.out _ ⟨_, by rfl, Or.inl ⟨by rfl, by intro w hSw; (try dsimp only at hSw); go_simp⟩, ?_⟩
      clear hK K
      refine AnyK.done (by kernel_rfl) ?_ _
      go_wp2_with fail
      go_meet
      exact ⟨_, _, rfl, HP3.out⟩
    · have hmk := make6
      go_simp
      clear hmk
      have hf4 : Fr F0 (w2) (((w2).alloc (.cells (lcl (lks m0)) 2)).drew) := ((Fr.refl _ _).alloc _).drew
      have hB4 : Blk (((w2).alloc (.cells (lcl (lks m0)) 2)).drew) (w2).heap.size 2 (lcl (lks m0)) := Blk.new (w2) _ _
      obtain ⟨L, hL⟩ : ∃ L, L = (w2).heap.size := ⟨_, rfl⟩
      have hnL : w0.heap.size ≤ L := by have := HF2.out.size; omega
      rw [← hL] at hB4
      have HF4 := Lib.hid (HF2.out.trans hf4)
      have HX4 := Lib.hid (HM2.out.fr hf4 (fun h => h) (fun h => h))
      have HL4 := Lib.hid hB4
      clear hf4 hB4
      refine hK.out _ _ (fun _ => HS) ?_
      clear hK K
      rw [← hL]
      clear hL
      generalize ((w2).alloc (.cells (lcl (lks m0)) 2)).drew = w4 at *
      refine AnyK.take (i := 3) rfl (by decide) (by kernel_rfl) (by kernel_rfl) (by kernel_rfl) (fun _ _ _ _ h => h) HS (fun K hK => ?_)
      go_simp
      refine hK.out _ ⟨_, by rfl, Or.inl ⟨by rfl, by intro w hSw; (try dsimp only at hSw); go_simp⟩, ?_⟩
      clear hK K
      refine AnyK.one (i := 1) rfl (by kernel_rfl) (fun K hK => ?_)
      go_simp
      refine (at_any (w4) 2).mono ?_
      rintro e w5 ⟨rfl, hf5⟩
      have HF5 := Lib.hid (HF4.out.trans hf5)
      have HX5 := Lib.hid (HX4.out.fr hf5 (fun h => h) (fun h => h))
      have HL5 := Lib.hid (HL4.out.fr hf5 (fun h => h))
      clear hf5
      refine hK.out _ _ (fun _ => HS) ?_
      clear hK K
      refine AnyK.take (i := 4) rfl (by decide) (by kernel_rfl) (by kernel_rfl) (by kernel_rfl) (fun _ _ _ _ h => h) HS (fun K hK => ?_)
      go_simp
      refine hK.out _ ⟨_, by rfl, Or.inl ⟨by rfl, by intro w hSw; (try dsimp only at hSw); go_simp⟩, ?_⟩
      clear hK K
      refine AnyK.one (i := 5) rfl (by kernel_rfl) (fun K hK => ?_)
      go_simp
      have hf6 : Fr F0 (w5) ((w5).alloc (.cells #[.pointer (some ⟨P, 0, none⟩), .int .i64 2, .int .i64 0, .int .i64 0, .int .i64 0, .slice (some ⟨L, 0, none⟩) 6 6, .pointer none, .pointer none, .pointer none, .pointer none, .pointer none, .pointer none, .pointer none, .pointer none, .pointer none, .pointer none, .pointer none, .pointer none] 42)) := (Fr.refl _ _).alloc _
      have hP6 : PartIs w0 ((w5).alloc (.cells #[.pointer (some ⟨P, 0, none⟩), .int .i64 2, .int .i64 0, .int .i64 0, .int .i64 0, .slice (some ⟨L, 0, none⟩) 6 6, .pointer none, .pointer none, .pointer none, .pointer none, .pointer none, .pointer none, .pointer none, .pointer none, .pointer none, .pointer none, .pointer none, .pointer none] 42)) ⟨(w5).heap.size, P, S, L, fun _ => 0, fun _ => 0, fun _ => 0⟩ 0 0 0 0 (ops0 value why) m0 0 :=
        ⟨Blk.new (w5) _ _, HX5.out.fr hf6 (fun h => h) (fun h => h), HL5.out.fr hf6 (fun h => h), fun k hk => by omega, fun k hk => by omega, fun i j hi => by omega, fun i j hi => by omega, ⟨HF5.out.size, hnP, hnS, hnL⟩, fun k hk => by omega, fun k hk => by omega, HF5.out.trans hf6, rfl, by omega⟩
      have HP6 := Lib.hid hP6
      clear hP6 hf6
      refine hK.out _ _ (fun _ => HS) ?_
      clear hK K
      refine AnyK.take (i := 6) rfl (by decide) (by kernel_rfl) (by kernel_rfl) (by kernel_rfl) (fun _ _ _ _ h => h) HS (fun K hK => ?_)
      go_simp
      refine hK.out _ ⟨_, by rfl, Or.inl ⟨by rfl, by intro w hSw; (try dsimp only at hSw); go_simp⟩, ?_⟩
      clear hK K
      refine AnyK.done (by kernel_rfl) ?_ _
      go_wp2_with fail
      go_meet
      exact ⟨_, _, rfl, HP6.out⟩
  case rest =>
    obtain ⟨V, L, rfl, hP⟩ := hcut
    clear HM2 HF2 hnP hnS
    have c1 := hP.c1
    dsimp only at c1
    have HP0 := Lib.hid hP
    clear hP
    go_upto_region 5 with (fail)
    go_cut [8] (fun v wx => ∃ O A R : Nat → Nat, v = .pointer (some ⟨V, 0, none⟩) ∧ PartIs w0 wx ⟨V, P, S, L, O, A, R⟩ 1 1 1 1 (ops0 value why) m0 0)
    case first =>
      have HRC : rco (ops0 value why 0) = #[.int .i64 0, .int .i64 0, .int .i64 0, .int .i64 value, .int .i64 why, .bool false, .bool false, .int .i64 0] := rfl
      refine region_K 21 (fun w' : World => w'.cell? ⟨V, 1, none⟩ = some (.int .i64 2)) (by kernel_rfl) ?_
      have HS : (fun w' : World => w'.cell? ⟨V, 1, none⟩ = some (.int .i64 2)) (wc).drew := c1
      refine AnyK.take (i := 0) rfl (by decide) (by kernel_rfl) (by kernel_rfl) (by kernel_rfl) (fun _ _ _ _ h => h) HS (fun K hK => ?_)
      go_simp
      refine hK.out _ ⟨_, by rfl, Or.inl ⟨by rfl, by intro w hSw; (try dsimp only at hSw); go_simp⟩, ?_⟩
      clear hK K
      refine AnyK.take (i := 1) rfl (by decide) (by kernel_rfl) (by kernel_rfl) (by kernel_rfl) (fun _ _ _ _ h => h) HS (fun K hK => ?_)
      go_simp
      refine hK.out _ ⟨_, by rfl, Or.inl ⟨by rfl, by intro w hSw; (try dsimp only at hSw); go_simp⟩, ?_⟩
      clear hK K
      refine AnyK.take (i := 2) rfl (by decide) (by kernel_rfl) (by kernel_rfl) (by kernel_rfl) (fun _ _ _ _ h => h) HS (fun K hK => ?_)
      go_simp
      refine hK.out _ ⟨_, by rfl, Or.inl ⟨by rfl, by intro w hSw; (try dsimp only at hSw); go_simp⟩, ?_⟩
      clear hK K
      refine AnyK.take (i := 3) rfl (by decide) (by kernel_rfl) (by kernel_rfl) (by kernel_rfl) (fun _ _ _ _ h => h) HS (fun K hK => ?_)
      go_simp
      refine hK.out _ ⟨_, by rfl, Or.inl ⟨by rfl, by intro w hSw; (try dsimp only at hSw); go_simp⟩, ?_⟩
      clear hK K
      refine AnyK.take (i := 4) rfl (by decide) (by kernel_rfl) (by kernel_rfl) (by kernel_rfl) (fun _ _ _ _ h => h) HS (fun K hK => ?_)
      go_simp
      refine hK.out _ ⟨_, by rfl, Or.inl ⟨by rfl, by intro w hSw; (try dsimp only at hSw); go_simp⟩, ?_⟩
      clear hK K
      refine AnyK.take (i := 5) rfl (by decide) (by kernel_rfl) (by kernel_rfl) (by kernel_rfl) (fun _ _ _ _ h => h) HS (fun K hK => ?_)
      go_simp
      refine hK.out _ ⟨_, by rfl, Or.inl ⟨by rfl, by intro w hSw; (try dsimp only at hSw); go_simp⟩, ?_⟩
      clear hK K
      refine AnyK.take (i := 6) rfl (by decide) (by kernel_rfl) (by kernel_rfl) (by kernel_rfl) (fun _ _ _ _ h => h) HS (fun K hK => ?_)
      go_simp
      refine hK.out _ ⟨_, by rfl, Or.inl ⟨by rfl, by intro w hSw; (try dsimp only at hSw); go_simp⟩, ?_⟩
      clear hK K
      refine AnyK.take (i := 7) rfl (by decide) (by kernel_rfl) (by kernel_rfl) (by kernel_rfl) (fun _ _ _ _ h => h) HS (fun K hK => ?_)
      go_simp
      refine hK.out _ ⟨_, by rfl, Or.inl ⟨by rfl, by intro w hSw; (try dsimp only at hSw); go_simp⟩, ?_⟩
      clear hK K
      refine AnyK.take (i := 9) rfl (by decide) (by kernel_rfl) (by kernel_rfl) (by kernel_rfl) (fun _ _ _ _ h => h) HS (fun K hK => ?_)
      go_simp
      refine hK.out _ ⟨_, by rfl, Or.inl ⟨by rfl, by intro w hSw; (try dsimp only at hSw); go_simp⟩, ?_⟩
      clear hK K
      refine AnyK.take (i := 10) rfl (by decide) (by kernel_rfl) (by kernel_rfl) (by kernel_rfl) (fun _ _ _ _ h => h) HS (fun K hK => ?_)
      go_simp
      refine hK.out _ ⟨_, by rfl, Or.inl ⟨by rfl, by intro w hSw; (try dsimp only at hSw); go_simp⟩, ?_⟩
      clear hK K
      refine AnyK.take (i := 11) rfl (by decide) (by kernel_rfl) (by kernel_rfl) (by kernel_rfl) (fun _ _ _ _ h => h) HS (fun K hK => ?_)
      go_simp
      refine hK.out _ ⟨_, by rfl, Or.inl ⟨by rfl, by intro w hSw; (try dsimp only at hSw); go_simp⟩, ?_⟩
      clear hK K
      refine AnyK.take (i := 13) rfl (by decide) (by kernel_rfl) (by kernel_rfl) (by kernel_rfl) (fun _ _ _ _ h => h) HS (fun K hK => ?_)
      go_simp
      refine hK.out _ ⟨_, by rfl, Or.inl ⟨by rfl, by intro w hSw; (try dsimp only at hSw); go_simp⟩, ?_⟩
      clear hK K
      refine AnyK.take (i := 14) rfl (by decide) (by kernel_rfl) (by kernel_rfl) (by kernel_rfl) (fun _ _ _ _ h => h) HS (fun K hK => ?_)
      go_simp
      refine hK.out _ ⟨_, by rfl, Or.inl ⟨by rfl, by intro w hSw; (try dsimp only at hSw); go_simp⟩, ?_⟩
      clear hK K
      refine AnyK.take (i := 17) rfl (by decide) (by kernel_rfl) (by kernel_rfl) (by kernel_rfl) (fun _ _ _ _ h => h) HS (fun K hK => ?_)
      go_simp
      refine hK.out _ ⟨_, by rfl, Or.inl ⟨by rfl, by intro w hSw; (try dsimp only at hSw); go_simp⟩, ?_⟩
      clear hK K
      refine AnyK.take (i := 18) rfl (by decide) (by kernel_rfl) (by kernel_rfl) (by kernel_rfl) (fun _ _ _ _ h => h) HS (fun K hK => ?_)
      go_simp
      refine hK.out _ ⟨_, by rfl, Or.inl ⟨by rfl, by intro w hSw; (try dsimp only at hSw); go_simp⟩, ?_⟩
      clear hK K
      refine AnyK.two (i := 8) (j := 12) rfl rfl (by kernel_rfl) (fun K hK => ?_) (fun K hK => ?_)
      · go_simp
        refine (fill_any (wc.drew) 2 value why).mono ?_
        rintro e w7 ⟨rfl, hO7, hf7⟩
        obtain ⟨o7, ho7⟩ : ∃ o, o = (wc.drew).heap.size + 2 := ⟨_, rfl⟩
        rw [← ho7] at hO7 ⊢
        have hP7 := HP0.out.drew.op hf7 (o := o7) (a := (wc.drew).heap.size + 1) hO7 (by omega) (by omega)
        have HS : (fun w' : World => w'.cell? ⟨V, 1, none⟩ = some (.int .i64 2)) w7 := hP7.c1
        have HP7 := Lib.hid hP7
        clear hP7 hO7 hf7 ho7
        refine hK.out _ _ (fun _ => HS) ?_
        clear hK K
        refine AnyK.take (i := 15) rfl (by decide) (by kernel_rfl) (by kernel_rfl) (by kernel_rfl) (fun _ _ _ _ h => h) HS (fun K hK => ?_)
        go_simp
        refine hK.out _ ⟨_, by rfl, Or.inl ⟨by rfl, by intro w hSw; (try dsimp only at hSw); go_simp⟩, ?_⟩
        clear hK K
        refine AnyK.two (i := 12) (j := 16) rfl rfl (by kernel_rfl) (fun K hK => ?_) (fun K hK => ?_)
        · go_simp
          have hB8 : Blk ((w7).alloc (.cells #[.int .i64 0, .int .i64 0, .int .i64 0, .int .i64 value, .int .i64 why, .bool false, .bool false, .int .i64 0] 30)) (w7).heap.size 30 #[.int .i64 0, .int .i64 0, .int .i64 0, .int .i64 value, .int .i64 why, .bool false, .bool false, .int .i64 0] := Blk.new (w7) _ _
          have hf8 : Fr F0 (w7) ((w7).alloc (.cells #[.int .i64 0, .int .i64 0, .int .i64 0, .int .i64 value, .int .i64 why, .bool false, .bool false, .int .i64 0] 30)) := ((Fr.refl _ _).alloc _)
          obtain ⟨r8, hr8⟩ : ∃ r, r = (w7).heap.size := ⟨_, rfl⟩
          rw [← hr8] at hB8
          have hP8 := HP7.out.own hf8 (r := r8) (HRC ▸ hB8) (by omega)
          have HS : (fun w' : World => w'.cell? ⟨V, 1, none⟩ = some (.int .i64 2)) ((w7).alloc (.cells #[.int .i64 0, .int .i64 0, .int .i64 0, .int .i64 value, .int .i64 why, .bool false, .bool false, .int .i64 0] 30)) := hP8.c1
          have HP8 := Lib.hid hP8
          clear hP8 hf8 hB8
          refine hK.out _ _ (fun _ => HS) ?_
          clear hK K
          rw [← hr8]
          clear hr8
          generalize (w7).alloc (.cells #[.int .i64 0, .int .i64 0, .int .i64 0, .int .i64 value, .int .i64 why, .bool false, .bool false, .int .i64 0] 30) = w8 at *
          refine AnyK.one (i := 16) rfl (by kernel_rfl) (fun K hK => ?_)
          have hV9 := HP8.out.hV
          have s0 : w8.cell? ⟨V, 6, none⟩ = some (.pointer none) := HP8.out.s1 (by omega)
          have f0 : w8.frozen? ⟨V, 6, none⟩ = false := hV9.frozen (6)
          go_simp
          have hP9 := HP8.out.set1 (by omega) (by omega)
          dsimp only at hP9
          rw [updN_eq] at hP9
          have HS : (fun w' : World => w'.cell? ⟨V, 1, none⟩ = some (.int .i64 2)) (w8.setCell ⟨V, 6, none⟩ (.pointer (some ⟨o7, 0, none⟩))) := hP9.c1
          have HP9 : Hid (PartIs w0 (w8.setCell ⟨V, 6, none⟩ (.pointer (some ⟨o7, 0, none⟩))) ⟨V, P, S, L, (updN (fun _ => 0) 0 o7), (updN (fun _ => 0) 0 ((wc.drew).heap.size + 1)), (updN (fun _ => 0) 0 r8)⟩ (1) (0) (1) (1) (ops0 value why) m0 0) := Lib.hid hP9
          clear hP9 hV9 s0 f0
          refine hK.out _ _ (fun _ => HS) ?_
          clear hK K
          generalize w8.setCell ⟨V, 6, none⟩ (.pointer (some ⟨o7, 0, none⟩)) = w9 at *
          refine AnyK.take (i := 19) rfl (by decide) (by kernel_rfl) (by kernel_rfl) (by kernel_rfl) (fun _ _ _ _ h => h) HS (fun K hK => ?_)
          go_simp
          refine hK.out _ ⟨_, by rfl, Or.inl ⟨by rfl, by intro w hSw; (try dsimp only at hSw); go_simp⟩, ?_⟩
          clear hK K
          refine AnyK.one (i := 20) rfl (by kernel_rfl) (fun K hK => ?_)
          have hV10 := HP9.out.hV
          have s0 : w9.cell? ⟨V, 12, none⟩ = some (.pointer none) := HP9.out.s2 (by omega)
          have f0 : w9.frozen? ⟨V, 12, none⟩ = false := hV10.frozen (12)
          go_simp
          have hP10 := HP9.out.set2 (by omega) (by omega)
          dsimp only at hP10
          rw [updN_eq] at hP10
          have HS : (fun w' : World => w'.cell? ⟨V, 1, none⟩ = some (.int .i64 2)) (w9.setCell ⟨V, 12, none⟩ (.pointer (some ⟨r8, 0, none⟩))) := hP10.c1
          have HP10 : Hid (PartIs w0 (w9.setCell ⟨V, 12, none⟩ (.pointer (some ⟨r8, 0, none⟩))) ⟨V, P, S, L, (updN (fun _ => 0) 0 o7), (updN (fun _ => 0) 0 ((wc.drew).heap.size + 1)), (updN (fun _ => 0) 0 r8)⟩ (1) (1) (1) (1) (ops0 value why) m0 0) := Lib.hid hP10
          clear hP10 hV10 s0 f0
          refine hK.out _ _ (fun _ => HS) ?_
          clear hK K
          generalize w9.setCell ⟨V, 12, none⟩ (.pointer (some ⟨r8, 0, none⟩)) = w10 at *
          refine AnyK.done (by kernel_rfl) ?_ _
          go_wp2_with fail
          go_meet
          exact ⟨_, _, _, rfl, HP10.out⟩
        · have hV11 := HP7.out.hV
          have s0 : w7.cell? ⟨V, 6, none⟩ = some (.pointer none) := HP7.out.s1 (by omega)
          have f0 : w7.frozen? ⟨V, 6, none⟩ = false := hV11.frozen (6)
          go_simp
          have hP11 := HP7.out.set1 (by omega) (by omega)
          dsimp only at hP11
          rw [updN_eq] at hP11
          have HS : (fun w' : World => w'.cell? ⟨V, 1, none⟩ = some (.int .i64 2)) (w7.setCell ⟨V, 6, none⟩ (.pointer (some ⟨o7, 0, none⟩))) := hP11.c1
          have HP11 : Hid (PartIs w0 (w7.setCell ⟨V, 6, none⟩ (.pointer (some ⟨o7, 0, none⟩))) ⟨V, P, S, L, (updN (fun _ => 0) 0 o7), (updN (fun _ => 0) 0 ((wc.drew).heap.size + 1)), (fun _ => 0)⟩ (1) (0) (1) (0) (ops0 value why) m0 0) := Lib.hid hP11
          clear hP11 hV11 s0 f0
          refine hK.out _ _ (fun _ => HS) ?_
          clear hK K
          generalize w7.setCell ⟨V, 6, none⟩ (.pointer (some ⟨o7, 0, none⟩)) = w11 at *
          refine AnyK.one (i := 12) rfl (by kernel_rfl) (fun K hK => ?_)
          go_simp
          have hB12 : Blk ((w11).alloc (.cells #[.int .i64 0, .int .i64 0, .int .i64 0, .int .i64 value, .int .i64 why, .bool false, .bool false, .int .i64 0] 30)) (w11).heap.size 30 #[.int .i64 0, .int .i64 0, .int .i64 0, .int .i64 value, .int .i64 why, .bool false, .bool false, .int .i64 0] := Blk.new (w11) _ _
          have hf12 : Fr F0 (w11) ((w11).alloc (.cells #[.int .i64 0, .int .i64 0, .int .i64 0, .int .i64 value, .int .i64 why, .bool false, .bool false, .int .i64 0] 30)) := ((Fr.refl _ _).alloc _)
          obtain ⟨r12, hr12⟩ : ∃ r, r = (w11).heap.size := ⟨_, rfl⟩
          rw [← hr12] at hB12
          have hP12 := HP11.out.own hf12 (r := r12) (HRC ▸ hB12) (by omega)
          have HS : (fun w' : World => w'.cell? ⟨V, 1, none⟩ = some (.int .i64 2)) ((w11).alloc (.cells #[.int .i64 0, .int .i64 0, .int .i64 0, .int .i64 value, .int .i64 why, .bool false, .bool false, .int .i64 0] 30)) := hP12.c1
          have HP12 := Lib.hid hP12
          clear hP12 hf12 hB12
          refine hK.out _ _ (fun _ => HS) ?_
          clear hK K
          rw [← hr12]
          clear hr12
          generalize (w11).alloc (.cells #[.int .i64 0, .int .i64 0, .int .i64 0, .int .i64 value, .int .i64 why, .bool false, .bool false, .int .i64 0] 30) = w12 at *
          refine AnyK.take (i := 19) rfl (by decide) (by kernel_rfl) (by kernel_rfl) (by kernel_rfl) (fun _ _ _ _ h => h) HS (fun K hK => ?_)
          go_simp
          refine hK.out _ ⟨_, by rfl, Or.inl ⟨by rfl, by intro w hSw; (try dsimp only at hSw); go_simp⟩, ?_⟩
          clear hK K
          refine AnyK.one (i := 20) rfl (by kernel_rfl) (fun K hK => ?_)
          have hV13 := HP12.out.hV
          have s0 : w12.cell? ⟨V, 12, none⟩ = some (.pointer none) := HP12.out.s2 (by omega)
          have f0 : w12.frozen? ⟨V, 12, none⟩ = false := hV13.frozen (12)
          go_simp
          have hP13 := HP12.out.set2 (by omega) (by omega)
          dsimp only at hP13
          rw [updN_eq] at hP13
          have HS : (fun w' : World => w'.cell? ⟨V, 1, none⟩ = some (.int .i64 2)) (w12.setCell ⟨V, 12, none⟩ (.pointer (some ⟨r12, 0, none⟩))) := hP13.c1
          have HP13 : Hid (PartIs w0 (w12.setCell ⟨V, 12, none⟩ (.pointer (some ⟨r12, 0, none⟩))) ⟨V, P, S, L, (updN (fun _ => 0) 0 o7), (updN (fun _ => 0) 0 ((wc.drew).heap.size + 1)), (updN (fun _ => 0) 0 r12)⟩ (1) (1) (1) (1) (ops0 value why) m0 0) := Lib.hid hP13
          clear hP13 hV13 s0 f0
          refine hK.out _ _ (fun _ => HS) ?_
          clear hK K
          generalize w12.setCell ⟨V, 12, none⟩ (.pointer (some ⟨r12, 0, none⟩)) = w13 at *
          refine AnyK.done (by kernel_rfl) ?_ _
          go_wp2_with fail
          go_meet
          exact ⟨_, _, _, rfl, HP13.out⟩
      · go_simp
        have hB14 : Blk (((wc).alloc (.cells #[.int .i64 0, .int .i64 0, .int .i64 0, .int .i64 value, .int .i64 why, .bool false, .bool false, .int .i64 0] 30)).drew) (wc).heap.size 30 #[.int .i64 0, .int .i64 0, .int .i64 0, .int .i64 value, .int .i64 why, .bool false, .bool false, .int .i64 0] := Blk.new (wc) _ _
        have hf14 : Fr F0 (wc) (((wc).alloc (.cells #[.int .i64 0, .int .i64 0, .int .i64 0, .int .i64 value, .int .i64 why, .bool false, .bool false, .int .i64 0] 30)).drew) := ((Fr.refl _ _).alloc _).drew
        obtain ⟨r14, hr14⟩ : ∃ r, r = (wc).heap.size := ⟨_, rfl⟩
        rw [← hr14] at hB14
        have hP14 := HP0.out.own hf14 (r := r14) (HRC ▸ hB14) (by omega)
        have HS : (fun w' : World => w'.cell? ⟨V, 1, none⟩ = some (.int .i64 2)) (((wc).alloc (.cells #[.int .i64 0, .int .i64 0, .int .i64 0, .int .i64 value, .int .i64 why, .bool false, .bool false, .int .i64 0] 30)).drew) := hP14.c1
        have HP14 := Lib.hid hP14
        clear hP14 hf14 hB14
        refine hK.out _ _ (fun _ => HS) ?_
        clear hK K
        rw [← hr14]
        clear hr14
        generalize ((wc).alloc (.cells #[.int .i64 0, .int .i64 0, .int .i64 0, .int .i64 value, .int .i64 why, .bool false, .bool false, .int .i64 0] 30)).drew = w14 at *
        refine AnyK.one (i := 8) rfl (by kernel_rfl) (fun K hK => ?_)
        go_simp
        refine (fill_any (w14) 2 value why).mono ?_
        rintro e w15 ⟨rfl, hO15, hf15⟩
        obtain ⟨o15, ho15⟩ : ∃ o, o = (w14).heap.size + 2 := ⟨_, rfl⟩
        rw [← ho15] at hO15 ⊢
        have hP15 := HP14.out.op hf15 (o := o15) (a := (w14).heap.size + 1) hO15 (by omega) (by omega)
        have HS : (fun w' : World => w'.cell? ⟨V, 1, none⟩ = some (.int .i64 2)) w15 := hP15.c1
        have HP15 := Lib.hid hP15
        clear hP15 hO15 hf15 ho15
        refine hK.out _ _ (fun _ => HS) ?_
        clear hK K
        refine AnyK.take (i := 15) rfl (by decide) (by kernel_rfl) (by kernel_rfl) (by kernel_rfl) (fun _ _ _ _ h => h) HS (fun K hK => ?_)
        go_simp
        refine hK.out _ ⟨_, by rfl, Or.inl ⟨by rfl, by intro w hSw; (try dsimp only at hSw); go_simp⟩, ?_⟩
        clear hK K
        refine AnyK.one (i := 16) rfl (by kernel_rfl) (fun K hK => ?_)
        have hV16 := HP15.out.hV
        have s0 : w15.cell? ⟨V, 6, none⟩ = some (.pointer none) := HP15.out.s1 (by omega)
        have f0 : w15.frozen? ⟨V, 6, none⟩ = false := hV16.frozen (6)
        go_simp
        have hP16 := HP15.out.set1 (by omega) (by omega)
        dsimp only at hP16
        rw [updN_eq] at hP16
        have HS : (fun w' : World => w'.cell? ⟨V, 1, none⟩ = some (.int .i64 2)) (w15.setCell ⟨V, 6, none⟩ (.pointer (some ⟨o15, 0, none⟩))) := hP16.c1
        have HP16 : Hid (PartIs w0 (w15.setCell ⟨V, 6, none⟩ (.pointer (some ⟨o15, 0, none⟩))) ⟨V, P, S, L, (updN (fun _ => 0) 0 o15), (updN (fun _ => 0) 0 ((w14).heap.size + 1)), (updN (fun _ => 0) 0 r14)⟩ (1) (0) (1) (1) (ops0 value why) m0 0) := Lib.hid hP16
        clear hP16 hV16 s0 f0
        refine hK.out _ _ (fun _ => HS) ?_
        clear hK K
        generalize w15.setCell ⟨V, 6, none⟩ (.pointer (some ⟨o15, 0, none⟩)) = w16 at *
        refine AnyK.take (i := 19) rfl (by decide) (by kernel_rfl) (by kernel_rfl) (by kernel_rfl) (fun _ _ _ _ h => h) HS (fun K hK => ?_)
        go_simp
        refine hK.out _ ⟨_, by rfl, Or.inl ⟨by rfl, by intro w hSw; (try dsimp only at hSw); go_simp⟩, ?_⟩
        clear hK K
        refine AnyK.one (i := 20) rfl (by kernel_rfl) (fun K hK => ?_)
        have hV17 := HP16.out.hV
        have s0 : w16.cell? ⟨V, 12, none⟩ = some (.pointer none) := HP16.out.s2 (by omega)
        have f0 : w16.frozen? ⟨V, 12, none⟩ = false := hV17.frozen (12)
        go_simp
        have hP17 := HP16.out.set2 (by omega) (by omega)
        dsimp only at hP17
        rw [updN_eq] at hP17
        have HS : (fun w' : World => w'.cell? ⟨V, 1, none⟩ = some (.int .i64 2)) (w16.setCell ⟨V, 12, none⟩ (.pointer (some ⟨r14, 0, none⟩))) := hP17.c1
        have HP17 : Hid (PartIs w0 (w16.setCell ⟨V, 12, none⟩ (.pointer (some ⟨r14, 0, none⟩))) ⟨V, P, S, L, (updN (fun _ => 0) 0 o15), (updN (fun _ => 0) 0 ((w14).heap.size + 1)), (updN (fun _ => 0) 0 r14)⟩ (1) (1) (1) (1) (ops0 value why) m0 0) := Lib.hid hP17
        clear hP17 hV17 s0 f0
        refine hK.out _ _ (fun _ => HS) ?_
        clear hK K
        generalize w16.setCell ⟨V, 12, none⟩ (.pointer (some ⟨r14, 0, none⟩)) = w17 at *
        refine AnyK.done (by kernel_rfl) ?_ _
        go_wp2_with fail
        go_meet
        exact ⟨_, _, _, rfl, HP17.out⟩
    case rest =>
      obtain ⟨O, A, R, rfl, hP⟩ := hcut
      rename_i wd
      clear HP0 c1
      have HP1 := Lib.hid hP
      clear hP
      go_wp2_with fail
      go_loopw [9] (fun iv wx => ∃ (j : Nat) (O A R : Nat → Nat), 1 ≤ j ∧ j ≤ 6 ∧ iv = .int .i64 (j : Int) ∧ Hid (PartIs w0 wx ⟨V, P, S, L, O, A, R⟩ j j j j (ops0 value why) m0 0)) (fun iv _ => 6 - (intOf iv).toNat)
      case atStart => exact ⟨1, O, A, R, by omega, by omega, rfl, HP1⟩
      case round =>
        clear HP1 O A R
        obtain ⟨j, O, A, R, hj1, hj6, rfl, HP⟩ := hrel
        by_cases hj : j ≤ 5
        · have g1 : (j : Int) ≤ 5 := by omega
          have g2 : (j : Int) < 6 := by omega
          have g3 : j < 6 := by omega
          have hwr : IntKind.i64.wrap (10 + (j : Int)) = 10 + (j : Int) := IntWalk.i64_in _ (by omega)
          have c1 := HP.out.c1
          dsimp only at c1
          have HRC : rco (ops0 value why j) = #[.int .i64 (j : Int), .int .i64 0, .int .i64 0, .int .i64 0, .int .i64 0, .bool false, .bool false, .int .i64 0] := by rw [ops0_wait value why j hj1]; rfl
          have HWT : Hid (∀ W : World, Calls Try.prog 15 #[.agg #[.int .i64 2], .int .i64 (j : Int), .int .i64 (10 + (j : Int))] W fun e w' => e = .returned (.pointer (some ⟨W.heap.size + 2, 0, none⟩)) ∧ OpAt w' (W.heap.size + 2) (W.heap.size + 1) (ops0 value why j) ∧ Fr (fun _ => False) W w') := Lib.hid (fun W => by
            have := wait_any W 2 (j : Int) (10 + j)
            rw [show ((10 + j : Nat) : Int) = 10 + (j : Int) by omega] at this
            rw [ops0_wait value why j hj1]
            exact this)
          go_upto_region 9 with (fail)
          refine region_K 23 (fun w' : World => w'.cell? ⟨V, 1, none⟩ = some (.int .i64 2)) (by kernel_rfl) ?_
          have HS : (fun w' : World => w'.cell? ⟨V, 1, none⟩ = some (.int .i64 2)) (wr).drew := c1
          refine AnyK.take (i := 0) rfl (by decide) (by kernel_rfl) (by kernel_rfl) (by kernel_rfl) (fun _ _ _ _ h => h) HS (fun K hK => ?_)
          go_simp
          refine hK.out _ ⟨_, by rfl, Or.inl ⟨by rfl, by intro w hSw; (try dsimp only at hSw); go_simp⟩, ?_⟩
          clear hK K
          refine AnyK.take (i := 1) rfl (by decide) (by kernel_rfl) (by kernel_rfl) (by kernel_rfl) (fun _ _ _ _ h => h) HS (fun K hK => ?_)
          go_simp
          refine hK.out _ ⟨_, by rfl, Or.inl ⟨by rfl, by intro w hSw; (try dsimp only at hSw); go_simp⟩, ?_⟩
          clear hK K
          refine AnyK.take (i := 2) rfl (by decide) (by kernel_rfl) (by kernel_rfl) (by kernel_rfl) (fun _ _ _ _ h => h) HS (fun K hK => ?_)
          go_simp
          refine hK.out _ ⟨_, by rfl, Or.inl ⟨by rfl, by intro w hSw; (try dsimp only at hSw); go_simp⟩, ?_⟩
          clear hK K
          refine AnyK.take (i := 3) rfl (by decide) (by kernel_rfl) (by kernel_rfl) (by kernel_rfl) (fun _ _ _ _ h => h) HS (fun K hK => ?_)
          go_simp
          refine hK.out _ ⟨_, by rfl, Or.inl ⟨by rfl, by intro w hSw; (try dsimp only at hSw); go_simp⟩, ?_⟩
          clear hK K
          refine AnyK.take (i := 4) rfl (by decide) (by kernel_rfl) (by kernel_rfl) (by kernel_rfl) (fun _ _ _ _ h => h) HS (fun K hK => ?_)
          go_simp
          refine hK.out _ ⟨_, by rfl, Or.inl ⟨by rfl, by intro w hSw; (try dsimp only at hSw); go_simp⟩, ?_⟩
          clear hK K
          refine AnyK.take (i := 5) rfl (by decide) (by kernel_rfl) (by kernel_rfl) (by kernel_rfl) (fun _ _ _ _ h => h) HS (fun K hK => ?_)
          go_simp
          refine hK.out _ ⟨_, by rfl, Or.inl ⟨by rfl, by intro w hSw; (try dsimp only at hSw); go_simp⟩, ?_⟩
          clear hK K
          refine AnyK.take (i := 6) rfl (by decide) (by kernel_rfl) (by kernel_rfl) (by kernel_rfl) (fun _ _ _ _ h => h) HS (fun K hK => ?_)
          go_simp
          refine hK.out _ ⟨_, by rfl, Or.inl ⟨by rfl, by intro w hSw; (try dsimp only at hSw); go_simp⟩, ?_⟩
          clear hK K
          refine AnyK.take (i := 7) rfl (by decide) (by kernel_rfl) (by kernel_rfl) (by kernel_rfl) (fun _ _ _ _ h => h) HS (fun K hK => ?_)
          go_simp
          refine hK.out _ ⟨_, by rfl, Or.inl ⟨by rfl, by intro w hSw; (try dsimp only at hSw); go_simp⟩, ?_⟩
          clear hK K
          refine AnyK.take (i := 8) rfl (by decide) (by kernel_rfl) (by kernel_rfl) (by kernel_rfl) (fun _ _ _ _ h => h) HS (fun K hK => ?_)
          go_simp
          refine hK.out _ ⟨_, by rfl, Or.inl ⟨by rfl, by intro w hSw; (try dsimp only at hSw); go_simp⟩, ?_⟩
          clear hK K
          refine AnyK.take (i := 9) rfl (by decide) (by kernel_rfl) (by kernel_rfl) (by kernel_rfl) (fun _ _ _ _ h => h) HS (fun K hK => ?_)
          go_simp
          refine hK.out _ ⟨_, by rfl, Or.inl ⟨by rfl, by intro w hSw; (try dsimp only at hSw); go_simp⟩, ?_⟩
          clear hK K
          refine AnyK.take (i := 10) rfl (by decide) (by kernel_rfl) (by kernel_rfl) (by kernel_rfl) (fun _ _ _ _ h => h) HS (fun K hK => ?_)
          go_simp
          refine hK.out _ ⟨_, by rfl, Or.inl ⟨by rfl, by intro w hSw; (try dsimp only at hSw); go_simp⟩, ?_⟩
          clear hK K
          refine AnyK.take (i := 12) rfl (by decide) (by kernel_rfl) (by kernel_rfl) (by kernel_rfl) (fun _ _ _ _ h => h) HS (fun K hK => ?_)
          go_simp
          refine hK.out _ ⟨_, by rfl, Or.inl ⟨by rfl, by intro w hSw; (try dsimp only at hSw); go_simp⟩, ?_⟩
          clear hK K
          refine AnyK.take (i := 13) rfl (by decide) (by kernel_rfl) (by kernel_rfl) (by kernel_rfl) (fun _ _ _ _ h => h) HS (fun K hK => ?_)
          go_simp
          refine hK.out _ ⟨_, by rfl, Or.inl ⟨by rfl, by intro w hSw; (try dsimp only at hSw); go_simp⟩, ?_⟩
          clear hK K
          refine AnyK.take (i := 15) rfl (by decide) (by kernel_rfl) (by kernel_rfl) (by kernel_rfl) (fun _ _ _ _ h => h) HS (fun K hK => ?_)
          go_simp
          refine hK.out _ ⟨_, by rfl, Or.inl ⟨by rfl, by intro w hSw; (try dsimp only at hSw); go_simp⟩, ?_⟩
          clear hK K
          refine AnyK.take (i := 16) rfl (by decide) (by kernel_rfl) (by kernel_rfl) (by kernel_rfl) (fun _ _ _ _ h => h) HS (fun K hK => ?_)
          go_simp
          refine hK.out _ ⟨_, by rfl, Or.inl ⟨by rfl, by intro w hSw; (try dsimp only at hSw); go_simp⟩, ?_⟩
          clear hK K
          refine AnyK.take (i := 19) rfl (by decide) (by kernel_rfl) (by kernel_rfl) (by kernel_rfl) (fun _ _ _ _ h => h) HS (fun K hK => ?_)
          go_simp
          refine hK.out _ ⟨_, by rfl, Or.inl ⟨by rfl, by intro w hSw; (try dsimp only at hSw); go_simp⟩, ?_⟩
          clear hK K
          refine AnyK.take (i := 20) rfl (by decide) (by kernel_rfl) (by kernel_rfl) (by kernel_rfl) (fun _ _ _ _ h => h) HS (fun K hK => ?_)
          go_simp
          refine hK.out _ ⟨_, by rfl, Or.inl ⟨by rfl, by intro w hSw; (try dsimp only at hSw); go_simp⟩, ?_⟩
          clear hK K
          refine AnyK.two (i := 11) (j := 14) rfl rfl (by kernel_rfl) (fun K hK => ?_) (fun K hK => ?_)
          · go_simp
            refine (HWT.out (wr.drew)).mono ?_
            rintro e w18 ⟨rfl, hO18, hf18⟩
            obtain ⟨o18, ho18⟩ : ∃ o, o = (wr.drew).heap.size + 2 := ⟨_, rfl⟩
            rw [← ho18] at hO18 ⊢
            have hP18 := HP.out.drew.op hf18 (o := o18) (a := (wr.drew).heap.size + 1) hO18 (by omega) (by omega)
            have HS : (fun w' : World => w'.cell? ⟨V, 1, none⟩ = some (.int .i64 2)) w18 := hP18.c1
            have HP18 := Lib.hid hP18
            clear hP18 hO18 hf18 ho18
            refine hK.out _ _ (fun _ => HS) ?_
            clear hK K
            refine AnyK.take (i := 17) rfl (by decide) (by kernel_rfl) (by kernel_rfl) (by kernel_rfl) (fun _ _ _ _ h => h) HS (fun K hK => ?_)
            go_simp
            refine hK.out _ ⟨_, by rfl, Or.inl ⟨by rfl, by intro w hSw; (try dsimp only at hSw); go_simp⟩, ?_⟩
            clear hK K
            refine AnyK.two (i := 14) (j := 18) rfl rfl (by kernel_rfl) (fun K hK => ?_) (fun K hK => ?_)
            · go_simp
              have hB19 : Blk ((w18).alloc (.cells #[.int .i64 (j : Int), .int .i64 0, .int .i64 0, .int .i64 0, .int .i64 0, .bool false, .bool false, .int .i64 0] 30)) (w18).heap.size 30 #[.int .i64 (j : Int), .int .i64 0, .int .i64 0, .int .i64 0, .int .i64 0, .bool false, .bool false, .int .i64 0] := Blk.new (w18) _ _
              have hf19 : Fr F0 (w18) ((w18).alloc (.cells #[.int .i64 (j : Int), .int .i64 0, .int .i64 0, .int .i64 0, .int .i64 0, .bool false, .bool false, .int .i64 0] 30)) := ((Fr.refl _ _).alloc _)
              obtain ⟨r19, hr19⟩ : ∃ r, r = (w18).heap.size := ⟨_, rfl⟩
              rw [← hr19] at hB19
              have hP19 := HP18.out.own hf19 (r := r19) (HRC ▸ hB19) (by omega)
              have HS : (fun w' : World => w'.cell? ⟨V, 1, none⟩ = some (.int .i64 2)) ((w18).alloc (.cells #[.int .i64 (j : Int), .int .i64 0, .int .i64 0, .int .i64 0, .int .i64 0, .bool false, .bool false, .int .i64 0] 30)) := hP19.c1
              have HP19 := Lib.hid hP19
              clear hP19 hf19 hB19
              refine hK.out _ _ (fun _ => HS) ?_
              clear hK K
              rw [← hr19]
              clear hr19
              generalize (w18).alloc (.cells #[.int .i64 (j : Int), .int .i64 0, .int .i64 0, .int .i64 0, .int .i64 0, .bool false, .bool false, .int .i64 0] 30) = w19 at *
              refine AnyK.one (i := 18) rfl (by kernel_rfl) (fun K hK => ?_)
              have hV20 := HP19.out.hV
              have s0 : w19.cell? ⟨V, 6 + j, none⟩ = some (.pointer none) := HP19.out.s1 (by omega)
              have f0 : w19.frozen? ⟨V, 6 + j, none⟩ = false := hV20.frozen (6 + j)
              go_simp
              have hP20 := HP19.out.set1 (by omega) (by omega)
              dsimp only at hP20
              rw [updN_eq] at hP20
              have HS : (fun w' : World => w'.cell? ⟨V, 1, none⟩ = some (.int .i64 2)) (w19.setCell ⟨V, 6 + j, none⟩ (.pointer (some ⟨o18, 0, none⟩))) := hP20.c1
              have HP20 : Hid (PartIs w0 (w19.setCell ⟨V, 6 + j, none⟩ (.pointer (some ⟨o18, 0, none⟩))) ⟨V, P, S, L, (updN O j o18), (updN A j ((wr.drew).heap.size + 1)), (updN R j r19)⟩ (j + 1) (j) (j + 1) (j + 1) (ops0 value why) m0 0) := Lib.hid hP20
              clear hP20 hV20 s0 f0
              refine hK.out _ _ (fun _ => HS) ?_
              clear hK K
              generalize w19.setCell ⟨V, 6 + j, none⟩ (.pointer (some ⟨o18, 0, none⟩)) = w20 at *
              refine AnyK.take (i := 21) rfl (by decide) (by kernel_rfl) (by kernel_rfl) (by kernel_rfl) (fun _ _ _ _ h => h) HS (fun K hK => ?_)
              go_simp
              refine hK.out _ ⟨_, by rfl, Or.inl ⟨by rfl, by intro w hSw; (try dsimp only at hSw); go_simp⟩, ?_⟩
              clear hK K
              refine AnyK.one (i := 22) rfl (by kernel_rfl) (fun K hK => ?_)
              have hV21 := HP20.out.hV
              have s0 : w20.cell? ⟨V, 12 + j, none⟩ = some (.pointer none) := HP20.out.s2 (by omega)
              have f0 : w20.frozen? ⟨V, 12 + j, none⟩ = false := hV21.frozen (12 + j)
              go_simp
              have hP21 := HP20.out.set2 (by omega) (by omega)
              dsimp only at hP21
              rw [updN_eq] at hP21
              have HS : (fun w' : World => w'.cell? ⟨V, 1, none⟩ = some (.int .i64 2)) (w20.setCell ⟨V, 12 + j, none⟩ (.pointer (some ⟨r19, 0, none⟩))) := hP21.c1
              have HP21 : Hid (PartIs w0 (w20.setCell ⟨V, 12 + j, none⟩ (.pointer (some ⟨r19, 0, none⟩))) ⟨V, P, S, L, (updN O j o18), (updN A j ((wr.drew).heap.size + 1)), (updN R j r19)⟩ (j + 1) (j + 1) (j + 1) (j + 1) (ops0 value why) m0 0) := Lib.hid hP21
              clear hP21 hV21 s0 f0
              refine hK.out _ _ (fun _ => HS) ?_
              clear hK K
              generalize w20.setCell ⟨V, 12 + j, none⟩ (.pointer (some ⟨r19, 0, none⟩)) = w21 at *
              refine AnyK.done (by kernel_rfl) ?_ _
              go_wp2_with fail
              exact ⟨⟨j + 1, _, _, _, by omega, by omega, by go_num, HP21⟩, by simp [intOf]; omega⟩
            · have hV22 := HP18.out.hV
              have s0 : w18.cell? ⟨V, 6 + j, none⟩ = some (.pointer none) := HP18.out.s1 (by omega)
              have f0 : w18.frozen? ⟨V, 6 + j, none⟩ = false := hV22.frozen (6 + j)
              go_simp
              have hP22 := HP18.out.set1 (by omega) (by omega)
              dsimp only at hP22
              rw [updN_eq] at hP22
              have HS : (fun w' : World => w'.cell? ⟨V, 1, none⟩ = some (.int .i64 2)) (w18.setCell ⟨V, 6 + j, none⟩ (.pointer (some ⟨o18, 0, none⟩))) := hP22.c1
              have HP22 : Hid (PartIs w0 (w18.setCell ⟨V, 6 + j, none⟩ (.pointer (some ⟨o18, 0, none⟩))) ⟨V, P, S, L, (updN O j o18), (updN A j ((wr.drew).heap.size + 1)), R⟩ (j + 1) (j) (j + 1) (j) (ops0 value why) m0 0) := Lib.hid hP22
              clear hP22 hV22 s0 f0
              refine hK.out _ _ (fun _ => HS) ?_
              clear hK K
              generalize w18.setCell ⟨V, 6 + j, none⟩ (.pointer (some ⟨o18, 0, none⟩)) = w22 at *
              refine AnyK.one (i := 14) rfl (by kernel_rfl) (fun K hK => ?_)
              go_simp
              have hB23 : Blk ((w22).alloc (.cells #[.int .i64 (j : Int), .int .i64 0, .int .i64 0, .int .i64 0, .int .i64 0, .bool false, .bool false, .int .i64 0] 30)) (w22).heap.size 30 #[.int .i64 (j : Int), .int .i64 0, .int .i64 0, .int .i64 0, .int .i64 0, .bool false, .bool false, .int .i64 0] := Blk.new (w22) _ _
              have hf23 : Fr F0 (w22) ((w22).alloc (.cells #[.int .i64 (j : Int), .int .i64 0, .int .i64 0, .int .i64 0, .int .i64 0, .bool false, .bool false, .int .i64 0] 30)) := ((Fr.refl _ _).alloc _)
              obtain ⟨r23, hr23⟩ : ∃ r, r = (w22).heap.size := ⟨_, rfl⟩
              rw [← hr23] at hB23
              have hP23 := HP22.out.own hf23 (r := r23) (HRC ▸ hB23) (by omega)
              have HS : (fun w' : World => w'.cell? ⟨V, 1, none⟩ = some (.int .i64 2)) ((w22).alloc (.cells #[.int .i64 (j : Int), .int .i64 0, .int .i64 0, .int .i64 0, .int .i64 0, .bool false, .bool false, .int .i64 0] 30)) := hP23.c1
              have HP23 := Lib.hid hP23
              clear hP23 hf23 hB23
              refine hK.out _ _ (fun _ => HS) ?_
              clear hK K
              rw [← hr23]
              clear hr23
              generalize (w22).alloc (.cells #[.int .i64 (j : Int), .int .i64 0, .int .i64 0, .int .i64 0, .int .i64 0, .bool false, .bool false, .int .i64 0] 30) = w23 at *
              refine AnyK.take (i := 21) rfl (by decide) (by kernel_rfl) (by kernel_rfl) (by kernel_rfl) (fun _ _ _ _ h => h) HS (fun K hK => ?_)
              go_simp
              refine hK.out _ ⟨_, by rfl, Or.inl ⟨by rfl, by intro w hSw; (try dsimp only at hSw); go_simp⟩, ?_⟩
              clear hK K
              refine AnyK.one (i := 22) rfl (by kernel_rfl) (fun K hK => ?_)
              have hV24 := HP23.out.hV
              have s0 : w23.cell? ⟨V, 12 + j, none⟩ = some (.pointer none) := HP23.out.s2 (by omega)
              have f0 : w23.frozen? ⟨V, 12 + j, none⟩ = false := hV24.frozen (12 + j)
              go_simp
              have hP24 := HP23.out.set2 (by omega) (by omega)
              dsimp only at hP24
              rw [updN_eq] at hP24
              have HS : (fun w' : World => w'.cell? ⟨V, 1, none⟩ = some (.int .i64 2)) (w23.setCell ⟨V, 12 + j, none⟩ (.pointer (some ⟨r23, 0, none⟩))) := hP24.c1
              have HP24 : Hid (PartIs w0 (w23.setCell ⟨V, 12 + j, none⟩ (.pointer (some ⟨r23, 0, none⟩))) ⟨V, P, S, L, (updN O j o18), (updN A j ((wr.drew).heap.size + 1)), (updN R j r23)⟩ (j + 1) (j + 1) (j + 1) (j + 1) (ops0 value why) m0 0) := Lib.hid hP24
              clear hP24 hV24 s0 f0
              refine hK.out _ _ (fun _ => HS) ?_
              clear hK K
              generalize w23.setCell ⟨V, 12 + j, none⟩ (.pointer (some ⟨r23, 0, none⟩)) = w24 at *
              refine AnyK.done (by kernel_rfl) ?_ _
              go_wp2_with fail
              exact ⟨⟨j + 1, _, _, _, by omega, by omega, by go_num, HP24⟩, by simp [intOf]; omega⟩
          · go_simp
            have hB25 : Blk (((wr).alloc (.cells #[.int .i64 (j : Int), .int .i64 0, .int .i64 0, .int .i64 0, .int .i64 0, .bool false, .bool false, .int .i64 0] 30)).drew) (wr).heap.size 30 #[.int .i64 (j : Int), .int .i64 0, .int .i64 0, .int .i64 0, .int .i64 0, .bool false, .bool false, .int .i64 0] := Blk.new (wr) _ _
            have hf25 : Fr F0 (wr) (((wr).alloc (.cells #[.int .i64 (j : Int), .int .i64 0, .int .i64 0, .int .i64 0, .int .i64 0, .bool false, .bool false, .int .i64 0] 30)).drew) := ((Fr.refl _ _).alloc _).drew
            obtain ⟨r25, hr25⟩ : ∃ r, r = (wr).heap.size := ⟨_, rfl⟩
            rw [← hr25] at hB25
            have hP25 := HP.out.own hf25 (r := r25) (HRC ▸ hB25) (by omega)
            have HS : (fun w' : World => w'.cell? ⟨V, 1, none⟩ = some (.int .i64 2)) (((wr).alloc (.cells #[.int .i64 (j : Int), .int .i64 0, .int .i64 0, .int .i64 0, .int .i64 0, .bool false, .bool false, .int .i64 0] 30)).drew) := hP25.c1
            have HP25 := Lib.hid hP25
            clear hP25 hf25 hB25
            refine hK.out _ _ (fun _ => HS) ?_
            clear hK K
            rw [← hr25]
            clear hr25
            generalize ((wr).alloc (.cells #[.int .i64 (j : Int), .int .i64 0, .int .i64 0, .int .i64 0, .int .i64 0, .bool false, .bool false, .int .i64 0] 30)).drew = w25 at *
            refine AnyK.one (i := 11) rfl (by kernel_rfl) (fun K hK => ?_)
            go_simp
            refine (HWT.out (w25)).mono ?_
            rintro e w26 ⟨rfl, hO26, hf26⟩
            obtain ⟨o26, ho26⟩ : ∃ o, o = (w25).heap.size + 2 := ⟨_, rfl⟩
            rw [← ho26] at hO26 ⊢
            have hP26 := HP25.out.op hf26 (o := o26) (a := (w25).heap.size + 1) hO26 (by omega) (by omega)
            have HS : (fun w' : World => w'.cell? ⟨V, 1, none⟩ = some (.int .i64 2)) w26 := hP26.c1
            have HP26 := Lib.hid hP26
            clear hP26 hO26 hf26 ho26
            refine hK.out _ _ (fun _ => HS) ?_
            clear hK K
            refine AnyK.take (i := 17) rfl (by decide) (by kernel_rfl) (by kernel_rfl) (by kernel_rfl) (fun _ _ _ _ h => h) HS (fun K hK => ?_)
            go_simp
            refine hK.out _ ⟨_, by rfl, Or.inl ⟨by rfl, by intro w hSw; (try dsimp only at hSw); go_simp⟩, ?_⟩
            clear hK K
            refine AnyK.one (i := 18) rfl (by kernel_rfl) (fun K hK => ?_)
            have hV27 := HP26.out.hV
            have s0 : w26.cell? ⟨V, 6 + j, none⟩ = some (.pointer none) := HP26.out.s1 (by omega)
            have f0 : w26.frozen? ⟨V, 6 + j, none⟩ = false := hV27.frozen (6 + j)
            go_simp
            have hP27 := HP26.out.set1 (by omega) (by omega)
            dsimp only at hP27
            rw [updN_eq] at hP27
            have HS : (fun w' : World => w'.cell? ⟨V, 1, none⟩ = some (.int .i64 2)) (w26.setCell ⟨V, 6 + j, none⟩ (.pointer (some ⟨o26, 0, none⟩))) := hP27.c1
            have HP27 : Hid (PartIs w0 (w26.setCell ⟨V, 6 + j, none⟩ (.pointer (some ⟨o26, 0, none⟩))) ⟨V, P, S, L, (updN O j o26), (updN A j ((w25).heap.size + 1)), (updN R j r25)⟩ (j + 1) (j) (j + 1) (j + 1) (ops0 value why) m0 0) := Lib.hid hP27
            clear hP27 hV27 s0 f0
            refine hK.out _ _ (fun _ => HS) ?_
            clear hK K
            generalize w26.setCell ⟨V, 6 + j, none⟩ (.pointer (some ⟨o26, 0, none⟩)) = w27 at *
            refine AnyK.take (i := 21) rfl (by decide) (by kernel_rfl) (by kernel_rfl) (by kernel_rfl) (fun _ _ _ _ h => h) HS (fun K hK => ?_)
            go_simp
            refine hK.out _ ⟨_, by rfl, Or.inl ⟨by rfl, by intro w hSw; (try dsimp only at hSw); go_simp⟩, ?_⟩
            clear hK K
            refine AnyK.one (i := 22) rfl (by kernel_rfl) (fun K hK => ?_)
            have hV28 := HP27.out.hV
            have s0 : w27.cell? ⟨V, 12 + j, none⟩ = some (.pointer none) := HP27.out.s2 (by omega)
            have f0 : w27.frozen? ⟨V, 12 + j, none⟩ = false := hV28.frozen (12 + j)
            go_simp
            have hP28 := HP27.out.set2 (by omega) (by omega)
            dsimp only at hP28
            rw [updN_eq] at hP28
            have HS : (fun w' : World => w'.cell? ⟨V, 1, none⟩ = some (.int .i64 2)) (w27.setCell ⟨V, 12 + j, none⟩ (.pointer (some ⟨r25, 0, none⟩))) := hP28.c1
            have HP28 : Hid (PartIs w0 (w27.setCell ⟨V, 12 + j, none⟩ (.pointer (some ⟨r25, 0, none⟩))) ⟨V, P, S, L, (updN O j o26), (updN A j ((w25).heap.size + 1)), (updN R j r25)⟩ (j + 1) (j + 1) (j + 1) (j + 1) (ops0 value why) m0 0) := Lib.hid hP28
            clear hP28 hV28 s0 f0
            refine hK.out _ _ (fun _ => HS) ?_
            clear hK K
            generalize w27.setCell ⟨V, 12 + j, none⟩ (.pointer (some ⟨r25, 0, none⟩)) = w28 at *
            refine AnyK.done (by kernel_rfl) ?_ _
            go_wp2_with fail
            exact ⟨⟨j + 1, _, _, _, by omega, by omega, by go_num, HP28⟩, by simp [intOf]; omega⟩
        · obtain rfl : j = 6 := by omega
          have HW := Lib.hid (HP.out.whole (fun k hk => ops0_sta value why k hk) (fun k _ => ops0_wf value why k))
          clear HP
          go_wp2_with fail
          go_ret2
          exact ⟨_, rfl, HW.out⟩
end Go.Proofs.Ytldcffgjkfocoaa
