/-
  haymowlaw13.CellOnce returns true for every two numbers and every row of bytes, and its arguments read as they did. No condition.
-/
import Derived.Test.YtldcffgjkfocoaaOnc
import Derived.Test.YtldcffgjkfocoaaArgsC
import Derived.Test.YtldcffgjkfocoaaRows
import Derived.ProofKit
import Derived.OpenShut
import Derived.ShutString
import Derived.ChangeOld
namespace Go.Proofs.Ytldcffgjkfocoaa.cellOnce
open Go.ChangeShapes Go.WideShapes Go.ChangeAt Go.RowKit
open Go.ChangeMaps (open_string shut_string)

set_option maxHeartbeats 1000000 in
set_option maxRecDepth 100000 in
theorem long (value why : Int) (a2 : Option Addr) (len2 cap2 : Nat) (h : 300 < len2) (w : World) :
    Calls Try.prog 4 #[.int .i64 value, .int .i64 why, .slice a2 len2 cap2] w fun e w' => e = .returned (.bool true) ∧ Fr F0 w w' := by
  have h1 : (300 : Int) < (len2 : Int) := by omega
  go_enter Try.func4, Try.ntmps4
  go_wp2_with fail
  go_ret
  exact ⟨rfl, Fr.refl _ _⟩

set_option maxHeartbeats 16000000 in
set_option maxRecDepth 100000 in
theorem few (value why : Int) (a2 : Option Addr) (len2 cap2 : Nat) (zs : List Int) (w : World) (w2 : IsRow .u8 w a2 len2 cap2 zs) (h : len2 ≤ 300) :
    Calls Try.prog 4 #[.int .i64 value, .int .i64 why, .slice a2 len2 cap2] w fun e w' => e = .returned (.bool true) ∧ Fr F0 w w' := by
  have h1 : ¬ (300 : Int) < (len2 : Int) := by omega
  have HROW := Lib.hid w2
  clear w2
  go_enter Try.func4, Try.ntmps4
  go_wp2_with fail
  refine (world_any w value why).mono ?_
  rintro e w3 ⟨q, rfl, hW⟩
  have HW : Hid (WIs w w3 q (ops0 value why, m0) (9 * 0)) := Lib.hid hW
  have HR := Lib.hid (Run.start value why)
  clear hW
  go_wp2_with fail
  go_loopw [9] (fun iv wx => ∃ (j : Nat) (S : (Nat → PO) × List Int), j ≤ len2 ∧ iv = .int .i64 (j : Int) ∧ Hid (WIs w wx q S (9 * j)) ∧ Hid (Run value why S)) (fun iv _ => len2 - (intOf iv).toNat)
  case atStart => exact ⟨0, _, by omega, rfl, HW, HR⟩
  case round =>
    clear HW HR
    obtain ⟨j, S, hj2, rfl, HW, HR⟩ := hrel
    by_cases hj : j < len2
    · have g1 : (j : Int) < (len2 : Int) := by omega
      obtain ⟨bb, off, n, rfl, hn, hc⟩ := HROW.out.u8 HW.out.fr hj
      have HMV := Lib.hid (wmove_any w wr q S.1 S.2 (9 * j) HW.out (by omega) n hn _ rfl)
      go_wp2_with fail
      refine HMV.out.mono ?_
      rintro e w4 ⟨rfl, hW4⟩
      have HW4 : Hid (WIs w w4 q (wst S (n % 6)) (9 * (j + 1))) := Lib.hid hW4
      have HR4 := Lib.hid (HR.out.step (n % 6) (by omega))
      clear hW4 HMV HW HR hc
      go_wp2_with fail
      exact ⟨⟨j + 1, _, by omega, by go_num, HW4, HR4⟩, by simp [intOf]; omega⟩
    · obtain rfl : j = len2 := by omega
      have g1 : ¬ (j : Int) < (j : Int) := by omega
      have HE : Hid (∀ i, i < 0 → (S.1 i).ended = true) := Lib.hid (fun i hi => by omega)
      clear HROW
      go_wp2_with fail
      go_loopw [10, 11] (fun kv _ wx => ∃ (k c : Nat) (S : (Nat → PO) × List Int), k ≤ 6 ∧ kv = .int .i64 (k : Int) ∧ c ≤ 2700 + 200 * k ∧ Hid (WIs w wx q S c) ∧ Hid (Run value why S) ∧ Hid (∀ i, i < k → (S.1 i).ended = true)) (fun kv _ _ => 6 - (intOf kv).toNat)
      case atStart => exact ⟨0, _, S, by omega, rfl, by omega, HW, HR, HE⟩
      case round =>
        clear HW HR HE S
        obtain ⟨k, c, S, hk6, rfl, hck, HW, HR, HE⟩ := hrel
        by_cases hk : k < 6
        · have g2 : (k : Int) < 6 := by omega
          have HU : Hid (fu (S.1 k) S.2 + 0 ≤ 20) := Lib.hid (by have := fu_le (S.1 k) S.2; omega)
          go_wp2_with fail
          go_loopw [11] (fun iv wx => ∃ (i c' : Nat) (S : (Nat → PO) × List Int), i ≤ 20 ∧ iv = .int .i64 (i : Int) ∧ c' ≤ c + 9 * i ∧ Hid (WIs w wx q S c') ∧ Hid (Run value why S) ∧ Hid (∀ i, i < k → (S.1 i).ended = true) ∧ Hid (fu (S.1 k) S.2 + i ≤ 20)) (fun iv _ => 20 - (intOf iv).toNat)
          case atStart => exact ⟨0, _, S, by omega, rfl, by omega, HW, HR, HE, HU⟩
          case round =>
            clear HW HR HE HU S
            obtain ⟨i, c', S, hi20, rfl, hci, HW, HR, HE, HU⟩ := hrel
            have p1 := HW.out.own k hk
            have p2 := HW.out.ended k hk
            by_cases hi : i < 20
            · have g3 : (i : Int) < 20 := by omega
              cases hen : (S.1 k).ended with
              | true =>
                have HE2 : Hid (∀ i, i < k + 1 → (S.1 i).ended = true) := Lib.hid (fun i' hi' => by
                  by_cases e : i' = k
                  · rw [e]; exact hen
                  · exact HE.out i' (by omega))
                rw [hen] at p2
                clear hen HE HU
                go_wp2_with fail
                exact ⟨⟨k + 1, c', S, by omega, by go_num, by omega, HW, HR, HE2⟩, by simp [intOf]; omega⟩
              | false =>
                have hmv := wmove_k w wr q S c' HW.out (by omega) k hk
                have HR2 := Lib.hid (HR.out.step k hk)
                have HE2 : Hid (∀ i, i < k → ((wst S k).1 i).ended = true) := Lib.hid (fun i' hi' => by rw [wst_other S (by omega)]; exact HE.out i' hi')
                have HU2 : Hid (fu ((wst S k).1 k) (wst S k).2 + (i + 1) ≤ 20) := Lib.hid (by
                  have h1 := HR.out.less k hk hen
                  have h2 : fu (S.1 k) S.2 + i ≤ 20 := HU.out
                  omega)
                rw [hen] at p2
                have HMV := Lib.hid hmv
                clear hmv hen HE HU HR
                go_wp2_with fail
                refine HMV.out.mono ?_
                rintro e w5 ⟨rfl, hW5⟩
                have HW5 := Lib.hid hW5
                clear hW5 HMV HW p1 p2
                go_wp2_with fail
                exact ⟨⟨i + 1, c' + 9, wst S k, by omega, by go_num, by omega, HW5, HR2, HE2, HU2⟩, by simp [intOf]; omega⟩
            · obtain rfl : i = 20 := by omega
              (try rw [show ((20 : Nat) : Int) = 20 from rfl])
              have hen : (S.1 k).ended = true := fu_zero (m := S.2) (by have : fu (S.1 k) S.2 + 20 ≤ 20 := HU.out; omega)
              have HE2 : Hid (∀ i, i < k + 1 → (S.1 i).ended = true) := Lib.hid (fun i' hi' => by
                by_cases e : i' = k
                · rw [e]; exact hen
                · exact HE.out i' (by omega))
              clear hen HE HU p1 p2
              go_wp2_with fail
              exact ⟨⟨k + 1, c', S, by omega, by go_num, by omega, HW, HR, HE2⟩, by simp [intOf]; omega⟩
        · obtain rfl : k = 6 := by omega
          rw [show ((6 : Nat) : Int) = 6 from rfl]
          obtain ⟨l, hinv⟩ := HR.out.inv
          obtain ⟨z1, z2, z3, z4⟩ := hinv.end0 (HW.out.wf 0 (by decide)) (HE.out 0 (by decide))
          obtain ⟨f, hf⟩ : ∃ f, f = (S.1 0).first := ⟨_, rfl⟩
          rw [← hf] at z4
          have HLN := Lib.hid z4
          have HINV := Lib.hid hinv
          have HEN := Lib.hid (fun (W : World) (h : WIs w W q S c) => h.end_ 0 (by decide) (HE.out 0 (by decide)) false 0 0 f z1 z2 z3 hf.symm)
          clear z1 z2 z3 z4 hinv hf HR
          have hfT : Fr F0 wr (wr.alloc (.cells #[.int .i64 0, .int .i64 0, .int .i64 0, .int .i64 0, .int .i64 0, .int .i64 0] 43)) := (Fr.refl _ _).alloc _
          have HW1 := Lib.hid (WorldIs.f0 HW.out hfT)
          have HT1 := Lib.hid (Blk.new wr 43 #[.int .i64 0, .int .i64 0, .int .i64 0, .int .i64 0, .int .i64 0, .int .i64 0])
          have hTn : w.heap.size ≤ wr.heap.size := HW.out.fr.size
          have p0 := WIs.op HW1.out 0 (by decide)
          clear hfT HW
          obtain ⟨T, hT⟩ : ∃ T, T = wr.heap.size := ⟨_, rfl⟩
          rw [← hT] at HT1 hTn
          go_wp2_with fail
          refine (HEN.out _ HW1.out).mono ?_
          rintro e w5 ⟨rfl, hf5⟩
          have hf6 : Fr F0 w5 (w5.alloc (.cells #[.bool false, .int .i64 0, .int .i64 0, .int .i64 f] 45)) := (Fr.refl _ _).alloc _
          have HW6 := Lib.hid (WorldIs.f0 (WorldIs.f0 HW1.out hf5) hf6)
          have HT6 : Hid (Blk (w5.alloc (.cells #[.bool false, .int .i64 0, .int .i64 0, .int .i64 f] 45)) T 43 (lcl (tl []))) := Lib.hid ((HT1.out.fr hf5 (fun h => h)).fr hf6 (fun h => h))
          clear hf5 hf6 HW1 HT1 HEN p0
          rw [← hT]
          clear hT
          go_wp2_with fail
          go_loopw [15, 16] (fun av iv wx => ∃ (done rest : List Nat) (i c' : Nat) (fv : Int), done ++ rest = l ∧ av = .int .i64 fv ∧ iv = .int .i64 (i : Int) ∧ done.length = i ∧ c' ≤ 4000 + i ∧ Hid (Lnk S.2 fv rest) ∧ Hid (WIs w wx q S c') ∧ Hid (Blk wx T 43 (lcl (tl done)))) (fun _ iv _ => 9 - (intOf iv).toNat)
          case atStart => exact ⟨[], l, 0, c, f, rfl, rfl, rfl, rfl, by omega, HLN, HW6, HT6⟩
          case round =>
            clear HW6 HT6 HLN
            obtain ⟨done, rest, i, c', fv, hdr, rfl, rfl, hdi, hcc, HLK, HW, HT⟩ := hrel
            have hi6 : i ≤ 6 := by have := HINV.out.short; rw [← hdr, List.length_append] at this; omega
            have g3 : (i : Int) < 9 := by omega
            have HDR := Lib.hid hdr
            have HDI := Lib.hid hdi
            clear hdr hdi
            cases rest with
            | nil =>
              obtain rfl : fv = 0 := HLK.out
              have hdl : done = l := by have := HDR.out; rwa [List.append_nil] at this
              rw [hdl] at HT
              clear HLK HDI HDR hdl
              go_wp2_with fail
              go_loopw [19] (fun xv wx => ∃ (x : Nat), 1 ≤ x ∧ x ≤ 6 ∧ xv = .int .i64 (x : Int) ∧ Hid (WIs w wx q S c') ∧ Hid (Blk wx T 43 (lcl (tl l)))) (fun xv _ => 6 - (intOf xv).toNat)
              case atStart => exact ⟨1, by omega, by omega, rfl, HW, HT⟩
              case round =>
                clear HW HT
                obtain ⟨x, hx1, hx6, rfl, HW, HT⟩ := hrel
                by_cases hx : x ≤ 5
                · have k1 : (x : Int) ≤ 5 := by omega
                  have k2 : (x : Int) < 6 := by omega
                  have k3 : x < 6 := by omega
                  have px := WIs.op HW.out x k3
                  by_cases hxl : x ∈ l
                  · obtain ⟨y1, y2, y3, y4⟩ := HINV.out.yes hx1 k3 (HW.out.wf x k3) hxl
                    have HEX := Lib.hid (WIs.end_ HW.out x k3 (HE.out x k3) true 0 0 0 y1 y2 y3 y4)
                    have ht := tl_get l x k3
                    rw [if_pos hxl] at ht
                    have HTX := Lib.hid (lcl_get _ _ _ ht)
                    clear y1 y2 y3 y4 ht hxl
                    go_wp2_with fail
                    refine HEX.out.mono ?_
                    rintro e w6 ⟨rfl, hf7⟩
                    have hf8 : Fr F0 w6 (w6.alloc (.cells #[.bool true, .int .i64 0, .int .i64 0, .int .i64 0] 45)) := (Fr.refl _ _).alloc _
                    have HW8 := Lib.hid (WorldIs.f0 (WorldIs.f0 HW.out hf7) hf8)
                    have HT8 := Lib.hid ((HT.out.fr hf7 (fun h => h)).fr hf8 (fun h => h))
                    have t8 : (w6.alloc (.cells #[.bool true, .int .i64 0, .int .i64 0, .int .i64 0] 45)).cell? ⟨T, x, none⟩ = some (.int .i64 1) := by rw [HT8.out.cell]; exact HTX.out
                    have t9 : w6.cell? ⟨T, x, none⟩ = some (.int .i64 1) := by rw [(HT.out.fr hf7 (fun h => h)).cell]; exact HTX.out
                    clear hf7 hf8 HW HT HEX HTX px
                    go_wp2_with fail
                    go_region
                    go_wp2_with fail
                    exact ⟨⟨x + 1, by omega, by omega, by go_num, Lib.hid (WorldIs.drew HW8.out), Lib.hid HT8.out.drew⟩, by simp [intOf]; omega⟩
                  · obtain ⟨y1, y2, y3, y4⟩ := HINV.out.not hx1 k3 (HE.out x k3) hxl
                    have HEX := Lib.hid (WIs.end_ HW.out x k3 (HE.out x k3) false value why 0 y1 y2 y3 y4)
                    have ht := tl_get l x k3
                    rw [if_neg hxl] at ht
                    have HTX := Lib.hid (lcl_get _ _ _ ht)
                    clear y1 y2 y3 y4 ht hxl
                    have v1 : (value != value) = false := by simp
                    have v2 : (why != why) = false := by simp
                    go_wp2_with fail
                    refine HEX.out.mono ?_
                    rintro e w6 ⟨rfl, hf7⟩
                    have hf8 : Fr F0 w6 (w6.alloc (.cells #[.bool false, .int .i64 value, .int .i64 why, .int .i64 0] 45)) := (Fr.refl _ _).alloc _
                    have HW8 := Lib.hid (WorldIs.f0 (WorldIs.f0 HW.out hf7) hf8)
                    have HT8 := Lib.hid ((HT.out.fr hf7 (fun h => h)).fr hf8 (fun h => h))
                    have t8 : (w6.alloc (.cells #[.bool false, .int .i64 value, .int .i64 why, .int .i64 0] 45)).cell? ⟨T, x, none⟩ = some (.int .i64 0) := by rw [HT8.out.cell]; exact HTX.out
                    have t9 : w6.cell? ⟨T, x, none⟩ = some (.int .i64 0) := by rw [(HT.out.fr hf7 (fun h => h)).cell]; exact HTX.out
                    clear hf7 hf8 HW HT HEX HTX px
                    go_wp2_with fail
                    go_region
                    go_wp2_with fail
                    exact ⟨⟨x + 1, by omega, by omega, by go_num, Lib.hid (WorldIs.drew HW8.out), Lib.hid HT8.out.drew⟩, by simp [intOf]; omega⟩
                · obtain rfl : x = 6 := by omega
                  (try rw [show ((6 : Nat) : Int) = 6 from rfl])
                  go_wp2_with fail
                  refine (awake_any wr).mono ?_
                  rintro e w6 ⟨rfl, hF⟩
                  have HFE := Lib.hid (HW.out.fr.trans hF)
                  clear hF HW
                  go_wp2_with fail
                  go_ret
                  exact ⟨rfl, HFE.out⟩
            | cons k r =>
              obtain ⟨hkk, hln⟩ := HLK.out
              have hmem : k ∈ l := by rw [← HDR.out]; simp
              obtain ⟨m1, m6, _, _⟩ := (HINV.out.mem k).1 hmem
              have hnd : ¬ k ∈ done := by
                have h1 := HINV.out.nd
                rw [← HDR.out] at h1
                intro h2
                exact (List.nodup_append.1 h1).2.2 k h2 k List.mem_cons_self rfl
              subst hkk
              have g4 : ((k : Int) != 0) = true := by simp; omega
              have g5 : ¬ (k : Int) < 1 := by omega
              have g6 : ¬ (5 : Int) < (k : Int) := by omega
              have g7 : (k : Int) < 6 := by omega
              have g8 : k < 6 := by omega
              have ht := tl_get done k m6
              rw [if_neg hnd] at ht
              have t1 : wr.cell? ⟨T, k, none⟩ = some (.int .i64 0) := by rw [HT.out.cell]; exact lcl_get _ _ _ ht
              have t2 := HT.out.frozen k
              have hfs : Fr (fun g => g = T) wr (wr.setCell ⟨T, k, none⟩ (.int .i64 1)) := (Fr.refl (fun g => g = T) wr).setCell (p := ⟨T, k, none⟩) (.inl rfl) _
              have HW7 : Hid (WIs w (wr.setCell ⟨T, k, none⟩ (.int .i64 1)) q S c') := Lib.hid (WorldIs.far HW.out HT.out hTn hfs)
              have HT7 : Hid (Blk (wr.setCell ⟨T, k, none⟩ (.int .i64 1)) T 43 (lcl (tl (done ++ [k])))) := Lib.hid (by
                have := HT.out.set_ k (.int .i64 1)
                rwa [lcl_set, tl_set done k m6] at this)
              have v0 := WIs.mem HW7.out
              obtain ⟨n, hn⟩ : ∃ n, n = S.2.getD (10 + k) 0 := ⟨_, rfl⟩
              rw [← hn] at hln
              have HLN := Lib.hid hln
              obtain ⟨n1, n2⟩ := MI.ne HT7.out HW7.out.hM (by decide) (by decide)
              have hld := load_mi HW7.out.hM (by omega) (10 + k) (by rw [HW7.out.len]; omega) n hn.symm
              rw [show ((10 + k : Nat) : Int) = 10 + (k : Int) by omega] at hld
              have HLD := Lib.hid hld
              have HDR2 : Hid (done ++ [k] ++ r = l) := Lib.hid (by rw [← HDR.out]; simp)
              have HDI2 : Hid ((done ++ [k]).length = i + 1) := Lib.hid (by rw [List.length_append, HDI.out]; rfl)
              clear hld hn hln hmem hnd ht hfs HLK HDR HDI HW HT
              go_wp2_with fail
              refine HLD.out.mono ?_
              rintro e w6 ⟨rfl, hM8, hF8⟩
              have HW8 := Lib.hid (WorldIs.mem HW7.out hM8 hF8)
              have HT8 := Lib.hid (HT7.out.fr hF8 (fun h => h.elim n1 n2))
              clear hM8 hF8 HLD HW7 HT7 v0 t1 t2
              go_wp2_with fail
              exact ⟨⟨done ++ [k], r, i + 1, c' + 1, n, HDR2.out, rfl, by go_num, HDI2.out, by omega, HLN, HW8, HT8⟩, by simp [intOf]; omega⟩
theorem walk_ {w : World} (a0 : Int) (_w0 : (Lit.int .i64 a0).wf = true) (a1 : Int) (_w1 : (Lit.int .i64 a1).wf = true) (a2 : Option Addr) (len2 cap2 : Nat) (z2 : List Int) (w2 : IsRow .u8 w a2 len2 cap2 z2) :
    Calls Try.prog 4 #[.int .i64 a0, .int .i64 a1, .slice a2 len2 cap2] w fun e w' => e = .returned (.bool true) ∧ Below w.heap.size w w' := by
  by_cases h : 300 < len2
  · exact (long a0 a1 a2 len2 cap2 h w).mono fun _ _ ⟨he, hf⟩ => ⟨he, hf.below (Nat.le_refl _) (fun _ h => h.elim)⟩
  · exact (few a0 a1 a2 len2 cap2 z2 w w2 (by omega)).mono fun _ _ ⟨he, hf⟩ => ⟨he, hf.below (Nat.le_refl _) (fun _ h => h.elim)⟩
theorem walk (a0 : Int) (w0 : (Lit.int .i64 a0).wf = true) (a1 : Int) (w1 : (Lit.int .i64 a1).wf = true) (a2 : Option Addr) (len2 cap2 : Nat) (z2 : List Int) {W0 : World} (w2 : IsRow .u8 W0 a2 len2 cap2 z2) (w : World) (hw : w = W0) :
    Calls Try.prog 4 #[.int .i64 a0, .int .i64 a1, .slice a2 len2 cap2] w fun e w' => e = .returned (.bool true) ∧ Below w.heap.size w w' := by
  subst hw; exact walk_ a0 w0 a1 w1 a2 len2 cap2 z2 w2

/-! ### The row's step -/
theorem own : ownKnob Try.prog.godebug = none := by kernel_rfl
theorem laidOut : laidOutB Try.prog = true := by kernel_rfl

set_option maxRecDepth 100000 in
theorem lifted (os : Os) (started : os.Started) (H : Type) (enc : TypeId × Value → H) :
    ReturnsInHanded {} Try.checked os 4 .any (Rows.cellOnceSpec.pre6 enc Try.prog Try.f4 Rows.cellOnceRow.domain false) (Rows.cellOnceSpec.post enc Try.prog Try.f4 false true false false) := by
  refine returnsInHanded_of_change (C := Try.checked) own started (by kernel_rfl) Try.func4
    (ChangeSpec.witness6 (enc := enc) (C := Try.checked) false ⟨#[], #[.int .i64 0, .int .i64 0, .slice none 0 0], []⟩ 8 (by kernel_rfl) (by kernel_rfl) (by kernel_rfl) (by kernel_rfl)) ?_
  intro W base args ds gs before hval0 hW hcnd _
  have hval : ∀ (j : Nat) t v, Try.f4.params[j]? = some t → args[j]? = some v → Value.okWide Try.prog W .any base t v := hval0
  have hW' := hW
  obtain ⟨p, q, hA0, hV, rfl, hfz, hnd⟩ := hW
  have hA : DataW.TrodAll enc Try.prog W 0 (fun _ => true) true Try.f4.params.toList args.toList ds p := hA0
  rw [Try.params4] at hA hval
  obtain ⟨v0, vs0, d0, ds0, p0, q0, hargs, rfl, rfl, h0, r0⟩ := trodAll_cons hA
  obtain ⟨v1, vs1, d1, ds1, p1, q1, rfl, rfl, rfl, h1, r1⟩ := trodAll_cons r0
  obtain ⟨v2, vs2, d2, ds2, p2, q2, rfl, rfl, rfl, h2, r2⟩ := trodAll_cons r1
  obtain ⟨rfl, rfl, rfl⟩ := trodAll_nil r2
  obtain rfl : args = #[v0, v1, v2] := by cases args; simp_all
  obtain ⟨rfl, rfl⟩ := trodVars_none hV
  obtain ⟨a0, rfl, rfl, rfl, w0⟩ := open_int Try.underlying2 (hval 0 2 v0 rfl rfl) h0
  obtain ⟨a1, rfl, rfl, rfl, w1⟩ := open_int Try.underlying2 (hval 1 2 v1 rfl rfl) h1
  obtain ⟨a2, len2, cap2, rfl⟩ := okWide_slice Try.underlying22 (hval 2 22 v2 rfl rfl)
  have k2 := h2
  have lt2 : ∀ x ∈ p2, x.block < W.heap.size := by obtain ⟨m, hm⟩ := k2; exact DataW.trod_lt m _ _ _ hm
  obtain ⟨z2, w2⟩ : ∃ zs, IsRow .u8 W a2 len2 cap2 zs := by
    obtain ⟨fuel, hf⟩ := h2
    rcases open_ints Try.underlying22 Try.underlying5 (by kernel_rfl) hf with ⟨hcs, _⟩ | ⟨x, l, c, zs, hcs, _, hl, hm, hz, _, hcell, hwz⟩
    · simp [Value.cells] at hcs
      obtain ⟨rfl, rfl, rfl⟩ := hcs
      exact ⟨[], .inl ⟨rfl, rfl, rfl, rfl⟩⟩
    · simp [Value.cells] at hcs
      obtain ⟨rfl, rfl, rfl⟩ := hcs
      exact ⟨zs, .inr ⟨_, rfl, hl, hm, by simpa using hz, hcell, hwz⟩⟩
  clear hA0 hval0
  refine (walk a0 w0 a1 w1 a2 len2 cap2 z2 w2 W rfl).mono fun e W' ⟨he, bel⟩ => ?_
  subst he
  exact ⟨_, rfl, _, _, _, [], _, [], hW', trodAll_mk1 (shut_bool Try.underlying4 _), (trodAll_cons_mk (shut_int Try.underlying2 w0) (trodAll_cons_mk (shut_int Try.underlying2 w1) (trodAll_cons_mk (Below.trod laidOut (by kernel_rfl) (of_decide_eq_true (by kernel_rfl)) k2 bel lt2) trodAll_mk0))), rfl, bel.frame _, fun h => by cases h⟩

theorem over : Rows.cellOnceRow.holds Try.pinned (OpenSpec.ofChange Rows.cellOnceSpec) :=
  OpenClaim.holds_of_wide 4 Try.f4 rfl rfl rfl rfl rfl rfl rfl ⟨rfl, rfl, rfl, rfl, rfl⟩ rfl rfl rfl rfl rfl (by kernel_rfl) Try.func4 (by kernel_rfl)
    (of_decide_eq_true (by kernel_rfl)) (by unfold Func.isWrapper; first | (rw [if_pos (by decide +kernel)]; kernel_rfl) | (rw [if_neg (by decide +kernel)]; exact ⟨rfl, rfl⟩))
    (fun os started H enc _ => lifted os started H enc)

/-- The statement. -/
theorem proved : Rows.CellOnceSaid := over
#print axioms proved
end Go.Proofs.Ytldcffgjkfocoaa.cellOnce
