/-
  Exec, where the gates are open.
-/
import Derived.Test.YtadcenaafoemmaaDoorF11p
namespace Go.Proofs.YtadcenaafoemmaaDoor
open Go.RowKit

set_option maxHeartbeats 16000000 in
set_option maxRecDepth 100000 in
theorem exec_open (w : World) (F b off n pc fn at_ cn yc : Nat) (st kd : Int) (pv : Value) (r0 r1 r2 r3 r4 r5 r6 r7 : Int) (hands : List Int) (ib io : Nat) (io0 ia ibb ic ik : Int) (bud dep : Int) (L : List LFn) (f : EF) (xat xk s0 s1 s2 s3 s4 s5 s6 s7 : Int)
    (hn : L.length = n) (h4 : hands.length = 4)
    (hR : FnRow w (fun b => b < w.heap.size) (some ⟨b, off, none⟩) L) (hT : FieldsAt w) (hL : L.length < 1000000) (hright : frightB L bud dep = true)
    (hB : Blk w F 95 (frL fn at_ st kd pv [r0, r1, r2, r3, r4, r5, r6, r7] hands).toArray)
    (hc : w.cell? ⟨b, off + fn * 2 + 1, none⟩ = some (.slice (some ⟨ib, io, none⟩) cn yc)) (hi : ∀ (j : Nat) (u : Int), [io0, ia, ibb, ic, ik][j]? = some u → w.cell? ⟨ib, io + at_ * 5 + j, none⟩ = some (.int .i64 u)) (h1 : fn < n) (h2 : at_ < cn) (h3 : cn < 1000000) (hst : st < bud) (hsl : -9223372036854775808 ≤ st) (hbd : bud ≤ 10000)
    (hbF : b ≠ F) (hiF : ib ≠ F)
    (HDO : Hid (∀ (W : World) (t : Nat), Fr None' w W → w.heap.size ≤ t → Blk W t 115 (tnL ((at_ : Int) + 1) [r0, r1, r2, r3, r4, r5, r6, r7] F (.slice (some ⟨b, off, none⟩) n pc) bud dep).toArray → Calls Tryd.prog 28 #[.pointer (some ⟨t, 0, none⟩), .agg #[.int .i64 io0, .int .i64 ia, .int .i64 ibb, .int .i64 ic, .int .i64 ik]] W (DoPost W w.heap.size t F fn at_ st pv [r0, r1, r2, r3, r4, r5, r6, r7] hands (.slice (some ⟨b, off, none⟩) n pc) bud dep ⟨f, xat, [s0, s1, s2, s3, s4, s5, s6, s7], xk⟩))) :
    Calls Tryd.prog 11 #[.slice (some ⟨b, off, none⟩) n pc, .agg #[.int .i64 bud, .int .i64 dep], .pointer (some ⟨F, 0, none⟩)] w (ExPost w F fn (st + 1) pv hands ⟨f, xat, [s0, s1, s2, s3, s4, s5, s6, s7], xk⟩) := by
  have f0 : w.cell? ⟨F, 0, none⟩ = some (.int .i64 (fn : Int)) := by rw [hB.cell]; rfl
  have f1 : w.cell? ⟨F, 1, none⟩ = some (.int .i64 (at_ : Int)) := by rw [hB.cell]; rfl
  have f2 : w.cell? ⟨F, 2, none⟩ = some (.int .i64 st) := by rw [hB.cell]; rfl
  have HR1 : Hid (∀ w1, Fr None' w w1 → Calls Tryd.prog 25 #[.slice (some ⟨b, off, none⟩) n pc, .agg #[.int .i64 bud, .int .i64 dep]] w1 fun e w' => e = .returned (.bool true) ∧ Fr None' w1 w') := Lib.hid (fun w1 hF => by
    have h := fright_any w1 (some ⟨b, off, none⟩) pc L ((hR.fr hF (fun _ _ h => h)).mono (fun b h => Nat.lt_of_lt_of_le h hF.size)) (hT.fr hF (fun h => h)) hL bud dep
    rw [hright, hn] at h
    exact h)
  have HWI : Hid (∀ w1, Fr None' w w1 → Calls Tryd.prog 26 #[.pointer (some ⟨F, 0, none⟩), .slice (some ⟨b, off, none⟩) n pc] w1 fun e w' => e = .returned (.bool true) ∧ Fr None' w1 w') := Lib.hid (fun w1 hF =>
    within_in w1 F b off n pc fn at_ cn yc (some ⟨ib, io, none⟩) (hF.held f0 (fun h => h)) (hF.held f1 (fun h => h)) (hF.held hc (fun h => h)) h1 h2)
  have HB := Lib.hid hB
  have HF2 := Lib.hid f2
  have HRW := Lib.hid hR
  have HC := Lib.hid hc
  have HIN := Lib.hid hi
  clear hi
  clear hR hT hL hright hB hc f0 f1 f2 hn
  go_enter Tryd.func11, Tryd.ntmps11
  go_upto_region 1 with (fail)
  generalize hW : (w.alloc (.cells _ 43)).alloc (.cells _ 36) = W
  have hF : Fr None' w W := by rw [← hW]; exact ((Fr.refl _ _).alloc _).alloc _
  have hI : Blk W w.heap.size 43 #[.int .i64 bud, .int .i64 dep] := by rw [← hW]; exact (Blk.new _ _ _).alloc _
  have hE : Blk W (w.heap.size + 1) 36 efZ := by
    have h := Blk.new (w.alloc (.cells #[.int .i64 bud, .int .i64 dep] 43)) 36 efZ
    rw [show (w.alloc (.cells #[.int .i64 bud, .int .i64 dep] 43)).heap.size = w.heap.size + 1 by simp] at h
    rw [← hW]; exact h
  have l0 : W.cell? ⟨w.heap.size, 0, none⟩ = some (.int .i64 bud) := by rw [hI.cell]; rfl
  have l1 : W.cell? ⟨w.heap.size, 1, none⟩ = some (.int .i64 dep) := by rw [hI.cell]; rfl
  have HF := Lib.hid hF
  have HI := Lib.hid hI
  have HE := Lib.hid hE
  clear hF hI hE hW
  go_wp2_with fail
  refine (HR1.out _ HF.out).mono ?_
  rintro e wA ⟨rfl, hFA⟩
  have HFA := Lib.hid (HF.out.trans hFA)
  have HIA := Lib.hid (HI.out.fr hFA (fun h => h))
  have HEA := Lib.hid (HE.out.fr hFA (fun h => h))
  clear l0 l1 hFA HF HI HE HR1
  go_wp2_with fail
  refine (HWI.out _ HFA.out).mono ?_
  rintro e wB ⟨rfl, hFB⟩
  have HFB := Lib.hid (HFA.out.trans hFB)
  have HIB := Lib.hid (HIA.out.fr hFB (fun h => h))
  have HEB := Lib.hid (HEA.out.fr hFB (fun h => h))
  clear hFB HFA HIA HEA HWI
  go_upto_region 5 with (fail)
  have HS : (fun w' : World => w'.cell? ⟨F, 2, none⟩ = some (.int .i64 st) ∧ w'.cell? ⟨w.heap.size, 0, none⟩ = some (.int .i64 bud)) wB.drew := ⟨by show wB.cell? _ = _; exact HFB.out.held HF2.out (fun h => h), by show wB.cell? _ = _; rw [HIB.out.cell]; rfl⟩
  refine region_K 7 (fun w' : World => w'.cell? ⟨F, 2, none⟩ = some (.int .i64 st) ∧ w'.cell? ⟨w.heap.size, 0, none⟩ = some (.int .i64 bud)) (by kernel_rfl) ?_
  have HFC := Lib.hid HFB.out.drew
  have HIC := Lib.hid HIB.out.drew
  have HEC := Lib.hid HEB.out.drew
  clear HFB HIB HEB HF2
  generalize wB.drew = wC at *
  refine AnyK.take (i := 0) rfl (by decide) (by kernel_rfl) (by kernel_rfl) (by kernel_rfl) (fun _ _ _ _ h => h) HS (fun K hK => ?_)
  go_simp
  refine hK.out _ ⟨_, by rfl, Or.inl ⟨by rfl, by intro w' hSw; (try dsimp only at hSw); go_simp⟩, ?_⟩
  clear hK K
  refine AnyK.take (i := 1) rfl (by decide) (by kernel_rfl) (by kernel_rfl) (by kernel_rfl) (fun _ _ _ _ h => h) HS (fun K hK => ?_)
  go_simp
  refine hK.out _ ⟨_, by rfl, Or.inl ⟨by rfl, by intro w' hSw; (try dsimp only at hSw); go_simp⟩, ?_⟩
  clear hK K
  refine AnyK.take (i := 2) rfl (by decide) (by kernel_rfl) (by kernel_rfl) (by kernel_rfl) (fun _ _ _ _ h => h) HS (fun K hK => ?_)
  go_simp
  refine hK.out _ ⟨_, by rfl, Or.inl ⟨by rfl, by intro w' hSw; (try dsimp only at hSw); go_simp⟩, ?_⟩
  clear hK K
  refine AnyK.take (i := 3) rfl (by decide) (by kernel_rfl) (by kernel_rfl) (by kernel_rfl) (fun _ _ _ _ h => h) HS (fun K hK => ?_)
  go_simp
  refine hK.out _ ⟨_, by rfl, Or.inl ⟨by rfl, by intro w' hSw; (try dsimp only at hSw); go_simp⟩, ?_⟩
  clear hK K
  refine AnyK.take (i := 4) rfl (by decide) (by kernel_rfl) (by kernel_rfl) (by kernel_rfl) (fun _ _ _ _ h => h) HS (fun K hK => ?_)
  go_simp
  refine hK.out _ ⟨_, by rfl, Or.inl ⟨by rfl, by intro w' hSw; (try dsimp only at hSw); go_simp⟩, ?_⟩
  clear hK K
  refine AnyK.take (i := 5) rfl (by decide) (by kernel_rfl) (by kernel_rfl) (by kernel_rfl) (fun _ _ _ _ h => h) HS (fun K hK => ?_)
  go_simp
  refine hK.out _ ⟨_, by rfl, Or.inl ⟨by rfl, by intro w' hSw; (try dsimp only at hSw); go_simp⟩, ?_⟩
  clear hK K
  refine AnyK.take (i := 6) rfl (by decide) (by kernel_rfl) (by kernel_rfl) (by kernel_rfl) (fun _ _ _ _ h => h) HS (fun K hK => ?_)
  go_simp
  refine hK.out _ ⟨_, by rfl, Or.inl ⟨by rfl, by intro w' hSw; (try dsimp only at hSw); go_simp⟩, ?_⟩
  clear hK K
  have hq : decide (bud ≤ st) = false := decide_eq_false (by omega)
  have hst2 : ¬ bud ≤ st := by omega
  refine AnyK.done (by kernel_rfl) ?_ _
  clear HS
  go_upto_region 7 with (fail)
  try simp only [hq]
  clear hq hst2
  have hsum : IntKind.i64.wrap ((at_ : Int) + 1) = (at_ : Int) + 1 := IntWalk.i64_in _ (by omega)
  have HSF : Hid (∀ w', Fr None' w w' → Blk w' w.heap.size 43 #[.int .i64 bud, .int .i64 dep] → (fun w' : World => w'.cell? ⟨F, 1, none⟩ = some (.int .i64 (at_ : Int)) ∧ w'.cell? ⟨w.heap.size, 0, none⟩ = some (.int .i64 bud) ∧ w'.cell? ⟨w.heap.size, 1, none⟩ = some (.int .i64 dep) ∧ w'.cell? ⟨F, 5, none⟩ = some (.int .i64 r0) ∧ w'.cell? ⟨F, 6, none⟩ = some (.int .i64 r1) ∧ w'.cell? ⟨F, 7, none⟩ = some (.int .i64 r2) ∧ w'.cell? ⟨F, 8, none⟩ = some (.int .i64 r3) ∧ w'.cell? ⟨F, 9, none⟩ = some (.int .i64 r4) ∧ w'.cell? ⟨F, 10, none⟩ = some (.int .i64 r5) ∧ w'.cell? ⟨F, 11, none⟩ = some (.int .i64 r6) ∧ w'.cell? ⟨F, 12, none⟩ = some (.int .i64 r7)) w') := Lib.hid (fun w' hF hI => by
    have hB := HB.out.fr hF (fun h => h)
    exact ⟨by rw [hB.cell]; rfl, by rw [hI.cell]; rfl, by rw [hI.cell]; rfl, by rw [hB.cell]; rfl, by rw [hB.cell]; rfl, by rw [hB.cell]; rfl, by rw [hB.cell]; rfl, by rw [hB.cell]; rfl, by rw [hB.cell]; rfl, by rw [hB.cell]; rfl, by rw [hB.cell]; rfl⟩)
  have HFD := Lib.hid HFC.out.drew
  have HID := Lib.hid HIC.out.drew
  have HED := Lib.hid HEC.out.drew
  have HS : (fun w' : World => w'.cell? ⟨F, 1, none⟩ = some (.int .i64 (at_ : Int)) ∧ w'.cell? ⟨w.heap.size, 0, none⟩ = some (.int .i64 bud) ∧ w'.cell? ⟨w.heap.size, 1, none⟩ = some (.int .i64 dep) ∧ w'.cell? ⟨F, 5, none⟩ = some (.int .i64 r0) ∧ w'.cell? ⟨F, 6, none⟩ = some (.int .i64 r1) ∧ w'.cell? ⟨F, 7, none⟩ = some (.int .i64 r2) ∧ w'.cell? ⟨F, 8, none⟩ = some (.int .i64 r3) ∧ w'.cell? ⟨F, 9, none⟩ = some (.int .i64 r4) ∧ w'.cell? ⟨F, 10, none⟩ = some (.int .i64 r5) ∧ w'.cell? ⟨F, 11, none⟩ = some (.int .i64 r6) ∧ w'.cell? ⟨F, 12, none⟩ = some (.int .i64 r7)) wC.drew := HSF.out _ HFD.out HID.out
  clear HFC HIC HEC
  refine region_K 16 (fun w' : World => w'.cell? ⟨F, 1, none⟩ = some (.int .i64 (at_ : Int)) ∧ w'.cell? ⟨w.heap.size, 0, none⟩ = some (.int .i64 bud) ∧ w'.cell? ⟨w.heap.size, 1, none⟩ = some (.int .i64 dep) ∧ w'.cell? ⟨F, 5, none⟩ = some (.int .i64 r0) ∧ w'.cell? ⟨F, 6, none⟩ = some (.int .i64 r1) ∧ w'.cell? ⟨F, 7, none⟩ = some (.int .i64 r2) ∧ w'.cell? ⟨F, 8, none⟩ = some (.int .i64 r3) ∧ w'.cell? ⟨F, 9, none⟩ = some (.int .i64 r4) ∧ w'.cell? ⟨F, 10, none⟩ = some (.int .i64 r5) ∧ w'.cell? ⟨F, 11, none⟩ = some (.int .i64 r6) ∧ w'.cell? ⟨F, 12, none⟩ = some (.int .i64 r7)) (by kernel_rfl) ?_
  generalize wC.drew = wD at *
  refine AnyK.take (i := 0) rfl (by decide) (by kernel_rfl) (by kernel_rfl) (by kernel_rfl) (fun _ _ _ _ h => h) HS (fun K hK => ?_)
  go_simp
  refine hK.out _ ⟨_, by rfl, Or.inl ⟨by rfl, by intro w' hSw; (try dsimp only at hSw); go_simp⟩, ?_⟩
  clear hK K
  refine AnyK.take (i := 1) rfl (by decide) (by kernel_rfl) (by kernel_rfl) (by kernel_rfl) (fun _ _ _ _ h => h) HS (fun K hK => ?_)
  go_simp
  refine hK.out _ ⟨_, by rfl, Or.inl ⟨by rfl, by intro w' hSw; (try dsimp only at hSw); go_simp⟩, ?_⟩
  clear hK K
  refine AnyK.take (i := 2) rfl (by decide) (by kernel_rfl) (by kernel_rfl) (by kernel_rfl) (fun _ _ _ _ h => h) HS (fun K hK => ?_)
  go_simp
  refine hK.out _ ⟨_, by rfl, Or.inl ⟨by rfl, by intro w' hSw; (try dsimp only at hSw); go_simp⟩, ?_⟩
  clear hK K
  refine AnyK.take (i := 3) rfl (by decide) (by kernel_rfl) (by kernel_rfl) (by kernel_rfl) (fun _ _ _ _ h => h) HS (fun K hK => ?_)
  go_simp
  refine hK.out _ ⟨_, by rfl, Or.inl ⟨by rfl, by intro w' hSw; (try dsimp only at hSw); go_simp⟩, ?_⟩
  clear hK K
  refine AnyK.take (i := 4) rfl (by decide) (by kernel_rfl) (by kernel_rfl) (by kernel_rfl) (fun _ _ _ _ h => h) HS (fun K hK => ?_)
  go_simp
  refine hK.out _ ⟨_, by rfl, Or.inl ⟨by rfl, by intro w' hSw; (try dsimp only at hSw); go_simp⟩, ?_⟩
  clear hK K
  refine AnyK.take (i := 5) rfl (by decide) (by kernel_rfl) (by kernel_rfl) (by kernel_rfl) (fun _ _ _ _ h => h) HS (fun K hK => ?_)
  go_simp
  refine hK.out _ ⟨_, by rfl, Or.inl ⟨by rfl, by intro w' hSw; (try dsimp only at hSw); go_simp⟩, ?_⟩
  clear hK K
  refine AnyK.take (i := 6) rfl (by decide) (by kernel_rfl) (by kernel_rfl) (by kernel_rfl) (fun _ _ _ _ h => h) HS (fun K hK => ?_)
  go_simp
  refine hK.out _ ⟨_, by rfl, Or.inl ⟨by rfl, by intro w' hSw; (try dsimp only at hSw); go_simp⟩, ?_⟩
  clear hK K
  refine AnyK.take (i := 7) rfl (by decide) (by kernel_rfl) (by kernel_rfl) (by kernel_rfl) (fun _ _ _ _ h => h) HS (fun K hK => ?_)
  go_simp
  refine hK.out _ ⟨_, by rfl, Or.inl ⟨by rfl, by intro w' hSw; (try dsimp only at hSw); go_simp⟩, ?_⟩
  clear hK K
  refine AnyK.take (i := 8) rfl (by decide) (by kernel_rfl) (by kernel_rfl) (by kernel_rfl) (fun _ _ _ _ h => h) HS (fun K hK => ?_)
  go_simp
  refine hK.out _ ⟨_, by rfl, Or.inl ⟨by rfl, by intro w' hSw; (try dsimp only at hSw); go_simp⟩, ?_⟩
  clear hK K
  refine AnyK.take (i := 9) rfl (by decide) (by kernel_rfl) (by kernel_rfl) (by kernel_rfl) (fun _ _ _ _ h => h) HS (fun K hK => ?_)
  go_simp
  refine hK.out _ ⟨_, by rfl, Or.inl ⟨by rfl, by intro w' hSw; (try dsimp only at hSw); go_simp⟩, ?_⟩
  clear hK K
  refine AnyK.take (i := 10) rfl (by decide) (by kernel_rfl) (by kernel_rfl) (by kernel_rfl) (fun _ _ _ _ h => h) HS (fun K hK => ?_)
  go_simp
  refine hK.out _ ⟨_, by rfl, Or.inl ⟨by rfl, by intro w' hSw; (try dsimp only at hSw); go_simp⟩, ?_⟩
  clear hK K
  refine AnyK.take (i := 11) rfl (by decide) (by kernel_rfl) (by kernel_rfl) (by kernel_rfl) (fun _ _ _ _ h => h) HS (fun K hK => ?_)
  go_simp
  refine hK.out _ ⟨_, by rfl, Or.inl ⟨by rfl, by intro w' hSw; (try dsimp only at hSw); go_simp⟩, ?_⟩
  clear hK K
  refine AnyK.take (i := 12) rfl (by decide) (by kernel_rfl) (by kernel_rfl) (by kernel_rfl) (fun _ _ _ _ h => h) HS (fun K hK => ?_)
  go_simp
  refine hK.out _ ⟨_, by rfl, Or.inl ⟨by rfl, by intro w' hSw; (try dsimp only at hSw); go_simp⟩, ?_⟩
  clear hK K
  refine AnyK.take (i := 13) rfl (by decide) (by kernel_rfl) (by kernel_rfl) (by kernel_rfl) (fun _ _ _ _ h => h) HS (fun K hK => ?_)
  go_simp
  refine hK.out _ ⟨_, by rfl, Or.inl ⟨by rfl, by intro w' hSw; (try dsimp only at hSw); go_simp⟩, ?_⟩
  clear hK K
  refine AnyK.one (i := 14) rfl (by kernel_rfl) (fun K hK => ?_)
  go_simp
  generalize hE2 : wD.alloc (.cells _ 115) = wE
  have hTn : Blk wE wD.heap.size 115 (tnL ((at_ : Int) + 1) [r0, r1, r2, r3, r4, r5, r6, r7] F (.slice (some ⟨b, off, none⟩) n pc) bud dep).toArray := by rw [← hE2]; exact Blk.new _ _ _
  have hFE : Fr None' wD wE := by rw [← hE2]; exact (Fr.refl _ _).alloc _
  have hts : w.heap.size + 1 < wD.heap.size := HED.out.lt
  have hFt : F < w.heap.size := HB.out.lt
  have HTN := Lib.hid hTn
  have HFE := Lib.hid (HFD.out.trans hFE)
  have HIE := Lib.hid (HID.out.fr hFE (fun h => h))
  have HEE := Lib.hid (HED.out.fr hFE (fun h => h))
  have HS := HSF.out _ HFE.out HIE.out
  clear hE2 hTn hFE HFD HID HED
  generalize wD.heap.size = t at *
  refine hK.out _ _ (fun _ => HS) ?_
  clear hK K
  refine AnyK.one (i := 15) rfl (by kernel_rfl) (fun K hK => ?_)
  go_simp
  refine hK.out _ _ (fun _ => HS) ?_
  clear hK K HS HSF hsum
  refine AnyK.done (by kernel_rfl) ?_ _
  go_upto_region 8 with (fail)
  have hltb : b < w.heap.size := cell_lt HC.out
  have hlti : ib < w.heap.size := cell_lt (HIN.out 0 _ rfl)
  have htw : w.heap.size ≤ t := by omega
  go_cut [9] (fun v wx => ∃ g ea ep, v = .pointer (some ⟨g, 0, none⟩) ∧ w.heap.size + 1 < g ∧ g ≠ t ∧ Blk wx g 36 (efC f.kind f.value f.reg f.fn f.hand f.why ea ep) ∧ EfAt wx w.heap.size f ea ep ∧ Blk wx t 115 (tnL xat [s0, s1, s2, s3, s4, s5, s6, s7] F (.slice (some ⟨b, off, none⟩) n pc) bud dep).toArray ∧ Blk wx F 95 (frL fn at_ st xk pv [r0, r1, r2, r3, r4, r5, r6, r7] hands).toArray ∧ Blk wx (w.heap.size + 1) 36 efZ ∧ Fr (At F) w wx)
  case rest =>
    obtain ⟨g, ea, ep, rfl, hgt, hgne, hG, hE, hT, hB, hV, hF⟩ := hcut
    obtain ⟨⟨Aa, ca, rfl⟩, Ap, cp, rfl⟩ := hE.slices
    clear HFE HTN HEE HIE HDO HC HIN HRW HB
    have f2 : wc.cell? ⟨F, 2, none⟩ = some (.int .i64 st) := by rw [hB.cell]; rfl
    have z2 : wc.frozen? ⟨F, 2, none⟩ = false := hB.frozen _
    have HG := Lib.hid hG
    have HE := Lib.hid hE
    have HT := Lib.hid hT
    have HB := Lib.hid hB
    have HV := Lib.hid hV
    have HF := Lib.hid hF
    have hFt2 : F < t := by omega
    have hgF : g ≠ F := fun h => Blk.ne_ hG hB (by decide) h
    clear hG hE hT hB hV hF
    go_upto_region 10 with (fail)
    generalize hW : wc.setCell ⟨F, 2, none⟩ (.int .i64 (st + 1)) = W1
    have hFs : Fr (At F) wc W1 := by rw [← hW]; exact (Fr.refl (At F) wc).setCell (p := ⟨F, 2, none⟩) (.inl rfl) _
    have HB1 : Hid (Blk W1 F 95 (frL fn at_ (st + 1) xk pv [r0, r1, r2, r3, r4, r5, r6, r7] hands).toArray) := Lib.hid (by
      have h := HB.out.set_ 2 (.int .i64 (st + 1))
      rw [fr_set.2.1] at h
      rw [← hW]; exact h)
    have HG1 := Lib.hid (HG.out.fr hFs (fun h => hgF h)).drew
    have HT1 := Lib.hid (HT.out.fr hFs (by show ¬ t = F; omega)).drew
    have HV1 := Lib.hid (HV.out.fr hFs (by show ¬ _ = F; omega)).drew
    have HE1 : Hid (EfAt W1.drew w.heap.size f _ _) := Lib.hid (HE.out.fr hFs.drew (fun k t' cs hk ht' hg' => by
      have hg' : k = F := hg'
      subst hg'
      rcases ht' with rfl | rfl
      · exact Blk.ne_ hk HB.out (by decide) rfl
      · exact Blk.ne_ hk HB.out (by decide) rfl))
    have HF1 := Lib.hid (HF.out.trans hFs).drew
    have HBd := Lib.hid HB1.out.drew
    clear hFs hW f2 z2 HG HT HV HE HF HB HB1
    have HS : (fun w' : World => w'.cell? ⟨t, 0, none⟩ = some (.int .i64 xat) ∧ w'.cell? ⟨t, 1, none⟩ = some (.int .i64 s0) ∧ w'.cell? ⟨t, 2, none⟩ = some (.int .i64 s1) ∧ w'.cell? ⟨t, 3, none⟩ = some (.int .i64 s2) ∧ w'.cell? ⟨t, 4, none⟩ = some (.int .i64 s3) ∧ w'.cell? ⟨t, 5, none⟩ = some (.int .i64 s4) ∧ w'.cell? ⟨t, 6, none⟩ = some (.int .i64 s5) ∧ w'.cell? ⟨t, 7, none⟩ = some (.int .i64 s6) ∧ w'.cell? ⟨t, 8, none⟩ = some (.int .i64 s7)) W1.drew := ⟨by rw [HT1.out.cell]; rfl, by rw [HT1.out.cell]; rfl, by rw [HT1.out.cell]; rfl, by rw [HT1.out.cell]; rfl, by rw [HT1.out.cell]; rfl, by rw [HT1.out.cell]; rfl, by rw [HT1.out.cell]; rfl, by rw [HT1.out.cell]; rfl, by rw [HT1.out.cell]; rfl⟩
    refine region_K 18 (fun w' : World => w'.cell? ⟨t, 0, none⟩ = some (.int .i64 xat) ∧ w'.cell? ⟨t, 1, none⟩ = some (.int .i64 s0) ∧ w'.cell? ⟨t, 2, none⟩ = some (.int .i64 s1) ∧ w'.cell? ⟨t, 3, none⟩ = some (.int .i64 s2) ∧ w'.cell? ⟨t, 4, none⟩ = some (.int .i64 s3) ∧ w'.cell? ⟨t, 5, none⟩ = some (.int .i64 s4) ∧ w'.cell? ⟨t, 6, none⟩ = some (.int .i64 s5) ∧ w'.cell? ⟨t, 7, none⟩ = some (.int .i64 s6) ∧ w'.cell? ⟨t, 8, none⟩ = some (.int .i64 s7)) (by kernel_rfl) ?_
    generalize W1.drew = V1 at *
    refine AnyK.take (i := 0) rfl (by decide) (by kernel_rfl) (by kernel_rfl) (by kernel_rfl) (fun _ _ _ _ h => h) HS (fun K hK => ?_)
    go_simp
    refine hK.out _ ⟨_, by rfl, Or.inl ⟨by rfl, by intro w' hSw; (try dsimp only at hSw); go_simp⟩, ?_⟩
    clear hK K
    refine AnyK.take (i := 1) rfl (by decide) (by kernel_rfl) (by kernel_rfl) (by kernel_rfl) (fun _ _ _ _ h => h) HS (fun K hK => ?_)
    go_simp
    refine hK.out _ ⟨_, by rfl, Or.inl ⟨by rfl, by intro w' hSw; (try dsimp only at hSw); go_simp⟩, ?_⟩
    clear hK K
    refine AnyK.take (i := 2) rfl (by decide) (by kernel_rfl) (by kernel_rfl) (by kernel_rfl) (fun _ _ _ _ h => h) HS (fun K hK => ?_)
    go_simp
    refine hK.out _ ⟨_, by rfl, Or.inl ⟨by rfl, by intro w' hSw; (try dsimp only at hSw); go_simp⟩, ?_⟩
    clear hK K
    refine AnyK.take (i := 3) rfl (by decide) (by kernel_rfl) (by kernel_rfl) (by kernel_rfl) (fun _ _ _ _ h => h) HS (fun K hK => ?_)
    go_simp
    refine hK.out _ ⟨_, by rfl, Or.inl ⟨by rfl, by intro w' hSw; (try dsimp only at hSw); go_simp⟩, ?_⟩
    clear hK K
    refine AnyK.take (i := 4) rfl (by decide) (by kernel_rfl) (by kernel_rfl) (by kernel_rfl) (fun _ _ _ _ h => h) HS (fun K hK => ?_)
    go_simp
    refine hK.out _ ⟨_, by rfl, Or.inl ⟨by rfl, by intro w' hSw; (try dsimp only at hSw); go_simp⟩, ?_⟩
    clear hK K
    refine AnyK.take (i := 5) rfl (by decide) (by kernel_rfl) (by kernel_rfl) (by kernel_rfl) (fun _ _ _ _ h => h) HS (fun K hK => ?_)
    go_simp
    refine hK.out _ ⟨_, by rfl, Or.inl ⟨by rfl, by intro w' hSw; (try dsimp only at hSw); go_simp⟩, ?_⟩
    clear hK K
    refine AnyK.take (i := 6) rfl (by decide) (by kernel_rfl) (by kernel_rfl) (by kernel_rfl) (fun _ _ _ _ h => h) HS (fun K hK => ?_)
    go_simp
    refine hK.out _ ⟨_, by rfl, Or.inl ⟨by rfl, by intro w' hSw; (try dsimp only at hSw); go_simp⟩, ?_⟩
    clear hK K
    refine AnyK.take (i := 7) rfl (by decide) (by kernel_rfl) (by kernel_rfl) (by kernel_rfl) (fun _ _ _ _ h => h) HS (fun K hK => ?_)
    go_simp
    refine hK.out _ ⟨_, by rfl, Or.inl ⟨by rfl, by intro w' hSw; (try dsimp only at hSw); go_simp⟩, ?_⟩
    clear hK K
    refine AnyK.take (i := 8) rfl (by decide) (by kernel_rfl) (by kernel_rfl) (by kernel_rfl) (fun _ _ _ _ h => h) HS (fun K hK => ?_)
    go_simp
    refine hK.out _ ⟨_, by rfl, Or.inl ⟨by rfl, by intro w' hSw; (try dsimp only at hSw); go_simp⟩, ?_⟩
    clear hK K
    refine AnyK.take (i := 9) rfl (by decide) (by kernel_rfl) (by kernel_rfl) (by kernel_rfl) (fun _ _ _ _ h => h) HS (fun K hK => ?_)
    go_simp
    refine hK.out _ ⟨_, by rfl, Or.inl ⟨by rfl, by intro w' hSw; (try dsimp only at hSw); go_simp⟩, ?_⟩
    clear hK K
    refine AnyK.take (i := 10) rfl (by decide) (by kernel_rfl) (by kernel_rfl) (by kernel_rfl) (fun _ _ _ _ h => h) HS (fun K hK => ?_)
    go_simp
    refine hK.out _ ⟨_, by rfl, Or.inl ⟨by rfl, by intro w' hSw; (try dsimp only at hSw); go_simp⟩, ?_⟩
    clear hK K
    refine AnyK.take (i := 11) rfl (by decide) (by kernel_rfl) (by kernel_rfl) (by kernel_rfl) (fun _ _ _ _ h => h) HS (fun K hK => ?_)
    go_simp
    refine hK.out _ ⟨_, by rfl, Or.inl ⟨by rfl, by intro w' hSw; (try dsimp only at hSw); go_simp⟩, ?_⟩
    clear hK K
    refine AnyK.take (i := 12) rfl (by decide) (by kernel_rfl) (by kernel_rfl) (by kernel_rfl) (fun _ _ _ _ h => h) HS (fun K hK => ?_)
    go_simp
    refine hK.out _ ⟨_, by rfl, Or.inl ⟨by rfl, by intro w' hSw; (try dsimp only at hSw); go_simp⟩, ?_⟩
    clear hK K
    refine AnyK.take (i := 13) rfl (by decide) (by kernel_rfl) (by kernel_rfl) (by kernel_rfl) (fun _ _ _ _ h => h) HS (fun K hK => ?_)
    go_simp
    refine hK.out _ ⟨_, by rfl, Or.inl ⟨by rfl, by intro w' hSw; (try dsimp only at hSw); go_simp⟩, ?_⟩
    clear hK K
    have f1 : V1.cell? ⟨F, 1, none⟩ = some (.int .i64 (at_ : Int)) := by rw [HBd.out.cell]; rfl
    have z1 : V1.frozen? ⟨F, 1, none⟩ = false := HBd.out.frozen _
    refine AnyK.one (i := 14) rfl (by kernel_rfl) (fun K hK => ?_)
    go_simp
    generalize hW : V1.setCell ⟨F, 1, none⟩ (.int .i64 xat) = V2
    have hFs : Fr (At F) V1 V2 := by rw [← hW]; exact (Fr.refl (At F) V1).setCell (p := ⟨F, 1, none⟩) (.inl rfl) _
    have HB2 : Hid (Blk V2 F 95 (frL fn xat (st + 1) xk pv [r0, r1, r2, r3, r4, r5, r6, r7] hands).toArray) := Lib.hid (by
      have h := HBd.out.set_ 1 (.int .i64 xat)
      rw [fr_set.1] at h
      rw [← hW]; exact h)
    have HG2 := Lib.hid (HG1.out.fr hFs (fun h => hgF h))
    have HT2 := Lib.hid (HT1.out.fr hFs (by show ¬ t = F; omega))
    have HV2 := Lib.hid (HV1.out.fr hFs (by show ¬ _ = F; omega))
    have HE2 : Hid (EfAt V2 w.heap.size f _ _) := Lib.hid (HE1.out.fr hFs (fun k t' cs hk ht' hg' => by
      have hg' : k = F := hg'
      subst hg'
      rcases ht' with rfl | rfl
      · exact Blk.ne_ hk HBd.out (by decide) rfl
      · exact Blk.ne_ hk HBd.out (by decide) rfl))
    have HF2 := Lib.hid (HF1.out.trans hFs)
    have HS : (fun w' : World => w'.cell? ⟨t, 0, none⟩ = some (.int .i64 xat) ∧ w'.cell? ⟨t, 1, none⟩ = some (.int .i64 s0) ∧ w'.cell? ⟨t, 2, none⟩ = some (.int .i64 s1) ∧ w'.cell? ⟨t, 3, none⟩ = some (.int .i64 s2) ∧ w'.cell? ⟨t, 4, none⟩ = some (.int .i64 s3) ∧ w'.cell? ⟨t, 5, none⟩ = some (.int .i64 s4) ∧ w'.cell? ⟨t, 6, none⟩ = some (.int .i64 s5) ∧ w'.cell? ⟨t, 7, none⟩ = some (.int .i64 s6) ∧ w'.cell? ⟨t, 8, none⟩ = some (.int .i64 s7)) V2 := ⟨by rw [HT2.out.cell]; rfl, by rw [HT2.out.cell]; rfl, by rw [HT2.out.cell]; rfl, by rw [HT2.out.cell]; rfl, by rw [HT2.out.cell]; rfl, by rw [HT2.out.cell]; rfl, by rw [HT2.out.cell]; rfl, by rw [HT2.out.cell]; rfl, by rw [HT2.out.cell]; rfl⟩
    clear hFs hW f1 z1 HG1 HT1 HV1 HE1 HF1 HBd
    refine hK.out _ _ (fun _ => HS) ?_
    clear hK K
    refine AnyK.one (i := 15) rfl (by kernel_rfl) (fun K hK => ?_)
    go_simp
    refine hK.out _ _ (fun _ => HS) ?_
    clear hK K
    refine AnyK.one (i := 16) rfl (by kernel_rfl) (fun K hK => ?_)
    go_simp
    refine hK.out _ _ (fun _ => HS) ?_
    clear hK K
    have f5 : V2.cell? ⟨F, 5, none⟩ = some (.int .i64 r0) := by rw [HB2.out.cell]; rfl
    have z5 : V2.frozen? ⟨F, 5, none⟩ = false := HB2.out.frozen _
    have f6 : V2.cell? ⟨F, 6, none⟩ = some (.int .i64 r1) := by rw [HB2.out.cell]; rfl
    have z6 : V2.frozen? ⟨F, 6, none⟩ = false := HB2.out.frozen _
    have f7 : V2.cell? ⟨F, 7, none⟩ = some (.int .i64 r2) := by rw [HB2.out.cell]; rfl
    have z7 : V2.frozen? ⟨F, 7, none⟩ = false := HB2.out.frozen _
    have f8 : V2.cell? ⟨F, 8, none⟩ = some (.int .i64 r3) := by rw [HB2.out.cell]; rfl
    have z8 : V2.frozen? ⟨F, 8, none⟩ = false := HB2.out.frozen _
    have f9 : V2.cell? ⟨F, 9, none⟩ = some (.int .i64 r4) := by rw [HB2.out.cell]; rfl
    have z9 : V2.frozen? ⟨F, 9, none⟩ = false := HB2.out.frozen _
    have f10 : V2.cell? ⟨F, 10, none⟩ = some (.int .i64 r5) := by rw [HB2.out.cell]; rfl
    have z10 : V2.frozen? ⟨F, 10, none⟩ = false := HB2.out.frozen _
    have f11 : V2.cell? ⟨F, 11, none⟩ = some (.int .i64 r6) := by rw [HB2.out.cell]; rfl
    have z11 : V2.frozen? ⟨F, 11, none⟩ = false := HB2.out.frozen _
    have f12 : V2.cell? ⟨F, 12, none⟩ = some (.int .i64 r7) := by rw [HB2.out.cell]; rfl
    have z12 : V2.frozen? ⟨F, 12, none⟩ = false := HB2.out.frozen _
    refine AnyK.one (i := 17) rfl (by kernel_rfl) (fun K hK => ?_)
    go_simp
    generalize hW : (((((((V2.setCell ⟨F, 5, none⟩ (.int .i64 s0)).setCell ⟨F, 6, none⟩ (.int .i64 s1)).setCell ⟨F, 7, none⟩ (.int .i64 s2)).setCell ⟨F, 8, none⟩ (.int .i64 s3)).setCell ⟨F, 9, none⟩ (.int .i64 s4)).setCell ⟨F, 10, none⟩ (.int .i64 s5)).setCell ⟨F, 11, none⟩ (.int .i64 s6)).setCell ⟨F, 12, none⟩ (.int .i64 s7) = V3
    have hFs : Fr (At F) V2 V3 := by rw [← hW]; exact fr_frame (Fr.refl (At F) V2) (.inl rfl) _ _ _ _ _ _ _ _
    have HB3 : Hid (Blk V3 F 95 (frL fn xat (st + 1) xk pv [s0, s1, s2, s3, s4, s5, s6, s7] hands).toArray) := Lib.hid (by rw [← hW]; exact fr_cells8 h4 HB2.out)
    have HG3 := Lib.hid (HG2.out.fr hFs (fun h => hgF h))
    have HT3 := Lib.hid (HT2.out.fr hFs (by show ¬ t = F; omega))
    have HV3 := Lib.hid (HV2.out.fr hFs (by show ¬ _ = F; omega))
    have HE3 : Hid (EfAt V3 w.heap.size f _ _) := Lib.hid (HE2.out.fr hFs (fun k t' cs hk ht' hg' => by
      have hg' : k = F := hg'
      subst hg'
      rcases ht' with rfl | rfl
      · exact Blk.ne_ hk HB2.out (by decide) rfl
      · exact Blk.ne_ hk HB2.out (by decide) rfl))
    have HF3 := Lib.hid (HF2.out.trans hFs)
    have HS : (fun w' : World => w'.cell? ⟨t, 0, none⟩ = some (.int .i64 xat) ∧ w'.cell? ⟨t, 1, none⟩ = some (.int .i64 s0) ∧ w'.cell? ⟨t, 2, none⟩ = some (.int .i64 s1) ∧ w'.cell? ⟨t, 3, none⟩ = some (.int .i64 s2) ∧ w'.cell? ⟨t, 4, none⟩ = some (.int .i64 s3) ∧ w'.cell? ⟨t, 5, none⟩ = some (.int .i64 s4) ∧ w'.cell? ⟨t, 6, none⟩ = some (.int .i64 s5) ∧ w'.cell? ⟨t, 7, none⟩ = some (.int .i64 s6) ∧ w'.cell? ⟨t, 8, none⟩ = some (.int .i64 s7)) V3 := ⟨by rw [HT3.out.cell]; rfl, by rw [HT3.out.cell]; rfl, by rw [HT3.out.cell]; rfl, by rw [HT3.out.cell]; rfl, by rw [HT3.out.cell]; rfl, by rw [HT3.out.cell]; rfl, by rw [HT3.out.cell]; rfl, by rw [HT3.out.cell]; rfl, by rw [HT3.out.cell]; rfl⟩
    clear hFs hW f5 z5 f6 z6 f7 z7 f8 z8 f9 z9 f10 z10 f11 z11 f12 z12 HG2 HT2 HV2 HE2 HF2 HB2
    refine hK.out _ _ (fun _ => HS) ?_
    clear hK K HS HT3
    refine AnyK.done (by kernel_rfl) ?_ _
    have hG := HG3.out
    unfold efC at hG
    have e0 : V3.cell? ⟨g, 0, none⟩ = some (.int .i64 f.kind) := by rw [hG.cell]; rfl
    have e1 : V3.cell? ⟨g, 1, none⟩ = some (.int .i64 f.value) := by rw [hG.cell]; rfl
    have e2 : V3.cell? ⟨g, 2, none⟩ = some (.int .i64 f.reg) := by rw [hG.cell]; rfl
    have e3 : V3.cell? ⟨g, 3, none⟩ = some (.int .i64 f.fn) := by rw [hG.cell]; rfl
    have e4 : V3.cell? ⟨g, 4, none⟩ = some (.int .i64 f.hand) := by rw [hG.cell]; rfl
    have e5 : V3.cell? ⟨g, 5, none⟩ = some (.int .i64 f.why) := by rw [hG.cell]; rfl
    have e6 : V3.cell? ⟨g, 6, none⟩ = some (.slice Aa f.args.length ca) := by rw [hG.cell]; rfl
    have e7 : V3.cell? ⟨g, 7, none⟩ = some (.slice Ap f.path.length cp) := by rw [hG.cell]; rfl
    have hV := HV3.out
    have v0 : V3.cell? ⟨w.heap.size + 1, 0, none⟩ = some (.int .i64 0) := by rw [hV.cell]; rfl
    have y0 : V3.frozen? ⟨w.heap.size + 1, 0, none⟩ = false := hV.frozen _
    have v1 : V3.cell? ⟨w.heap.size + 1, 1, none⟩ = some (.int .i64 0) := by rw [hV.cell]; rfl
    have y1 : V3.frozen? ⟨w.heap.size + 1, 1, none⟩ = false := hV.frozen _
    have v2 : V3.cell? ⟨w.heap.size + 1, 2, none⟩ = some (.int .i64 0) := by rw [hV.cell]; rfl
    have y2 : V3.frozen? ⟨w.heap.size + 1, 2, none⟩ = false := hV.frozen _
    have v3 : V3.cell? ⟨w.heap.size + 1, 3, none⟩ = some (.int .i64 0) := by rw [hV.cell]; rfl
    have y3 : V3.frozen? ⟨w.heap.size + 1, 3, none⟩ = false := hV.frozen _
    have v4 : V3.cell? ⟨w.heap.size + 1, 4, none⟩ = some (.int .i64 0) := by rw [hV.cell]; rfl
    have y4 : V3.frozen? ⟨w.heap.size + 1, 4, none⟩ = false := hV.frozen _
    have v5 : V3.cell? ⟨w.heap.size + 1, 5, none⟩ = some (.int .i64 0) := by rw [hV.cell]; rfl
    have y5 : V3.frozen? ⟨w.heap.size + 1, 5, none⟩ = false := hV.frozen _
    have v6 : V3.cell? ⟨w.heap.size + 1, 6, none⟩ = some (nilS) := by rw [hV.cell]; rfl
    have y6 : V3.frozen? ⟨w.heap.size + 1, 6, none⟩ = false := hV.frozen _
    have v7 : V3.cell? ⟨w.heap.size + 1, 7, none⟩ = some (nilS) := by rw [hV.cell]; rfl
    have y7 : V3.frozen? ⟨w.heap.size + 1, 7, none⟩ = false := hV.frozen _
    clear hG hV
    go_wp2_with fail
    have hFr : Fr (At F) w ((((((((V3.setCell ⟨w.heap.size + 1, 0, none⟩ (.int .i64 f.kind)).setCell ⟨w.heap.size + 1, 1, none⟩ (.int .i64 f.value)).setCell ⟨w.heap.size + 1, 2, none⟩ (.int .i64 f.reg)).setCell ⟨w.heap.size + 1, 3, none⟩ (.int .i64 f.fn)).setCell ⟨w.heap.size + 1, 4, none⟩ (.int .i64 f.hand)).setCell ⟨w.heap.size + 1, 5, none⟩ (.int .i64 f.why)).setCell ⟨w.heap.size + 1, 6, none⟩ (.slice Aa f.args.length ca)).setCell ⟨w.heap.size + 1, 7, none⟩ (.slice Ap f.path.length cp)) := ef_frame HF3.out (.inr (by omega)) _ _ _ _ _ _ _ _
    refine bodyPost_ret (results_ct rfl _ (w.heap.size + 1) rfl (run_loadVar_row _ (w.heap.size + 1) 36 36 _ (0, 0) _ (ef_stored HV3.out _ _ _ _ _ _ _ _) Tryd.underlying36 rfl (by kernel_rfl))) rfl ?_
    refine ⟨_, _, rfl, EfAt.fr HE3.out (ef_frame (Fr.refl (At (w.heap.size + 1)) _) (.inl rfl) _ _ _ _ _ _ _ _) (fun k t' cs hk ht' hg' => ?_), HB3.out.fr (ef_frame (Fr.refl (At (w.heap.size + 1)) _) (.inl rfl) _ _ _ _ _ _ _ _) (by show ¬ F = _; omega), hFr⟩
    have hg' : k = w.heap.size + 1 := hg'
    subst hg'
    rcases ht' with rfl | rfl
    · exact Blk.ne_ hk HV3.out (by decide) rfl
    · exact Blk.ne_ hk HV3.out (by decide) rfl
  have HSG : Hid (∀ w', Fr None' w w' → (fun w' : World => w'.cell? ⟨F, 0, none⟩ = some (.int .i64 (fn : Int)) ∧ w'.cell? ⟨F, 1, none⟩ = some (.int .i64 (at_ : Int)) ∧ w'.cell? ⟨b, off + fn * 2 + 1, none⟩ = some (.slice (some ⟨ib, io, none⟩) cn yc) ∧ w'.cell? ⟨ib, io + at_ * 5, none⟩ = some (.int .i64 io0) ∧ w'.cell? ⟨ib, io + at_ * 5 + 1, none⟩ = some (.int .i64 ia) ∧ w'.cell? ⟨ib, io + at_ * 5 + 2, none⟩ = some (.int .i64 ibb) ∧ w'.cell? ⟨ib, io + at_ * 5 + 3, none⟩ = some (.int .i64 ic) ∧ w'.cell? ⟨ib, io + at_ * 5 + 4, none⟩ = some (.int .i64 ik)) w') := Lib.hid (fun w' hF => by
    have hB := HB.out.fr hF (fun h => h)
    exact ⟨by rw [hB.cell]; rfl, by rw [hB.cell]; rfl, hF.held HC.out (fun h => h), hF.held (HIN.out 0 _ rfl) (fun h => h), hF.held (HIN.out 1 _ rfl) (fun h => h), hF.held (HIN.out 2 _ rfl) (fun h => h), hF.held (HIN.out 3 _ rfl) (fun h => h), hF.held (HIN.out 4 _ rfl) (fun h => h)⟩)
  have HFG := Lib.hid HFE.out.drew
  have HTG := Lib.hid HTN.out.drew
  have HEG := Lib.hid HEE.out.drew
  have HS : (fun w' : World => w'.cell? ⟨F, 0, none⟩ = some (.int .i64 (fn : Int)) ∧ w'.cell? ⟨F, 1, none⟩ = some (.int .i64 (at_ : Int)) ∧ w'.cell? ⟨b, off + fn * 2 + 1, none⟩ = some (.slice (some ⟨ib, io, none⟩) cn yc) ∧ w'.cell? ⟨ib, io + at_ * 5, none⟩ = some (.int .i64 io0) ∧ w'.cell? ⟨ib, io + at_ * 5 + 1, none⟩ = some (.int .i64 ia) ∧ w'.cell? ⟨ib, io + at_ * 5 + 2, none⟩ = some (.int .i64 ibb) ∧ w'.cell? ⟨ib, io + at_ * 5 + 3, none⟩ = some (.int .i64 ic) ∧ w'.cell? ⟨ib, io + at_ * 5 + 4, none⟩ = some (.int .i64 ik)) wE.drew := HSG.out _ HFG.out
  clear HFE HTN HEE HIE
  have g1 : (fn : Int) < (n : Int) := by omega
  have g2 : (at_ : Int) < (cn : Int) := by omega
  refine region_K 16 (fun w' : World => w'.cell? ⟨F, 0, none⟩ = some (.int .i64 (fn : Int)) ∧ w'.cell? ⟨F, 1, none⟩ = some (.int .i64 (at_ : Int)) ∧ w'.cell? ⟨b, off + fn * 2 + 1, none⟩ = some (.slice (some ⟨ib, io, none⟩) cn yc) ∧ w'.cell? ⟨ib, io + at_ * 5, none⟩ = some (.int .i64 io0) ∧ w'.cell? ⟨ib, io + at_ * 5 + 1, none⟩ = some (.int .i64 ia) ∧ w'.cell? ⟨ib, io + at_ * 5 + 2, none⟩ = some (.int .i64 ibb) ∧ w'.cell? ⟨ib, io + at_ * 5 + 3, none⟩ = some (.int .i64 ic) ∧ w'.cell? ⟨ib, io + at_ * 5 + 4, none⟩ = some (.int .i64 ik)) (by kernel_rfl) ?_
  generalize wE.drew = wG at *
  refine AnyK.take (i := 0) rfl (by decide) (by kernel_rfl) (by kernel_rfl) (by kernel_rfl) (fun _ _ _ _ h => h) HS (fun K hK => ?_)
  go_simp
  refine hK.out _ ⟨_, by rfl, Or.inl ⟨by rfl, by intro w' hSw; (try dsimp only at hSw); go_simp⟩, ?_⟩
  clear hK K
  refine AnyK.take (i := 1) rfl (by decide) (by kernel_rfl) (by kernel_rfl) (by kernel_rfl) (fun _ _ _ _ h => h) HS (fun K hK => ?_)
  go_simp
  refine hK.out _ ⟨_, by rfl, Or.inl ⟨by rfl, by intro w' hSw; (try dsimp only at hSw); go_simp⟩, ?_⟩
  clear hK K
  refine AnyK.take (i := 2) rfl (by decide) (by kernel_rfl) (by kernel_rfl) (by kernel_rfl) (fun _ _ _ _ h => h) HS (fun K hK => ?_)
  go_simp
  refine hK.out _ ⟨_, by rfl, Or.inl ⟨by rfl, by intro w' hSw; (try dsimp only at hSw); go_simp⟩, ?_⟩
  clear hK K
  refine AnyK.take (i := 3) rfl (by decide) (by kernel_rfl) (by kernel_rfl) (by kernel_rfl) (fun _ _ _ _ h => h) HS (fun K hK => ?_)
  go_simp
  refine hK.out _ ⟨_, by rfl, Or.inl ⟨by rfl, by intro w' hSw; (try dsimp only at hSw); go_simp⟩, ?_⟩
  clear hK K
  refine AnyK.take (i := 4) rfl (by decide) (by kernel_rfl) (by kernel_rfl) (by kernel_rfl) (fun _ _ _ _ h => h) HS (fun K hK => ?_)
  go_simp
  refine hK.out _ ⟨_, by rfl, Or.inl ⟨by rfl, by intro w' hSw; (try dsimp only at hSw); go_simp⟩, ?_⟩
  clear hK K
  refine AnyK.take (i := 5) rfl (by decide) (by kernel_rfl) (by kernel_rfl) (by kernel_rfl) (fun _ _ _ _ h => h) HS (fun K hK => ?_)
  go_simp
  refine hK.out _ ⟨_, by rfl, Or.inl ⟨by rfl, by intro w' hSw; (try dsimp only at hSw); go_simp⟩, ?_⟩
  clear hK K
  refine AnyK.take (i := 6) rfl (by decide) (by kernel_rfl) (by kernel_rfl) (by kernel_rfl) (fun _ _ _ _ h => h) HS (fun K hK => ?_)
  go_simp
  refine hK.out _ ⟨_, by rfl, Or.inl ⟨by rfl, by intro w' hSw; (try dsimp only at hSw); go_simp⟩, ?_⟩
  clear hK K
  refine AnyK.take (i := 7) rfl (by decide) (by kernel_rfl) (by kernel_rfl) (by kernel_rfl) (fun _ _ _ _ h => h) HS (fun K hK => ?_)
  go_simp
  refine hK.out _ ⟨_, by rfl, Or.inl ⟨by rfl, by intro w' hSw; (try dsimp only at hSw); go_simp⟩, ?_⟩
  clear hK K
  refine AnyK.take (i := 8) rfl (by decide) (by kernel_rfl) (by kernel_rfl) (by kernel_rfl) (fun _ _ _ _ h => h) HS (fun K hK => ?_)
  go_simp
  refine hK.out _ ⟨_, by rfl, Or.inl ⟨by rfl, by intro w' hSw; (try dsimp only at hSw); go_simp⟩, ?_⟩
  clear hK K
  refine AnyK.take (i := 9) rfl (by decide) (by kernel_rfl) (by kernel_rfl) (by kernel_rfl) (fun _ _ _ _ h => h) HS (fun K hK => ?_)
  go_simp
  refine hK.out _ ⟨_, by rfl, Or.inl ⟨by rfl, by intro w' hSw; (try dsimp only at hSw); go_simp⟩, ?_⟩
  clear hK K
  refine AnyK.take (i := 10) rfl (by decide) (by kernel_rfl) (by kernel_rfl) (by kernel_rfl) (fun _ _ _ _ h => h) HS (fun K hK => ?_)
  go_simp
  refine hK.out _ ⟨_, by rfl, Or.inl ⟨by rfl, by intro w' hSw; (try dsimp only at hSw); go_simp⟩, ?_⟩
  clear hK K
  refine AnyK.take (i := 11) rfl (by decide) (by kernel_rfl) (by kernel_rfl) (by kernel_rfl) (fun _ _ _ _ h => h) HS (fun K hK => ?_)
  go_simp
  refine hK.out _ ⟨_, by rfl, Or.inl ⟨by rfl, by intro w' hSw; (try dsimp only at hSw); go_simp⟩, ?_⟩
  clear hK K
  refine AnyK.take (i := 12) rfl (by decide) (by kernel_rfl) (by kernel_rfl) (by kernel_rfl) (fun _ _ _ _ h => h) HS (fun K hK => ?_)
  go_simp
  refine hK.out _ ⟨_, by rfl, Or.inl ⟨by rfl, by intro w' hSw; (try dsimp only at hSw); go_simp⟩, ?_⟩
  clear hK K
  refine AnyK.take (i := 13) rfl (by decide) (by kernel_rfl) (by kernel_rfl) (by kernel_rfl) (fun _ _ _ _ h => h) HS (fun K hK => ?_)
  go_simp
  refine hK.out _ ⟨_, by rfl, Or.inl ⟨by rfl, by intro w' hSw; (try dsimp only at hSw); go_simp⟩, ?_⟩
  clear hK K
  refine AnyK.take (i := 14) rfl (by decide) (by kernel_rfl) (by kernel_rfl) (by kernel_rfl) (fun _ _ _ _ h => h) HS (fun K hK => ?_)
  go_simp
  refine hK.out _ ⟨_, by rfl, Or.inl ⟨by rfl, by intro w' hSw; (try dsimp only at hSw); go_simp⟩, ?_⟩
  clear hK K
  refine AnyK.two (i := 15) (j := 16) rfl rfl (by kernel_rfl) (fun K hK => ?_) (fun K hK => ?_)
  · go_simp
    refine (HDO.out wG t HFG.out htw HTG.out).mono ?_
    rintro e w1 ⟨ea, ep, rfl, hE1, hT1, hB1, hF1⟩
    obtain ⟨⟨Aa, ca, rfl⟩, Ap, cp, rfl⟩ := hE1.slices
    have HE1 := Lib.hid hE1
    have HT1 := Lib.hid hT1
    have HB1 := Lib.hid hB1
    have HV1 := Lib.hid (HEG.out.fr hF1 (by omega))
    have HF1 := Lib.hid hF1
    have HFW : Hid (Fr (At F) w w1) := Lib.hid ((HFG.out.mono (fun _ h => h.elim)).then hF1 (fun i hi => by
      rcases hi with rfl | rfl
      · exact .inr htw
      · exact .inl rfl))
    have HS : (fun w' : World => w'.cell? ⟨F, 0, none⟩ = some (.int .i64 (fn : Int)) ∧ w'.cell? ⟨F, 1, none⟩ = some (.int .i64 (at_ : Int)) ∧ w'.cell? ⟨b, off + fn * 2 + 1, none⟩ = some (.slice (some ⟨ib, io, none⟩) cn yc) ∧ w'.cell? ⟨ib, io + at_ * 5, none⟩ = some (.int .i64 io0) ∧ w'.cell? ⟨ib, io + at_ * 5 + 1, none⟩ = some (.int .i64 ia) ∧ w'.cell? ⟨ib, io + at_ * 5 + 2, none⟩ = some (.int .i64 ibb) ∧ w'.cell? ⟨ib, io + at_ * 5 + 3, none⟩ = some (.int .i64 ic) ∧ w'.cell? ⟨ib, io + at_ * 5 + 4, none⟩ = some (.int .i64 ik)) w1 := ⟨by rw [hB1.cell]; rfl, by rw [hB1.cell]; rfl, hF1.held HS.2.2.1 (by show ¬ (b = _ ∨ b = _); omega), hF1.held HS.2.2.2.1 (by show ¬ (ib = _ ∨ ib = _); omega), hF1.held HS.2.2.2.2.1 (by show ¬ (ib = _ ∨ ib = _); omega), hF1.held HS.2.2.2.2.2.1 (by show ¬ (ib = _ ∨ ib = _); omega), hF1.held HS.2.2.2.2.2.2.1 (by show ¬ (ib = _ ∨ ib = _); omega), hF1.held HS.2.2.2.2.2.2.2 (by show ¬ (ib = _ ∨ ib = _); omega)⟩
    clear hE1 hT1 hB1 hF1 HDO
    refine hK.out _ _ (fun _ => HS) ?_
    clear hK K
    refine AnyK.one (i := 16) rfl (by kernel_rfl) (fun K hK => ?_)
    go_simp
    generalize hA2 : w1.alloc (.cells _ 36) = w2
    have hG : Blk w2 w1.heap.size 36 efZ := by rw [← hA2]; exact Blk.new _ _ _
    have hF2 : Fr None' w1 w2 := by rw [← hA2]; exact (Fr.refl _ _).alloc _
    have HF2 := Lib.hid hF2
    have HG := Lib.hid hG
    have HS : (fun w' : World => w'.cell? ⟨F, 0, none⟩ = some (.int .i64 (fn : Int)) ∧ w'.cell? ⟨F, 1, none⟩ = some (.int .i64 (at_ : Int)) ∧ w'.cell? ⟨b, off + fn * 2 + 1, none⟩ = some (.slice (some ⟨ib, io, none⟩) cn yc) ∧ w'.cell? ⟨ib, io + at_ * 5, none⟩ = some (.int .i64 io0) ∧ w'.cell? ⟨ib, io + at_ * 5 + 1, none⟩ = some (.int .i64 ia) ∧ w'.cell? ⟨ib, io + at_ * 5 + 2, none⟩ = some (.int .i64 ibb) ∧ w'.cell? ⟨ib, io + at_ * 5 + 3, none⟩ = some (.int .i64 ic) ∧ w'.cell? ⟨ib, io + at_ * 5 + 4, none⟩ = some (.int .i64 ik)) w2 := ⟨hF2.held HS.1 (fun h => h), hF2.held HS.2.1 (fun h => h), hF2.held HS.2.2.1 (fun h => h), hF2.held HS.2.2.2.1 (fun h => h), hF2.held HS.2.2.2.2.1 (fun h => h), hF2.held HS.2.2.2.2.2.1 (fun h => h), hF2.held HS.2.2.2.2.2.2.1 (fun h => h), hF2.held HS.2.2.2.2.2.2.2 (fun h => h)⟩
    clear hG hF2 hA2
    have hgt : w.heap.size + 1 < w1.heap.size := by have := HV1.out.lt; have := HT1.out.lt; omega
    have hgne : w1.heap.size ≠ t := by have := HT1.out.lt; omega
    have hgF : w1.heap.size ≠ F := by have := HB1.out.lt; omega
    have HE2 := Lib.hid (HE1.out.fr HF2.out (fun _ _ _ _ _ h => h))
    have HT2 := Lib.hid (HT1.out.fr HF2.out (fun h => h))
    have HB2 := Lib.hid (HB1.out.fr HF2.out (fun h => h))
    have HV2 := Lib.hid (HV1.out.fr HF2.out (fun h => h))
    have HFW2 := Lib.hid (HFW.out.trans (HF2.out.mono (fun _ h => h.elim)))
    clear HE1 HT1 HB1 HV1 HFW HF2
    generalize w1.heap.size = g at *
    refine hK.out _ _ (fun _ => HS) ?_
    clear hK K HS
    have hG := HG.out
    have e0 : w2.cell? ⟨g, 0, none⟩ = some (.int .i64 0) := by rw [hG.cell]; rfl
    have y0 : w2.frozen? ⟨g, 0, none⟩ = false := hG.frozen _
    have e1 : w2.cell? ⟨g, 1, none⟩ = some (.int .i64 0) := by rw [hG.cell]; rfl
    have y1 : w2.frozen? ⟨g, 1, none⟩ = false := hG.frozen _
    have e2 : w2.cell? ⟨g, 2, none⟩ = some (.int .i64 0) := by rw [hG.cell]; rfl
    have y2 : w2.frozen? ⟨g, 2, none⟩ = false := hG.frozen _
    have e3 : w2.cell? ⟨g, 3, none⟩ = some (.int .i64 0) := by rw [hG.cell]; rfl
    have y3 : w2.frozen? ⟨g, 3, none⟩ = false := hG.frozen _
    have e4 : w2.cell? ⟨g, 4, none⟩ = some (.int .i64 0) := by rw [hG.cell]; rfl
    have y4 : w2.frozen? ⟨g, 4, none⟩ = false := hG.frozen _
    have e5 : w2.cell? ⟨g, 5, none⟩ = some (.int .i64 0) := by rw [hG.cell]; rfl
    have y5 : w2.frozen? ⟨g, 5, none⟩ = false := hG.frozen _
    have e6 : w2.cell? ⟨g, 6, none⟩ = some (nilS) := by rw [hG.cell]; rfl
    have y6 : w2.frozen? ⟨g, 6, none⟩ = false := hG.frozen _
    have e7 : w2.cell? ⟨g, 7, none⟩ = some (nilS) := by rw [hG.cell]; rfl
    have y7 : w2.frozen? ⟨g, 7, none⟩ = false := hG.frozen _
    clear hG
    unfold efC
    refine AnyK.one (i := 17) rfl (by kernel_rfl) (fun K hK => ?_)
    go_simp
    refine hK.out _ _ (fun h => absurd (h.symm.trans (by kernel_rfl : _ = true)) (by decide)) ?_
    clear hK K
    refine AnyK.done (by kernel_rfl) ?_ _
    go_wp2_with fail
    go_meet
    refine ⟨_, _, _, rfl, hgt, hgne, ef_stored HG.out _ _ _ _ _ _ _ _, ?_, ?_, ?_, ?_, ?_⟩
    · exact EfAt.fr HE2.out (ef_frame (Fr.refl (At g) _) (.inl rfl) _ _ _ _ _ _ _ _) (fun k t' cs hk ht' hg' => by
        have hg' : k = g := hg'
        subst hg'
        rcases ht' with rfl | rfl
        · exact Blk.ne_ hk HG.out (by decide) rfl
        · exact Blk.ne_ hk HG.out (by decide) rfl)
    · exact HT2.out.fr (ef_frame (Fr.refl (At g) _) (.inl rfl) _ _ _ _ _ _ _ _) (fun h => hgne (Eq.symm h))
    · exact HB2.out.fr (ef_frame (Fr.refl (At g) _) (.inl rfl) _ _ _ _ _ _ _ _) (fun h => hgF (Eq.symm h))
    · exact HV2.out.fr (ef_frame (Fr.refl (At g) _) (.inl rfl) _ _ _ _ _ _ _ _) (fun h => by have h : _ = g := h; omega)
    · exact HFW2.out.then (ef_frame (Fr.refl (At g) _) (.inl rfl) _ _ _ _ _ _ _ _) (fun i hi => .inr (by have hi : i = g := hi; omega))
  · go_simp
    generalize hA2 : wG.alloc (.cells _ 36) = w2
    have hG : Blk w2 wG.heap.size 36 efZ := by rw [← hA2]; exact Blk.new _ _ _
    have hF2 : Fr None' wG w2 := by rw [← hA2]; exact (Fr.refl _ _).alloc _
    have HF2 := Lib.hid hF2
    have HG := Lib.hid hG
    have HS : (fun w' : World => w'.cell? ⟨F, 0, none⟩ = some (.int .i64 (fn : Int)) ∧ w'.cell? ⟨F, 1, none⟩ = some (.int .i64 (at_ : Int)) ∧ w'.cell? ⟨b, off + fn * 2 + 1, none⟩ = some (.slice (some ⟨ib, io, none⟩) cn yc) ∧ w'.cell? ⟨ib, io + at_ * 5, none⟩ = some (.int .i64 io0) ∧ w'.cell? ⟨ib, io + at_ * 5 + 1, none⟩ = some (.int .i64 ia) ∧ w'.cell? ⟨ib, io + at_ * 5 + 2, none⟩ = some (.int .i64 ibb) ∧ w'.cell? ⟨ib, io + at_ * 5 + 3, none⟩ = some (.int .i64 ic) ∧ w'.cell? ⟨ib, io + at_ * 5 + 4, none⟩ = some (.int .i64 ik)) w2 := ⟨hF2.held HS.1 (fun h => h), hF2.held HS.2.1 (fun h => h), hF2.held HS.2.2.1 (fun h => h), hF2.held HS.2.2.2.1 (fun h => h), hF2.held HS.2.2.2.2.1 (fun h => h), hF2.held HS.2.2.2.2.2.1 (fun h => h), hF2.held HS.2.2.2.2.2.2.1 (fun h => h), hF2.held HS.2.2.2.2.2.2.2 (fun h => h)⟩
    clear hG hF2 hA2
    have hgt : w.heap.size + 1 < wG.heap.size := by have := HEG.out.lt; have := HTG.out.lt; omega
    have hgne : wG.heap.size ≠ t := by have := HTG.out.lt; omega
    have hgF : wG.heap.size ≠ F := by have := HB.out.lt; omega
    have HTH := Lib.hid (HTG.out.fr HF2.out (fun h => h))
    have HEH := Lib.hid (HEG.out.fr HF2.out (fun h => h))
    have HFH := Lib.hid (HFG.out.trans HF2.out)
    clear HF2 HFG HTG HEG
    generalize wG.heap.size = g at *
    refine hK.out _ _ (fun _ => HS) ?_
    clear hK K
    refine AnyK.one (i := 15) rfl (by kernel_rfl) (fun K hK => ?_)
    go_simp
    refine (HDO.out w2 t HFH.out htw HTH.out).mono ?_
    rintro e w1 ⟨ea, ep, rfl, hE1, hT1, hB1, hF1⟩
    obtain ⟨⟨Aa, ca, rfl⟩, Ap, cp, rfl⟩ := hE1.slices
    have HE1 := Lib.hid hE1
    have HT1 := Lib.hid hT1
    have HB1 := Lib.hid hB1
    have HV1 := Lib.hid (HEH.out.fr hF1 (by omega))
    have HF1 := Lib.hid hF1
    have HFW : Hid (Fr (At F) w w1) := Lib.hid ((HFH.out.mono (fun _ h => h.elim)).then hF1 (fun i hi => by
      rcases hi with rfl | rfl
      · exact .inr htw
      · exact .inl rfl))
    have HS : (fun w' : World => w'.cell? ⟨F, 0, none⟩ = some (.int .i64 (fn : Int)) ∧ w'.cell? ⟨F, 1, none⟩ = some (.int .i64 (at_ : Int)) ∧ w'.cell? ⟨b, off + fn * 2 + 1, none⟩ = some (.slice (some ⟨ib, io, none⟩) cn yc) ∧ w'.cell? ⟨ib, io + at_ * 5, none⟩ = some (.int .i64 io0) ∧ w'.cell? ⟨ib, io + at_ * 5 + 1, none⟩ = some (.int .i64 ia) ∧ w'.cell? ⟨ib, io + at_ * 5 + 2, none⟩ = some (.int .i64 ibb) ∧ w'.cell? ⟨ib, io + at_ * 5 + 3, none⟩ = some (.int .i64 ic) ∧ w'.cell? ⟨ib, io + at_ * 5 + 4, none⟩ = some (.int .i64 ik)) w1 := ⟨by rw [hB1.cell]; rfl, by rw [hB1.cell]; rfl, hF1.held HS.2.2.1 (by show ¬ (b = _ ∨ b = _); omega), hF1.held HS.2.2.2.1 (by show ¬ (ib = _ ∨ ib = _); omega), hF1.held HS.2.2.2.2.1 (by show ¬ (ib = _ ∨ ib = _); omega), hF1.held HS.2.2.2.2.2.1 (by show ¬ (ib = _ ∨ ib = _); omega), hF1.held HS.2.2.2.2.2.2.1 (by show ¬ (ib = _ ∨ ib = _); omega), hF1.held HS.2.2.2.2.2.2.2 (by show ¬ (ib = _ ∨ ib = _); omega)⟩
    clear hE1 hT1 hB1 hF1 HDO
    refine hK.out _ _ (fun _ => HS) ?_
    clear hK K
    have HG1 := Lib.hid (HG.out.fr HF1.out (by show ¬ (g = t ∨ g = F); omega))
    clear HG HTH HEH HFH HS HF1
    have hG := HG1.out
    have e0 : w1.cell? ⟨g, 0, none⟩ = some (.int .i64 0) := by rw [hG.cell]; rfl
    have y0 : w1.frozen? ⟨g, 0, none⟩ = false := hG.frozen _
    have e1 : w1.cell? ⟨g, 1, none⟩ = some (.int .i64 0) := by rw [hG.cell]; rfl
    have y1 : w1.frozen? ⟨g, 1, none⟩ = false := hG.frozen _
    have e2 : w1.cell? ⟨g, 2, none⟩ = some (.int .i64 0) := by rw [hG.cell]; rfl
    have y2 : w1.frozen? ⟨g, 2, none⟩ = false := hG.frozen _
    have e3 : w1.cell? ⟨g, 3, none⟩ = some (.int .i64 0) := by rw [hG.cell]; rfl
    have y3 : w1.frozen? ⟨g, 3, none⟩ = false := hG.frozen _
    have e4 : w1.cell? ⟨g, 4, none⟩ = some (.int .i64 0) := by rw [hG.cell]; rfl
    have y4 : w1.frozen? ⟨g, 4, none⟩ = false := hG.frozen _
    have e5 : w1.cell? ⟨g, 5, none⟩ = some (.int .i64 0) := by rw [hG.cell]; rfl
    have y5 : w1.frozen? ⟨g, 5, none⟩ = false := hG.frozen _
    have e6 : w1.cell? ⟨g, 6, none⟩ = some (nilS) := by rw [hG.cell]; rfl
    have y6 : w1.frozen? ⟨g, 6, none⟩ = false := hG.frozen _
    have e7 : w1.cell? ⟨g, 7, none⟩ = some (nilS) := by rw [hG.cell]; rfl
    have y7 : w1.frozen? ⟨g, 7, none⟩ = false := hG.frozen _
    clear hG
    unfold efC
    refine AnyK.one (i := 17) rfl (by kernel_rfl) (fun K hK => ?_)
    go_simp
    refine hK.out _ _ (fun h => absurd (h.symm.trans (by kernel_rfl : _ = true)) (by decide)) ?_
    clear hK K
    refine AnyK.done (by kernel_rfl) ?_ _
    go_wp2_with fail
    go_meet
    refine ⟨_, _, _, rfl, hgt, hgne, ef_stored HG1.out _ _ _ _ _ _ _ _, ?_, ?_, ?_, ?_, ?_⟩
    · exact EfAt.fr HE1.out (ef_frame (Fr.refl (At g) _) (.inl rfl) _ _ _ _ _ _ _ _) (fun k t' cs hk ht' hg' => by
        have hg' : k = g := hg'
        subst hg'
        rcases ht' with rfl | rfl
        · exact Blk.ne_ hk HG1.out (by decide) rfl
        · exact Blk.ne_ hk HG1.out (by decide) rfl)
    · exact HT1.out.fr (ef_frame (Fr.refl (At g) _) (.inl rfl) _ _ _ _ _ _ _ _) (fun h => hgne (Eq.symm h))
    · exact HB1.out.fr (ef_frame (Fr.refl (At g) _) (.inl rfl) _ _ _ _ _ _ _ _) (fun h => hgF (Eq.symm h))
    · exact HV1.out.fr (ef_frame (Fr.refl (At g) _) (.inl rfl) _ _ _ _ _ _ _ _) (fun h => by have h : _ = g := h; omega)
    · exact HFW.out.then (ef_frame (Fr.refl (At g) _) (.inl rfl) _ _ _ _ _ _ _ _) (fun i hi => .inr (by have hi : i = g := hi; omega))
end Go.Proofs.YtadcenaafoemmaaDoor
