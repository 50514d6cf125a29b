/-
  Package pool: New. No condition.
-/
import Derived.Test.YtichhieopnbgpaaP10
import Derived.Deep.DeepCutAuto
namespace Go.Proofs.Ytichhieopnbgpaa
open Go.RowKit

/-- Row q at first: worker q / 4, class q % 4. -/
def rowAt (S : Shp) (q : Nat) : List Nat :=
  if q % 4 = 0 then rowL (1 + q / 4 * S.m0) S.m0 else if q % 4 = 1 then rowL (1 + S.q0 + q / 4 * S.m1) S.m1 else if q % 4 = 2 then rowL (1 + S.q0 + S.q1 + q / 4 * S.m2) S.m2 else []
def initL (S : Shp) : List (List Nat) := (List.range (4 * S.k)).map (rowAt S)
def partL (S : Shp) (c i : Nat) : List (List Nat) := (List.range (4 * S.k)).map fun q => if q % 4 < c ∨ (q % 4 = c ∧ q / 4 < i) then rowAt S q else []
theorem partL_length (S : Shp) (c i : Nat) : (partL S c i).length = 4 * S.k := by simp [partL]
theorem partL_at {S : Shp} {c i q : Nat} (h : q < 4 * S.k) : (partL S c i)[q]? = some (if q % 4 < c ∨ (q % 4 = c ∧ q / 4 < i) then rowAt S q else []) := by
  rw [partL, List.getElem?_map, List.getElem?_range h]; rfl
theorem partL_set {S : Shp} {c i : Nat} (hc : c < 4) : (partL S c i).set (i * 4 + c) (rowAt S (i * 4 + c)) = partL S c (i + 1) := by
  apply List.ext_getElem?
  intro q
  by_cases hq : q < 4 * S.k
  · by_cases he : i * 4 + c = q
    · subst he
      rw [List.getElem?_set_self (by rw [partL_length]; exact hq), partL_at hq, if_pos (by omega)]
    · rw [List.getElem?_set_ne he, partL_at hq, partL_at hq]
      congr 1
      by_cases h : q % 4 < c ∨ (q % 4 = c ∧ q / 4 < i)
      · rw [if_pos h, if_pos (by omega)]
      · rw [if_neg h, if_neg (by omega)]
  · rw [List.getElem?_eq_none (by rw [List.length_set, partL_length]; omega), List.getElem?_eq_none (by rw [partL_length]; omega)]
theorem partL_next {S : Shp} {c : Nat} : partL S c S.k = partL S (c + 1) 0 := by
  apply List.map_congr_left
  intro q hq
  have := List.mem_range.1 hq
  by_cases h : q % 4 < c ∨ (q % 4 = c ∧ q / 4 < S.k)
  · rw [if_pos h, if_pos (by omega)]
  · rw [if_neg h, if_neg (by omega)]
theorem partL_last {S : Shp} : partL S 3 0 = initL S := by
  apply List.map_congr_left
  intro q _
  by_cases h : q % 4 < 3
  · rw [if_pos (.inl h)]
  · rw [if_neg (by omega)]
    unfold rowAt
    rw [if_neg (by omega), if_neg (by omega), if_neg (by omega)]
theorem partL_zero {S : Shp} : partL S 0 0 = List.replicate (4 * S.k) [] := by
  apply List.ext_getElem?
  intro q
  by_cases hq : q < 4 * S.k
  · rw [partL_at hq, List.getElem?_replicate, if_pos hq, if_neg (by omega)]
  · rw [List.getElem?_eq_none (by rw [partL_length]; omega), List.getElem?_eq_none (by simp; omega)]

theorem make_workers (k : Nat) (hk : k ≤ 64) (w : World) : (Instr.makeSlice 72 (.int .i64 (k : Int)) (.int .i64 (k : Int))).run Try.prog w = .ok (.slice (some ⟨w.heap.size, 0, none⟩) k k) (w.alloc (.cells (Array.replicate (4 * k) (Value.slice none 0 0)) 79)) := by
  have hr := run_make (P := Try.prog) w 72 79 _ (.agg #[.slice none 0 0, .slice none 0 0, .slice none 0 0, .slice none 0 0]) Try.underlying72 rfl rfl .i64 .i64 (k : Int) (k : Int) (by omega) (by omega) (by show (96 : Int) * _ ≤ _; omega) (by omega)
  rw [hr]
  simp only [Int.toNat_natCast]
  have e0 : ∀ j, (madeCells #[Value.slice none 0 0, Value.slice none 0 0, Value.slice none 0 0, Value.slice none 0 0] (k * 4))[j]? = if j < k * 4 then some (#[Value.slice none 0 0, Value.slice none 0 0, Value.slice none 0 0, Value.slice none 0 0][j % 4]!) else none := by
    intro j
    by_cases hj : j < k * 4
    · simp [madeCells, hj]
    · simp [madeCells, hj]
  have e : (madeCells (Value.agg #[.slice none 0 0, .slice none 0 0, .slice none 0 0, .slice none 0 0]).cells (k * 4)) = Array.replicate (4 * k) (Value.slice none 0 0) := by
    apply Array.ext_getElem?
    intro i
    have h1 : (Array.replicate (4 * k) (Value.slice none 0 0))[i]? = if i < 4 * k then some (Value.slice none 0 0) else none := by
      rw [Array.getElem?_replicate]
    rw [h1]
    refine (e0 i).trans ?_
    by_cases hi : i < k * 4
    · rw [if_pos hi, if_pos (by omega)]
      have h4 : i % 4 = 0 ∨ i % 4 = 1 ∨ i % 4 = 2 ∨ i % 4 = 3 := by omega
      rcases h4 with h4 | h4 | h4 | h4 <;> (rw [h4]; rfl)
    · rw [if_neg hi, if_neg (by omega)]
  rw [← e]
  rfl
theorem make_flags (n : Nat) (hn : n ≤ 200000) (w : World) : (Instr.makeSlice 61 (.int .i64 (n : Int)) (.int .i64 (n : Int))).run Try.prog w = .ok (.slice (some ⟨w.heap.size, 0, none⟩) n n) (w.alloc (.cells (bc (List.replicate n false)).toArray 4)) := by
  have hr := run_make (P := Try.prog) w 61 4 _ (.bool false) Try.underlying61 rfl rfl .i64 .i64 (n : Int) (n : Int) (by omega) (by omega) (by show (1 : Int) * _ ≤ _; omega) (by omega)
  rw [hr]
  simp only [Int.toNat_natCast]
  have e : (madeCells (Value.bool false).cells (n * 1)) = (bc (List.replicate n false)).toArray := by
    apply Array.ext'
    show (madeCells #[Value.bool false] (n * 1)).toList = _
    rw [toList_madeCells_one]
    simp [bc]
  rw [← e]
  rfl

theorem words_any (w : World) (p s : Nat) (ws : List (Bool × Int)) (st : Int) (hM : MemIs w p s ws st) : Calls Try.prog 35 #[.pointer (some ⟨p, 0, none⟩)] w fun e w' => e = .returned (.int .i64 ws.length) ∧ w = w' := by
  have c0 : w.cell? ⟨p, 0, none⟩ = some (.slice (some ⟨s, 0, none⟩) ws.length ws.length) := by rw [hM.hp.cell]; rfl
  go_enter Try.func35, Try.ntmps35
  go_wp2
  go_ret
  exact ⟨rfl, rfl⟩

theorem words_nil (w : World) : Calls Try.prog 35 #[.pointer none] w fun e w' => e = .returned (.int .i64 0) ∧ w = w' := by
  go_enter Try.func35, Try.ntmps35
  go_wp2
  go_ret
  exact ⟨rfl, rfl⟩

/-- What the pool's block holds while New goes on. -/
abbrev newC (S : Shp) (base mp b : Nat) : Array Value :=
  #[.pointer (some ⟨mp, 0, none⟩), .int .i64 1, .int .i64 (base : Int), .int .i64 (S.s0 : Int), .int .i64 (S.m0 : Int), .int .i64 (1 + (S.q0 : Int)), .int .i64 ((base : Int) + (S.r0 : Int)), .int .i64 (S.s1 : Int), .int .i64 (S.m1 : Int), .int .i64 (1 + (S.q0 : Int) + (S.q1 : Int)), .int .i64 ((base : Int) + (S.r0 : Int) + (S.r1 : Int)), .int .i64 (S.s2 : Int), .int .i64 (S.m2 : Int), .slice (some ⟨b, 0, none⟩) S.k S.k, .slice none 0 0]

set_option maxHeartbeats 16000000 in
set_option maxRecDepth 100000 in
theorem new_yes2 (w : World) (x : Nat) (hx : x ≤ w.heap.size) (S : Shp) (hS : S.Ok) (base mp ms : Nat) (hbase : base ≤ 100000) (ws : List (Bool × Int)) (st : Int) (hM : MemIs w mp ms ws st) (hwl : ws.length ≤ 65536) (hfit : base + S.words ≤ ws.length) :
    Calls Try.prog 12 #[.pointer (some ⟨mp, 0, none⟩), .int .i64 (base : Int), .agg S.i.cells] w fun e w' => ∃ P b t vs, e = .returned (.tuple #[.pointer (some ⟨P, 0, none⟩), .int .i64 0]) ∧ PR w' x P mp ms b t S base st vs (initL S) (List.replicate (S.many + 1) false) ws ∧ Fr F0 w w' ∧ w.heap.size ≤ P ∧ ∀ k, PB vs b t mp ms k → (k = mp ∨ k = ms) ∨ w.heap.size ≤ k := by
  have hwS : S.words ≤ 65536 := by omega
  have HSB : Hid (Blk (w.alloc (.cells S.i.cells 36)) w.heap.size 36 S.i.cells) := Blk.new _ _ _
  have HFA : Hid (Fr F0 w (w.alloc (.cells S.i.cells 36))) := (Fr.refl _ _).alloc _
  have HMB : Hid (∀ w2, Fr F0 w w2 → Calls Try.prog 33 #[.agg S.i.cells] w2 fun e w' => e = .returned (.bool true) ∧ Fr F0 w2 w') := Lib.hid (fun w2 _ => by have := maybe_any w2 S.i; rwa [hS.i] at this)
  have HWO : Hid (∀ w2, Fr F0 w w2 → Calls Try.prog 34 #[.agg S.i.cells] w2 fun e w' => e = .returned (.int .i64 ((S.words : Nat) : Int)) ∧ Fr F0 w2 w') := Lib.hid (fun w2 _ => words_ok w2 S hS)
  have HWW : Hid (∀ w2, Fr F0 w w2 → Calls Try.prog 35 #[.pointer (some ⟨mp, 0, none⟩)] w2 fun e w' => e = .returned (.int .i64 (ws.length : Int)) ∧ Fr F0 w2 w') := Lib.hid (fun w2 hf => (words_any w2 mp ms ws st (hM.fr hf (fun h => h) (fun h => h))).mono fun e w' ⟨h1, h2⟩ => ⟨h1, h2 ▸ Fr.refl _ _⟩)
  have HLO : Hid (∀ w2, Fr F0 w w2 → Calls Try.prog 36 #[.agg S.i.cells, .int .i64 (base : Int)] w2 fun e w' => e = .returned (.agg (clsC S base)) ∧ Fr F0 w2 w') := Lib.hid (fun w2 _ => layout_ok w2 S hS base hbase)
  have hmk := @make_workers S.k hS.k2
  have HM := Lib.hid hM
  have HS := Lib.hid hS
  obtain ⟨WL, hWL⟩ : ∃ n, n = ws.length := ⟨_, rfl⟩
  obtain ⟨SW, hSW⟩ : ∃ n, n = S.words := ⟨_, rfl⟩
  rw [← hWL, ← hSW] at hfit
  rw [← hWL] at HWW hwl
  rw [← hSW] at HWO hwS
  have HWL := Lib.hid hWL
  have HSW := Lib.hid hSW
  have g1 : ¬ (65536 : Int) < (SW : Int) := by omega
  have g2 : ¬ (base : Int) < 0 := by omega
  have g3 : ¬ (WL : Int) - (SW : Int) < (base : Int) := by omega
  have hk2 := hS.k2
  have HX := Lib.hid hx
  simp only [ShI.cells, Shp.i, clsC] at HSB HFA HMB HWO HLO ⊢
  clear hM hS hWL hSW
  go_enter Try.func12, Try.ntmps12
  go_wp2_with fail
  refine (HMB.out _ HFA.out).mono ?_
  rintro e w1 ⟨rfl, hF1⟩
  have HF1 := Lib.hid (HFA.out.trans hF1)
  have HSB1 := Lib.hid (HSB.out.fr hF1 (fun h => h))
  have u0 : w1.cell? ⟨w.heap.size, 0, none⟩ = some (.int .i64 (S.k : Int)) := by rw [HSB1.out.cell]; rfl
  have u1 : w1.cell? ⟨w.heap.size, 1, none⟩ = some (.int .i64 (S.s0 : Int)) := by rw [HSB1.out.cell]; rfl
  have u2 : w1.cell? ⟨w.heap.size, 2, none⟩ = some (.int .i64 (S.s1 : Int)) := by rw [HSB1.out.cell]; rfl
  have u3 : w1.cell? ⟨w.heap.size, 3, none⟩ = some (.int .i64 (S.s2 : Int)) := by rw [HSB1.out.cell]; rfl
  have u4 : w1.cell? ⟨w.heap.size, 4, none⟩ = some (.int .i64 (S.m0 : Int)) := by rw [HSB1.out.cell]; rfl
  have u5 : w1.cell? ⟨w.heap.size, 5, none⟩ = some (.int .i64 (S.m1 : Int)) := by rw [HSB1.out.cell]; rfl
  have u6 : w1.cell? ⟨w.heap.size, 6, none⟩ = some (.int .i64 (S.m2 : Int)) := by rw [HSB1.out.cell]; rfl
  clear hF1 HSB HFA
  go_wp2_with fail
  refine (HWO.out _ HF1.out).mono ?_
  rintro e w2 ⟨rfl, hF2⟩
  have HF2 := Lib.hid (HF1.out.trans hF2)
  have HSB2 := Lib.hid (HSB1.out.fr hF2 (fun h => h))
  clear hF2 u0 u1 u2 u3 u4 u5 u6
  go_wp2_with fail
  refine (HWW.out _ HF2.out).mono ?_
  rintro e w3 ⟨rfl, hF3⟩
  have HF3 := Lib.hid (HF2.out.trans hF3)
  have HSB3 := Lib.hid (HSB2.out.fr hF3 (fun h => h))
  have v0 : w3.cell? ⟨w.heap.size, 0, none⟩ = some (.int .i64 (S.k : Int)) := by rw [HSB3.out.cell]; rfl
  have v1 : w3.cell? ⟨w.heap.size, 1, none⟩ = some (.int .i64 (S.s0 : Int)) := by rw [HSB3.out.cell]; rfl
  have v2 : w3.cell? ⟨w.heap.size, 2, none⟩ = some (.int .i64 (S.s1 : Int)) := by rw [HSB3.out.cell]; rfl
  have v3 : w3.cell? ⟨w.heap.size, 3, none⟩ = some (.int .i64 (S.s2 : Int)) := by rw [HSB3.out.cell]; rfl
  have v4 : w3.cell? ⟨w.heap.size, 4, none⟩ = some (.int .i64 (S.m0 : Int)) := by rw [HSB3.out.cell]; rfl
  have v5 : w3.cell? ⟨w.heap.size, 5, none⟩ = some (.int .i64 (S.m1 : Int)) := by rw [HSB3.out.cell]; rfl
  have v6 : w3.cell? ⟨w.heap.size, 6, none⟩ = some (.int .i64 (S.m2 : Int)) := by rw [HSB3.out.cell]; rfl
  clear hF3
  go_upto_region 8 with (fail)
  go_cut [9] (fun pv wx => ∃ P b, pv = .pointer (some ⟨P, 0, none⟩) ∧ Hid (Blk wx P 74 (newC S base mp b) ∧ Blk wx b 79 (Array.replicate (4 * S.k) (Value.slice none 0 0)) ∧ Fr F0 w wx ∧ Blk wx w.heap.size 36 #[.int .i64 (S.k : Int), .int .i64 (S.s0 : Int), .int .i64 (S.s1 : Int), .int .i64 (S.s2 : Int), .int .i64 (S.m0 : Int), .int .i64 (S.m1 : Int), .int .i64 (S.m2 : Int)] ∧ w.heap.size ≤ P ∧ w.heap.size ≤ b))
  case first =>
    have hsl := HSB3.out.lt
    refine region_K 10 (fun w' : World => w'.cell? ⟨w.heap.size, 0, none⟩ = some (.int .i64 (S.k : Int)) ∧ w'.cell? ⟨w.heap.size, 1, none⟩ = some (.int .i64 (S.s0 : Int)) ∧ w'.cell? ⟨w.heap.size, 2, none⟩ = some (.int .i64 (S.s1 : Int)) ∧ w'.cell? ⟨w.heap.size, 3, none⟩ = some (.int .i64 (S.s2 : Int)) ∧ w'.cell? ⟨w.heap.size, 4, none⟩ = some (.int .i64 (S.m0 : Int)) ∧ w'.cell? ⟨w.heap.size, 5, none⟩ = some (.int .i64 (S.m1 : Int)) ∧ w'.cell? ⟨w.heap.size, 6, none⟩ = some (.int .i64 (S.m2 : Int))) (by kernel_rfl) ?_
    have HB0 : Hid (Blk w3.drew w.heap.size 36 #[.int .i64 (S.k : Int), .int .i64 (S.s0 : Int), .int .i64 (S.s1 : Int), .int .i64 (S.s2 : Int), .int .i64 (S.m0 : Int), .int .i64 (S.m1 : Int), .int .i64 (S.m2 : Int)]) := HSB3.out.drew
    have HFW : Hid (Fr F0 w w3.drew) := HF3.out.drew
    have HS0 : (fun w' : World => w'.cell? ⟨w.heap.size, 0, none⟩ = some (.int .i64 (S.k : Int)) ∧ w'.cell? ⟨w.heap.size, 1, none⟩ = some (.int .i64 (S.s0 : Int)) ∧ w'.cell? ⟨w.heap.size, 2, none⟩ = some (.int .i64 (S.s1 : Int)) ∧ w'.cell? ⟨w.heap.size, 3, none⟩ = some (.int .i64 (S.s2 : Int)) ∧ w'.cell? ⟨w.heap.size, 4, none⟩ = some (.int .i64 (S.m0 : Int)) ∧ w'.cell? ⟨w.heap.size, 5, none⟩ = some (.int .i64 (S.m1 : Int)) ∧ w'.cell? ⟨w.heap.size, 6, none⟩ = some (.int .i64 (S.m2 : Int))) w3.drew := ⟨by rw [HB0.out.cell]; rfl, by rw [HB0.out.cell]; rfl, by rw [HB0.out.cell]; rfl, by rw [HB0.out.cell]; rfl, by rw [HB0.out.cell]; rfl, by rw [HB0.out.cell]; rfl, by rw [HB0.out.cell]; rfl⟩
    refine AnyK.take (i := 0) rfl (by decide) (by kernel_rfl) (by kernel_rfl) (by kernel_rfl) (fun _ _ _ _ h => h) HS0 (fun K hK => ?_)
    go_simp
    refine hK.out _ ⟨_, by rfl, Or.inl ⟨by rfl, by intro w hSw; (try dsimp only at hSw); go_simp⟩, ?_⟩
    clear hK K
    refine AnyK.take (i := 1) rfl (by decide) (by kernel_rfl) (by kernel_rfl) (by kernel_rfl) (fun _ _ _ _ h => h) HS0 (fun K hK => ?_)
    go_simp
    refine hK.out _ ⟨_, by rfl, Or.inl ⟨by rfl, by intro w hSw; (try dsimp only at hSw); go_simp⟩, ?_⟩
    clear hK K
    refine AnyK.take (i := 2) rfl (by decide) (by kernel_rfl) (by kernel_rfl) (by kernel_rfl) (fun _ _ _ _ h => h) HS0 (fun K hK => ?_)
    go_simp
    refine hK.out _ ⟨_, by rfl, Or.inl ⟨by rfl, by intro w hSw; (try dsimp only at hSw); go_simp⟩, ?_⟩
    clear hK K
    refine AnyK.take (i := 4) rfl (by decide) (by kernel_rfl) (by kernel_rfl) (by kernel_rfl) (fun _ _ _ _ h => h) HS0 (fun K hK => ?_)
    go_simp
    refine hK.out _ ⟨_, by rfl, Or.inl ⟨by rfl, by intro w hSw; (try dsimp only at hSw); go_simp⟩, ?_⟩
    clear hK K
    refine AnyK.take (i := 5) rfl (by decide) (by kernel_rfl) (by kernel_rfl) (by kernel_rfl) (fun _ _ _ _ h => h) HS0 (fun K hK => ?_)
    go_simp
    refine hK.out _ ⟨_, by rfl, Or.inl ⟨by rfl, by intro w hSw; (try dsimp only at hSw); go_simp⟩, ?_⟩
    clear hK K
    refine AnyK.two (i := 3) (j := 6) rfl rfl (by kernel_rfl) (fun K hK => ?_) (fun K hK => ?_)
    · go_simp
      refine (HLO.out _ HFW.out).mono ?_
      rintro e w4 ⟨rfl, hF4⟩
      have HF4 := Lib.hid (HFW.out.trans hF4)
      have HB4 := Lib.hid (HB0.out.fr hF4 (fun h => h))
      have HS4 : (fun w' : World => w'.cell? ⟨w.heap.size, 0, none⟩ = some (.int .i64 (S.k : Int)) ∧ w'.cell? ⟨w.heap.size, 1, none⟩ = some (.int .i64 (S.s0 : Int)) ∧ w'.cell? ⟨w.heap.size, 2, none⟩ = some (.int .i64 (S.s1 : Int)) ∧ w'.cell? ⟨w.heap.size, 3, none⟩ = some (.int .i64 (S.s2 : Int)) ∧ w'.cell? ⟨w.heap.size, 4, none⟩ = some (.int .i64 (S.m0 : Int)) ∧ w'.cell? ⟨w.heap.size, 5, none⟩ = some (.int .i64 (S.m1 : Int)) ∧ w'.cell? ⟨w.heap.size, 6, none⟩ = some (.int .i64 (S.m2 : Int))) w4 := ⟨by rw [HB4.out.cell]; rfl, by rw [HB4.out.cell]; rfl, by rw [HB4.out.cell]; rfl, by rw [HB4.out.cell]; rfl, by rw [HB4.out.cell]; rfl, by rw [HB4.out.cell]; rfl, by rw [HB4.out.cell]; rfl⟩
      refine hK.out _ _ (fun _ => HS4) ?_
      clear hK K hF4
      refine AnyK.one (i := 6) rfl (by kernel_rfl) (fun K hK => ?_)
      go_simp
      have HB5 : Hid (Blk (w4.alloc (.cells (Array.replicate (4 * S.k) (Value.slice none 0 0)) 79)) w.heap.size 36 #[.int .i64 (S.k : Int), .int .i64 (S.s0 : Int), .int .i64 (S.s1 : Int), .int .i64 (S.s2 : Int), .int .i64 (S.m0 : Int), .int .i64 (S.m1 : Int), .int .i64 (S.m2 : Int)]) := HB4.out.alloc _
      have HF5 : Hid (Fr F0 w (w4.alloc (.cells (Array.replicate (4 * S.k) (Value.slice none 0 0)) 79))) := HF4.out.alloc _
      have HW5 : Hid (Blk (w4.alloc (.cells (Array.replicate (4 * S.k) (Value.slice none 0 0)) 79)) w4.heap.size 79 (Array.replicate (4 * S.k) (Value.slice none 0 0))) := Blk.new _ _ _
      have HZ5 : Hid ((w4.alloc (.cells (Array.replicate (4 * S.k) (Value.slice none 0 0)) 79)).heap.size = w4.heap.size + 1) := Lib.hid (by simp)
      have HS5 : (fun w' : World => w'.cell? ⟨w.heap.size, 0, none⟩ = some (.int .i64 (S.k : Int)) ∧ w'.cell? ⟨w.heap.size, 1, none⟩ = some (.int .i64 (S.s0 : Int)) ∧ w'.cell? ⟨w.heap.size, 2, none⟩ = some (.int .i64 (S.s1 : Int)) ∧ w'.cell? ⟨w.heap.size, 3, none⟩ = some (.int .i64 (S.s2 : Int)) ∧ w'.cell? ⟨w.heap.size, 4, none⟩ = some (.int .i64 (S.m0 : Int)) ∧ w'.cell? ⟨w.heap.size, 5, none⟩ = some (.int .i64 (S.m1 : Int)) ∧ w'.cell? ⟨w.heap.size, 6, none⟩ = some (.int .i64 (S.m2 : Int))) (w4.alloc (.cells (Array.replicate (4 * S.k) (Value.slice none 0 0)) 79)) := ⟨by rw [HB5.out.cell]; rfl, by rw [HB5.out.cell]; rfl, by rw [HB5.out.cell]; rfl, by rw [HB5.out.cell]; rfl, by rw [HB5.out.cell]; rfl, by rw [HB5.out.cell]; rfl, by rw [HB5.out.cell]; rfl⟩
      refine hK.out _ _ (fun _ => HS5) ?_
      clear hK K
      refine AnyK.one (i := 7) rfl (by kernel_rfl) (fun K hK => ?_)
      go_simp
      refine hK.out _ _ (fun _ => HS5) ?_
      clear hK K
      refine AnyK.one (i := 8) rfl (by kernel_rfl) (fun K hK => ?_)
      go_simp
      have HP6 : Hid (Blk ((w4.alloc (.cells (Array.replicate (4 * S.k) (Value.slice none 0 0)) 79)).alloc (.cells (#[.pointer (some ⟨mp, 0, none⟩), .int .i64 1, .int .i64 (base : Int), .int .i64 (S.s0 : Int), .int .i64 (S.m0 : Int), .int .i64 (1 + (S.q0 : Int)), .int .i64 ((base : Int) + (S.r0 : Int)), .int .i64 (S.s1 : Int), .int .i64 (S.m1 : Int), .int .i64 (1 + (S.q0 : Int) + (S.q1 : Int)), .int .i64 ((base : Int) + (S.r0 : Int) + (S.r1 : Int)), .int .i64 (S.s2 : Int), .int .i64 (S.m2 : Int), .slice (some ⟨w4.heap.size, 0, none⟩) S.k S.k, .slice none 0 0]) 74)) (w4.heap.size + 1) 74 (#[.pointer (some ⟨mp, 0, none⟩), .int .i64 1, .int .i64 (base : Int), .int .i64 (S.s0 : Int), .int .i64 (S.m0 : Int), .int .i64 (1 + (S.q0 : Int)), .int .i64 ((base : Int) + (S.r0 : Int)), .int .i64 (S.s1 : Int), .int .i64 (S.m1 : Int), .int .i64 (1 + (S.q0 : Int) + (S.q1 : Int)), .int .i64 ((base : Int) + (S.r0 : Int) + (S.r1 : Int)), .int .i64 (S.s2 : Int), .int .i64 (S.m2 : Int), .slice (some ⟨w4.heap.size, 0, none⟩) S.k S.k, .slice none 0 0])) := Lib.hid (by
        have h := Blk.new (w4.alloc (.cells (Array.replicate (4 * S.k) (Value.slice none 0 0)) 79)) 74 (#[.pointer (some ⟨mp, 0, none⟩), .int .i64 1, .int .i64 (base : Int), .int .i64 (S.s0 : Int), .int .i64 (S.m0 : Int), .int .i64 (1 + (S.q0 : Int)), .int .i64 ((base : Int) + (S.r0 : Int)), .int .i64 (S.s1 : Int), .int .i64 (S.m1 : Int), .int .i64 (1 + (S.q0 : Int) + (S.q1 : Int)), .int .i64 ((base : Int) + (S.r0 : Int) + (S.r1 : Int)), .int .i64 (S.s2 : Int), .int .i64 (S.m2 : Int), .slice (some ⟨w4.heap.size, 0, none⟩) S.k S.k, .slice none 0 0])
        first | exact h | rwa [HZ5.out] at h)
      have HB6 : Hid (Blk ((w4.alloc (.cells (Array.replicate (4 * S.k) (Value.slice none 0 0)) 79)).alloc (.cells (#[.pointer (some ⟨mp, 0, none⟩), .int .i64 1, .int .i64 (base : Int), .int .i64 (S.s0 : Int), .int .i64 (S.m0 : Int), .int .i64 (1 + (S.q0 : Int)), .int .i64 ((base : Int) + (S.r0 : Int)), .int .i64 (S.s1 : Int), .int .i64 (S.m1 : Int), .int .i64 (1 + (S.q0 : Int) + (S.q1 : Int)), .int .i64 ((base : Int) + (S.r0 : Int) + (S.r1 : Int)), .int .i64 (S.s2 : Int), .int .i64 (S.m2 : Int), .slice (some ⟨w4.heap.size, 0, none⟩) S.k S.k, .slice none 0 0]) 74)) w.heap.size 36 #[.int .i64 (S.k : Int), .int .i64 (S.s0 : Int), .int .i64 (S.s1 : Int), .int .i64 (S.s2 : Int), .int .i64 (S.m0 : Int), .int .i64 (S.m1 : Int), .int .i64 (S.m2 : Int)]) := HB5.out.alloc _
      have HW6 : Hid (Blk ((w4.alloc (.cells (Array.replicate (4 * S.k) (Value.slice none 0 0)) 79)).alloc (.cells (#[.pointer (some ⟨mp, 0, none⟩), .int .i64 1, .int .i64 (base : Int), .int .i64 (S.s0 : Int), .int .i64 (S.m0 : Int), .int .i64 (1 + (S.q0 : Int)), .int .i64 ((base : Int) + (S.r0 : Int)), .int .i64 (S.s1 : Int), .int .i64 (S.m1 : Int), .int .i64 (1 + (S.q0 : Int) + (S.q1 : Int)), .int .i64 ((base : Int) + (S.r0 : Int) + (S.r1 : Int)), .int .i64 (S.s2 : Int), .int .i64 (S.m2 : Int), .slice (some ⟨w4.heap.size, 0, none⟩) S.k S.k, .slice none 0 0]) 74)) (w4.heap.size) 79 (Array.replicate (4 * S.k) (Value.slice none 0 0))) := HW5.out.alloc _
      have HF6 : Hid (Fr F0 w ((w4.alloc (.cells (Array.replicate (4 * S.k) (Value.slice none 0 0)) 79)).alloc (.cells (#[.pointer (some ⟨mp, 0, none⟩), .int .i64 1, .int .i64 (base : Int), .int .i64 (S.s0 : Int), .int .i64 (S.m0 : Int), .int .i64 (1 + (S.q0 : Int)), .int .i64 ((base : Int) + (S.r0 : Int)), .int .i64 (S.s1 : Int), .int .i64 (S.m1 : Int), .int .i64 (1 + (S.q0 : Int) + (S.q1 : Int)), .int .i64 ((base : Int) + (S.r0 : Int) + (S.r1 : Int)), .int .i64 (S.s2 : Int), .int .i64 (S.m2 : Int), .slice (some ⟨w4.heap.size, 0, none⟩) S.k S.k, .slice none 0 0]) 74))) := HF5.out.alloc _
      have HS6 : (fun w' : World => w'.cell? ⟨w.heap.size, 0, none⟩ = some (.int .i64 (S.k : Int)) ∧ w'.cell? ⟨w.heap.size, 1, none⟩ = some (.int .i64 (S.s0 : Int)) ∧ w'.cell? ⟨w.heap.size, 2, none⟩ = some (.int .i64 (S.s1 : Int)) ∧ w'.cell? ⟨w.heap.size, 3, none⟩ = some (.int .i64 (S.s2 : Int)) ∧ w'.cell? ⟨w.heap.size, 4, none⟩ = some (.int .i64 (S.m0 : Int)) ∧ w'.cell? ⟨w.heap.size, 5, none⟩ = some (.int .i64 (S.m1 : Int)) ∧ w'.cell? ⟨w.heap.size, 6, none⟩ = some (.int .i64 (S.m2 : Int))) ((w4.alloc (.cells (Array.replicate (4 * S.k) (Value.slice none 0 0)) 79)).alloc (.cells (#[.pointer (some ⟨mp, 0, none⟩), .int .i64 1, .int .i64 (base : Int), .int .i64 (S.s0 : Int), .int .i64 (S.m0 : Int), .int .i64 (1 + (S.q0 : Int)), .int .i64 ((base : Int) + (S.r0 : Int)), .int .i64 (S.s1 : Int), .int .i64 (S.m1 : Int), .int .i64 (1 + (S.q0 : Int) + (S.q1 : Int)), .int .i64 ((base : Int) + (S.r0 : Int) + (S.r1 : Int)), .int .i64 (S.s2 : Int), .int .i64 (S.m2 : Int), .slice (some ⟨w4.heap.size, 0, none⟩) S.k S.k, .slice none 0 0]) 74)) := ⟨by rw [HB6.out.cell]; rfl, by rw [HB6.out.cell]; rfl, by rw [HB6.out.cell]; rfl, by rw [HB6.out.cell]; rfl, by rw [HB6.out.cell]; rfl, by rw [HB6.out.cell]; rfl, by rw [HB6.out.cell]; rfl⟩
      refine hK.out _ _ (fun _ => HS6) ?_
      clear hK K
      refine AnyK.one (i := 9) rfl (by kernel_rfl) (fun K hK => ?_)
      go_simp
      refine hK.out _ _ (fun _ => HS6) ?_
      clear hK K
      refine AnyK.done (by kernel_rfl) ?_ _
      go_wp2_with fail
      go_meet
      exact ⟨w4.heap.size + 1, w4.heap.size, rfl, HP6.out, HW6.out, HF6.out, HB6.out, by have h1 := HF5.out.size; have h2 := HF4.out.size; omega, by have := HW5.out.lt; have := HF3.out.size; have := HF5.out.size; first | omega | (have := HF4.out.size; omega)⟩
    · go_simp
      have HB4 : Hid (Blk (w3.drew.alloc (.cells (Array.replicate (4 * S.k) (Value.slice none 0 0)) 79)) w.heap.size 36 #[.int .i64 (S.k : Int), .int .i64 (S.s0 : Int), .int .i64 (S.s1 : Int), .int .i64 (S.s2 : Int), .int .i64 (S.m0 : Int), .int .i64 (S.m1 : Int), .int .i64 (S.m2 : Int)]) := HB0.out.alloc _
      have HF4 : Hid (Fr F0 w (w3.drew.alloc (.cells (Array.replicate (4 * S.k) (Value.slice none 0 0)) 79))) := HFW.out.alloc _
      have HW4 : Hid (Blk (w3.drew.alloc (.cells (Array.replicate (4 * S.k) (Value.slice none 0 0)) 79)) w3.heap.size 79 (Array.replicate (4 * S.k) (Value.slice none 0 0))) := Blk.new w3.drew _ _
      have HS4 : (fun w' : World => w'.cell? ⟨w.heap.size, 0, none⟩ = some (.int .i64 (S.k : Int)) ∧ w'.cell? ⟨w.heap.size, 1, none⟩ = some (.int .i64 (S.s0 : Int)) ∧ w'.cell? ⟨w.heap.size, 2, none⟩ = some (.int .i64 (S.s1 : Int)) ∧ w'.cell? ⟨w.heap.size, 3, none⟩ = some (.int .i64 (S.s2 : Int)) ∧ w'.cell? ⟨w.heap.size, 4, none⟩ = some (.int .i64 (S.m0 : Int)) ∧ w'.cell? ⟨w.heap.size, 5, none⟩ = some (.int .i64 (S.m1 : Int)) ∧ w'.cell? ⟨w.heap.size, 6, none⟩ = some (.int .i64 (S.m2 : Int))) (w3.drew.alloc (.cells (Array.replicate (4 * S.k) (Value.slice none 0 0)) 79)) := ⟨by rw [HB4.out.cell]; rfl, by rw [HB4.out.cell]; rfl, by rw [HB4.out.cell]; rfl, by rw [HB4.out.cell]; rfl, by rw [HB4.out.cell]; rfl, by rw [HB4.out.cell]; rfl, by rw [HB4.out.cell]; rfl⟩
      refine hK.out _ _ (fun _ => HS4) ?_
      clear hK K
      refine AnyK.one (i := 3) rfl (by kernel_rfl) (fun K hK => ?_)
      go_simp
      refine (HLO.out _ HF4.out).mono ?_
      rintro e w5 ⟨rfl, hF5⟩
      have HF5 := Lib.hid (HF4.out.trans hF5)
      have HB5 := Lib.hid (HB4.out.fr hF5 (fun h => h))
      have HW5 := Lib.hid (HW4.out.fr hF5 (fun h => h))
      have HS5 : (fun w' : World => w'.cell? ⟨w.heap.size, 0, none⟩ = some (.int .i64 (S.k : Int)) ∧ w'.cell? ⟨w.heap.size, 1, none⟩ = some (.int .i64 (S.s0 : Int)) ∧ w'.cell? ⟨w.heap.size, 2, none⟩ = some (.int .i64 (S.s1 : Int)) ∧ w'.cell? ⟨w.heap.size, 3, none⟩ = some (.int .i64 (S.s2 : Int)) ∧ w'.cell? ⟨w.heap.size, 4, none⟩ = some (.int .i64 (S.m0 : Int)) ∧ w'.cell? ⟨w.heap.size, 5, none⟩ = some (.int .i64 (S.m1 : Int)) ∧ w'.cell? ⟨w.heap.size, 6, none⟩ = some (.int .i64 (S.m2 : Int))) w5 := ⟨by rw [HB5.out.cell]; rfl, by rw [HB5.out.cell]; rfl, by rw [HB5.out.cell]; rfl, by rw [HB5.out.cell]; rfl, by rw [HB5.out.cell]; rfl, by rw [HB5.out.cell]; rfl, by rw [HB5.out.cell]; rfl⟩
      refine hK.out _ _ (fun _ => HS5) ?_
      clear hK K hF5
      refine AnyK.one (i := 7) rfl (by kernel_rfl) (fun K hK => ?_)
      go_simp
      refine hK.out _ _ (fun _ => HS5) ?_
      clear hK K
      refine AnyK.one (i := 8) rfl (by kernel_rfl) (fun K hK => ?_)
      go_simp
      have HP6 : Hid (Blk (w5.alloc (.cells (#[.pointer (some ⟨mp, 0, none⟩), .int .i64 1, .int .i64 (base : Int), .int .i64 (S.s0 : Int), .int .i64 (S.m0 : Int), .int .i64 (1 + (S.q0 : Int)), .int .i64 ((base : Int) + (S.r0 : Int)), .int .i64 (S.s1 : Int), .int .i64 (S.m1 : Int), .int .i64 (1 + (S.q0 : Int) + (S.q1 : Int)), .int .i64 ((base : Int) + (S.r0 : Int) + (S.r1 : Int)), .int .i64 (S.s2 : Int), .int .i64 (S.m2 : Int), .slice (some ⟨w3.heap.size, 0, none⟩) S.k S.k, .slice none 0 0]) 74)) (w5.heap.size) 74 (#[.pointer (some ⟨mp, 0, none⟩), .int .i64 1, .int .i64 (base : Int), .int .i64 (S.s0 : Int), .int .i64 (S.m0 : Int), .int .i64 (1 + (S.q0 : Int)), .int .i64 ((base : Int) + (S.r0 : Int)), .int .i64 (S.s1 : Int), .int .i64 (S.m1 : Int), .int .i64 (1 + (S.q0 : Int) + (S.q1 : Int)), .int .i64 ((base : Int) + (S.r0 : Int) + (S.r1 : Int)), .int .i64 (S.s2 : Int), .int .i64 (S.m2 : Int), .slice (some ⟨w3.heap.size, 0, none⟩) S.k S.k, .slice none 0 0])) := Lib.hid (by
        have h := Blk.new w5 74 (#[.pointer (some ⟨mp, 0, none⟩), .int .i64 1, .int .i64 (base : Int), .int .i64 (S.s0 : Int), .int .i64 (S.m0 : Int), .int .i64 (1 + (S.q0 : Int)), .int .i64 ((base : Int) + (S.r0 : Int)), .int .i64 (S.s1 : Int), .int .i64 (S.m1 : Int), .int .i64 (1 + (S.q0 : Int) + (S.q1 : Int)), .int .i64 ((base : Int) + (S.r0 : Int) + (S.r1 : Int)), .int .i64 (S.s2 : Int), .int .i64 (S.m2 : Int), .slice (some ⟨w3.heap.size, 0, none⟩) S.k S.k, .slice none 0 0])
        first | exact h | rwa [HZ5.out] at h)
      have HB6 : Hid (Blk (w5.alloc (.cells (#[.pointer (some ⟨mp, 0, none⟩), .int .i64 1, .int .i64 (base : Int), .int .i64 (S.s0 : Int), .int .i64 (S.m0 : Int), .int .i64 (1 + (S.q0 : Int)), .int .i64 ((base : Int) + (S.r0 : Int)), .int .i64 (S.s1 : Int), .int .i64 (S.m1 : Int), .int .i64 (1 + (S.q0 : Int) + (S.q1 : Int)), .int .i64 ((base : Int) + (S.r0 : Int) + (S.r1 : Int)), .int .i64 (S.s2 : Int), .int .i64 (S.m2 : Int), .slice (some ⟨w3.heap.size, 0, none⟩) S.k S.k, .slice none 0 0]) 74)) w.heap.size 36 #[.int .i64 (S.k : Int), .int .i64 (S.s0 : Int), .int .i64 (S.s1 : Int), .int .i64 (S.s2 : Int), .int .i64 (S.m0 : Int), .int .i64 (S.m1 : Int), .int .i64 (S.m2 : Int)]) := HB5.out.alloc _
      have HW6 : Hid (Blk (w5.alloc (.cells (#[.pointer (some ⟨mp, 0, none⟩), .int .i64 1, .int .i64 (base : Int), .int .i64 (S.s0 : Int), .int .i64 (S.m0 : Int), .int .i64 (1 + (S.q0 : Int)), .int .i64 ((base : Int) + (S.r0 : Int)), .int .i64 (S.s1 : Int), .int .i64 (S.m1 : Int), .int .i64 (1 + (S.q0 : Int) + (S.q1 : Int)), .int .i64 ((base : Int) + (S.r0 : Int) + (S.r1 : Int)), .int .i64 (S.s2 : Int), .int .i64 (S.m2 : Int), .slice (some ⟨w3.heap.size, 0, none⟩) S.k S.k, .slice none 0 0]) 74)) (w3.heap.size) 79 (Array.replicate (4 * S.k) (Value.slice none 0 0))) := HW5.out.alloc _
      have HF6 : Hid (Fr F0 w (w5.alloc (.cells (#[.pointer (some ⟨mp, 0, none⟩), .int .i64 1, .int .i64 (base : Int), .int .i64 (S.s0 : Int), .int .i64 (S.m0 : Int), .int .i64 (1 + (S.q0 : Int)), .int .i64 ((base : Int) + (S.r0 : Int)), .int .i64 (S.s1 : Int), .int .i64 (S.m1 : Int), .int .i64 (1 + (S.q0 : Int) + (S.q1 : Int)), .int .i64 ((base : Int) + (S.r0 : Int) + (S.r1 : Int)), .int .i64 (S.s2 : Int), .int .i64 (S.m2 : Int), .slice (some ⟨w3.heap.size, 0, none⟩) S.k S.k, .slice none 0 0]) 74))) := HF5.out.alloc _
      have HS6 : (fun w' : World => w'.cell? ⟨w.heap.size, 0, none⟩ = some (.int .i64 (S.k : Int)) ∧ w'.cell? ⟨w.heap.size, 1, none⟩ = some (.int .i64 (S.s0 : Int)) ∧ w'.cell? ⟨w.heap.size, 2, none⟩ = some (.int .i64 (S.s1 : Int)) ∧ w'.cell? ⟨w.heap.size, 3, none⟩ = some (.int .i64 (S.s2 : Int)) ∧ w'.cell? ⟨w.heap.size, 4, none⟩ = some (.int .i64 (S.m0 : Int)) ∧ w'.cell? ⟨w.heap.size, 5, none⟩ = some (.int .i64 (S.m1 : Int)) ∧ w'.cell? ⟨w.heap.size, 6, none⟩ = some (.int .i64 (S.m2 : Int))) (w5.alloc (.cells (#[.pointer (some ⟨mp, 0, none⟩), .int .i64 1, .int .i64 (base : Int), .int .i64 (S.s0 : Int), .int .i64 (S.m0 : Int), .int .i64 (1 + (S.q0 : Int)), .int .i64 ((base : Int) + (S.r0 : Int)), .int .i64 (S.s1 : Int), .int .i64 (S.m1 : Int), .int .i64 (1 + (S.q0 : Int) + (S.q1 : Int)), .int .i64 ((base : Int) + (S.r0 : Int) + (S.r1 : Int)), .int .i64 (S.s2 : Int), .int .i64 (S.m2 : Int), .slice (some ⟨w3.heap.size, 0, none⟩) S.k S.k, .slice none 0 0]) 74)) := ⟨by rw [HB6.out.cell]; rfl, by rw [HB6.out.cell]; rfl, by rw [HB6.out.cell]; rfl, by rw [HB6.out.cell]; rfl, by rw [HB6.out.cell]; rfl, by rw [HB6.out.cell]; rfl, by rw [HB6.out.cell]; rfl⟩
      refine hK.out _ _ (fun _ => HS6) ?_
      clear hK K
      refine AnyK.one (i := 9) rfl (by kernel_rfl) (fun K hK => ?_)
      go_simp
      refine hK.out _ _ (fun _ => HS6) ?_
      clear hK K
      refine AnyK.done (by kernel_rfl) ?_ _
      go_wp2_with fail
      go_meet
      exact ⟨w5.heap.size, w3.heap.size, rfl, HP6.out, HW6.out, HF6.out, HB6.out, by have h1 := HF5.out.size; have h2 := HF4.out.size; omega, by have := HW5.out.lt; have := HF3.out.size; have := HF5.out.size; first | omega | (have := HF4.out.size; omega)⟩
  case rest =>
    obtain ⟨P, b, rfl, HNW⟩ := hcut
    have HPB := Lib.hid HNW.out.1
    have HWB := Lib.hid HNW.out.2.1
    have HFC := Lib.hid HNW.out.2.2.1
    have HSC := Lib.hid HNW.out.2.2.2.1
    have HPL := Lib.hid HNW.out.2.2.2.2.1
    have HBL := Lib.hid HNW.out.2.2.2.2.2
    obtain ⟨hq0, hq1, hq2⟩ := HS.out.q
    obtain ⟨hr0, hr1, hr2⟩ := HS.out.r
    obtain ⟨hm0, hm1, hm2⟩ : S.m0 ≤ 1000 ∧ S.m1 ≤ 1000 ∧ S.m2 ≤ 1000 := ⟨HS.out.b0, HS.out.b1, HS.out.b2⟩
    have i0 := index_0
    have i1 := index_1
    have i2 := index_2
    have p0 : (S.m0 : Int) * (S.k : Int) = (S.q0 : Int) := by rw [Int.mul_comm, ← Int.natCast_mul]; rfl
    have x0 : IntKind.i64.wrap ((S.m0 : Int) * (S.k : Int)) = (S.q0 : Int) := (IntWalk.i64_in _ (by omega)).trans p0
    have p1 : (S.m1 : Int) * (S.k : Int) = (S.q1 : Int) := by rw [Int.mul_comm, ← Int.natCast_mul]; rfl
    have x1 : IntKind.i64.wrap ((S.m1 : Int) * (S.k : Int)) = (S.q1 : Int) := (IntWalk.i64_in _ (by omega)).trans p1
    have p2 : (S.m2 : Int) * (S.k : Int) = (S.q2 : Int) := by rw [Int.mul_comm, ← Int.natCast_mul]; rfl
    have x2 : IntKind.i64.wrap ((S.m2 : Int) * (S.k : Int)) = (S.q2 : Int) := (IntWalk.i64_in _ (by omega)).trans p2
    obtain ⟨B1, hB1⟩ : ∃ n, n = S.q0 + S.q1 := ⟨_, rfl⟩
    obtain ⟨B2, hB2⟩ : ∃ n, n = S.q0 + S.q1 + S.q2 := ⟨_, rfl⟩
    have b1 : (S.q0 : Int) + (S.q1 : Int) = (B1 : Int) := by omega
    have b2 : (B1 : Int) + (S.q2 : Int) = (B2 : Int) := by omega
    have HB2 : Hid (B2 = S.many) := Lib.hid hB2
    have hB2b : B2 ≤ 192000 := by omega
    have HRW : Hid (Rws wc x (List.replicate (4 * S.k) (Value.slice none 0 0)) (partL S 0 0)) := Lib.hid (by
      rw [partL_zero]
      refine ⟨by simp, fun i v l hv hl => ?_, fun i j vi vj bb hi _ hbi _ => ?_⟩
      · rw [List.eq_of_mem_replicate (List.mem_of_getElem? hv), List.eq_of_mem_replicate (List.mem_of_getElem? hl)]
        exact World.ownsRow_nil _ _ _ _
      · rw [List.eq_of_mem_replicate (List.mem_of_getElem? hi)] at hbi
        cases hbi)
    have HWB2 : Hid (Blk wc b 79 (List.replicate (4 * S.k) (Value.slice none 0 0)).toArray) := Lib.hid (by
      have := HWB.out
      rwa [← List.toArray_replicate] at this)
    have HOG : Hid (∀ v ∈ List.replicate (4 * S.k) (Value.slice none 0 0), ∀ k, v.ownBlock = some k → w.heap.size ≤ k) := Lib.hid (fun v hv k hk => by
      rw [List.eq_of_mem_replicate hv] at hk; cases hk)
    have k0 : wc.cell? ⟨P, 0, none⟩ = some (.pointer (some ⟨mp, 0, none⟩)) := by rw [HPB.out.cell]; rfl
    have k1 : wc.cell? ⟨P, 1, none⟩ = some (.int .i64 1) := by rw [HPB.out.cell]; rfl
    have k2 : wc.cell? ⟨P, 2, none⟩ = some (.int .i64 (base : Int)) := by rw [HPB.out.cell]; rfl
    have k3 : wc.cell? ⟨P, 3, none⟩ = some (.int .i64 (S.s0 : Int)) := by rw [HPB.out.cell]; rfl
    have k4 : wc.cell? ⟨P, 4, none⟩ = some (.int .i64 (S.m0 : Int)) := by rw [HPB.out.cell]; rfl
    have k5 : wc.cell? ⟨P, 5, none⟩ = some (.int .i64 (1 + (S.q0 : Int))) := by rw [HPB.out.cell]; rfl
    have k6 : wc.cell? ⟨P, 6, none⟩ = some (.int .i64 ((base : Int) + (S.r0 : Int))) := by rw [HPB.out.cell]; rfl
    have k7 : wc.cell? ⟨P, 7, none⟩ = some (.int .i64 (S.s1 : Int)) := by rw [HPB.out.cell]; rfl
    have k8 : wc.cell? ⟨P, 8, none⟩ = some (.int .i64 (S.m1 : Int)) := by rw [HPB.out.cell]; rfl
    have k9 : wc.cell? ⟨P, 9, none⟩ = some (.int .i64 (1 + (S.q0 : Int) + (S.q1 : Int))) := by rw [HPB.out.cell]; rfl
    have k10 : wc.cell? ⟨P, 10, none⟩ = some (.int .i64 ((base : Int) + (S.r0 : Int) + (S.r1 : Int))) := by rw [HPB.out.cell]; rfl
    have k11 : wc.cell? ⟨P, 11, none⟩ = some (.int .i64 (S.s2 : Int)) := by rw [HPB.out.cell]; rfl
    have k12 : wc.cell? ⟨P, 12, none⟩ = some (.int .i64 (S.m2 : Int)) := by rw [HPB.out.cell]; rfl
    have k13 : wc.cell? ⟨P, 13, none⟩ = some (.slice (some ⟨b, 0, none⟩) S.k S.k) := by rw [HPB.out.cell]; rfl
    clear hB1 hB2 HNW
    go_wp2_with fail
    clear k0 k1 k2 k3 k4 k5 k6 k7 k8 k9 k10 k11 k12 k13
    go_loopw [10, 48] (fun bv iv wx => (iv = .int .i64 0 ∧ bv = .int .i64 0 ∧ ∃ vs, Hid (Blk wx P 74 (newC S base mp b)) ∧ Hid (Blk wx b 79 vs.toArray) ∧ Hid (Rws wx x vs (partL S 0 0)) ∧ Hid (∀ v ∈ vs, ∀ k, v.ownBlock = some k → w.heap.size ≤ k) ∧ Hid (Fr F0 w wx) ∧ Hid (Blk wx w.heap.size 36 #[.int .i64 (S.k : Int), .int .i64 (S.s0 : Int), .int .i64 (S.s1 : Int), .int .i64 (S.s2 : Int), .int .i64 (S.m0 : Int), .int .i64 (S.m1 : Int), .int .i64 (S.m2 : Int)])) ∨ (iv = .int .i64 1 ∧ bv = .int .i64 (S.q0 : Int) ∧ ∃ vs, Hid (Blk wx P 74 (newC S base mp b)) ∧ Hid (Blk wx b 79 vs.toArray) ∧ Hid (Rws wx x vs (partL S 1 0)) ∧ Hid (∀ v ∈ vs, ∀ k, v.ownBlock = some k → w.heap.size ≤ k) ∧ Hid (Fr F0 w wx) ∧ Hid (Blk wx w.heap.size 36 #[.int .i64 (S.k : Int), .int .i64 (S.s0 : Int), .int .i64 (S.s1 : Int), .int .i64 (S.s2 : Int), .int .i64 (S.m0 : Int), .int .i64 (S.m1 : Int), .int .i64 (S.m2 : Int)])) ∨ (iv = .int .i64 2 ∧ bv = .int .i64 (B1 : Int) ∧ ∃ vs, Hid (Blk wx P 74 (newC S base mp b)) ∧ Hid (Blk wx b 79 vs.toArray) ∧ Hid (Rws wx x vs (partL S 2 0)) ∧ Hid (∀ v ∈ vs, ∀ k, v.ownBlock = some k → w.heap.size ≤ k) ∧ Hid (Fr F0 w wx) ∧ Hid (Blk wx w.heap.size 36 #[.int .i64 (S.k : Int), .int .i64 (S.s0 : Int), .int .i64 (S.s1 : Int), .int .i64 (S.s2 : Int), .int .i64 (S.m0 : Int), .int .i64 (S.m1 : Int), .int .i64 (S.m2 : Int)])) ∨ (iv = .int .i64 3 ∧ bv = .int .i64 (B2 : Int) ∧ ∃ vs, Hid (Blk wx P 74 (newC S base mp b)) ∧ Hid (Blk wx b 79 vs.toArray) ∧ Hid (Rws wx x vs (partL S 3 0)) ∧ Hid (∀ v ∈ vs, ∀ k, v.ownBlock = some k → w.heap.size ≤ k) ∧ Hid (Fr F0 w wx) ∧ Hid (Blk wx w.heap.size 36 #[.int .i64 (S.k : Int), .int .i64 (S.s0 : Int), .int .i64 (S.s1 : Int), .int .i64 (S.s2 : Int), .int .i64 (S.m0 : Int), .int .i64 (S.m1 : Int), .int .i64 (S.m2 : Int)]))) (fun _ iv _ => 4 - (intOf iv).toNat)
    case atStart => exact .inl ⟨rfl, rfl, _, HPB, HWB2, HRW, HOG, HFC, HSC⟩
    case round =>
      rcases hrel with ⟨rfl, rfl, vs, HP1, HW1, HR1, HO1, HF1, HS1⟩ | ⟨rfl, rfl, vs, HP1, HW1, HR1, HO1, HF1, HS1⟩ | ⟨rfl, rfl, vs, HP1, HW1, HR1, HO1, HF1, HS1⟩ | ⟨rfl, rfl, vs, HP1, HW1, HR1, HO1, HF1, HS1⟩
      · have hfa : Fr F0 wr (wr.alloc (.cells #[.int .i64 1, .int .i64 (base : Int), .int .i64 (S.s0 : Int), .int .i64 (S.m0 : Int)] 69)) := (Fr.refl _ _).alloc _
        have HP2 := Lib.hid (HP1.out.fr hfa (fun h => h))
        have HW2 := Lib.hid (HW1.out.fr hfa (fun h => h))
        have HR2 := Lib.hid (HR1.out.fr hfa (fun _ _ _ _ h => h))
        have HF2 := Lib.hid (HF1.out.trans hfa)
        have HS2 := Lib.hid (HS1.out.fr hfa (fun h => h))
        have HC2 : Hid (Blk (wr.alloc (.cells #[.int .i64 1, .int .i64 (base : Int), .int .i64 (S.s0 : Int), .int .i64 (S.m0 : Int)] 69)) wr.heap.size 69 #[.int .i64 1, .int .i64 (base : Int), .int .i64 (S.s0 : Int), .int .i64 (S.m0 : Int)]) := Blk.new _ _ _
        have k13 : (wr.alloc (.cells #[.int .i64 1, .int .i64 (base : Int), .int .i64 (S.s0 : Int), .int .i64 (S.m0 : Int)] 69)).cell? ⟨P, 13, none⟩ = some (.slice (some ⟨b, 0, none⟩) S.k S.k) := by rw [HP2.out.cell]; rfl
        clear hfa HP1 HW1 HR1 HF1 HS1
        go_wp2_with fail
        clear k13
        generalize wr.heap.size = kb at HC2 ⊢
        generalize (wr.alloc (.cells #[.int .i64 1, .int .i64 (base : Int), .int .i64 (S.s0 : Int), .int .i64 (S.m0 : Int)] 69)) = wk at HP2 HW2 HR2 HF2 HS2 HC2 ⊢
        go_loopw [57] (fun iv wx => ∃ j : Nat, j ≤ S.k ∧ iv = .int .i64 (j : Int) ∧ (∃ vs, Hid (Blk wx P 74 (newC S base mp b)) ∧ Hid (Blk wx b 79 vs.toArray) ∧ Hid (Rws wx x vs (partL S 0 j)) ∧ Hid (∀ v ∈ vs, ∀ k, v.ownBlock = some k → w.heap.size ≤ k) ∧ Hid (Fr F0 w wx) ∧ Hid (Blk wx w.heap.size 36 #[.int .i64 (S.k : Int), .int .i64 (S.s0 : Int), .int .i64 (S.s1 : Int), .int .i64 (S.s2 : Int), .int .i64 (S.m0 : Int), .int .i64 (S.m1 : Int), .int .i64 (S.m2 : Int)])) ∧ Hid (Blk wx kb 69 #[.int .i64 1, .int .i64 (base : Int), .int .i64 (S.s0 : Int), .int .i64 (S.m0 : Int)])) (fun iv _ => S.k - (intOf iv).toNat)
        case atStart => exact ⟨0, by omega, rfl, ⟨vs, HP2, HW2, HR2, HO1, HF2, HS2⟩, HC2⟩
        case round =>
          obtain ⟨j, hj, rfl, ⟨vj, HP3, HW3, HR3, HO3, HF3, HS3⟩, HC3⟩ := hrel
          by_cases hjk : j < S.k
          · have g4 : (j : Int) < (S.k : Int) := by omega
            have k13 : wr.cell? ⟨P, 13, none⟩ = some (.slice (some ⟨b, 0, none⟩) S.k S.k) := by rw [HP3.out.cell]; rfl
            have u0 : wr.cell? ⟨kb, 0, none⟩ = some (.int .i64 1) := by rw [HC3.out.cell]; rfl
            have u1 : wr.cell? ⟨kb, 1, none⟩ = some (.int .i64 (base : Int)) := by rw [HC3.out.cell]; rfl
            have u2 : wr.cell? ⟨kb, 2, none⟩ = some (.int .i64 (S.s0 : Int)) := by rw [HC3.out.cell]; rfl
            have u3 : wr.cell? ⟨kb, 3, none⟩ = some (.int .i64 (S.m0 : Int)) := by rw [HC3.out.cell]; rfl
            obtain ⟨gv, hgv⟩ := of_lt (show j * 4 + 0 < vj.length by have := HR3.out.len; rw [partL_length] at this; omega)
            have HGV := Lib.hid hgv
            have hcb : wr.cell? ⟨b, j * 4 + 0, none⟩ = some gv := by rw [HW3.out.cell, List.getElem?_toArray, hgv]
            have HRO := Lib.hid (rowof_ok wr.drew x (by have := HF3.out.size; have := HX.out; simpa using (show x ≤ wr.heap.size by omega)) 1 base S.s0 S.m0 j (by omega) hm0 (by omega))
            simp only [show ((1 : Nat) : Int) = 1 from rfl] at HRO
            clear hgv
            go_wp2_with fail
            refine region_K 13 (fun w' : World => w'.cell? ⟨P, 13, none⟩ = some (.slice (some ⟨b, 0, none⟩) S.k S.k) ∧ w'.cell? ⟨kb, 0, none⟩ = some (.int .i64 1) ∧ w'.cell? ⟨kb, 1, none⟩ = some (.int .i64 (base : Int)) ∧ w'.cell? ⟨kb, 2, none⟩ = some (.int .i64 (S.s0 : Int)) ∧ w'.cell? ⟨kb, 3, none⟩ = some (.int .i64 (S.m0 : Int))) (by kernel_rfl) ?_
            have HS0 : (fun w' : World => w'.cell? ⟨P, 13, none⟩ = some (.slice (some ⟨b, 0, none⟩) S.k S.k) ∧ w'.cell? ⟨kb, 0, none⟩ = some (.int .i64 1) ∧ w'.cell? ⟨kb, 1, none⟩ = some (.int .i64 (base : Int)) ∧ w'.cell? ⟨kb, 2, none⟩ = some (.int .i64 (S.s0 : Int)) ∧ w'.cell? ⟨kb, 3, none⟩ = some (.int .i64 (S.m0 : Int))) wr.drew := ⟨k13, u0, u1, u2, u3⟩
            refine AnyK.take (i := 0) rfl (by decide) (by kernel_rfl) (by kernel_rfl) (by kernel_rfl) (fun _ _ _ _ h => h) HS0 (fun K hK => ?_)
            go_simp
            refine hK.out _ ⟨_, by rfl, Or.inl ⟨by rfl, by intro w hSw; (try dsimp only at hSw); go_simp⟩, ?_⟩
            clear hK K
            refine AnyK.take (i := 1) rfl (by decide) (by kernel_rfl) (by kernel_rfl) (by kernel_rfl) (fun _ _ _ _ h => h) HS0 (fun K hK => ?_)
            go_simp
            refine hK.out _ ⟨_, by rfl, Or.inl ⟨by rfl, by intro w hSw; (try dsimp only at hSw); go_simp⟩, ?_⟩
            clear hK K
            refine AnyK.take (i := 2) rfl (by decide) (by kernel_rfl) (by kernel_rfl) (by kernel_rfl) (fun _ _ _ _ h => h) HS0 (fun K hK => ?_)
            go_simp
            refine hK.out _ ⟨_, by rfl, Or.inl ⟨by rfl, by intro w hSw; (try dsimp only at hSw); go_simp⟩, ?_⟩
            clear hK K
            refine AnyK.take (i := 3) rfl (by decide) (by kernel_rfl) (by kernel_rfl) (by kernel_rfl) (fun _ _ _ _ h => h) HS0 (fun K hK => ?_)
            go_simp
            refine hK.out _ ⟨_, by rfl, Or.inl ⟨by rfl, by intro w hSw; (try dsimp only at hSw); go_simp⟩, ?_⟩
            clear hK K
            refine AnyK.take (i := 4) rfl (by decide) (by kernel_rfl) (by kernel_rfl) (by kernel_rfl) (fun _ _ _ _ h => h) HS0 (fun K hK => ?_)
            go_simp
            refine hK.out _ ⟨_, by rfl, Or.inl ⟨by rfl, by intro w hSw; (try dsimp only at hSw); go_simp⟩, ?_⟩
            clear hK K
            refine AnyK.take (i := 5) rfl (by decide) (by kernel_rfl) (by kernel_rfl) (by kernel_rfl) (fun _ _ _ _ h => h) HS0 (fun K hK => ?_)
            go_simp
            refine hK.out _ ⟨_, by rfl, Or.inl ⟨by rfl, by intro w hSw; (try dsimp only at hSw); go_simp⟩, ?_⟩
            clear hK K
            refine AnyK.take (i := 6) rfl (by decide) (by kernel_rfl) (by kernel_rfl) (by kernel_rfl) (fun _ _ _ _ h => h) HS0 (fun K hK => ?_)
            go_simp
            refine hK.out _ ⟨_, by rfl, Or.inl ⟨by rfl, by intro w hSw; (try dsimp only at hSw); go_simp⟩, ?_⟩
            clear hK K
            refine AnyK.take (i := 7) rfl (by decide) (by kernel_rfl) (by kernel_rfl) (by kernel_rfl) (fun _ _ _ _ h => h) HS0 (fun K hK => ?_)
            go_simp
            refine hK.out _ ⟨_, by rfl, Or.inl ⟨by rfl, by intro w hSw; (try dsimp only at hSw); go_simp⟩, ?_⟩
            clear hK K
            refine AnyK.take (i := 9) rfl (by decide) (by kernel_rfl) (by kernel_rfl) (by kernel_rfl) (fun _ _ _ _ h => h) HS0 (fun K hK => ?_)
            go_simp
            refine hK.out _ ⟨_, by rfl, Or.inl ⟨by rfl, by intro w hSw; (try dsimp only at hSw); go_simp⟩, ?_⟩
            clear hK K
            refine AnyK.take (i := 10) rfl (by decide) (by kernel_rfl) (by kernel_rfl) (by kernel_rfl) (fun _ _ _ _ h => h) HS0 (fun K hK => ?_)
            go_simp
            refine hK.out _ ⟨_, by rfl, Or.inl ⟨by rfl, by intro w hSw; (try dsimp only at hSw); go_simp⟩, ?_⟩
            clear hK K
            refine AnyK.one (i := 8) rfl (by kernel_rfl) (fun K hK => ?_)
            go_simp
            refine HRO.out.mono ?_
            rintro e w6 ⟨nv, rfl, hO6, hF6, hor6⟩
            obtain ⟨nA, nK, rfl⟩ := own_slice hO6
            have hfd : Fr F0 wr w6 := Fr.trans ((Fr.refl _ _).drew) hF6
            have HRA : Hid (rowAt S (j * 4 + 0) = rowL (1 + j * S.m0) S.m0) := Lib.hid (by
              unfold rowAt
              rw [show (j * 4 + 0) % 4 = 0 by omega, show (j * 4 + 0) / 4 = j by omega]
              rfl)
            have HR4 : Hid (Rws w6 x (vj.set (j * 4 + 0) (Value.slice nA S.m0 nK)) (partL S 0 (j + 1))) := Lib.hid (by
              rw [← partL_set (by omega), HRA.out]
              exact HR3.out.turn HGV.out hfd.f0 (by rw [rowL_length]; exact hO6) (fun k hk => .inr (hor6 k hk)))
            have HP4 := Lib.hid (HP3.out.fr hfd (fun h => h))
            have HW4 := Lib.hid (HW3.out.fr hfd (fun h => h))
            have HF4 := Lib.hid (HF3.out.trans hfd)
            have HS4 := Lib.hid (HS3.out.fr hfd (fun h => h))
            have HC4 := Lib.hid (HC3.out.fr hfd (fun h => h))
            have HO4 : Hid (∀ v ∈ vj.set (j * 4 + 0) (Value.slice nA S.m0 nK), ∀ k, v.ownBlock = some k → w.heap.size ≤ k) := Lib.hid (fun v hv k hk => by
              obtain ⟨q, hq⟩ := List.getElem?_of_mem hv
              rcases set_at hq with ⟨_, rfl⟩ | ⟨_, hq'⟩
              · have h1 := hor6 k hk
                have h2 : w.heap.size ≤ wr.heap.size := HF3.out.size
                have h3 : wr.drew.heap.size = wr.heap.size := rfl
                omega
              · exact HO3.out v (List.mem_of_getElem? hq') k hk)
            have hcb6 : w6.cell? ⟨b, j * 4, none⟩ = some gv := hfd.held hcb (fun h => h)
            have hfz6 : w6.frozen? ⟨b, j * 4, none⟩ = false := HW4.out.frozen (j * 4 + 0)
            have HS6 : (fun w' : World => w'.cell? ⟨P, 13, none⟩ = some (.slice (some ⟨b, 0, none⟩) S.k S.k) ∧ w'.cell? ⟨kb, 0, none⟩ = some (.int .i64 1) ∧ w'.cell? ⟨kb, 1, none⟩ = some (.int .i64 (base : Int)) ∧ w'.cell? ⟨kb, 2, none⟩ = some (.int .i64 (S.s0 : Int)) ∧ w'.cell? ⟨kb, 3, none⟩ = some (.int .i64 (S.m0 : Int))) w6 := ⟨by rw [HP4.out.cell]; rfl, by rw [HC4.out.cell]; rfl, by rw [HC4.out.cell]; rfl, by rw [HC4.out.cell]; rfl, by rw [HC4.out.cell]; rfl⟩
            have nP := Blk.ne_ HP4.out HW4.out (by decide)
            have nS := Blk.ne_ HS4.out HW4.out (by decide)
            have nC := Blk.ne_ HC4.out HW4.out (by decide)
            have hfs : Fr (fun q => q = b) w6 (w6.setCell ⟨b, j * 4 + 0, none⟩ (Value.slice nA S.m0 nK)) := (Fr.refl (fun q => q = b) w6).setCell (p := ⟨b, j * 4 + 0, none⟩) (.inl rfl) _
            have HP5 := Lib.hid (HP4.out.fr hfs nP)
            have HS5 := Lib.hid (HS4.out.fr hfs nS)
            have HC5 := Lib.hid (HC4.out.fr hfs nC)
            have HW5 : Hid (Blk (w6.setCell ⟨b, j * 4 + 0, none⟩ (Value.slice nA S.m0 nK)) b 79 (vj.set (j * 4 + 0) (Value.slice nA S.m0 nK)).toArray) := Lib.hid (by
              have := HW4.out.set_ (j * 4 + 0) (Value.slice nA S.m0 nK)
              rwa [List.setIfInBounds_toArray] at this)
            have HR5 := Lib.hid (HR4.out.fr hfs (fun v hv k hk e => by
              subst e
              obtain ⟨q, hq⟩ := List.getElem?_of_mem hv
              obtain ⟨l, hl⟩ := of_lt (show q < (partL S 0 (j + 1)).length by have := lt_of hq; have := HR4.out.len; omega)
              exact own_ne (HR4.out.own q v l hq hl) HW4.out (by decide) hk))
            have HF5 : Hid (Fr F0 w (w6.setCell ⟨b, j * 4 + 0, none⟩ (Value.slice nA S.m0 nK))) := Lib.hid (HF4.out.then hfs (fun k hk => .inr (by rw [hk]; exact HBL.out)))
            have HS7 : (fun w' : World => w'.cell? ⟨P, 13, none⟩ = some (.slice (some ⟨b, 0, none⟩) S.k S.k) ∧ w'.cell? ⟨kb, 0, none⟩ = some (.int .i64 1) ∧ w'.cell? ⟨kb, 1, none⟩ = some (.int .i64 (base : Int)) ∧ w'.cell? ⟨kb, 2, none⟩ = some (.int .i64 (S.s0 : Int)) ∧ w'.cell? ⟨kb, 3, none⟩ = some (.int .i64 (S.m0 : Int))) (w6.setCell ⟨b, j * 4 + 0, none⟩ (Value.slice nA S.m0 nK)) := ⟨by rw [HP5.out.cell]; rfl, by rw [HC5.out.cell]; rfl, by rw [HC5.out.cell]; rfl, by rw [HC5.out.cell]; rfl, by rw [HC5.out.cell]; rfl⟩
            refine hK.out _ _ (fun _ => HS6) ?_
            clear hK K hO6 hF6 hor6 hfd nP nS nC hfs
            refine AnyK.one (i := 11) rfl (by kernel_rfl) (fun K hK => ?_)
            go_simp
            refine hK.out _ _ (fun _ => HS6) ?_
            clear hK K
            refine AnyK.one (i := 12) rfl (by kernel_rfl) (fun K hK => ?_)
            go_simp
            refine hK.out _ _ (fun _ => HS7) ?_
            clear hK K
            refine AnyK.done (by kernel_rfl) ?_ _
            go_wp2_with fail
            exact ⟨⟨j + 1, by omega, by go_num, ⟨_, HP5, HW5, HR5, HO4, HF5, HS5⟩, HC5⟩, by simp [intOf]; omega⟩
          · have u3 : wr.cell? ⟨kb, 3, none⟩ = some (.int .i64 (S.m0 : Int)) := by rw [HC3.out.cell]; rfl
            have s0 : wr.cell? ⟨w.heap.size, 0, none⟩ = some (.int .i64 (S.k : Int)) := by rw [HS3.out.cell]; rfl
            have HRN : Hid (Rws wr x vj (partL S (0 + 1) 0)) := Lib.hid (by
              rw [← partL_next, ← show j = S.k by omega]
              exact HR3.out)
            go_wp2_with fail
            exact ⟨.inr (.inl ⟨rfl, rfl, vj, HP3, HW3, HRN, HO3, HF3, HS3⟩), by simp [intOf]⟩
      · have hfa : Fr F0 wr (wr.alloc (.cells #[.int .i64 (1 + (S.q0 : Int)), .int .i64 ((base : Int) + (S.r0 : Int)), .int .i64 (S.s1 : Int), .int .i64 (S.m1 : Int)] 69)) := (Fr.refl _ _).alloc _
        have HP2 := Lib.hid (HP1.out.fr hfa (fun h => h))
        have HW2 := Lib.hid (HW1.out.fr hfa (fun h => h))
        have HR2 := Lib.hid (HR1.out.fr hfa (fun _ _ _ _ h => h))
        have HF2 := Lib.hid (HF1.out.trans hfa)
        have HS2 := Lib.hid (HS1.out.fr hfa (fun h => h))
        have HC2 : Hid (Blk (wr.alloc (.cells #[.int .i64 (1 + (S.q0 : Int)), .int .i64 ((base : Int) + (S.r0 : Int)), .int .i64 (S.s1 : Int), .int .i64 (S.m1 : Int)] 69)) wr.heap.size 69 #[.int .i64 (1 + (S.q0 : Int)), .int .i64 ((base : Int) + (S.r0 : Int)), .int .i64 (S.s1 : Int), .int .i64 (S.m1 : Int)]) := Blk.new _ _ _
        have k13 : (wr.alloc (.cells #[.int .i64 (1 + (S.q0 : Int)), .int .i64 ((base : Int) + (S.r0 : Int)), .int .i64 (S.s1 : Int), .int .i64 (S.m1 : Int)] 69)).cell? ⟨P, 13, none⟩ = some (.slice (some ⟨b, 0, none⟩) S.k S.k) := by rw [HP2.out.cell]; rfl
        clear hfa HP1 HW1 HR1 HF1 HS1
        go_wp2_with fail
        clear k13
        generalize wr.heap.size = kb at HC2 ⊢
        generalize (wr.alloc (.cells #[.int .i64 (1 + (S.q0 : Int)), .int .i64 ((base : Int) + (S.r0 : Int)), .int .i64 (S.s1 : Int), .int .i64 (S.m1 : Int)] 69)) = wk at HP2 HW2 HR2 HF2 HS2 HC2 ⊢
        go_loopw [57] (fun iv wx => ∃ j : Nat, j ≤ S.k ∧ iv = .int .i64 (j : Int) ∧ (∃ vs, Hid (Blk wx P 74 (newC S base mp b)) ∧ Hid (Blk wx b 79 vs.toArray) ∧ Hid (Rws wx x vs (partL S 1 j)) ∧ Hid (∀ v ∈ vs, ∀ k, v.ownBlock = some k → w.heap.size ≤ k) ∧ Hid (Fr F0 w wx) ∧ Hid (Blk wx w.heap.size 36 #[.int .i64 (S.k : Int), .int .i64 (S.s0 : Int), .int .i64 (S.s1 : Int), .int .i64 (S.s2 : Int), .int .i64 (S.m0 : Int), .int .i64 (S.m1 : Int), .int .i64 (S.m2 : Int)])) ∧ Hid (Blk wx kb 69 #[.int .i64 (1 + (S.q0 : Int)), .int .i64 ((base : Int) + (S.r0 : Int)), .int .i64 (S.s1 : Int), .int .i64 (S.m1 : Int)])) (fun iv _ => S.k - (intOf iv).toNat)
        case atStart => exact ⟨0, by omega, rfl, ⟨vs, HP2, HW2, HR2, HO1, HF2, HS2⟩, HC2⟩
        case round =>
          obtain ⟨j, hj, rfl, ⟨vj, HP3, HW3, HR3, HO3, HF3, HS3⟩, HC3⟩ := hrel
          by_cases hjk : j < S.k
          · have g4 : (j : Int) < (S.k : Int) := by omega
            have k13 : wr.cell? ⟨P, 13, none⟩ = some (.slice (some ⟨b, 0, none⟩) S.k S.k) := by rw [HP3.out.cell]; rfl
            have u0 : wr.cell? ⟨kb, 0, none⟩ = some (.int .i64 (1 + (S.q0 : Int))) := by rw [HC3.out.cell]; rfl
            have u1 : wr.cell? ⟨kb, 1, none⟩ = some (.int .i64 ((base : Int) + (S.r0 : Int))) := by rw [HC3.out.cell]; rfl
            have u2 : wr.cell? ⟨kb, 2, none⟩ = some (.int .i64 (S.s1 : Int)) := by rw [HC3.out.cell]; rfl
            have u3 : wr.cell? ⟨kb, 3, none⟩ = some (.int .i64 (S.m1 : Int)) := by rw [HC3.out.cell]; rfl
            obtain ⟨gv, hgv⟩ := of_lt (show j * 4 + 1 < vj.length by have := HR3.out.len; rw [partL_length] at this; omega)
            have HGV := Lib.hid hgv
            have hcb : wr.cell? ⟨b, j * 4 + 1, none⟩ = some gv := by rw [HW3.out.cell, List.getElem?_toArray, hgv]
            have HRO := Lib.hid (rowof_ok wr.drew x (by have := HF3.out.size; have := HX.out; simpa using (show x ≤ wr.heap.size by omega)) (1 + S.q0) (base + S.r0) S.s1 S.m1 j (by omega) hm1 (by omega))
            simp only [Int.natCast_add, show ((1 : Nat) : Int) = 1 from rfl] at HRO
            clear hgv
            go_wp2_with fail
            refine region_K 13 (fun w' : World => w'.cell? ⟨P, 13, none⟩ = some (.slice (some ⟨b, 0, none⟩) S.k S.k) ∧ w'.cell? ⟨kb, 0, none⟩ = some (.int .i64 (1 + (S.q0 : Int))) ∧ w'.cell? ⟨kb, 1, none⟩ = some (.int .i64 ((base : Int) + (S.r0 : Int))) ∧ w'.cell? ⟨kb, 2, none⟩ = some (.int .i64 (S.s1 : Int)) ∧ w'.cell? ⟨kb, 3, none⟩ = some (.int .i64 (S.m1 : Int))) (by kernel_rfl) ?_
            have HS0 : (fun w' : World => w'.cell? ⟨P, 13, none⟩ = some (.slice (some ⟨b, 0, none⟩) S.k S.k) ∧ w'.cell? ⟨kb, 0, none⟩ = some (.int .i64 (1 + (S.q0 : Int))) ∧ w'.cell? ⟨kb, 1, none⟩ = some (.int .i64 ((base : Int) + (S.r0 : Int))) ∧ w'.cell? ⟨kb, 2, none⟩ = some (.int .i64 (S.s1 : Int)) ∧ w'.cell? ⟨kb, 3, none⟩ = some (.int .i64 (S.m1 : Int))) wr.drew := ⟨k13, u0, u1, u2, u3⟩
            refine AnyK.take (i := 0) rfl (by decide) (by kernel_rfl) (by kernel_rfl) (by kernel_rfl) (fun _ _ _ _ h => h) HS0 (fun K hK => ?_)
            go_simp
            refine hK.out _ ⟨_, by rfl, Or.inl ⟨by rfl, by intro w hSw; (try dsimp only at hSw); go_simp⟩, ?_⟩
            clear hK K
            refine AnyK.take (i := 1) rfl (by decide) (by kernel_rfl) (by kernel_rfl) (by kernel_rfl) (fun _ _ _ _ h => h) HS0 (fun K hK => ?_)
            go_simp
            refine hK.out _ ⟨_, by rfl, Or.inl ⟨by rfl, by intro w hSw; (try dsimp only at hSw); go_simp⟩, ?_⟩
            clear hK K
            refine AnyK.take (i := 2) rfl (by decide) (by kernel_rfl) (by kernel_rfl) (by kernel_rfl) (fun _ _ _ _ h => h) HS0 (fun K hK => ?_)
            go_simp
            refine hK.out _ ⟨_, by rfl, Or.inl ⟨by rfl, by intro w hSw; (try dsimp only at hSw); go_simp⟩, ?_⟩
            clear hK K
            refine AnyK.take (i := 3) rfl (by decide) (by kernel_rfl) (by kernel_rfl) (by kernel_rfl) (fun _ _ _ _ h => h) HS0 (fun K hK => ?_)
            go_simp
            refine hK.out _ ⟨_, by rfl, Or.inl ⟨by rfl, by intro w hSw; (try dsimp only at hSw); go_simp⟩, ?_⟩
            clear hK K
            refine AnyK.take (i := 4) rfl (by decide) (by kernel_rfl) (by kernel_rfl) (by kernel_rfl) (fun _ _ _ _ h => h) HS0 (fun K hK => ?_)
            go_simp
            refine hK.out _ ⟨_, by rfl, Or.inl ⟨by rfl, by intro w hSw; (try dsimp only at hSw); go_simp⟩, ?_⟩
            clear hK K
            refine AnyK.take (i := 5) rfl (by decide) (by kernel_rfl) (by kernel_rfl) (by kernel_rfl) (fun _ _ _ _ h => h) HS0 (fun K hK => ?_)
            go_simp
            refine hK.out _ ⟨_, by rfl, Or.inl ⟨by rfl, by intro w hSw; (try dsimp only at hSw); go_simp⟩, ?_⟩
            clear hK K
            refine AnyK.take (i := 6) rfl (by decide) (by kernel_rfl) (by kernel_rfl) (by kernel_rfl) (fun _ _ _ _ h => h) HS0 (fun K hK => ?_)
            go_simp
            refine hK.out _ ⟨_, by rfl, Or.inl ⟨by rfl, by intro w hSw; (try dsimp only at hSw); go_simp⟩, ?_⟩
            clear hK K
            refine AnyK.take (i := 7) rfl (by decide) (by kernel_rfl) (by kernel_rfl) (by kernel_rfl) (fun _ _ _ _ h => h) HS0 (fun K hK => ?_)
            go_simp
            refine hK.out _ ⟨_, by rfl, Or.inl ⟨by rfl, by intro w hSw; (try dsimp only at hSw); go_simp⟩, ?_⟩
            clear hK K
            refine AnyK.take (i := 9) rfl (by decide) (by kernel_rfl) (by kernel_rfl) (by kernel_rfl) (fun _ _ _ _ h => h) HS0 (fun K hK => ?_)
            go_simp
            refine hK.out _ ⟨_, by rfl, Or.inl ⟨by rfl, by intro w hSw; (try dsimp only at hSw); go_simp⟩, ?_⟩
            clear hK K
            refine AnyK.take (i := 10) rfl (by decide) (by kernel_rfl) (by kernel_rfl) (by kernel_rfl) (fun _ _ _ _ h => h) HS0 (fun K hK => ?_)
            go_simp
            refine hK.out _ ⟨_, by rfl, Or.inl ⟨by rfl, by intro w hSw; (try dsimp only at hSw); go_simp⟩, ?_⟩
            clear hK K
            refine AnyK.one (i := 8) rfl (by kernel_rfl) (fun K hK => ?_)
            go_simp
            refine HRO.out.mono ?_
            rintro e w6 ⟨nv, rfl, hO6, hF6, hor6⟩
            obtain ⟨nA, nK, rfl⟩ := own_slice hO6
            have hfd : Fr F0 wr w6 := Fr.trans ((Fr.refl _ _).drew) hF6
            have HRA : Hid (rowAt S (j * 4 + 1) = rowL ((1 + S.q0) + j * S.m1) S.m1) := Lib.hid (by
              unfold rowAt
              rw [show (j * 4 + 1) % 4 = 1 by omega, show (j * 4 + 1) / 4 = j by omega]
              rfl)
            have HR4 : Hid (Rws w6 x (vj.set (j * 4 + 1) (Value.slice nA S.m1 nK)) (partL S 1 (j + 1))) := Lib.hid (by
              rw [← partL_set (by omega), HRA.out]
              exact HR3.out.turn HGV.out hfd.f0 (by rw [rowL_length]; exact hO6) (fun k hk => .inr (hor6 k hk)))
            have HP4 := Lib.hid (HP3.out.fr hfd (fun h => h))
            have HW4 := Lib.hid (HW3.out.fr hfd (fun h => h))
            have HF4 := Lib.hid (HF3.out.trans hfd)
            have HS4 := Lib.hid (HS3.out.fr hfd (fun h => h))
            have HC4 := Lib.hid (HC3.out.fr hfd (fun h => h))
            have HO4 : Hid (∀ v ∈ vj.set (j * 4 + 1) (Value.slice nA S.m1 nK), ∀ k, v.ownBlock = some k → w.heap.size ≤ k) := Lib.hid (fun v hv k hk => by
              obtain ⟨q, hq⟩ := List.getElem?_of_mem hv
              rcases set_at hq with ⟨_, rfl⟩ | ⟨_, hq'⟩
              · have h1 := hor6 k hk
                have h2 : w.heap.size ≤ wr.heap.size := HF3.out.size
                have h3 : wr.drew.heap.size = wr.heap.size := rfl
                omega
              · exact HO3.out v (List.mem_of_getElem? hq') k hk)
            have hcb6 : w6.cell? ⟨b, j * 4 + 1, none⟩ = some gv := hfd.held hcb (fun h => h)
            have hfz6 : w6.frozen? ⟨b, j * 4 + 1, none⟩ = false := HW4.out.frozen (j * 4 + 1)
            have HS6 : (fun w' : World => w'.cell? ⟨P, 13, none⟩ = some (.slice (some ⟨b, 0, none⟩) S.k S.k) ∧ w'.cell? ⟨kb, 0, none⟩ = some (.int .i64 (1 + (S.q0 : Int))) ∧ w'.cell? ⟨kb, 1, none⟩ = some (.int .i64 ((base : Int) + (S.r0 : Int))) ∧ w'.cell? ⟨kb, 2, none⟩ = some (.int .i64 (S.s1 : Int)) ∧ w'.cell? ⟨kb, 3, none⟩ = some (.int .i64 (S.m1 : Int))) w6 := ⟨by rw [HP4.out.cell]; rfl, by rw [HC4.out.cell]; rfl, by rw [HC4.out.cell]; rfl, by rw [HC4.out.cell]; rfl, by rw [HC4.out.cell]; rfl⟩
            have nP := Blk.ne_ HP4.out HW4.out (by decide)
            have nS := Blk.ne_ HS4.out HW4.out (by decide)
            have nC := Blk.ne_ HC4.out HW4.out (by decide)
            have hfs : Fr (fun q => q = b) w6 (w6.setCell ⟨b, j * 4 + 1, none⟩ (Value.slice nA S.m1 nK)) := (Fr.refl (fun q => q = b) w6).setCell (p := ⟨b, j * 4 + 1, none⟩) (.inl rfl) _
            have HP5 := Lib.hid (HP4.out.fr hfs nP)
            have HS5 := Lib.hid (HS4.out.fr hfs nS)
            have HC5 := Lib.hid (HC4.out.fr hfs nC)
            have HW5 : Hid (Blk (w6.setCell ⟨b, j * 4 + 1, none⟩ (Value.slice nA S.m1 nK)) b 79 (vj.set (j * 4 + 1) (Value.slice nA S.m1 nK)).toArray) := Lib.hid (by
              have := HW4.out.set_ (j * 4 + 1) (Value.slice nA S.m1 nK)
              rwa [List.setIfInBounds_toArray] at this)
            have HR5 := Lib.hid (HR4.out.fr hfs (fun v hv k hk e => by
              subst e
              obtain ⟨q, hq⟩ := List.getElem?_of_mem hv
              obtain ⟨l, hl⟩ := of_lt (show q < (partL S 1 (j + 1)).length by have := lt_of hq; have := HR4.out.len; omega)
              exact own_ne (HR4.out.own q v l hq hl) HW4.out (by decide) hk))
            have HF5 : Hid (Fr F0 w (w6.setCell ⟨b, j * 4 + 1, none⟩ (Value.slice nA S.m1 nK))) := Lib.hid (HF4.out.then hfs (fun k hk => .inr (by rw [hk]; exact HBL.out)))
            have HS7 : (fun w' : World => w'.cell? ⟨P, 13, none⟩ = some (.slice (some ⟨b, 0, none⟩) S.k S.k) ∧ w'.cell? ⟨kb, 0, none⟩ = some (.int .i64 (1 + (S.q0 : Int))) ∧ w'.cell? ⟨kb, 1, none⟩ = some (.int .i64 ((base : Int) + (S.r0 : Int))) ∧ w'.cell? ⟨kb, 2, none⟩ = some (.int .i64 (S.s1 : Int)) ∧ w'.cell? ⟨kb, 3, none⟩ = some (.int .i64 (S.m1 : Int))) (w6.setCell ⟨b, j * 4 + 1, none⟩ (Value.slice nA S.m1 nK)) := ⟨by rw [HP5.out.cell]; rfl, by rw [HC5.out.cell]; rfl, by rw [HC5.out.cell]; rfl, by rw [HC5.out.cell]; rfl, by rw [HC5.out.cell]; rfl⟩
            refine hK.out _ _ (fun _ => HS6) ?_
            clear hK K hO6 hF6 hor6 hfd nP nS nC hfs
            refine AnyK.one (i := 11) rfl (by kernel_rfl) (fun K hK => ?_)
            go_simp
            refine hK.out _ _ (fun _ => HS6) ?_
            clear hK K
            refine AnyK.one (i := 12) rfl (by kernel_rfl) (fun K hK => ?_)
            go_simp
            refine hK.out _ _ (fun _ => HS7) ?_
            clear hK K
            refine AnyK.done (by kernel_rfl) ?_ _
            go_wp2_with fail
            exact ⟨⟨j + 1, by omega, by go_num, ⟨_, HP5, HW5, HR5, HO4, HF5, HS5⟩, HC5⟩, by simp [intOf]; omega⟩
          · have u3 : wr.cell? ⟨kb, 3, none⟩ = some (.int .i64 (S.m1 : Int)) := by rw [HC3.out.cell]; rfl
            have s0 : wr.cell? ⟨w.heap.size, 0, none⟩ = some (.int .i64 (S.k : Int)) := by rw [HS3.out.cell]; rfl
            have HRN : Hid (Rws wr x vj (partL S (1 + 1) 0)) := Lib.hid (by
              rw [← partL_next, ← show j = S.k by omega]
              exact HR3.out)
            go_wp2_with fail
            exact ⟨.inr (.inr (.inl ⟨rfl, rfl, vj, HP3, HW3, HRN, HO3, HF3, HS3⟩)), by simp [intOf]⟩
      · have hfa : Fr F0 wr (wr.alloc (.cells #[.int .i64 (1 + (S.q0 : Int) + (S.q1 : Int)), .int .i64 ((base : Int) + (S.r0 : Int) + (S.r1 : Int)), .int .i64 (S.s2 : Int), .int .i64 (S.m2 : Int)] 69)) := (Fr.refl _ _).alloc _
        have HP2 := Lib.hid (HP1.out.fr hfa (fun h => h))
        have HW2 := Lib.hid (HW1.out.fr hfa (fun h => h))
        have HR2 := Lib.hid (HR1.out.fr hfa (fun _ _ _ _ h => h))
        have HF2 := Lib.hid (HF1.out.trans hfa)
        have HS2 := Lib.hid (HS1.out.fr hfa (fun h => h))
        have HC2 : Hid (Blk (wr.alloc (.cells #[.int .i64 (1 + (S.q0 : Int) + (S.q1 : Int)), .int .i64 ((base : Int) + (S.r0 : Int) + (S.r1 : Int)), .int .i64 (S.s2 : Int), .int .i64 (S.m2 : Int)] 69)) wr.heap.size 69 #[.int .i64 (1 + (S.q0 : Int) + (S.q1 : Int)), .int .i64 ((base : Int) + (S.r0 : Int) + (S.r1 : Int)), .int .i64 (S.s2 : Int), .int .i64 (S.m2 : Int)]) := Blk.new _ _ _
        have k13 : (wr.alloc (.cells #[.int .i64 (1 + (S.q0 : Int) + (S.q1 : Int)), .int .i64 ((base : Int) + (S.r0 : Int) + (S.r1 : Int)), .int .i64 (S.s2 : Int), .int .i64 (S.m2 : Int)] 69)).cell? ⟨P, 13, none⟩ = some (.slice (some ⟨b, 0, none⟩) S.k S.k) := by rw [HP2.out.cell]; rfl
        clear hfa HP1 HW1 HR1 HF1 HS1
        go_wp2_with fail
        clear k13
        generalize wr.heap.size = kb at HC2 ⊢
        generalize (wr.alloc (.cells #[.int .i64 (1 + (S.q0 : Int) + (S.q1 : Int)), .int .i64 ((base : Int) + (S.r0 : Int) + (S.r1 : Int)), .int .i64 (S.s2 : Int), .int .i64 (S.m2 : Int)] 69)) = wk at HP2 HW2 HR2 HF2 HS2 HC2 ⊢
        go_loopw [57] (fun iv wx => ∃ j : Nat, j ≤ S.k ∧ iv = .int .i64 (j : Int) ∧ (∃ vs, Hid (Blk wx P 74 (newC S base mp b)) ∧ Hid (Blk wx b 79 vs.toArray) ∧ Hid (Rws wx x vs (partL S 2 j)) ∧ Hid (∀ v ∈ vs, ∀ k, v.ownBlock = some k → w.heap.size ≤ k) ∧ Hid (Fr F0 w wx) ∧ Hid (Blk wx w.heap.size 36 #[.int .i64 (S.k : Int), .int .i64 (S.s0 : Int), .int .i64 (S.s1 : Int), .int .i64 (S.s2 : Int), .int .i64 (S.m0 : Int), .int .i64 (S.m1 : Int), .int .i64 (S.m2 : Int)])) ∧ Hid (Blk wx kb 69 #[.int .i64 (1 + (S.q0 : Int) + (S.q1 : Int)), .int .i64 ((base : Int) + (S.r0 : Int) + (S.r1 : Int)), .int .i64 (S.s2 : Int), .int .i64 (S.m2 : Int)])) (fun iv _ => S.k - (intOf iv).toNat)
        case atStart => exact ⟨0, by omega, rfl, ⟨vs, HP2, HW2, HR2, HO1, HF2, HS2⟩, HC2⟩
        case round =>
          obtain ⟨j, hj, rfl, ⟨vj, HP3, HW3, HR3, HO3, HF3, HS3⟩, HC3⟩ := hrel
          by_cases hjk : j < S.k
          · have g4 : (j : Int) < (S.k : Int) := by omega
            have k13 : wr.cell? ⟨P, 13, none⟩ = some (.slice (some ⟨b, 0, none⟩) S.k S.k) := by rw [HP3.out.cell]; rfl
            have u0 : wr.cell? ⟨kb, 0, none⟩ = some (.int .i64 (1 + (S.q0 : Int) + (S.q1 : Int))) := by rw [HC3.out.cell]; rfl
            have u1 : wr.cell? ⟨kb, 1, none⟩ = some (.int .i64 ((base : Int) + (S.r0 : Int) + (S.r1 : Int))) := by rw [HC3.out.cell]; rfl
            have u2 : wr.cell? ⟨kb, 2, none⟩ = some (.int .i64 (S.s2 : Int)) := by rw [HC3.out.cell]; rfl
            have u3 : wr.cell? ⟨kb, 3, none⟩ = some (.int .i64 (S.m2 : Int)) := by rw [HC3.out.cell]; rfl
            obtain ⟨gv, hgv⟩ := of_lt (show j * 4 + 2 < vj.length by have := HR3.out.len; rw [partL_length] at this; omega)
            have HGV := Lib.hid hgv
            have hcb : wr.cell? ⟨b, j * 4 + 2, none⟩ = some gv := by rw [HW3.out.cell, List.getElem?_toArray, hgv]
            have HRO := Lib.hid (rowof_ok wr.drew x (by have := HF3.out.size; have := HX.out; simpa using (show x ≤ wr.heap.size by omega)) (1 + S.q0 + S.q1) (base + S.r0 + S.r1) S.s2 S.m2 j (by omega) hm2 (by omega))
            simp only [Int.natCast_add, show ((1 : Nat) : Int) = 1 from rfl] at HRO
            clear hgv
            go_wp2_with fail
            refine region_K 13 (fun w' : World => w'.cell? ⟨P, 13, none⟩ = some (.slice (some ⟨b, 0, none⟩) S.k S.k) ∧ w'.cell? ⟨kb, 0, none⟩ = some (.int .i64 (1 + (S.q0 : Int) + (S.q1 : Int))) ∧ w'.cell? ⟨kb, 1, none⟩ = some (.int .i64 ((base : Int) + (S.r0 : Int) + (S.r1 : Int))) ∧ w'.cell? ⟨kb, 2, none⟩ = some (.int .i64 (S.s2 : Int)) ∧ w'.cell? ⟨kb, 3, none⟩ = some (.int .i64 (S.m2 : Int))) (by kernel_rfl) ?_
            have HS0 : (fun w' : World => w'.cell? ⟨P, 13, none⟩ = some (.slice (some ⟨b, 0, none⟩) S.k S.k) ∧ w'.cell? ⟨kb, 0, none⟩ = some (.int .i64 (1 + (S.q0 : Int) + (S.q1 : Int))) ∧ w'.cell? ⟨kb, 1, none⟩ = some (.int .i64 ((base : Int) + (S.r0 : Int) + (S.r1 : Int))) ∧ w'.cell? ⟨kb, 2, none⟩ = some (.int .i64 (S.s2 : Int)) ∧ w'.cell? ⟨kb, 3, none⟩ = some (.int .i64 (S.m2 : Int))) wr.drew := ⟨k13, u0, u1, u2, u3⟩
            refine AnyK.take (i := 0) rfl (by decide) (by kernel_rfl) (by kernel_rfl) (by kernel_rfl) (fun _ _ _ _ h => h) HS0 (fun K hK => ?_)
            go_simp
            refine hK.out _ ⟨_, by rfl, Or.inl ⟨by rfl, by intro w hSw; (try dsimp only at hSw); go_simp⟩, ?_⟩
            clear hK K
            refine AnyK.take (i := 1) rfl (by decide) (by kernel_rfl) (by kernel_rfl) (by kernel_rfl) (fun _ _ _ _ h => h) HS0 (fun K hK => ?_)
            go_simp
            refine hK.out _ ⟨_, by rfl, Or.inl ⟨by rfl, by intro w hSw; (try dsimp only at hSw); go_simp⟩, ?_⟩
            clear hK K
            refine AnyK.take (i := 2) rfl (by decide) (by kernel_rfl) (by kernel_rfl) (by kernel_rfl) (fun _ _ _ _ h => h) HS0 (fun K hK => ?_)
            go_simp
            refine hK.out _ ⟨_, by rfl, Or.inl ⟨by rfl, by intro w hSw; (try dsimp only at hSw); go_simp⟩, ?_⟩
            clear hK K
            refine AnyK.take (i := 3) rfl (by decide) (by kernel_rfl) (by kernel_rfl) (by kernel_rfl) (fun _ _ _ _ h => h) HS0 (fun K hK => ?_)
            go_simp
            refine hK.out _ ⟨_, by rfl, Or.inl ⟨by rfl, by intro w hSw; (try dsimp only at hSw); go_simp⟩, ?_⟩
            clear hK K
            refine AnyK.take (i := 4) rfl (by decide) (by kernel_rfl) (by kernel_rfl) (by kernel_rfl) (fun _ _ _ _ h => h) HS0 (fun K hK => ?_)
            go_simp
            refine hK.out _ ⟨_, by rfl, Or.inl ⟨by rfl, by intro w hSw; (try dsimp only at hSw); go_simp⟩, ?_⟩
            clear hK K
            refine AnyK.take (i := 5) rfl (by decide) (by kernel_rfl) (by kernel_rfl) (by kernel_rfl) (fun _ _ _ _ h => h) HS0 (fun K hK => ?_)
            go_simp
            refine hK.out _ ⟨_, by rfl, Or.inl ⟨by rfl, by intro w hSw; (try dsimp only at hSw); go_simp⟩, ?_⟩
            clear hK K
            refine AnyK.take (i := 6) rfl (by decide) (by kernel_rfl) (by kernel_rfl) (by kernel_rfl) (fun _ _ _ _ h => h) HS0 (fun K hK => ?_)
            go_simp
            refine hK.out _ ⟨_, by rfl, Or.inl ⟨by rfl, by intro w hSw; (try dsimp only at hSw); go_simp⟩, ?_⟩
            clear hK K
            refine AnyK.take (i := 7) rfl (by decide) (by kernel_rfl) (by kernel_rfl) (by kernel_rfl) (fun _ _ _ _ h => h) HS0 (fun K hK => ?_)
            go_simp
            refine hK.out _ ⟨_, by rfl, Or.inl ⟨by rfl, by intro w hSw; (try dsimp only at hSw); go_simp⟩, ?_⟩
            clear hK K
            refine AnyK.take (i := 9) rfl (by decide) (by kernel_rfl) (by kernel_rfl) (by kernel_rfl) (fun _ _ _ _ h => h) HS0 (fun K hK => ?_)
            go_simp
            refine hK.out _ ⟨_, by rfl, Or.inl ⟨by rfl, by intro w hSw; (try dsimp only at hSw); go_simp⟩, ?_⟩
            clear hK K
            refine AnyK.take (i := 10) rfl (by decide) (by kernel_rfl) (by kernel_rfl) (by kernel_rfl) (fun _ _ _ _ h => h) HS0 (fun K hK => ?_)
            go_simp
            refine hK.out _ ⟨_, by rfl, Or.inl ⟨by rfl, by intro w hSw; (try dsimp only at hSw); go_simp⟩, ?_⟩
            clear hK K
            refine AnyK.one (i := 8) rfl (by kernel_rfl) (fun K hK => ?_)
            go_simp
            refine HRO.out.mono ?_
            rintro e w6 ⟨nv, rfl, hO6, hF6, hor6⟩
            obtain ⟨nA, nK, rfl⟩ := own_slice hO6
            have hfd : Fr F0 wr w6 := Fr.trans ((Fr.refl _ _).drew) hF6
            have HRA : Hid (rowAt S (j * 4 + 2) = rowL ((1 + S.q0 + S.q1) + j * S.m2) S.m2) := Lib.hid (by
              unfold rowAt
              rw [show (j * 4 + 2) % 4 = 2 by omega, show (j * 4 + 2) / 4 = j by omega]
              rfl)
            have HR4 : Hid (Rws w6 x (vj.set (j * 4 + 2) (Value.slice nA S.m2 nK)) (partL S 2 (j + 1))) := Lib.hid (by
              rw [← partL_set (by omega), HRA.out]
              exact HR3.out.turn HGV.out hfd.f0 (by rw [rowL_length]; exact hO6) (fun k hk => .inr (hor6 k hk)))
            have HP4 := Lib.hid (HP3.out.fr hfd (fun h => h))
            have HW4 := Lib.hid (HW3.out.fr hfd (fun h => h))
            have HF4 := Lib.hid (HF3.out.trans hfd)
            have HS4 := Lib.hid (HS3.out.fr hfd (fun h => h))
            have HC4 := Lib.hid (HC3.out.fr hfd (fun h => h))
            have HO4 : Hid (∀ v ∈ vj.set (j * 4 + 2) (Value.slice nA S.m2 nK), ∀ k, v.ownBlock = some k → w.heap.size ≤ k) := Lib.hid (fun v hv k hk => by
              obtain ⟨q, hq⟩ := List.getElem?_of_mem hv
              rcases set_at hq with ⟨_, rfl⟩ | ⟨_, hq'⟩
              · have h1 := hor6 k hk
                have h2 : w.heap.size ≤ wr.heap.size := HF3.out.size
                have h3 : wr.drew.heap.size = wr.heap.size := rfl
                omega
              · exact HO3.out v (List.mem_of_getElem? hq') k hk)
            have hcb6 : w6.cell? ⟨b, j * 4 + 2, none⟩ = some gv := hfd.held hcb (fun h => h)
            have hfz6 : w6.frozen? ⟨b, j * 4 + 2, none⟩ = false := HW4.out.frozen (j * 4 + 2)
            have HS6 : (fun w' : World => w'.cell? ⟨P, 13, none⟩ = some (.slice (some ⟨b, 0, none⟩) S.k S.k) ∧ w'.cell? ⟨kb, 0, none⟩ = some (.int .i64 (1 + (S.q0 : Int) + (S.q1 : Int))) ∧ w'.cell? ⟨kb, 1, none⟩ = some (.int .i64 ((base : Int) + (S.r0 : Int) + (S.r1 : Int))) ∧ w'.cell? ⟨kb, 2, none⟩ = some (.int .i64 (S.s2 : Int)) ∧ w'.cell? ⟨kb, 3, none⟩ = some (.int .i64 (S.m2 : Int))) w6 := ⟨by rw [HP4.out.cell]; rfl, by rw [HC4.out.cell]; rfl, by rw [HC4.out.cell]; rfl, by rw [HC4.out.cell]; rfl, by rw [HC4.out.cell]; rfl⟩
            have nP := Blk.ne_ HP4.out HW4.out (by decide)
            have nS := Blk.ne_ HS4.out HW4.out (by decide)
            have nC := Blk.ne_ HC4.out HW4.out (by decide)
            have hfs : Fr (fun q => q = b) w6 (w6.setCell ⟨b, j * 4 + 2, none⟩ (Value.slice nA S.m2 nK)) := (Fr.refl (fun q => q = b) w6).setCell (p := ⟨b, j * 4 + 2, none⟩) (.inl rfl) _
            have HP5 := Lib.hid (HP4.out.fr hfs nP)
            have HS5 := Lib.hid (HS4.out.fr hfs nS)
            have HC5 := Lib.hid (HC4.out.fr hfs nC)
            have HW5 : Hid (Blk (w6.setCell ⟨b, j * 4 + 2, none⟩ (Value.slice nA S.m2 nK)) b 79 (vj.set (j * 4 + 2) (Value.slice nA S.m2 nK)).toArray) := Lib.hid (by
              have := HW4.out.set_ (j * 4 + 2) (Value.slice nA S.m2 nK)
              rwa [List.setIfInBounds_toArray] at this)
            have HR5 := Lib.hid (HR4.out.fr hfs (fun v hv k hk e => by
              subst e
              obtain ⟨q, hq⟩ := List.getElem?_of_mem hv
              obtain ⟨l, hl⟩ := of_lt (show q < (partL S 2 (j + 1)).length by have := lt_of hq; have := HR4.out.len; omega)
              exact own_ne (HR4.out.own q v l hq hl) HW4.out (by decide) hk))
            have HF5 : Hid (Fr F0 w (w6.setCell ⟨b, j * 4 + 2, none⟩ (Value.slice nA S.m2 nK))) := Lib.hid (HF4.out.then hfs (fun k hk => .inr (by rw [hk]; exact HBL.out)))
            have HS7 : (fun w' : World => w'.cell? ⟨P, 13, none⟩ = some (.slice (some ⟨b, 0, none⟩) S.k S.k) ∧ w'.cell? ⟨kb, 0, none⟩ = some (.int .i64 (1 + (S.q0 : Int) + (S.q1 : Int))) ∧ w'.cell? ⟨kb, 1, none⟩ = some (.int .i64 ((base : Int) + (S.r0 : Int) + (S.r1 : Int))) ∧ w'.cell? ⟨kb, 2, none⟩ = some (.int .i64 (S.s2 : Int)) ∧ w'.cell? ⟨kb, 3, none⟩ = some (.int .i64 (S.m2 : Int))) (w6.setCell ⟨b, j * 4 + 2, none⟩ (Value.slice nA S.m2 nK)) := ⟨by rw [HP5.out.cell]; rfl, by rw [HC5.out.cell]; rfl, by rw [HC5.out.cell]; rfl, by rw [HC5.out.cell]; rfl, by rw [HC5.out.cell]; rfl⟩
            refine hK.out _ _ (fun _ => HS6) ?_
            clear hK K hO6 hF6 hor6 hfd nP nS nC hfs
            refine AnyK.one (i := 11) rfl (by kernel_rfl) (fun K hK => ?_)
            go_simp
            refine hK.out _ _ (fun _ => HS6) ?_
            clear hK K
            refine AnyK.one (i := 12) rfl (by kernel_rfl) (fun K hK => ?_)
            go_simp
            refine hK.out _ _ (fun _ => HS7) ?_
            clear hK K
            refine AnyK.done (by kernel_rfl) ?_ _
            go_wp2_with fail
            exact ⟨⟨j + 1, by omega, by go_num, ⟨_, HP5, HW5, HR5, HO4, HF5, HS5⟩, HC5⟩, by simp [intOf]; omega⟩
          · have u3 : wr.cell? ⟨kb, 3, none⟩ = some (.int .i64 (S.m2 : Int)) := by rw [HC3.out.cell]; rfl
            have s0 : wr.cell? ⟨w.heap.size, 0, none⟩ = some (.int .i64 (S.k : Int)) := by rw [HS3.out.cell]; rfl
            have HRN : Hid (Rws wr x vj (partL S (2 + 1) 0)) := Lib.hid (by
              rw [← partL_next, ← show j = S.k by omega]
              exact HR3.out)
            go_wp2_with fail
            exact ⟨.inr (.inr (.inr ⟨rfl, rfl, vj, HP3, HW3, HRN, HO3, HF3, HS3⟩)), by simp [intOf]⟩
      · obtain ⟨N, hN⟩ : ∃ N, N = B2 + 1 := ⟨_, rfl⟩
        have n1 : 1 + (B2 : Int) = (N : Int) := by omega
        have hmf := make_flags N (by omega) wr
        have z14 : wr.cell? ⟨P, 14, none⟩ = some (.slice none 0 0) := by rw [HP1.out.cell]; rfl
        have z14f : wr.frozen? ⟨P, 14, none⟩ = false := HP1.out.frozen _
        have hPl := HP1.out.lt
        have hfa : Fr F0 wr (wr.alloc (.cells (bc (List.replicate N false)).toArray 4)) := (Fr.refl _ _).alloc _
        have HP2 := Lib.hid (HP1.out.fr hfa (fun h => h))
        have HW2 := Lib.hid (HW1.out.fr hfa (fun h => h))
        have HR2 := Lib.hid (HR1.out.fr hfa (fun _ _ _ _ h => h))
        have HF2' := Lib.hid (HF1.out.trans hfa)
        have HT2 : Hid (Blk (wr.alloc (.cells (bc (List.replicate N false)).toArray 4)) wr.heap.size 4 (bc (List.replicate N false)).toArray) := Blk.new _ _ _
        have HNN := Lib.hid hN
        clear hfa hN
        go_wp2_with fail
        clear z14 z14f hmf
        go_ret2
        clear hPl n1 HW2 HR2 HF2' HT2 HP2
        have hNe : N = S.many + 1 := by rw [HNN.out, HB2.out]
        obtain ⟨SL, hSL⟩ : ∃ v : Value, v = .slice (some ⟨wr.heap.size, 0, none⟩) N N := ⟨_, rfl⟩
        rw [← hSL]
        have hfs : Fr (fun q => q = P) wr (wr.setCell ⟨P, 14, none⟩ SL) := (Fr.refl (fun q => q = P) wr).setCell (p := ⟨P, 14, none⟩) (.inl rfl) _
        have hsz : (wr.setCell ⟨P, 14, none⟩ SL).heap.size = wr.heap.size := by simp
        have hfa : Fr F0 (wr.setCell ⟨P, 14, none⟩ SL) ((wr.setCell ⟨P, 14, none⟩ SL).alloc (.cells (bc (List.replicate N false)).toArray 4)) := (Fr.refl _ _).alloc _
        have hm1 : MemIs wr mp ms ws st := HM.out.fr HF1.out (fun h => h) (fun h => h)
        have d1 := Blk.ne_ hm1.hp HP1.out (by decide)
        have d2 := Blk.ne_ hm1.hs HP1.out (by decide)
        have d3 := Blk.ne_ HW1.out HP1.out (by decide)
        have hnc : (newC S base mp b).setIfInBounds 14 SL = poolC S base mp b wr.heap.size := by
          rw [hSL, hNe]
          simp only [poolC, Int.natCast_add]
          rfl
        have hPB := (HP1.out.set_ 14 SL).fr hfa (fun h => h)
        rw [hnc] at hPB
        have hT := Blk.new (wr.setCell ⟨P, 14, none⟩ SL) 4 (bc (List.replicate N false)).toArray
        rw [hsz] at hT
        have hRr : Rws wr x vs (initL S) := by rw [← partL_last]; exact HR1.out
        have hR2 := (hRr.fr hfs (fun v hv k hk e => by
          subst e
          obtain ⟨q, hq⟩ := List.getElem?_of_mem hv
          obtain ⟨l, hl⟩ := of_lt (show q < (initL S).length by have := lt_of hq; have := hRr.len; omega)
          exact own_ne (hRr.own q v l hq hl) HP1.out (by decide) hk)).fr hfa (fun _ _ _ _ h => h)
        have hm2 := (hm1.fr hfs d1 d2).fr hfa (fun h => h) (fun h => h)
        have z1 := HF1.out.size
        have z2 := hfs.size
        have z3 := hfa.size
        rw [hNe] at hT hfa hPB hR2 hm2 z3 ⊢
        refine ⟨P, b, wr.heap.size, vs, rfl, ⟨hPB, (HW1.out.fr hfs d3).fr hfa (fun h => h), hR2, by simp [initL], hT, by simp, hm2, by rw [← HWL.out]; exact hwl, by rw [← HWL.out, ← HSW.out]; exact hfit, by have := HX.out; omega, HS.out⟩, (HF1.out.then hfs (fun k hk => .inr (by rw [hk]; exact HPL.out))).trans hfa, HPL.out, fun k hk => ?_⟩
        rcases hk with rfl | rfl | rfl | rfl | ⟨v, hv, hk⟩
        · exact .inr HBL.out
        · exact .inr z1
        · exact .inl (.inl rfl)
        · exact .inl (.inr rfl)
        · exact .inr (HO1.out v hv k hk)
end Go.Proofs.Ytichhieopnbgpaa
