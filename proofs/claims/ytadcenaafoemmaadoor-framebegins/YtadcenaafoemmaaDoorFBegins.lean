/-
  haymowlaw12.FrameBegins returns true for every arguments, how many tasks are begun, how deep, and how. No condition.
-/
import Derived.Test.YtadcenaafoemmaaDoorFrU
import Derived.Test.YtadcenaafoemmaaDoorRows
import Derived.Test.YtadcenaafoemmaaDoorTie
import Derived.Test.YtadcenaafoemmaaDoorCards
import Derived.Deep.AppendLies
import Derived.Deep.CutBlock
namespace Go.Proofs.YtadcenaafoemmaaDoor.frameBegins
open Go.ChangeShapes Go.WideShapes Go.ChangeAt Go.RowKit

set_option maxRecDepth 100000 in
theorem make_ints (n : Nat) (hn : n ≤ 65536) (w : World) : (Instr.makeSlice 23 (.int .i64 (n : Int)) (.int .i64 (n : Int))).run Tryd.prog w = .ok (.slice (some ⟨w.heap.size, 0, none⟩) n n) (w.alloc (.cells (ints (List.replicate n 0)).toArray 3)) := by
  have hr := run_make (P := Tryd.prog) w 23 3 _ (.int .i64 0) Tryd.underlying23 rfl rfl .i64 .i64 (n : Int) (n : Int) (by omega) (by omega) (by show (8 : Int) * _ ≤ _; omega) (by omega)
  rw [hr]
  simp only [Int.toNat_natCast]
  have e : (madeCells (Value.int .i64 0).cells (n * 1)) = (ints (List.replicate n 0)).toArray := by
    apply Array.ext'
    show (madeCells #[Value.int .i64 0] (n * 1)).toList = _
    rw [toList_madeCells_one]
    simp [ints]
  rw [← e]
  rfl

def bgI (fut : Bool) : Ins := ⟨if fut then 13 else 11, 2, 1, 1, 0⟩
def bgP (fut : Bool) : List Fn := [⟨4, [bgI fut, ⟨9, 0, 0, 0, 0⟩]⟩, ⟨3, [⟨17, 0, 0, 0, 0⟩]⟩]
def bgF (at_ st kd : Int) (d : Nat) (a0 a1 a2 a3 : Int) : FR := ⟨0, at_, st, kd, List.replicate d 0, [a0, a1, a2, a3, 0, 0, 0, 0], [0, 0, 0, 0]⟩
theorem right_b (fut : Bool) : rightF (bgP fut) 99 3 = true := by cases fut <;> kernel_rfl
theorem bg_deep (fut : Bool) (d : Nat) (hd : 3 ≤ d) (a0 a1 a2 a3 : Int) : execP (bgP fut) 99 3 (bgF 0 0 0 d a0 a1 a2 a3) = (failE 4, 0, bgF 1 1 0 d a0 a1 a2 a3) := by
  unfold execP
  rw [if_pos (right_b fut)]
  have hi : insAt (bgP fut) (bgF 0 0 0 d a0 a1 a2 a3) = some (bgI fut) := rfl
  have hs : stepF (bgP fut) 3 (bgI fut) (bgF 0 0 0 d a0 a1 a2 a3) = ⟨failE 4, 1, [a0, a1, a2, a3, 0, 0, 0, 0], 0⟩ := by
    have h3 : (3 : Int) ≤ ((List.replicate d (0 : Int)).length : Int) := by rw [List.length_replicate]; omega
    cases fut
    · exact if_pos h3
    · exact if_pos h3
  rw [hi]
  show (if (99 : Int) ≤ 0 then _ else _) = _
  rw [if_neg (by decide), hs]
  rfl
def kE (fut : Bool) (i : Nat) (d : Nat) (a1 a2 a3 : Int) : EF := if fut then ⟨4, 0, 0, 1, 2, 0, [a1, a2, a3], List.replicate d 0 ++ [(i : Int)]⟩ else ⟨3, 0, 2, 1, 0, 0, [a1, a2, a3], List.replicate d 0 ++ [(i : Int)]⟩
theorem bg_go (fut : Bool) (d i : Nat) (hd : ¬ 3 ≤ d) (hi10 : i < 10) (a0 a1 a2 a3 : Int) : execP (bgP fut) 99 3 (bgF 0 (2 * i : Nat) i d a0 a1 a2 a3) = (kE fut i d a1 a2 a3, 0, bgF 1 ((2 * i : Nat) + 1) ((i : Int) + 1) d a0 a1 a2 a3) := by
  unfold execP
  rw [if_pos (right_b fut)]
  have hi : insAt (bgP fut) (bgF 0 (2 * i : Nat) i d a0 a1 a2 a3) = some (bgI fut) := rfl
  have hw : wrap64 ((i : Int) + 1) = (i : Int) + 1 := by unfold wrap64; omega
  have hs : stepF (bgP fut) 3 (bgI fut) (bgF 0 (2 * i : Nat) i d a0 a1 a2 a3) = ⟨kE fut i d a1 a2 a3, 1, [a0, a1, a2, a3, 0, 0, 0, 0], (i : Int) + 1⟩ := by
    have h3 : ¬ (3 : Int) ≤ ((List.replicate d (0 : Int)).length : Int) := by rw [List.length_replicate]; omega
    cases fut
    · refine (if_neg h3).trans ?_
      show XO.mk _ _ _ (wrap64 ((i : Int) + 1)) = _
      rw [hw]; rfl
    · refine (if_neg h3).trans ?_
      show XO.mk _ _ _ (wrap64 ((i : Int) + 1)) = _
      rw [hw]; rfl
  rw [hi]
  show (if (99 : Int) ≤ ((2 * i : Nat) : Int) then _ else _) = _
  rw [if_neg (by omega), hs]
  rfl
theorem bg_back (fut : Bool) (d i : Nat) (hi10 : i < 10) (a0 a1 a2 a3 : Int) : execP (bgP fut) 99 3 (bgF 1 ((2 * i : Nat) + 1) ((i : Int) + 1) d a0 a1 a2 a3) = (gE, 0, bgF 0 (2 * (i + 1) : Nat) ((i + 1 : Nat) : Int) d a0 a1 a2 a3) := by
  unfold execP
  rw [if_pos (right_b fut)]
  have hi : insAt (bgP fut) (bgF 1 ((2 * i : Nat) + 1) ((i : Int) + 1) d a0 a1 a2 a3) = some ⟨9, 0, 0, 0, 0⟩ := by cases fut <;> rfl
  rw [hi]
  show (if (99 : Int) ≤ ((2 * i : Nat) : Int) + 1 then _ else _) = _
  rw [if_neg (by omega)]
  have e1 : ((2 * i : Nat) : Int) + 1 + 1 = ((2 * (i + 1) : Nat) : Int) := by omega
  have e2 : (i : Int) + 1 = ((i + 1 : Nat) : Int) := by omega
  show (gE, (0 : Int), (⟨0, 0, ((2 * i : Nat) : Int) + 1 + 1, (i : Int) + 1, List.replicate d 0, [a0, a1, a2, a3, 0, 0, 0, 0], [0, 0, 0, 0]⟩ : FR)) = _
  rw [e1, e2]
  rfl

theorem kpost_true {w w' : World} {F : Nat} {i d : Nat} {a0 a1 a2 a3 : Int} {e : Ending} (h : ExecPost w F (kE true i d a1 a2 a3, 0, bgF 1 ((2 * i : Nat) + 1) ((i : Int) + 1) d a0 a1 a2 a3) e w') : ∃ Aa ca Ap cp, e = .returned (.tuple #[.agg (efC 4 0 0 1 2 0 (.slice Aa 3 ca) (.slice Ap (d + 1) cp)), .int .i64 0]) ∧ w'.ownsRow w.heap.size 2 1 (.slice Aa 3 ca) 3 (ints [a1, a2, a3]) ∧ w'.ownsRow w.heap.size 3 1 (.slice Ap (d + 1) cp) (d + 1) (ints (List.replicate d 0 ++ [(i : Int)])) ∧ FrameAt w' F (bgF 1 ((2 * i : Nat) + 1) ((i : Int) + 1) d a0 a1 a2 a3) ∧ Fr (At F) w w' := by
  obtain ⟨ea, ep, rfl, hE, hf, hF⟩ := h
  obtain ⟨⟨Aa, ca, rfl⟩, Ap, cp, rfl⟩ := hE.slices
  have hpll : (kE true i d a1 a2 a3).path.length = d + 1 := by show (List.replicate d (0 : Int) ++ [(i : Int)]).length = d + 1; simp
  have h1 := hE.1
  have h2 := hE.2
  simp only [hpll] at h2 ⊢
  exact ⟨Aa, ca, Ap, cp, rfl, h1, h2, hf, hF⟩

set_option maxHeartbeats 32000000 in
set_option maxRecDepth 100000 in
theorem walk_true (a0 a1 a2 a3 : Int) (many deep : Nat) (hm : many < 256) (hde : deep < 256) (w : World) (hT : FieldsAt w) :
    Calls Tryd.prog 8 #[.agg #[.int .i64 a0, .int .i64 a1, .int .i64 a2, .int .i64 a3, .int .u8 many, .int .u8 deep, .bool true]] w fun e w' => e = .returned (.bool true) ∧ Fr None' w w' := by
  have HT := Lib.hid hT
  clear hT
  go_enter Tryd.func8, Tryd.ntmps8
  go_upto_region 1 with (fail)
  generalize hW : w.alloc (.cells _ 105) = W
  have hF : Fr None' w W := by rw [← hW]; exact (Fr.refl _ _).alloc _
  have hZ : Blk W w.heap.size 105 #[.int .i64 a0, .int .i64 a1, .int .i64 a2, .int .i64 a3, .int .u8 many, .int .u8 deep, .bool true] := by rw [← hW]; exact Blk.new _ _ _
  have HZ := Lib.hid hZ.drew
  have HF := Lib.hid hF.drew
  clear hW hF hZ
  have HS : (fun w' : World => w'.cell? ⟨w.heap.size, 0, none⟩ = some (.int .i64 a0) ∧ w'.cell? ⟨w.heap.size, 1, none⟩ = some (.int .i64 a1) ∧ w'.cell? ⟨w.heap.size, 2, none⟩ = some (.int .i64 a2) ∧ w'.cell? ⟨w.heap.size, 3, none⟩ = some (.int .i64 a3) ∧ w'.cell? ⟨w.heap.size, 4, none⟩ = some (.int .u8 many) ∧ w'.cell? ⟨w.heap.size, 5, none⟩ = some (.int .u8 deep) ∧ w'.cell? ⟨w.heap.size, 6, none⟩ = some (.bool true)) W.drew := ⟨by rw [HZ.out.cell]; rfl, by rw [HZ.out.cell]; rfl, by rw [HZ.out.cell]; rfl, by rw [HZ.out.cell]; rfl, by rw [HZ.out.cell]; rfl, by rw [HZ.out.cell]; rfl, by rw [HZ.out.cell]; rfl⟩
  refine region_K 12 (fun w' : World => w'.cell? ⟨w.heap.size, 0, none⟩ = some (.int .i64 a0) ∧ w'.cell? ⟨w.heap.size, 1, none⟩ = some (.int .i64 a1) ∧ w'.cell? ⟨w.heap.size, 2, none⟩ = some (.int .i64 a2) ∧ w'.cell? ⟨w.heap.size, 3, none⟩ = some (.int .i64 a3) ∧ w'.cell? ⟨w.heap.size, 4, none⟩ = some (.int .u8 many) ∧ w'.cell? ⟨w.heap.size, 5, none⟩ = some (.int .u8 deep) ∧ w'.cell? ⟨w.heap.size, 6, none⟩ = some (.bool true)) (by kernel_rfl) ?_
  generalize W.drew = V at *
  refine AnyK.take (i := 0) rfl (by decide) (by kernel_rfl) (by kernel_rfl) (by kernel_rfl) (fun _ _ _ _ h => h) HS (fun K hK => ?_)
  go_simp
  refine hK.out _ ⟨_, by rfl, Or.inl ⟨by rfl, by intro w' hSw; (try dsimp only at hSw); go_simp⟩, ?_⟩
  clear hK K
  refine AnyK.take (i := 1) rfl (by decide) (by kernel_rfl) (by kernel_rfl) (by kernel_rfl) (fun _ _ _ _ h => h) HS (fun K hK => ?_)
  go_simp
  refine hK.out _ ⟨_, by rfl, Or.inl ⟨by rfl, by intro w' hSw; (try dsimp only at hSw); go_simp⟩, ?_⟩
  clear hK K
  refine AnyK.take (i := 2) rfl (by decide) (by kernel_rfl) (by kernel_rfl) (by kernel_rfl) (fun _ _ _ _ h => h) HS (fun K hK => ?_)
  go_simp
  refine hK.out _ ⟨_, by rfl, Or.inl ⟨by rfl, by intro w' hSw; (try dsimp only at hSw); go_simp⟩, ?_⟩
  clear hK K
  refine AnyK.take (i := 3) rfl (by decide) (by kernel_rfl) (by kernel_rfl) (by kernel_rfl) (fun _ _ _ _ h => h) HS (fun K hK => ?_)
  go_simp
  refine hK.out _ ⟨_, by rfl, Or.inl ⟨by rfl, by intro w' hSw; (try dsimp only at hSw); go_simp⟩, ?_⟩
  clear hK K
  refine AnyK.take (i := 4) rfl (by decide) (by kernel_rfl) (by kernel_rfl) (by kernel_rfl) (fun _ _ _ _ h => h) HS (fun K hK => ?_)
  go_simp
  refine hK.out _ ⟨_, by rfl, Or.inl ⟨by rfl, by intro w' hSw; (try dsimp only at hSw); go_simp⟩, ?_⟩
  clear hK K
  refine AnyK.take (i := 5) rfl (by decide) (by kernel_rfl) (by kernel_rfl) (by kernel_rfl) (fun _ _ _ _ h => h) HS (fun K hK => ?_)
  go_simp
  refine hK.out _ ⟨_, by rfl, Or.inl ⟨by rfl, by intro w' hSw; (try dsimp only at hSw); go_simp⟩, ?_⟩
  clear hK K
  refine AnyK.take (i := 6) rfl (by decide) (by kernel_rfl) (by kernel_rfl) (by kernel_rfl) (fun _ _ _ _ h => h) HS (fun K hK => ?_)
  go_simp
  refine hK.out _ ⟨_, by rfl, Or.inl ⟨by rfl, by intro w' hSw; (try dsimp only at hSw); go_simp⟩, ?_⟩
  clear hK K
  refine AnyK.take (i := 7) rfl (by decide) (by kernel_rfl) (by kernel_rfl) (by kernel_rfl) (fun _ _ _ _ h => h) HS (fun K hK => ?_)
  go_simp
  refine hK.out _ ⟨_, by rfl, Or.inl ⟨by rfl, by intro w' hSw; (try dsimp only at hSw); go_simp⟩, ?_⟩
  clear hK K
  refine AnyK.one (i := 8) rfl (by kernel_rfl) (fun K hK => ?_)
  go_simp
  generalize hW2 : V.alloc (.cells _ 103) = V2
  have hF2 : Fr None' V V2 := by rw [← hW2]; exact (Fr.refl _ _).alloc _
  have hH : Blk V2 V.heap.size 103 #[.int .i64 0, .int .i64 0, .int .i64 0, .int .i64 0] := by rw [← hW2]; exact Blk.new _ _ _
  have HZ2 := Lib.hid (HZ.out.fr hF2 (fun h => h))
  have HF2 := Lib.hid (HF.out.trans hF2)
  have hgt : w.heap.size < V.heap.size := HZ.out.lt
  have HH := Lib.hid hH
  have HS : (fun w' : World => w'.cell? ⟨w.heap.size, 0, none⟩ = some (.int .i64 a0) ∧ w'.cell? ⟨w.heap.size, 1, none⟩ = some (.int .i64 a1) ∧ w'.cell? ⟨w.heap.size, 2, none⟩ = some (.int .i64 a2) ∧ w'.cell? ⟨w.heap.size, 3, none⟩ = some (.int .i64 a3) ∧ w'.cell? ⟨w.heap.size, 4, none⟩ = some (.int .u8 many) ∧ w'.cell? ⟨w.heap.size, 5, none⟩ = some (.int .u8 deep) ∧ w'.cell? ⟨w.heap.size, 6, none⟩ = some (.bool true)) V2 := ⟨by rw [HZ2.out.cell]; rfl, by rw [HZ2.out.cell]; rfl, by rw [HZ2.out.cell]; rfl, by rw [HZ2.out.cell]; rfl, by rw [HZ2.out.cell]; rfl, by rw [HZ2.out.cell]; rfl, by rw [HZ2.out.cell]; rfl⟩
  clear hW2 hF2 hH HZ HF
  generalize V.heap.size = h at *
  refine hK.out _ _ (fun _ => HS) ?_
  clear hK K
  have h0 : V2.cell? ⟨h, 0, none⟩ = some (.int .i64 0) := by rw [HH.out.cell]; rfl
  have h1 : V2.cell? ⟨h, 1, none⟩ = some (.int .i64 0) := by rw [HH.out.cell]; rfl
  have h2 : V2.cell? ⟨h, 2, none⟩ = some (.int .i64 0) := by rw [HH.out.cell]; rfl
  have h3 : V2.cell? ⟨h, 3, none⟩ = some (.int .i64 0) := by rw [HH.out.cell]; rfl
  have z0 := HH.out.frozen 0
  have z1 := HH.out.frozen 1
  have z2 := HH.out.frozen 2
  have z3 := HH.out.frozen 3
  refine AnyK.one (i := 9) rfl (by kernel_rfl) (fun K hK => ?_)
  go_simp
  generalize hW3 : (((V2.setCell ⟨h, 0, none⟩ (.int .i64 a0)).setCell ⟨h, 1, none⟩ (.int .i64 a1)).setCell ⟨h, 2, none⟩ (.int .i64 a2)).setCell ⟨h, 3, none⟩ (.int .i64 a3) = V3
  have hFs : Fr (At h) V2 V3 := by rw [← hW3]; exact (((((Fr.refl (At h) V2)).setCell (p := ⟨h, 0, none⟩) (.inl rfl) _).setCell (p := ⟨h, 1, none⟩) (.inl rfl) _).setCell (p := ⟨h, 2, none⟩) (.inl rfl) _).setCell (p := ⟨h, 3, none⟩) (.inl rfl) _
  have hH3 : Blk V3 h 103 #[.int .i64 a0, .int .i64 a1, .int .i64 a2, .int .i64 a3] := by rw [← hW3]; exact (((HH.out.set_ 0 _).set_ 1 _).set_ 2 _).set_ 3 _
  have HZ3 := Lib.hid (HZ2.out.fr hFs (by show ¬ w.heap.size = h; omega))
  have HF3 : Hid (Fr None' w V3) := Lib.hid (HF2.out.then hFs (fun i hi => .inr (by have hi : i = h := hi; omega)))
  have HH3 := Lib.hid hH3
  have HS : (fun w' : World => w'.cell? ⟨w.heap.size, 0, none⟩ = some (.int .i64 a0) ∧ w'.cell? ⟨w.heap.size, 1, none⟩ = some (.int .i64 a1) ∧ w'.cell? ⟨w.heap.size, 2, none⟩ = some (.int .i64 a2) ∧ w'.cell? ⟨w.heap.size, 3, none⟩ = some (.int .i64 a3) ∧ w'.cell? ⟨w.heap.size, 4, none⟩ = some (.int .u8 many) ∧ w'.cell? ⟨w.heap.size, 5, none⟩ = some (.int .u8 deep) ∧ w'.cell? ⟨w.heap.size, 6, none⟩ = some (.bool true)) V3 := ⟨by rw [HZ3.out.cell]; rfl, by rw [HZ3.out.cell]; rfl, by rw [HZ3.out.cell]; rfl, by rw [HZ3.out.cell]; rfl, by rw [HZ3.out.cell]; rfl, by rw [HZ3.out.cell]; rfl, by rw [HZ3.out.cell]; rfl⟩
  clear hW3 hFs hH3 h0 h1 h2 h3 z0 z1 z2 z3 HH HF2 HZ2
  refine hK.out _ _ (fun _ => HS) ?_
  clear hK K
  refine AnyK.one (i := 10) rfl (by kernel_rfl) (fun K hK => ?_)
  go_simp
  refine hK.out _ _ (fun _ => HS) ?_
  clear hK K
  refine AnyK.one (i := 11) rfl (by kernel_rfl) (fun K hK => ?_)
  go_simp
  refine hK.out _ _ (fun _ => HS) ?_
  clear hK K
  refine AnyK.one (i := 12) rfl (by kernel_rfl) (fun K hK => ?_)
  go_simp
  refine hK.out _ _ (fun h => absurd (h.symm.trans (by kernel_rfl : _ = true)) (by decide)) ?_
  clear hK K HS HZ3
  refine AnyK.done (by kernel_rfl) ?_ _
  obtain ⟨d, hd, hd5⟩ : ∃ d : Nat, (deep : Int) % 5 = d ∧ d < 5 := ⟨deep % 5, by omega, Nat.mod_lt _ (by omega)⟩
  obtain ⟨kk, hkk, hk10⟩ : ∃ k : Nat, (many : Int) % 10 = k ∧ k < 10 := ⟨many % 10, by omega, Nat.mod_lt _ (by omega)⟩
  have HKK := Lib.hid hkk
  go_upto_region 7 with (fail)
  rw [hd]
  clear hd hkk
  generalize hW4 : ((V3.alloc (.cells _ 98)).alloc (.cells _ 98)).alloc (.cells _ 101) = W4
  have hF4 : Fr None' V3 W4 := by rw [← hW4]; exact (((Fr.refl _ _).alloc _).alloc _).alloc _
  have hrow : FnRow W4 (fun b => b < V3.heap.size + 3) (some ⟨V3.heap.size + 1 + 1, 0, none⟩) [⟨⟨4, [bgI true, ⟨9, 0, 0, 0, 0⟩]⟩, some ⟨V3.heap.size, 0, none⟩, 2⟩, ⟨⟨3, [⟨17, 0, 0, 0, 0⟩]⟩, some ⟨V3.heap.size + 1, 0, none⟩, 1⟩] := by
    have b1 := ((Blk.new V3 98 (([bgI true, ⟨9, 0, 0, 0, 0⟩] : List Ins).flatMap Ins.cells).toArray).alloc (.cells (([⟨17, 0, 0, 0, 0⟩] : List Ins).flatMap Ins.cells).toArray 98)).alloc (.cells #[.int .i64 4, .slice (some ⟨V3.heap.size, 0, none⟩) 2 2, .int .i64 3, .slice (some ⟨V3.heap.size + 1, 0, none⟩) 1 1] 101)
    have b2 := (Blk.new (V3.alloc (.cells (([bgI true, ⟨9, 0, 0, 0, 0⟩] : List Ins).flatMap Ins.cells).toArray 98)) 98 (([⟨17, 0, 0, 0, 0⟩] : List Ins).flatMap Ins.cells).toArray).alloc (.cells #[.int .i64 4, .slice (some ⟨V3.heap.size, 0, none⟩) 2 2, .int .i64 3, .slice (some ⟨V3.heap.size + 1, 0, none⟩) 1 1] 101)
    have b3 := Blk.new ((V3.alloc (.cells (([bgI true, ⟨9, 0, 0, 0, 0⟩] : List Ins).flatMap Ins.cells).toArray 98)).alloc (.cells (([⟨17, 0, 0, 0, 0⟩] : List Ins).flatMap Ins.cells).toArray 98)) 101 #[.int .i64 4, .slice (some ⟨V3.heap.size, 0, none⟩) 2 2, .int .i64 3, .slice (some ⟨V3.heap.size + 1, 0, none⟩) 1 1]
    rw [show (V3.alloc (.cells (([bgI true, ⟨9, 0, 0, 0, 0⟩] : List Ins).flatMap Ins.cells).toArray 98)).heap.size = V3.heap.size + 1 by simp] at b2
    rw [show ((V3.alloc (.cells (([bgI true, ⟨9, 0, 0, 0, 0⟩] : List Ins).flatMap Ins.cells).toArray 98)).alloc (.cells (([⟨17, 0, 0, 0, 0⟩] : List Ins).flatMap Ins.cells).toArray 98)).heap.size = V3.heap.size + 1 + 1 by simp] at b3
    refine ⟨Rd.of_blk (t := 101) (cs := [.int .i64 4, .slice (some ⟨V3.heap.size, 0, none⟩) 2 2, .int .i64 3, .slice (some ⟨V3.heap.size + 1, 0, none⟩) 1 1]) (by rw [← hW4]; exact b3) rfl (by show _ < _; omega), fun x hx => ?_⟩
    rcases List.mem_cons.1 hx with rfl | hx
    · exact Rd.of_blk (t := 98) (cs := ([bgI true, ⟨9, 0, 0, 0, 0⟩] : List Ins).flatMap Ins.cells) (by rw [← hW4]; exact b1) rfl (by show _ < _; omega)
    · rw [List.mem_singleton.1 hx]
      exact Rd.of_blk (t := 98) (cs := ([⟨17, 0, 0, 0, 0⟩] : List Ins).flatMap Ins.cells) (by rw [← hW4]; exact b2) rfl (by show _ < _; omega)
  have hs4 : W4.heap.size = V3.heap.size + 3 := by rw [← hW4]; simp
  have HH4 := Lib.hid (HH3.out.fr hF4 (fun h => h)).drew
  have HF4 := Lib.hid (HF3.out.trans hF4).drew
  have HRW : Hid (FnRow W4.drew (fun b => b < V3.heap.size + 3) (some ⟨V3.heap.size + 1 + 1, 0, none⟩) _) := Lib.hid (hrow.fr (Fr.refl None' W4).drew (fun _ _ h => h))
  have hs4' : W4.drew.heap.size = V3.heap.size + 3 := hs4
  have HS : (fun _ : World => True) W4.drew := True.intro
  have hmk := make_ints d (by omega)
  refine region_K 5 (fun _ : World => True) (by kernel_rfl) ?_
  clear hW4 hF4 hrow hs4 HF3 HH3
  generalize W4.drew = V4 at *
  generalize V3.heap.size = q at *
  refine AnyK.take (i := 0) rfl (by decide) (by kernel_rfl) (by kernel_rfl) (by kernel_rfl) (fun _ _ _ _ h => h) HS (fun K hK => ?_)
  go_simp
  refine hK.out _ ⟨_, by rfl, Or.inl ⟨by rfl, by intro w' hSw; (try dsimp only at hSw); go_simp⟩, ?_⟩
  clear hK K
  refine AnyK.take (i := 2) rfl (by decide) (by kernel_rfl) (by kernel_rfl) (by kernel_rfl) (fun _ _ _ _ h => h) HS (fun K hK => ?_)
  go_simp
  refine hK.out _ ⟨_, by rfl, Or.inl ⟨by rfl, by intro w' hSw; (try dsimp only at hSw); go_simp⟩, ?_⟩
  clear hK K
  refine AnyK.take (i := 3) rfl (by decide) (by kernel_rfl) (by kernel_rfl) (by kernel_rfl) (fun _ _ _ _ h => h) HS (fun K hK => ?_)
  go_simp
  refine hK.out _ ⟨_, by rfl, Or.inl ⟨by rfl, by intro w' hSw; (try dsimp only at hSw); go_simp⟩, ?_⟩
  clear hK K
  refine AnyK.one (i := 1) rfl (by kernel_rfl) (fun K hK => ?_)
  go_simp
  generalize hW5 : V4.alloc _ = V5
  have hF5 : Fr None' V4 V5 := by rw [← hW5]; exact (Fr.refl _ _).alloc _
  have hI5 : Blk V5 V4.heap.size 3 (ints (List.replicate d 0)).toArray := by rw [← hW5]; exact Blk.new _ _ _
  have HH5 := Lib.hid (HH4.out.fr hF5 (fun h => h))
  have HF5 := Lib.hid (HF4.out.trans hF5)
  have HRW5 := Lib.hid (HRW.out.fr hF5 (fun _ _ h => h))
  have hnew := new_at V5 0 (some ⟨V4.heap.size, 0, none⟩) (some ⟨h, 0, none⟩) (List.replicate d 0) [a0, a1, a2, a3] d 4 0 0 0 0 (fun h => absurd h (by simp)) (fun _ => ⟨V4.heap.size, 0, rfl, fun j x hx => by
    rw [Nat.zero_add, hI5.cell, List.getElem?_toArray]
    exact ints_at hx⟩) (fun _ => ⟨h, 0, rfl, fun i x hx => by
    rw [Nat.zero_add, HH5.out.cell]
    match i, hx with
    | 0, hx => cases hx; rfl
    | 1, hx => cases hx; rfl
    | 2, hx => cases hx; rfl
    | 3, hx => cases hx; rfl
    | i + 4, hx => simp at hx⟩) (by rw [List.length_replicate]; omega)
  rw [List.length_replicate, hs4'] at hnew
  have HNW := Lib.hid hnew
  have hq5 : q + 3 < V5.heap.size := by have := hI5.lt; omega
  clear hs4' hnew hI5 hF5 hW5 HH4 HF4 HRW hmk
  refine hK.out _ _ (fun _ => HS) ?_
  clear hK K
  refine AnyK.one (i := 4) rfl (by kernel_rfl) (fun K hK => ?_)
  go_simp
  refine HNW.out.mono ?_
  clear HNW
  rintro e V6 ⟨F, hFl, rfl, hf, hF6⟩
  have HFR : Hid (FrameAt V6 F (bgF 0 (2 * 0 : Nat) (0 : Nat) d a0 a1 a2 a3)) := Lib.hid hf
  have HH6 := Lib.hid (HH5.out.fr hF6 (fun h => h))
  have HF6 := Lib.hid (HF5.out.trans hF6)
  have HRW6 := Lib.hid (HRW5.out.fr hF6 (fun _ _ h => h))
  have hhq : h < F := by have := HH5.out.lt; omega
  have hwF : w.heap.size ≤ F := by have := HF5.out.size; omega
  clear hf hF6 HRW5 HF5 HH5
  refine hK.out _ _ (fun _ => HS) ?_
  clear hK K
  refine AnyK.one (i := 5) rfl (by kernel_rfl) (fun K hK => ?_)
  go_simp
  refine hK.out _ _ (fun h => absurd (h.symm.trans (by kernel_rfl : _ = true)) (by decide)) ?_
  clear hK K HS
  refine AnyK.done (by kernel_rfl) ?_ _
  have HEX : Hid (∀ (W : World) (f : FR), Fr (At F) V6 W → f.path.length ≤ 1000 → FrameAt W F f → Calls Tryd.prog 11 #[.slice (some ⟨q + 1 + 1, 0, none⟩) 2 2, .agg #[.int .i64 99, .int .i64 3], .pointer (some ⟨F, 0, none⟩)] W (ExecPost W F (execP (bgP true) 99 3 f))) := Lib.hid (fun W f hF hpl hf =>
    exec_any W (some ⟨q + 1 + 1, 0, none⟩) 2 F [⟨⟨4, [bgI true, ⟨9, 0, 0, 0, 0⟩]⟩, some ⟨q, 0, none⟩, 2⟩, ⟨⟨3, [⟨17, 0, 0, 0, 0⟩]⟩, some ⟨q + 1, 0, none⟩, 1⟩] 99 3 f ((HRW6.out.fr hF (fun b hb h => by have hb : b < q + 3 := hb; have h : b = F := h; omega)).mono (fun b hb => by have hb : b < q + 3 := hb; have := hF.size; have := HF6.out.size; have hfb := hf.blk; obtain ⟨_, _, hfb, _⟩ := hfb; have := hfb.lt; exact ⟨by omega, by omega⟩)) (HT.out.fr (HF6.out.then hF (fun i hi => .inr (by have hi : i = F := hi; omega))) (fun h => h)) (by simp) (fun y hy => by
      rcases List.mem_cons.1 hy with rfl | hy
      · simp
      · rw [List.mem_singleton.1 hy]; simp) hf hpl)
  have HAW : Hid (∀ W, Fr (At F) V6 W → Calls Tryd.prog 16 #[] W fun e w' => e = .returned (.bool true) ∧ Fr None' W w') := Lib.hid (fun W hF => awake_any W (HT.out.fr (HF6.out.then hF (fun i hi => .inr (by have hi : i = F := hi; omega))) (fun h => h)))
  have HFW : Hid (∀ W, Fr (At F) V6 W → Fr None' w W) := Lib.hid (fun W hF => HF6.out.then hF (fun i hi => .inr (by have hi : i = F := hi; omega)))
  clear HRW6
  go_wp2_with fail
  go_loopw [11] (fun v wx => ∃ i : Nat, i ≤ kk ∧ (3 ≤ d → i = 0) ∧ v = .int .i64 i ∧ Hid (FrameAt wx F (bgF 0 (2 * i : Nat) i d a0 a1 a2 a3)) ∧ Hid (Blk wx h 103 #[.int .i64 a0, .int .i64 a1, .int .i64 a2, .int .i64 a3]) ∧ Hid (Fr (At F) V6 wx)) (fun v _ => kk - (intOf v).toNat)
  case atStart => exact ⟨0, by omega, fun _ => rfl, rfl, HFR, HH6, Lib.hid (Fr.refl _ _)⟩
  case round =>
    obtain ⟨i, hik, hi0, rfl, HFi, HHi, HVi⟩ := hrel
    have hkk := HKK.out
    have hFl : F < wr.heap.size := by obtain ⟨_, _, hb, _⟩ := HFi.out.blk; exact hb.lt
    by_cases hikl : i < kk
    · have hii : (i : Int) < (kk : Int) := by omega
      have hpl : (bgF 0 (2 * i : Nat) i d a0 a1 a2 a3).path.length ≤ 1000 := by show (List.replicate d (0 : Int)).length ≤ 1000; rw [List.length_replicate]; omega
      by_cases hd3 : 3 ≤ d
      · have hi00 := hi0 hd3
        subst hi00
        have hex := HEX.out wr _ HVi.out hpl HFi.out
        rw [show bgF 0 (2 * 0 : Nat) (0 : Nat) d a0 a1 a2 a3 = bgF 0 0 0 d a0 a1 a2 a3 from rfl, bg_deep true d hd3] at hex
        have HX := Lib.hid hex
        have hd3i : decide ((3 : Int) ≤ (d : Int)) = true := decide_eq_true (by omega)
        clear hex HFi HHi HEX
        go_wp2_with fail
        refine HX.out.mono ?_
        rintro e w1 ⟨ea, ep, rfl, hE, hf, hF1⟩
        obtain ⟨⟨Aa, ca, rfl⟩, Ap, cp, rfl⟩ := hE.slices
        obtain ⟨P, pc, hb, _, _, _⟩ := hf.blk
        have HB1 := Lib.hid hb
        have HF1 := Lib.hid (HVi.out.trans hF1)
        clear hE hf hF1 hb
        unfold efC
        go_upto_region 14 with (fail)
        generalize hW2 : World.alloc w1 _ = w2
        have hF2 : Fr None' w1 w2 := by rw [← hW2]; exact (Fr.refl _ _).alloc _
        have hE2 : Blk w2 w1.heap.size 36 (efC 8 0 0 0 0 4 (.slice Aa 0 ca) (.slice Ap 0 cp)) := by rw [← hW2]; exact Blk.new _ _ _
        have hb2 := HB1.out.fr hF2 (fun h => h)
        have e0 : w2.cell? ⟨w1.heap.size, 0, none⟩ = some (.int .i64 8) := by rw [hE2.cell]; rfl
        have e5 : w2.cell? ⟨w1.heap.size, 5, none⟩ = some (.int .i64 4) := by rw [hE2.cell]; rfl
        have f3 : w2.cell? ⟨F, 3, none⟩ = some (.int .i64 0) := by rw [hb2.cell]; rfl
        have HF2 : Hid (Fr (At F) V6 w2) := Lib.hid (HF1.out.trans (hF2.mono (fun _ h => h.elim)))
        clear hW2 hF2 hE2 hb2 HB1 HF1
        generalize w1.heap.size = E at *
        go_wp2_with fail
        refine (HAW.out _ HF2.out).mono ?_
        rintro e w3 ⟨rfl, hF3⟩
        go_wp2_with fail
        go_ret
        exact ⟨rfl, (HFW.out _ HF2.out).trans hF3⟩
      · have hex := HEX.out wr _ HVi.out hpl HFi.out
        rw [bg_go true d i hd3 (by omega)] at hex
        have HX := Lib.hid hex
        have hd3i : decide ((3 : Int) ≤ (d : Int)) = false := decide_eq_false (by omega)
        have hd4 : ¬ (3 : Int) ≤ (d : Int) := by omega
        clear hex HFi
        go_wp2_with fail
        refine HX.out.mono ?_
        intro e w1 hkp
        obtain ⟨Aa, ca, Ap, cp, rfl, hae, hpe, hf, hF1⟩ := kpost_true hkp
        have HAE := Lib.hid hae
        have HPE := Lib.hid hpe
        have HFA1 := Lib.hid hf
        have HF1 := Lib.hid (HVi.out.trans hF1)
        have HH1 := Lib.hid (HHi.out.fr hF1 (by show ¬ h = F; omega))
        clear hkp hae hf hF1 hpe HHi HVi
        unfold efC
        go_upto_region 14 with (fail)
        generalize hW2 : World.alloc w1 _ = w2
        have hF2 : Fr None' w1 w2 := by rw [← hW2]; exact (Fr.refl _ _).alloc _
        have hE2 : Blk w2 w1.heap.size 36 (efC 4 0 0 1 2 0 (.slice Aa 3 ca) (.slice Ap (d + 1) cp)) := by rw [← hW2]; exact Blk.new _ _ _
        have HFA2 := Lib.hid (HFA1.out.fr hF2 (fun h => h) (fun _ _ _ h => h))
        have HH2 := Lib.hid (HH1.out.fr hF2 (fun h => h))
        have HPE2 := Lib.hid (own_fr HPE.out hF2 (fun _ _ h => h))
        have HAE2 := Lib.hid (own_fr HAE.out hF2 (fun _ _ h => h))
        obtain ⟨gp, cap', hv, _, hgp⟩ := HPE2.out.form (by omega)
        injection hv with hv1 hv2 hv3
        subst hv1
        have hpd : w2.cell? ⟨gp, d, none⟩ = some (.int .i64 i) := by
          have h := HPE2.out.cells (g := gp) rfl d (.int .i64 i) (ints_at (by rw [List.getElem?_append_right (by simp)]; simp))
          rw [show (⟨gp, 0, none⟩ : Addr).add d = ⟨gp, d, none⟩ by unfold Addr.add; split <;> simp_all] at h
          exact h
        have hg0 : w2.cell? ⟨w1.heap.size, 0, none⟩ = some (.int .i64 4) := by rw [hE2.cell]; rfl
        have hg2 : w2.cell? ⟨w1.heap.size, 2, none⟩ = some (.int .i64 0) := by rw [hE2.cell]; rfl
        have hg3 : w2.cell? ⟨w1.heap.size, 3, none⟩ = some (.int .i64 1) := by rw [hE2.cell]; rfl
        have hg4 : w2.cell? ⟨w1.heap.size, 4, none⟩ = some (.int .i64 2) := by rw [hE2.cell]; rfl
        have hg6 : w2.cell? ⟨w1.heap.size, 6, none⟩ = some (.slice Aa 3 ca) := by rw [hE2.cell]; rfl
        have hg7 : w2.cell? ⟨w1.heap.size, 7, none⟩ = some (.slice (some ⟨gp, 0, none⟩) (d + 1) cp) := by rw [hE2.cell]; rfl
        have HF2 : Hid (Fr (At F) V6 w2) := Lib.hid (HF1.out.trans (hF2.mono (fun _ h => h.elim)))
        have HNU : Hid (∀ n, Calls Tryd.prog 24 #[.slice Aa 3 ca, .slice (some ⟨h, 1, none⟩) 3 3] (w2.drewN n) fun e w' => e = .returned (.bool true) ∧ ∃ m, w' = w2.drewN m) := Lib.hid (fun n => by
          have hA : IntsA (w2.drewN n) Aa [a1, a2, a3] := fun _ => by
            obtain ⟨ga, cap2, hv, _, _⟩ := HAE2.out.form (by omega)
            injection hv with hv1 _ _
            refine ⟨ga, 0, hv1, fun j x hx => ?_⟩
            subst hv1
            have h := HAE2.out.cells (g := ga) rfl j (.int .i64 x) (ints_at hx)
            rw [show (⟨ga, 0, none⟩ : Addr).add j = ⟨ga, 0 + j, none⟩ by unfold Addr.add; split <;> simp_all] at h
            exact h
          have hB : IntsA (w2.drewN n) (some ⟨h, 1, none⟩) [a1, a2, a3] := fun _ => ⟨h, 1, rfl, fun j x hx => by
            show w2.cell? _ = _
            rw [HH2.out.cell]
            match j, hx with
            | 0, hx => cases hx; rfl
            | 1, hx => cases hx; rfl
            | 2, hx => cases hx; rfl
            | j + 3, hx => simp at hx⟩
          refine (numbers_same (w2.drewN n) Aa (some ⟨h, 1, none⟩) ca 3 [a1, a2, a3] 3 rfl hA hB (by omega)).mono ?_
          rintro e w' ⟨rfl, m, rfl⟩
          exact ⟨rfl, n + m, by rw [World.drewN_drewN]⟩)
        clear hW2 hF2 hE2 HFA1 HF1 HH1 HPE HAE hv2 hv3
        generalize w1.heap.size = E at *
        have q0 : ((d : Int) + 1 != (d : Int) + 1) = false := by simp
        have q1 : ((i : Int) != (i : Int)) = false := by simp
        have qdi : (d : Int) < (d : Int) + 1 := by omega
        go_upto_region 18 with (fail)
        go_quiet ((exact HNU.out _))
        generalize hV3 : w2.drewN _ = w3
        have hF3 : Fr None' w2 w3 := by rw [← hV3]; exact (Fr.refl _ _).drewN _
        have HFA3 := Lib.hid (HFA2.out.fr hF3 (fun h => h) (fun _ _ _ h => h))
        have HH3 := Lib.hid (HH2.out.fr hF3 (fun h => h))
        have HF3 : Hid (Fr (At F) V6 w3) := Lib.hid (HF2.out.trans (hF3.mono (fun _ h => h.elim)))
        clear hV3 hF3 HFA2 HH2 HF2 HPE2 HAE2 hpd hg0 hg2 hg3 hg4 hg6 hg7 HNU
        have hpl1 : (bgF 1 ((2 * i : Nat) + 1) ((i : Int) + 1) d a0 a1 a2 a3).path.length ≤ 1000 := hpl
        have hex := HEX.out w3 _ HF3.out hpl1 HFA3.out
        rw [bg_back true d i (by omega)] at hex
        have HX2 := Lib.hid hex
        clear hex HFA3
        go_wp2_with fail
        refine HX2.out.mono ?_
        rintro e w4 ⟨ea, ep, rfl, hE, hf, hF4⟩
        obtain ⟨⟨Ab, cb, rfl⟩, Aq, cq, rfl⟩ := hE.slices
        have HFA4 := Lib.hid hf
        have HH4 := Lib.hid (HH3.out.fr hF4 (by show ¬ h = F; omega))
        have HF4 := Lib.hid (HF3.out.trans hF4)
        clear hE hf hF4 HF3 HH3
        unfold efC
        go_upto_region 21 with (fail)
        generalize hW5 : World.alloc w4 _ = w5
        have hF5 : Fr None' w4 w5 := by rw [← hW5]; exact (Fr.refl _ _).alloc _
        have hE5 : Blk w5 w4.heap.size 36 (efC 1 0 0 0 0 0 (.slice Ab 0 cb) (.slice Aq 0 cq)) := by rw [← hW5]; exact Blk.new _ _ _
        have HFA5 := Lib.hid (HFA4.out.fr hF5 (fun h => h) (fun _ _ _ h => h))
        have HH5 := Lib.hid (HH4.out.fr hF5 (fun h => h))
        have HF5 : Hid (Fr (At F) V6 w5) := Lib.hid (HF4.out.trans (hF5.mono (fun _ h => h.elim)))
        obtain ⟨P5, pc5, hb5, _, _, _⟩ := HFA5.out.blk
        have f3 : w5.cell? ⟨F, 3, none⟩ = some (.int .i64 ((i + 1 : Nat) : Int)) := by rw [hb5.cell]; rfl
        have g0 : w5.cell? ⟨w4.heap.size, 0, none⟩ = some (.int .i64 1) := by rw [hE5.cell]; rfl
        rw [show ((i + 1 : Nat) : Int) = (i : Int) + 1 by omega] at f3
        have q2 : ((i : Int) + 1 != (i : Int) + 1) = false := by simp
        clear hW5 hF5 hE5 hb5 HFA4 HH4 HF4 q0 q1 qdi
        generalize w4.heap.size = E2 at *
        go_wp2_with fail
        exact ⟨⟨i + 1, by omega, fun h => absurd h hd3, by go_num, HFA5, HH5, HF5⟩, by simp [intOf]; omega⟩
    · obtain rfl : i = kk := by omega
      have hii : decide ((i : Int) < (i : Int)) = false := decide_eq_false (by omega)
      go_wp2_with fail
      refine (HAW.out _ HVi.out).mono ?_
      rintro e w3 ⟨rfl, hF3⟩
      go_wp2_with fail
      go_ret
      exact ⟨rfl, (HFW.out _ HVi.out).trans hF3⟩

theorem kpost_false {w w' : World} {F : Nat} {i d : Nat} {a0 a1 a2 a3 : Int} {e : Ending} (h : ExecPost w F (kE false i d a1 a2 a3, 0, bgF 1 ((2 * i : Nat) + 1) ((i : Int) + 1) d a0 a1 a2 a3) e w') : ∃ Aa ca Ap cp, e = .returned (.tuple #[.agg (efC 3 0 2 1 0 0 (.slice Aa 3 ca) (.slice Ap (d + 1) cp)), .int .i64 0]) ∧ w'.ownsRow w.heap.size 2 1 (.slice Aa 3 ca) 3 (ints [a1, a2, a3]) ∧ w'.ownsRow w.heap.size 3 1 (.slice Ap (d + 1) cp) (d + 1) (ints (List.replicate d 0 ++ [(i : Int)])) ∧ FrameAt w' F (bgF 1 ((2 * i : Nat) + 1) ((i : Int) + 1) d a0 a1 a2 a3) ∧ Fr (At F) w w' := by
  obtain ⟨ea, ep, rfl, hE, hf, hF⟩ := h
  obtain ⟨⟨Aa, ca, rfl⟩, Ap, cp, rfl⟩ := hE.slices
  have hpll : (kE false i d a1 a2 a3).path.length = d + 1 := by show (List.replicate d (0 : Int) ++ [(i : Int)]).length = d + 1; simp
  have h1 := hE.1
  have h2 := hE.2
  simp only [hpll] at h2 ⊢
  exact ⟨Aa, ca, Ap, cp, rfl, h1, h2, hf, hF⟩

set_option maxHeartbeats 32000000 in
set_option maxRecDepth 100000 in
theorem walk_false (a0 a1 a2 a3 : Int) (many deep : Nat) (hm : many < 256) (hde : deep < 256) (w : World) (hT : FieldsAt w) :
    Calls Tryd.prog 8 #[.agg #[.int .i64 a0, .int .i64 a1, .int .i64 a2, .int .i64 a3, .int .u8 many, .int .u8 deep, .bool false]] w fun e w' => e = .returned (.bool true) ∧ Fr None' w w' := by
  have HT := Lib.hid hT
  clear hT
  go_enter Tryd.func8, Tryd.ntmps8
  go_upto_region 1 with (fail)
  generalize hW : w.alloc (.cells _ 105) = W
  have hF : Fr None' w W := by rw [← hW]; exact (Fr.refl _ _).alloc _
  have hZ : Blk W w.heap.size 105 #[.int .i64 a0, .int .i64 a1, .int .i64 a2, .int .i64 a3, .int .u8 many, .int .u8 deep, .bool false] := by rw [← hW]; exact Blk.new _ _ _
  have HZ := Lib.hid hZ.drew
  have HF := Lib.hid hF.drew
  clear hW hF hZ
  have HS : (fun w' : World => w'.cell? ⟨w.heap.size, 0, none⟩ = some (.int .i64 a0) ∧ w'.cell? ⟨w.heap.size, 1, none⟩ = some (.int .i64 a1) ∧ w'.cell? ⟨w.heap.size, 2, none⟩ = some (.int .i64 a2) ∧ w'.cell? ⟨w.heap.size, 3, none⟩ = some (.int .i64 a3) ∧ w'.cell? ⟨w.heap.size, 4, none⟩ = some (.int .u8 many) ∧ w'.cell? ⟨w.heap.size, 5, none⟩ = some (.int .u8 deep) ∧ w'.cell? ⟨w.heap.size, 6, none⟩ = some (.bool false)) W.drew := ⟨by rw [HZ.out.cell]; rfl, by rw [HZ.out.cell]; rfl, by rw [HZ.out.cell]; rfl, by rw [HZ.out.cell]; rfl, by rw [HZ.out.cell]; rfl, by rw [HZ.out.cell]; rfl, by rw [HZ.out.cell]; rfl⟩
  refine region_K 12 (fun w' : World => w'.cell? ⟨w.heap.size, 0, none⟩ = some (.int .i64 a0) ∧ w'.cell? ⟨w.heap.size, 1, none⟩ = some (.int .i64 a1) ∧ w'.cell? ⟨w.heap.size, 2, none⟩ = some (.int .i64 a2) ∧ w'.cell? ⟨w.heap.size, 3, none⟩ = some (.int .i64 a3) ∧ w'.cell? ⟨w.heap.size, 4, none⟩ = some (.int .u8 many) ∧ w'.cell? ⟨w.heap.size, 5, none⟩ = some (.int .u8 deep) ∧ w'.cell? ⟨w.heap.size, 6, none⟩ = some (.bool false)) (by kernel_rfl) ?_
  generalize W.drew = V at *
  refine AnyK.take (i := 0) rfl (by decide) (by kernel_rfl) (by kernel_rfl) (by kernel_rfl) (fun _ _ _ _ h => h) HS (fun K hK => ?_)
  go_simp
  refine hK.out _ ⟨_, by rfl, Or.inl ⟨by rfl, by intro w' hSw; (try dsimp only at hSw); go_simp⟩, ?_⟩
  clear hK K
  refine AnyK.take (i := 1) rfl (by decide) (by kernel_rfl) (by kernel_rfl) (by kernel_rfl) (fun _ _ _ _ h => h) HS (fun K hK => ?_)
  go_simp
  refine hK.out _ ⟨_, by rfl, Or.inl ⟨by rfl, by intro w' hSw; (try dsimp only at hSw); go_simp⟩, ?_⟩
  clear hK K
  refine AnyK.take (i := 2) rfl (by decide) (by kernel_rfl) (by kernel_rfl) (by kernel_rfl) (fun _ _ _ _ h => h) HS (fun K hK => ?_)
  go_simp
  refine hK.out _ ⟨_, by rfl, Or.inl ⟨by rfl, by intro w' hSw; (try dsimp only at hSw); go_simp⟩, ?_⟩
  clear hK K
  refine AnyK.take (i := 3) rfl (by decide) (by kernel_rfl) (by kernel_rfl) (by kernel_rfl) (fun _ _ _ _ h => h) HS (fun K hK => ?_)
  go_simp
  refine hK.out _ ⟨_, by rfl, Or.inl ⟨by rfl, by intro w' hSw; (try dsimp only at hSw); go_simp⟩, ?_⟩
  clear hK K
  refine AnyK.take (i := 4) rfl (by decide) (by kernel_rfl) (by kernel_rfl) (by kernel_rfl) (fun _ _ _ _ h => h) HS (fun K hK => ?_)
  go_simp
  refine hK.out _ ⟨_, by rfl, Or.inl ⟨by rfl, by intro w' hSw; (try dsimp only at hSw); go_simp⟩, ?_⟩
  clear hK K
  refine AnyK.take (i := 5) rfl (by decide) (by kernel_rfl) (by kernel_rfl) (by kernel_rfl) (fun _ _ _ _ h => h) HS (fun K hK => ?_)
  go_simp
  refine hK.out _ ⟨_, by rfl, Or.inl ⟨by rfl, by intro w' hSw; (try dsimp only at hSw); go_simp⟩, ?_⟩
  clear hK K
  refine AnyK.take (i := 6) rfl (by decide) (by kernel_rfl) (by kernel_rfl) (by kernel_rfl) (fun _ _ _ _ h => h) HS (fun K hK => ?_)
  go_simp
  refine hK.out _ ⟨_, by rfl, Or.inl ⟨by rfl, by intro w' hSw; (try dsimp only at hSw); go_simp⟩, ?_⟩
  clear hK K
  refine AnyK.take (i := 7) rfl (by decide) (by kernel_rfl) (by kernel_rfl) (by kernel_rfl) (fun _ _ _ _ h => h) HS (fun K hK => ?_)
  go_simp
  refine hK.out _ ⟨_, by rfl, Or.inl ⟨by rfl, by intro w' hSw; (try dsimp only at hSw); go_simp⟩, ?_⟩
  clear hK K
  refine AnyK.one (i := 8) rfl (by kernel_rfl) (fun K hK => ?_)
  go_simp
  generalize hW2 : V.alloc (.cells _ 103) = V2
  have hF2 : Fr None' V V2 := by rw [← hW2]; exact (Fr.refl _ _).alloc _
  have hH : Blk V2 V.heap.size 103 #[.int .i64 0, .int .i64 0, .int .i64 0, .int .i64 0] := by rw [← hW2]; exact Blk.new _ _ _
  have HZ2 := Lib.hid (HZ.out.fr hF2 (fun h => h))
  have HF2 := Lib.hid (HF.out.trans hF2)
  have hgt : w.heap.size < V.heap.size := HZ.out.lt
  have HH := Lib.hid hH
  have HS : (fun w' : World => w'.cell? ⟨w.heap.size, 0, none⟩ = some (.int .i64 a0) ∧ w'.cell? ⟨w.heap.size, 1, none⟩ = some (.int .i64 a1) ∧ w'.cell? ⟨w.heap.size, 2, none⟩ = some (.int .i64 a2) ∧ w'.cell? ⟨w.heap.size, 3, none⟩ = some (.int .i64 a3) ∧ w'.cell? ⟨w.heap.size, 4, none⟩ = some (.int .u8 many) ∧ w'.cell? ⟨w.heap.size, 5, none⟩ = some (.int .u8 deep) ∧ w'.cell? ⟨w.heap.size, 6, none⟩ = some (.bool false)) V2 := ⟨by rw [HZ2.out.cell]; rfl, by rw [HZ2.out.cell]; rfl, by rw [HZ2.out.cell]; rfl, by rw [HZ2.out.cell]; rfl, by rw [HZ2.out.cell]; rfl, by rw [HZ2.out.cell]; rfl, by rw [HZ2.out.cell]; rfl⟩
  clear hW2 hF2 hH HZ HF
  generalize V.heap.size = h at *
  refine hK.out _ _ (fun _ => HS) ?_
  clear hK K
  have h0 : V2.cell? ⟨h, 0, none⟩ = some (.int .i64 0) := by rw [HH.out.cell]; rfl
  have h1 : V2.cell? ⟨h, 1, none⟩ = some (.int .i64 0) := by rw [HH.out.cell]; rfl
  have h2 : V2.cell? ⟨h, 2, none⟩ = some (.int .i64 0) := by rw [HH.out.cell]; rfl
  have h3 : V2.cell? ⟨h, 3, none⟩ = some (.int .i64 0) := by rw [HH.out.cell]; rfl
  have z0 := HH.out.frozen 0
  have z1 := HH.out.frozen 1
  have z2 := HH.out.frozen 2
  have z3 := HH.out.frozen 3
  refine AnyK.one (i := 9) rfl (by kernel_rfl) (fun K hK => ?_)
  go_simp
  generalize hW3 : (((V2.setCell ⟨h, 0, none⟩ (.int .i64 a0)).setCell ⟨h, 1, none⟩ (.int .i64 a1)).setCell ⟨h, 2, none⟩ (.int .i64 a2)).setCell ⟨h, 3, none⟩ (.int .i64 a3) = V3
  have hFs : Fr (At h) V2 V3 := by rw [← hW3]; exact (((((Fr.refl (At h) V2)).setCell (p := ⟨h, 0, none⟩) (.inl rfl) _).setCell (p := ⟨h, 1, none⟩) (.inl rfl) _).setCell (p := ⟨h, 2, none⟩) (.inl rfl) _).setCell (p := ⟨h, 3, none⟩) (.inl rfl) _
  have hH3 : Blk V3 h 103 #[.int .i64 a0, .int .i64 a1, .int .i64 a2, .int .i64 a3] := by rw [← hW3]; exact (((HH.out.set_ 0 _).set_ 1 _).set_ 2 _).set_ 3 _
  have HZ3 := Lib.hid (HZ2.out.fr hFs (by show ¬ w.heap.size = h; omega))
  have HF3 : Hid (Fr None' w V3) := Lib.hid (HF2.out.then hFs (fun i hi => .inr (by have hi : i = h := hi; omega)))
  have HH3 := Lib.hid hH3
  have HS : (fun w' : World => w'.cell? ⟨w.heap.size, 0, none⟩ = some (.int .i64 a0) ∧ w'.cell? ⟨w.heap.size, 1, none⟩ = some (.int .i64 a1) ∧ w'.cell? ⟨w.heap.size, 2, none⟩ = some (.int .i64 a2) ∧ w'.cell? ⟨w.heap.size, 3, none⟩ = some (.int .i64 a3) ∧ w'.cell? ⟨w.heap.size, 4, none⟩ = some (.int .u8 many) ∧ w'.cell? ⟨w.heap.size, 5, none⟩ = some (.int .u8 deep) ∧ w'.cell? ⟨w.heap.size, 6, none⟩ = some (.bool false)) V3 := ⟨by rw [HZ3.out.cell]; rfl, by rw [HZ3.out.cell]; rfl, by rw [HZ3.out.cell]; rfl, by rw [HZ3.out.cell]; rfl, by rw [HZ3.out.cell]; rfl, by rw [HZ3.out.cell]; rfl, by rw [HZ3.out.cell]; rfl⟩
  clear hW3 hFs hH3 h0 h1 h2 h3 z0 z1 z2 z3 HH HF2 HZ2
  refine hK.out _ _ (fun _ => HS) ?_
  clear hK K
  refine AnyK.one (i := 10) rfl (by kernel_rfl) (fun K hK => ?_)
  go_simp
  refine hK.out _ _ (fun _ => HS) ?_
  clear hK K
  refine AnyK.one (i := 11) rfl (by kernel_rfl) (fun K hK => ?_)
  go_simp
  refine hK.out _ _ (fun _ => HS) ?_
  clear hK K
  refine AnyK.one (i := 12) rfl (by kernel_rfl) (fun K hK => ?_)
  go_simp
  refine hK.out _ _ (fun h => absurd (h.symm.trans (by kernel_rfl : _ = true)) (by decide)) ?_
  clear hK K HS HZ3
  refine AnyK.done (by kernel_rfl) ?_ _
  obtain ⟨d, hd, hd5⟩ : ∃ d : Nat, (deep : Int) % 5 = d ∧ d < 5 := ⟨deep % 5, by omega, Nat.mod_lt _ (by omega)⟩
  obtain ⟨kk, hkk, hk10⟩ : ∃ k : Nat, (many : Int) % 10 = k ∧ k < 10 := ⟨many % 10, by omega, Nat.mod_lt _ (by omega)⟩
  have HKK := Lib.hid hkk
  go_upto_region 7 with (fail)
  rw [hd]
  clear hd hkk
  generalize hW4 : ((V3.alloc (.cells _ 98)).alloc (.cells _ 98)).alloc (.cells _ 101) = W4
  have hF4 : Fr None' V3 W4 := by rw [← hW4]; exact (((Fr.refl _ _).alloc _).alloc _).alloc _
  have hrow : FnRow W4 (fun b => b < V3.heap.size + 3) (some ⟨V3.heap.size + 1 + 1, 0, none⟩) [⟨⟨4, [bgI false, ⟨9, 0, 0, 0, 0⟩]⟩, some ⟨V3.heap.size, 0, none⟩, 2⟩, ⟨⟨3, [⟨17, 0, 0, 0, 0⟩]⟩, some ⟨V3.heap.size + 1, 0, none⟩, 1⟩] := by
    have b1 := ((Blk.new V3 98 (([bgI false, ⟨9, 0, 0, 0, 0⟩] : List Ins).flatMap Ins.cells).toArray).alloc (.cells (([⟨17, 0, 0, 0, 0⟩] : List Ins).flatMap Ins.cells).toArray 98)).alloc (.cells #[.int .i64 4, .slice (some ⟨V3.heap.size, 0, none⟩) 2 2, .int .i64 3, .slice (some ⟨V3.heap.size + 1, 0, none⟩) 1 1] 101)
    have b2 := (Blk.new (V3.alloc (.cells (([bgI false, ⟨9, 0, 0, 0, 0⟩] : List Ins).flatMap Ins.cells).toArray 98)) 98 (([⟨17, 0, 0, 0, 0⟩] : List Ins).flatMap Ins.cells).toArray).alloc (.cells #[.int .i64 4, .slice (some ⟨V3.heap.size, 0, none⟩) 2 2, .int .i64 3, .slice (some ⟨V3.heap.size + 1, 0, none⟩) 1 1] 101)
    have b3 := Blk.new ((V3.alloc (.cells (([bgI false, ⟨9, 0, 0, 0, 0⟩] : List Ins).flatMap Ins.cells).toArray 98)).alloc (.cells (([⟨17, 0, 0, 0, 0⟩] : List Ins).flatMap Ins.cells).toArray 98)) 101 #[.int .i64 4, .slice (some ⟨V3.heap.size, 0, none⟩) 2 2, .int .i64 3, .slice (some ⟨V3.heap.size + 1, 0, none⟩) 1 1]
    rw [show (V3.alloc (.cells (([bgI false, ⟨9, 0, 0, 0, 0⟩] : List Ins).flatMap Ins.cells).toArray 98)).heap.size = V3.heap.size + 1 by simp] at b2
    rw [show ((V3.alloc (.cells (([bgI false, ⟨9, 0, 0, 0, 0⟩] : List Ins).flatMap Ins.cells).toArray 98)).alloc (.cells (([⟨17, 0, 0, 0, 0⟩] : List Ins).flatMap Ins.cells).toArray 98)).heap.size = V3.heap.size + 1 + 1 by simp] at b3
    refine ⟨Rd.of_blk (t := 101) (cs := [.int .i64 4, .slice (some ⟨V3.heap.size, 0, none⟩) 2 2, .int .i64 3, .slice (some ⟨V3.heap.size + 1, 0, none⟩) 1 1]) (by rw [← hW4]; exact b3) rfl (by show _ < _; omega), fun x hx => ?_⟩
    rcases List.mem_cons.1 hx with rfl | hx
    · exact Rd.of_blk (t := 98) (cs := ([bgI false, ⟨9, 0, 0, 0, 0⟩] : List Ins).flatMap Ins.cells) (by rw [← hW4]; exact b1) rfl (by show _ < _; omega)
    · rw [List.mem_singleton.1 hx]
      exact Rd.of_blk (t := 98) (cs := ([⟨17, 0, 0, 0, 0⟩] : List Ins).flatMap Ins.cells) (by rw [← hW4]; exact b2) rfl (by show _ < _; omega)
  have hs4 : W4.heap.size = V3.heap.size + 3 := by rw [← hW4]; simp
  have HH4 := Lib.hid (HH3.out.fr hF4 (fun h => h)).drew
  have HF4 := Lib.hid (HF3.out.trans hF4).drew
  have HRW : Hid (FnRow W4.drew (fun b => b < V3.heap.size + 3) (some ⟨V3.heap.size + 1 + 1, 0, none⟩) _) := Lib.hid (hrow.fr (Fr.refl None' W4).drew (fun _ _ h => h))
  have hs4' : W4.drew.heap.size = V3.heap.size + 3 := hs4
  have HS : (fun _ : World => True) W4.drew := True.intro
  have hmk := make_ints d (by omega)
  refine region_K 5 (fun _ : World => True) (by kernel_rfl) ?_
  clear hW4 hF4 hrow hs4 HF3 HH3
  generalize W4.drew = V4 at *
  generalize V3.heap.size = q at *
  refine AnyK.take (i := 0) rfl (by decide) (by kernel_rfl) (by kernel_rfl) (by kernel_rfl) (fun _ _ _ _ h => h) HS (fun K hK => ?_)
  go_simp
  refine hK.out _ ⟨_, by rfl, Or.inl ⟨by rfl, by intro w' hSw; (try dsimp only at hSw); go_simp⟩, ?_⟩
  clear hK K
  refine AnyK.take (i := 2) rfl (by decide) (by kernel_rfl) (by kernel_rfl) (by kernel_rfl) (fun _ _ _ _ h => h) HS (fun K hK => ?_)
  go_simp
  refine hK.out _ ⟨_, by rfl, Or.inl ⟨by rfl, by intro w' hSw; (try dsimp only at hSw); go_simp⟩, ?_⟩
  clear hK K
  refine AnyK.take (i := 3) rfl (by decide) (by kernel_rfl) (by kernel_rfl) (by kernel_rfl) (fun _ _ _ _ h => h) HS (fun K hK => ?_)
  go_simp
  refine hK.out _ ⟨_, by rfl, Or.inl ⟨by rfl, by intro w' hSw; (try dsimp only at hSw); go_simp⟩, ?_⟩
  clear hK K
  refine AnyK.one (i := 1) rfl (by kernel_rfl) (fun K hK => ?_)
  go_simp
  generalize hW5 : V4.alloc _ = V5
  have hF5 : Fr None' V4 V5 := by rw [← hW5]; exact (Fr.refl _ _).alloc _
  have hI5 : Blk V5 V4.heap.size 3 (ints (List.replicate d 0)).toArray := by rw [← hW5]; exact Blk.new _ _ _
  have HH5 := Lib.hid (HH4.out.fr hF5 (fun h => h))
  have HF5 := Lib.hid (HF4.out.trans hF5)
  have HRW5 := Lib.hid (HRW.out.fr hF5 (fun _ _ h => h))
  have hnew := new_at V5 0 (some ⟨V4.heap.size, 0, none⟩) (some ⟨h, 0, none⟩) (List.replicate d 0) [a0, a1, a2, a3] d 4 0 0 0 0 (fun h => absurd h (by simp)) (fun _ => ⟨V4.heap.size, 0, rfl, fun j x hx => by
    rw [Nat.zero_add, hI5.cell, List.getElem?_toArray]
    exact ints_at hx⟩) (fun _ => ⟨h, 0, rfl, fun i x hx => by
    rw [Nat.zero_add, HH5.out.cell]
    match i, hx with
    | 0, hx => cases hx; rfl
    | 1, hx => cases hx; rfl
    | 2, hx => cases hx; rfl
    | 3, hx => cases hx; rfl
    | i + 4, hx => simp at hx⟩) (by rw [List.length_replicate]; omega)
  rw [List.length_replicate, hs4'] at hnew
  have HNW := Lib.hid hnew
  have hq5 : q + 3 < V5.heap.size := by have := hI5.lt; omega
  clear hs4' hnew hI5 hF5 hW5 HH4 HF4 HRW hmk
  refine hK.out _ _ (fun _ => HS) ?_
  clear hK K
  refine AnyK.one (i := 4) rfl (by kernel_rfl) (fun K hK => ?_)
  go_simp
  refine HNW.out.mono ?_
  clear HNW
  rintro e V6 ⟨F, hFl, rfl, hf, hF6⟩
  have HFR : Hid (FrameAt V6 F (bgF 0 (2 * 0 : Nat) (0 : Nat) d a0 a1 a2 a3)) := Lib.hid hf
  have HH6 := Lib.hid (HH5.out.fr hF6 (fun h => h))
  have HF6 := Lib.hid (HF5.out.trans hF6)
  have HRW6 := Lib.hid (HRW5.out.fr hF6 (fun _ _ h => h))
  have hhq : h < F := by have := HH5.out.lt; omega
  have hwF : w.heap.size ≤ F := by have := HF5.out.size; omega
  clear hf hF6 HRW5 HF5 HH5
  refine hK.out _ _ (fun _ => HS) ?_
  clear hK K
  refine AnyK.one (i := 5) rfl (by kernel_rfl) (fun K hK => ?_)
  go_simp
  refine hK.out _ _ (fun h => absurd (h.symm.trans (by kernel_rfl : _ = true)) (by decide)) ?_
  clear hK K HS
  refine AnyK.done (by kernel_rfl) ?_ _
  have HEX : Hid (∀ (W : World) (f : FR), Fr (At F) V6 W → f.path.length ≤ 1000 → FrameAt W F f → Calls Tryd.prog 11 #[.slice (some ⟨q + 1 + 1, 0, none⟩) 2 2, .agg #[.int .i64 99, .int .i64 3], .pointer (some ⟨F, 0, none⟩)] W (ExecPost W F (execP (bgP false) 99 3 f))) := Lib.hid (fun W f hF hpl hf =>
    exec_any W (some ⟨q + 1 + 1, 0, none⟩) 2 F [⟨⟨4, [bgI false, ⟨9, 0, 0, 0, 0⟩]⟩, some ⟨q, 0, none⟩, 2⟩, ⟨⟨3, [⟨17, 0, 0, 0, 0⟩]⟩, some ⟨q + 1, 0, none⟩, 1⟩] 99 3 f ((HRW6.out.fr hF (fun b hb h => by have hb : b < q + 3 := hb; have h : b = F := h; omega)).mono (fun b hb => by have hb : b < q + 3 := hb; have := hF.size; have := HF6.out.size; have hfb := hf.blk; obtain ⟨_, _, hfb, _⟩ := hfb; have := hfb.lt; exact ⟨by omega, by omega⟩)) (HT.out.fr (HF6.out.then hF (fun i hi => .inr (by have hi : i = F := hi; omega))) (fun h => h)) (by simp) (fun y hy => by
      rcases List.mem_cons.1 hy with rfl | hy
      · simp
      · rw [List.mem_singleton.1 hy]; simp) hf hpl)
  have HAW : Hid (∀ W, Fr (At F) V6 W → Calls Tryd.prog 16 #[] W fun e w' => e = .returned (.bool true) ∧ Fr None' W w') := Lib.hid (fun W hF => awake_any W (HT.out.fr (HF6.out.then hF (fun i hi => .inr (by have hi : i = F := hi; omega))) (fun h => h)))
  have HFW : Hid (∀ W, Fr (At F) V6 W → Fr None' w W) := Lib.hid (fun W hF => HF6.out.then hF (fun i hi => .inr (by have hi : i = F := hi; omega)))
  clear HRW6
  go_wp2_with fail
  go_loopw [11] (fun v wx => ∃ i : Nat, i ≤ kk ∧ (3 ≤ d → i = 0) ∧ v = .int .i64 i ∧ Hid (FrameAt wx F (bgF 0 (2 * i : Nat) i d a0 a1 a2 a3)) ∧ Hid (Blk wx h 103 #[.int .i64 a0, .int .i64 a1, .int .i64 a2, .int .i64 a3]) ∧ Hid (Fr (At F) V6 wx)) (fun v _ => kk - (intOf v).toNat)
  case atStart => exact ⟨0, by omega, fun _ => rfl, rfl, HFR, HH6, Lib.hid (Fr.refl _ _)⟩
  case round =>
    obtain ⟨i, hik, hi0, rfl, HFi, HHi, HVi⟩ := hrel
    have hkk := HKK.out
    have hFl : F < wr.heap.size := by obtain ⟨_, _, hb, _⟩ := HFi.out.blk; exact hb.lt
    by_cases hikl : i < kk
    · have hii : (i : Int) < (kk : Int) := by omega
      have hpl : (bgF 0 (2 * i : Nat) i d a0 a1 a2 a3).path.length ≤ 1000 := by show (List.replicate d (0 : Int)).length ≤ 1000; rw [List.length_replicate]; omega
      by_cases hd3 : 3 ≤ d
      · have hi00 := hi0 hd3
        subst hi00
        have hex := HEX.out wr _ HVi.out hpl HFi.out
        rw [show bgF 0 (2 * 0 : Nat) (0 : Nat) d a0 a1 a2 a3 = bgF 0 0 0 d a0 a1 a2 a3 from rfl, bg_deep false d hd3] at hex
        have HX := Lib.hid hex
        have hd3i : decide ((3 : Int) ≤ (d : Int)) = true := decide_eq_true (by omega)
        clear hex HFi HHi HEX
        go_wp2_with fail
        refine HX.out.mono ?_
        rintro e w1 ⟨ea, ep, rfl, hE, hf, hF1⟩
        obtain ⟨⟨Aa, ca, rfl⟩, Ap, cp, rfl⟩ := hE.slices
        obtain ⟨P, pc, hb, _, _, _⟩ := hf.blk
        have HB1 := Lib.hid hb
        have HF1 := Lib.hid (HVi.out.trans hF1)
        clear hE hf hF1 hb
        unfold efC
        go_upto_region 14 with (fail)
        generalize hW2 : World.alloc w1 _ = w2
        have hF2 : Fr None' w1 w2 := by rw [← hW2]; exact (Fr.refl _ _).alloc _
        have hE2 : Blk w2 w1.heap.size 36 (efC 8 0 0 0 0 4 (.slice Aa 0 ca) (.slice Ap 0 cp)) := by rw [← hW2]; exact Blk.new _ _ _
        have hb2 := HB1.out.fr hF2 (fun h => h)
        have e0 : w2.cell? ⟨w1.heap.size, 0, none⟩ = some (.int .i64 8) := by rw [hE2.cell]; rfl
        have e5 : w2.cell? ⟨w1.heap.size, 5, none⟩ = some (.int .i64 4) := by rw [hE2.cell]; rfl
        have f3 : w2.cell? ⟨F, 3, none⟩ = some (.int .i64 0) := by rw [hb2.cell]; rfl
        have HF2 : Hid (Fr (At F) V6 w2) := Lib.hid (HF1.out.trans (hF2.mono (fun _ h => h.elim)))
        clear hW2 hF2 hE2 hb2 HB1 HF1
        generalize w1.heap.size = E at *
        go_wp2_with fail
        refine (HAW.out _ HF2.out).mono ?_
        rintro e w3 ⟨rfl, hF3⟩
        go_wp2_with fail
        go_ret
        exact ⟨rfl, (HFW.out _ HF2.out).trans hF3⟩
      · have hex := HEX.out wr _ HVi.out hpl HFi.out
        rw [bg_go false d i hd3 (by omega)] at hex
        have HX := Lib.hid hex
        have hd3i : decide ((3 : Int) ≤ (d : Int)) = false := decide_eq_false (by omega)
        have hd4 : ¬ (3 : Int) ≤ (d : Int) := by omega
        clear hex HFi
        go_wp2_with fail
        refine HX.out.mono ?_
        intro e w1 hkp
        obtain ⟨Aa, ca, Ap, cp, rfl, hae, hpe, hf, hF1⟩ := kpost_false hkp
        have HAE := Lib.hid hae
        have HPE := Lib.hid hpe
        have HFA1 := Lib.hid hf
        have HF1 := Lib.hid (HVi.out.trans hF1)
        have HH1 := Lib.hid (HHi.out.fr hF1 (by show ¬ h = F; omega))
        clear hkp hae hf hF1 hpe HHi HVi
        unfold efC
        go_upto_region 14 with (fail)
        generalize hW2 : World.alloc w1 _ = w2
        have hF2 : Fr None' w1 w2 := by rw [← hW2]; exact (Fr.refl _ _).alloc _
        have hE2 : Blk w2 w1.heap.size 36 (efC 3 0 2 1 0 0 (.slice Aa 3 ca) (.slice Ap (d + 1) cp)) := by rw [← hW2]; exact Blk.new _ _ _
        have HFA2 := Lib.hid (HFA1.out.fr hF2 (fun h => h) (fun _ _ _ h => h))
        have HH2 := Lib.hid (HH1.out.fr hF2 (fun h => h))
        have HPE2 := Lib.hid (own_fr HPE.out hF2 (fun _ _ h => h))
        have HAE2 := Lib.hid (own_fr HAE.out hF2 (fun _ _ h => h))
        obtain ⟨gp, cap', hv, _, hgp⟩ := HPE2.out.form (by omega)
        injection hv with hv1 hv2 hv3
        subst hv1
        have hpd : w2.cell? ⟨gp, d, none⟩ = some (.int .i64 i) := by
          have h := HPE2.out.cells (g := gp) rfl d (.int .i64 i) (ints_at (by rw [List.getElem?_append_right (by simp)]; simp))
          rw [show (⟨gp, 0, none⟩ : Addr).add d = ⟨gp, d, none⟩ by unfold Addr.add; split <;> simp_all] at h
          exact h
        have hg0 : w2.cell? ⟨w1.heap.size, 0, none⟩ = some (.int .i64 3) := by rw [hE2.cell]; rfl
        have hg2 : w2.cell? ⟨w1.heap.size, 2, none⟩ = some (.int .i64 2) := by rw [hE2.cell]; rfl
        have hg3 : w2.cell? ⟨w1.heap.size, 3, none⟩ = some (.int .i64 1) := by rw [hE2.cell]; rfl
        have hg4 : w2.cell? ⟨w1.heap.size, 4, none⟩ = some (.int .i64 0) := by rw [hE2.cell]; rfl
        have hg6 : w2.cell? ⟨w1.heap.size, 6, none⟩ = some (.slice Aa 3 ca) := by rw [hE2.cell]; rfl
        have hg7 : w2.cell? ⟨w1.heap.size, 7, none⟩ = some (.slice (some ⟨gp, 0, none⟩) (d + 1) cp) := by rw [hE2.cell]; rfl
        have HF2 : Hid (Fr (At F) V6 w2) := Lib.hid (HF1.out.trans (hF2.mono (fun _ h => h.elim)))
        have HNU : Hid (∀ n, Calls Tryd.prog 24 #[.slice Aa 3 ca, .slice (some ⟨h, 1, none⟩) 3 3] (w2.drewN n) fun e w' => e = .returned (.bool true) ∧ ∃ m, w' = w2.drewN m) := Lib.hid (fun n => by
          have hA : IntsA (w2.drewN n) Aa [a1, a2, a3] := fun _ => by
            obtain ⟨ga, cap2, hv, _, _⟩ := HAE2.out.form (by omega)
            injection hv with hv1 _ _
            refine ⟨ga, 0, hv1, fun j x hx => ?_⟩
            subst hv1
            have h := HAE2.out.cells (g := ga) rfl j (.int .i64 x) (ints_at hx)
            rw [show (⟨ga, 0, none⟩ : Addr).add j = ⟨ga, 0 + j, none⟩ by unfold Addr.add; split <;> simp_all] at h
            exact h
          have hB : IntsA (w2.drewN n) (some ⟨h, 1, none⟩) [a1, a2, a3] := fun _ => ⟨h, 1, rfl, fun j x hx => by
            show w2.cell? _ = _
            rw [HH2.out.cell]
            match j, hx with
            | 0, hx => cases hx; rfl
            | 1, hx => cases hx; rfl
            | 2, hx => cases hx; rfl
            | j + 3, hx => simp at hx⟩
          refine (numbers_same (w2.drewN n) Aa (some ⟨h, 1, none⟩) ca 3 [a1, a2, a3] 3 rfl hA hB (by omega)).mono ?_
          rintro e w' ⟨rfl, m, rfl⟩
          exact ⟨rfl, n + m, by rw [World.drewN_drewN]⟩)
        clear hW2 hF2 hE2 HFA1 HF1 HH1 HPE HAE hv2 hv3
        generalize w1.heap.size = E at *
        have q0 : ((d : Int) + 1 != (d : Int) + 1) = false := by simp
        have q1 : ((i : Int) != (i : Int)) = false := by simp
        have qdi : (d : Int) < (d : Int) + 1 := by omega
        go_upto_region 18 with (fail)
        go_quiet ((exact HNU.out _))
        generalize hV3 : w2.drewN _ = w3
        have hF3 : Fr None' w2 w3 := by rw [← hV3]; exact (Fr.refl _ _).drewN _
        have HFA3 := Lib.hid (HFA2.out.fr hF3 (fun h => h) (fun _ _ _ h => h))
        have HH3 := Lib.hid (HH2.out.fr hF3 (fun h => h))
        have HF3 : Hid (Fr (At F) V6 w3) := Lib.hid (HF2.out.trans (hF3.mono (fun _ h => h.elim)))
        clear hV3 hF3 HFA2 HH2 HF2 HPE2 HAE2 hpd hg0 hg2 hg3 hg4 hg6 hg7 HNU
        have hpl1 : (bgF 1 ((2 * i : Nat) + 1) ((i : Int) + 1) d a0 a1 a2 a3).path.length ≤ 1000 := hpl
        have hex := HEX.out w3 _ HF3.out hpl1 HFA3.out
        rw [bg_back false d i (by omega)] at hex
        have HX2 := Lib.hid hex
        clear hex HFA3
        go_wp2_with fail
        refine HX2.out.mono ?_
        rintro e w4 ⟨ea, ep, rfl, hE, hf, hF4⟩
        obtain ⟨⟨Ab, cb, rfl⟩, Aq, cq, rfl⟩ := hE.slices
        have HFA4 := Lib.hid hf
        have HH4 := Lib.hid (HH3.out.fr hF4 (by show ¬ h = F; omega))
        have HF4 := Lib.hid (HF3.out.trans hF4)
        clear hE hf hF4 HF3 HH3
        unfold efC
        go_upto_region 21 with (fail)
        generalize hW5 : World.alloc w4 _ = w5
        have hF5 : Fr None' w4 w5 := by rw [← hW5]; exact (Fr.refl _ _).alloc _
        have hE5 : Blk w5 w4.heap.size 36 (efC 1 0 0 0 0 0 (.slice Ab 0 cb) (.slice Aq 0 cq)) := by rw [← hW5]; exact Blk.new _ _ _
        have HFA5 := Lib.hid (HFA4.out.fr hF5 (fun h => h) (fun _ _ _ h => h))
        have HH5 := Lib.hid (HH4.out.fr hF5 (fun h => h))
        have HF5 : Hid (Fr (At F) V6 w5) := Lib.hid (HF4.out.trans (hF5.mono (fun _ h => h.elim)))
        obtain ⟨P5, pc5, hb5, _, _, _⟩ := HFA5.out.blk
        have f3 : w5.cell? ⟨F, 3, none⟩ = some (.int .i64 ((i + 1 : Nat) : Int)) := by rw [hb5.cell]; rfl
        have g0 : w5.cell? ⟨w4.heap.size, 0, none⟩ = some (.int .i64 1) := by rw [hE5.cell]; rfl
        rw [show ((i + 1 : Nat) : Int) = (i : Int) + 1 by omega] at f3
        have q2 : ((i : Int) + 1 != (i : Int) + 1) = false := by simp
        clear hW5 hF5 hE5 hb5 HFA4 HH4 HF4 q0 q1 qdi
        generalize w4.heap.size = E2 at *
        go_wp2_with fail
        exact ⟨⟨i + 1, by omega, fun h => absurd h hd3, by go_num, HFA5, HH5, HF5⟩, by simp [intOf]; omega⟩
    · obtain rfl : i = kk := by omega
      have hii : decide ((i : Int) < (i : Int)) = false := decide_eq_false (by omega)
      go_wp2_with fail
      refine (HAW.out _ HVi.out).mono ?_
      rintro e w3 ⟨rfl, hF3⟩
      go_wp2_with fail
      go_ret
      exact ⟨rfl, (HFW.out _ HVi.out).trans hF3⟩

set_option maxRecDepth 100000 in
theorem u8_of {x : Int} (h : (Lit.int .u8 x).wf = true) : ∃ n : Nat, x = n ∧ n < 256 := by
  have hm : IntKind.u8.min = 0 := rfl
  have hM : IntKind.u8.max = 255 := rfl
  simp [Lit.wf, hm, hM] at h
  exact ⟨x.toNat, by omega, by omega⟩
/-- Arguments, how many, how deep, and how. -/
structure KidsV where
  a0 : Int
  a1 : Int
  a2 : Int
  a3 : Int
  many : Nat
  deep : Nat
  fut : Bool
def KidsV.val (z : KidsV) : Value := .agg #[.int .i64 z.a0, .int .i64 z.a1, .int .i64 z.a2, .int .i64 z.a3, .int .u8 z.many, .int .u8 z.deep, .bool z.fut]
set_option maxRecDepth 100000 in
theorem open_kids {H : Type} {enc : TypeId × Value → H} {W : World} {base b0 : Nat} {spare : Nat → Bool} {held : Bool} {r : Reach} {v : Value} {d : DataW H} {p : List MemPlace} (hv : Value.okWide Tryd.prog W r b0 105 v) (h : DataW.Trod enc Tryd.prog W base spare held 105 v d p) :
    ∃ z : KidsV, v = z.val ∧ z.many < 256 ∧ z.deep < 256 := by
  have ht := Tryd.underlying105
  simp only [Value.okWide, ht] at hv
  obtain ⟨cs, rfl, hsz, _⟩ := hv
  have hc : Tryd.prog.cellsOf 105 = 7 := by kernel_rfl
  rw [hc] at hsz
  obtain ⟨l⟩ := cs
  have hl : l.length = 7 := by simpa using hsz
  obtain ⟨fuel, hf⟩ := h
  simp only [Value.cells, List.toList_toArray] at hf
  obtain ⟨xs, m, _, _, _, hlen, hg⟩ := DataW.trod_struct ht hf
  have c4 : Tryd.prog.cellsOf 103 = 4 := by kernel_rfl
  have c1 : Tryd.prog.cellsOf 5 = 1 := by kernel_rfl
  have cb : Tryd.prog.cellsOf 4 = 1 := by kernel_rfl
  have t0 := hg 0 _ rfl
  have t1 := hg 1 _ rfl
  have t2 := hg 2 _ rfl
  have t3 := hg 3 _ rfl
  rw [List.getElem?_eq_getElem (by rw [hlen]; decide)] at t0 t1 t2 t3
  change DataW.trod enc Tryd.prog W base spare held m 103 ((l.drop 0).take (Tryd.prog.cellsOf 103)) = _ at t0
  change DataW.trod enc Tryd.prog W base spare held m 5 ((l.drop 4).take (Tryd.prog.cellsOf 5)) = _ at t1
  change DataW.trod enc Tryd.prog W base spare held m 5 ((l.drop 5).take (Tryd.prog.cellsOf 5)) = _ at t2
  change DataW.trod enc Tryd.prog W base spare held m 4 ((l.drop 6).take (Tryd.prog.cellsOf 4)) = _ at t3
  rw [c4] at t0
  rw [c1] at t1 t2
  rw [cb] at t3
  match l, hl with
  | [v0, v1, v2, v3, v4, v5, v6], _ =>
    obtain ⟨l0, n0, m0, _⟩ := open_array Tryd.underlying103 Tryd.underlying2 (by kernel_rfl) (by rfl) t0
    obtain ⟨a1, e1, _, w1⟩ := DataW.trod_int Tryd.underlying5 t1
    obtain ⟨a2, e2, _, w2⟩ := DataW.trod_int Tryd.underlying5 t2
    obtain ⟨a3, e3, _⟩ := DataW.trod_bool Tryd.underlying4 t3
    have e1' : [v4] = [Value.int .u8 a1] := e1
    have e2' : [v5] = [Value.int .u8 a2] := e2
    have e3' : [v6] = [Value.bool a3] := e3
    simp only [List.cons.injEq, and_true] at e1' e2' e3'
    obtain ⟨n1, rfl, k1⟩ := u8_of w1
    obtain ⟨n2, rfl, k2⟩ := u8_of w2
    match l0, n0 with
    | [q0, q1, q2, q3], _ =>
      have m0' : [v0, v1, v2, v3] = ints [q0, q1, q2, q3] := m0
      simp only [ints, List.map_cons, List.map_nil, List.cons.injEq, and_true] at m0'
      obtain ⟨rfl, rfl, rfl, rfl⟩ := m0'
      subst e1' e2' e3'
      exact ⟨⟨q0, q1, q2, q3, n1, n2, a3⟩, rfl, k1, k2⟩

set_option maxRecDepth 100000 in
theorem walked (z : KidsV) (hz : z.many < 256 ∧ z.deep < 256) (w : World) (hT : FieldsAt w) :
    Calls Tryd.prog 8 #[z.val] w fun e w' => e = .returned (.bool true) ∧ Below w.heap.size w w' := by
  obtain ⟨a0, a1, a2, a3, a, b, fut⟩ := z
  cases fut with
  | false => exact (walk_false a0 a1 a2 a3 a b hz.1 hz.2 w hT).mono fun e w' ⟨he, hF⟩ => ⟨he, hF.below (Nat.le_refl _) (fun _ h => h.elim)⟩
  | true => exact (walk_true a0 a1 a2 a3 a b hz.1 hz.2 w hT).mono fun e w' ⟨he, hF⟩ => ⟨he, hF.below (Nat.le_refl _) (fun _ h => h.elim)⟩

set_option maxRecDepth 100000 in
theorem lifted (os : Os) (started : os.Started) (H : Type) (enc : TypeId × Value → H) :
    ReturnsInHanded {} Tryd.checked os 8 .any (fun w args => (Rows.frameBeginsSpec.pre enc Tryd.prog Tryd.f8 [] false w args ∧ laidMetH Tryd.prog laidN w) ∧ sizedMet enc Tryd.prog Tryd.f8 (OpenSpec.ofChange Rows.frameBeginsSpec) false w args)
      (Rows.frameBeginsSpec.post enc Tryd.prog Tryd.f8 false true false false) := by
  refine returnsInHanded_of_change_and (C := Tryd.checked) (X := fun w _ => laidMetH Tryd.prog laidN w) (fun _ _ _ hh h => h.of_heap hh) own started (by kernel_rfl) Tryd.func8
    (ChangeSpec.witness_shaped (enc := enc) (C := Tryd.checked) (os := os) (X := fun w _ => laidMetH Tryd.prog laidN w) false (World.doorLaid Tryd.prog 400 os) #[.agg #[.int .i64 0, .int .i64 0, .int .i64 0, .int .i64 0, .int .u8 0, .int .u8 0, .bool false]] 8 rfl (World.shaped_of_RefB (by kernel_rfl) (by kernel_rfl)) (by kernel_rfl) (by kernel_rfl) (by kernel_rfl) (door_met os _)) ?_
  intro W base args ds gs before hval0 hW _ _ hL _
  have hval : ∀ (j : Nat) t v, Tryd.f8.params[j]? = some t → args[j]? = some v → Value.okWide Tryd.prog W .any base t v := hval0
  have hW' := hW
  obtain ⟨p, q, hA0, hV, rfl, hfz, hnd⟩ := hW
  have hA : DataW.TrodAll enc Tryd.prog W 0 (fun _ => true) true Tryd.f8.params.toList args.toList ds p := hA0
  rw [Tryd.params8] at hA hval
  obtain ⟨v0, vs0, d0, ds0, p0, q0, hargs, rfl, rfl, h0, r0⟩ := trodAll_cons hA
  obtain ⟨rfl, rfl, rfl⟩ := trodAll_nil r0
  obtain rfl : args = #[v0] := by cases args; simp_all
  obtain ⟨rfl, rfl⟩ := trodVars_none hV
  have k0 := h0
  have lt0 : ∀ x ∈ p0, x.block < W.heap.size := by obtain ⟨m, hm⟩ := k0; exact DataW.trod_lt m _ _ _ hm
  obtain ⟨z0, rfl, w0⟩ := open_kids (hval 0 105 v0 rfl rfl) h0
  clear hA0 hval0
  refine (walked z0 w0 W (of_laid hL)).mono fun e W' ⟨he, bel⟩ => ?_
  subst he
  exact ⟨_, rfl, _, _, _, [], _, [], hW', trodAll_mk1 (shut_bool Tryd.underlying4 _), (trodAll_cons_mk (Below.trod laidOut (by kernel_rfl) (of_decide_eq_true (by kernel_rfl)) k0 bel lt0) trodAll_mk0), rfl, bel.frame _, fun h => by cases h⟩

theorem over : Rows.FrameBeginsSaid :=
  OpenClaim.holds_of_wide 8 Tryd.f8 rfl rfl rfl rfl rfl rfl rfl ⟨rfl, rfl, rfl, rfl, rfl⟩ rfl rfl rfl rfl rfl (by kernel_rfl) Tryd.func8 (by kernel_rfl)
    (of_decide_eq_true (by kernel_rfl)) (by unfold Func.isWrapper; first | (rw [if_pos (by decide +kernel)]; kernel_rfl) | (rw [if_neg (by decide +kernel)]; exact ⟨rfl, rfl⟩))
    (fun os started H enc _ => lifted os started H enc)

/-- The statement: the row, and what it lists tied to the program's text. -/
theorem proved : Rows.FrameBeginsCardSaid :=
  Claim7.holds_tied_plain_at .later [] [.data] true (true, "b153ba6c92dccebf2ef61313fca4816a80f60c00a694c8625512765b05d36f05") true
    over (fun _ h => by cases h) (by kernel_rfl) (fun _ h => by cases h) frameBegins_row_tie rfl ⟨rfl, rfl⟩ (by kernel_rfl) rfl
    (fun f fn hf hfn => by
      obtain rfl : f = 8 := Option.some.inj ((show Tryd.prog.funcNamed "haymow/haymowlaw12.FrameBegins" = some 8 by kernel_rfl).symm.trans hf) |>.symm
      obtain rfl : fn = Tryd.f8 := (Option.some.inj (Tryd.func8.symm.trans hfn)).symm
      exact ⟨by kernel_rfl, fun j t ht => by
        rw [Tryd.params8] at ht
        match j, ht with
        | 0, ht =>
          obtain rfl : t = 105 := by simpa using ht.symm
          exact (show Tryd.prog.wantsStandIn 105 = false by kernel_rfl)
        | j + 1, ht => simp at ht⟩)
    (by kernel_rfl)
#print axioms proved
end Go.Proofs.YtadcenaafoemmaaDoor.frameBegins
