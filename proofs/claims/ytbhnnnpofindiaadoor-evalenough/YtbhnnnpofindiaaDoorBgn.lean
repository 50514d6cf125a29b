/-
  begin evaluates the task that a spawn or a future begins, given what evaluate comes to.
-/
import Derived.Test.YtbhnnnpofindiaaDoorOpsF
import Derived.Test.YtbhnnnpofindiaaDoorPureF
import Derived.Deep.RegionLawGrows
import Derived.IntWalk
namespace Go.Proofs.YtbhnnnpofindiaaDoor
open Go.RowKit

/-- Numbers that are read at an address. -/
def IntsA (w : World) (A : Option Addr) (xs : List Int) : Prop := 0 < xs.length → ∃ (b off : Nat), A = some ⟨b, off, none⟩ ∧ ∀ (j : Nat) (x : Int), xs[j]? = some x → w.cell? ⟨b, off + j, none⟩ = some (Value.int .i64 x)

/-- What evaluate comes to. -/
def EvPost (c : Cx) (w : World) (tv lv : Value) (r : Out × Sh) (e : Ending) (w' : World) : Prop := match r.1 with
  | .ok v => e = .returned (.int .i64 v) ∧ ∃ tv' lv' ll', ShAt c w' r.2 tv' lv' ll' ∧ Fr (ShB c tv lv) w w' ∧ Newer w tv tv' ∧ Newer w lv lv'
  | .fail k => e = failE k ∧ ∃ tv' lv' ll', ShAt c w' r.2 tv' lv' ll' ∧ Fr (ShB c tv lv) w w'
  | .long => e = longE ∧ Fr (ShB c tv lv) w w'

/-- What was told, and the log, do not grow beyond all bounds. -/
def Lim (sh : Sh) : Prop := sh.told.length + sh.left.toNat ≤ 1000000 ∧ sh.log.length + sh.left.toNat ≤ 1000000

/-- What evaluate comes to, with less than N instructions left. -/
def EvOK (c : Cx) (N : Nat) : Prop := ∀ (w : World) (sh : Sh) (tv lv : Value) (ll : List LEnt) (fn : Nat) (y : LFn) (args : List Int) (A : Option Addr) (ac : Nat) (path : List Int) (pA : Option Addr) (pc : Nat) (futs : List (Bool × Int)),
  ShAt c w sh tv lv ll → sh.left.toNat < N → c.L[fn]? = some y → IntsA w A args → args.length ≤ 8 → PInts w pA path → (path.length : Int) ≤ c.dep → path.length ≤ pc → futs.length = 4 → Lim (enter sh path) →
  Calls Tryd.prog 25 #[.pointer (some ⟨c.W, 0, none⟩), .int .i64 fn, .slice A args.length ac, .slice pA path.length pc, .agg (futC futs).toArray] w
    (EvPost c w tv lv (runF (fns c.L) c.bud c.dep y.f.code path sh.log.length (newTk args futs) (enter sh path)))

def BgB (c : Cx) (i : Ti) (tv lv : Value) (k : Nat) : Prop := k = i.g ∨ ShB c tv lv k
/-- What begin comes to. -/
def BgPost (c : Cx) (i : Ti) (w : World) (t : Tk) (sv tv lv : Value) (r : Out × Sh) (e : Ending) (w' : World) : Prop := match r.1 with
  | .ok v => e = .returned (.int .i64 v) ∧ ∃ tv' lv' ll', ShAt c w' r.2 tv' lv' ll' ∧ TkAt c i w' { t with kids := t.kids + 1 } sv false 0 ∧ Fr (BgB c i tv lv) w w' ∧ Newer w tv tv' ∧ Newer w lv lv'
  | .fail k => e = failE k ∧ ∃ tv' lv' ll', ShAt c w' r.2 tv' lv' ll' ∧ Fr (BgB c i tv lv) w w'
  | .long => e = longE ∧ Fr (BgB c i tv lv) w w'

theorem clip_any (w : World) (A : Option Addr) (n cp : Nat) (h : n ≤ cp) (_hn : n ≤ 1000000) : Calls Tryd.prog 57 #[.slice A n cp] w fun e w' => e = .returned (.slice A n n) ∧ w' = w := by
  have h1 : (n : Int) ≤ (cp : Int) := by omega
  go_enter Tryd.func57, Tryd.ntmps57
  go_wp2_with fail
  go_ret
  exact ⟨rfl, rfl⟩
theorem info_int : (Tryd.prog.info? 3).map (fun i => (i.zero, i.size, i.bytes)) = some (some (.int .i64 0), 1, 8) := by kernel_rfl

theorem PInts.of_own {w : World} {base n : Nat} {v : Value} {xs : List Int} (h : w.ownsRow base 3 1 v n (ints xs)) : ∃ A cp, v = .slice A xs.length cp ∧ xs.length ≤ cp ∧ PInts w A xs := by
  have hl : xs.length = n := by have := h.1; simpa using this
  rcases h.2 with ⟨rfl, h0⟩ | ⟨g, cap, cur, rfl, _, hh, h1, _, h3, h4⟩
  · exact ⟨none, 0, by rw [hl, h0], by omega, fun hp => by omega⟩
  · refine ⟨_, cap, by rw [hl], by omega, fun _ => ⟨g, cur, rfl, hh, fun j x hx => ?_⟩⟩
    have hj := (List.getElem?_eq_some_iff.1 hx).1
    have e : (ints xs)[j]? = some (.int .i64 x) := by rw [List.getElem?_map, hx]; rfl
    rw [← h4, List.getElem?_take, if_pos (by omega)] at e
    rw [← Array.getElem?_toList]
    exact e

theorem regs_ints {c : Cx} {i : Ti} {w : World} {t : Tk} {sv : Value} {ov : Bool} {v : Int} (hT : TkAt c i w t sv ov v) (b n : Nat) (hb : b + n ≤ 8) : IntsA w (some ⟨i.g, 1 + b, none⟩) ((t.regs.drop b).take n) := fun _ =>
  ⟨i.g, 1 + b, rfl, fun j x hx => by
    rw [List.getElem?_take] at hx
    split at hx
    · rename_i hj
      rw [List.getElem?_drop] at hx
      rw [hT.blk.cell, Nat.add_assoc, tk_reg hT.r8 (b + j) (by omega)]
      unfold reg
      rw [List.getD_eq_getElem?_getD, hx]; rfl
    · cases hx⟩

set_option maxHeartbeats 8000000 in
set_option maxRecDepth 100000 in
theorem begin_deep (c : Cx) (i : Ti) (w : World) (t : Tk) (sv tv lv : Value) (sh : Sh) (ll : List LEnt) (hT : TkAt c i w t sv false 0) (hS : ShAt c w sh tv lv ll) (x : Ins) (op a b cc : Nat) (hx : InsOk (fns c.L) i.code.length x op a b cc) (hop : op = 11 ∨ op = 13)
    (_hpl : i.path.length ≤ 30 ∧ (i.path.length : Int) ≤ c.dep) (_hk : t.kids ≤ 1000000) (har : ∀ y ∈ c.L, 0 ≤ y.f.arity ∧ y.f.arity ≤ 4) (hE : EvOK c (sh.left.toNat + 1)) (_hLim : sh.told.length + sh.left.toNat ≤ 1000000 ∧ sh.log.length + 1 + sh.left.toNat ≤ 1000000) (hd : (i.path.length : Int) = c.dep) :
    Calls Tryd.prog 53 #[.pointer (some ⟨i.g, 0, none⟩), .agg #[.int .i64 op, .int .i64 a, .int .i64 b, .int .i64 cc, .int .i64 x.k]] w
      (BgPost c i w t sv tv lv (.fail 4, sh)) := by
  obtain ⟨g, hg⟩ : ∃ g, g = i.g := ⟨_, rfl⟩
  obtain ⟨Wb, hWb⟩ : ∃ Wb, Wb = c.W := ⟨_, rfl⟩
  rw [← hg]
  have HG := Lib.hid hg
  have HWb := Lib.hid hWb
  have HT := Lib.hid hT
  have HS0 := Lib.hid hS
  have HE := Lib.hid hE
  have HX := Lib.hid hx
  obtain ⟨hcL, harb⟩ := hx.fn hop
  rw [show (fns c.L).length = c.L.length by simp [fns]] at hcL
  have hb8 := hx.b8
  obtain ⟨y, hy⟩ : ∃ y, c.L[cc]? = some y := ⟨_, List.getElem?_eq_getElem hcL⟩
  obtain ⟨ar, hya⟩ := Int.eq_ofNat_of_zero_le (har y (List.mem_of_getElem? hy)).1
  have hal := (har y (List.mem_of_getElem? hy)).2
  have HAR : Hid (arityAt (fns c.L) x.c = ar) := Lib.hid (by unfold arityAt; rw [hx.ec, Int.toNat_natCast, fns, List.getElem?_map, hy]; exact hya)
  have harb' : ar + b ≤ 8 := by have := HAR.out; rw [hx.ec] at this; rw [this] at harb; simpa using harb
  have HY := Lib.hid hy
  have HYA := Lib.hid hya
  clear hT hS hg hWb hE hx hy har harb hya
  go_enter Tryd.func53, Tryd.ntmps53
  have hgl := HT.out.blk.lt
  have hWl := HS0.out.blk.lt
  rw [← HG.out] at hgl
  rw [← HWb.out] at hWl
  have BT0 := HT.out.blk
  rw [← HG.out] at BT0
  have c9 : w.cell? ⟨g, 9, none⟩ = some (.pointer (some ⟨Wb, 0, none⟩)) := by rw [BT0.cell, HWb.out]; exact (tk_at HT.out.r8 HT.out.f4).1
  clear BT0
  go_wp2_with fail
  generalize hW : w.alloc (.cells _ 55) = W
  have hFW : Fr (fun _ => False) w W := by rw [← hW]; exact (Fr.refl _ _).alloc _
  have B2 : Blk W w.heap.size 55 #[.int .i64 op, .int .i64 a, .int .i64 b, .int .i64 cc, .int .i64 x.k] := by rw [← hW]; exact Blk.new _ _ _
  have hWs : W.heap.size = w.heap.size + 1 := by rw [← hW]; simp
  have HTW := Lib.hid (HT.out.keep hFW (fun _ h => h.elim))
  have HSW := Lib.hid (HS0.out.keep hFW (fun _ h => h.elim))
  have BT := HTW.out.blk
  have BS := HSW.out.blk
  rw [← HG.out] at BT
  rw [← HWb.out] at BS
  have c9' : W.cell? ⟨g, 9, none⟩ = some (.pointer (some ⟨Wb, 0, none⟩)) := by rw [BT.cell, HWb.out]; exact (tk_at HTW.out.r8 HTW.out.f4).1
  have c11 : W.cell? ⟨g, 11, none⟩ = some (.slice i.pA i.path.length i.pc) := by rw [BT.cell]; exact (tk_at HTW.out.r8 HTW.out.f4).2.2.1
  have c13 : W.cell? ⟨g, 13, none⟩ = some (.int .i64 t.kids) := by rw [BT.cell]; exact (tk_at HTW.out.r8 HTW.out.f4).2.2.2.2.1
  have s0 : W.cell? ⟨Wb, 0, none⟩ = some (.slice c.PA c.L.length c.pc) := by rw [BS.cell]; rfl
  have s2 : W.cell? ⟨Wb, 2, none⟩ = some (.int .i64 c.dep) := by rw [BS.cell]; rfl
  have d1 : W.cell? ⟨w.heap.size, 1, none⟩ = some (.int .i64 a) := by rw [B2.cell]; rfl
  have d2 : W.cell? ⟨w.heap.size, 2, none⟩ = some (.int .i64 b) := by rw [B2.cell]; rfl
  have d3 : W.cell? ⟨w.heap.size, 3, none⟩ = some (.int .i64 cc) := by rw [B2.cell]; rfl
  have HFW := Lib.hid hFW
  have HBT := Lib.hid BT
  have HB2 := Lib.hid B2
  have HWS := Lib.hid hWs
  clear hW hFW B2 BT BS hWs c9
  have hd' : ((i.path.length : Int) == c.dep) = true := by simpa using hd
  rw [← hd] at s2
  clear hd
  go_quiet (fail)
  go_wp2_with fail
  refine ⟨rfl, rfl, tv, lv, ll, HSW.out.keep ((Fr.refl (fun _ => False) W).drewN _) (fun _ h => h.elim), ?_⟩
  exact (HFW.out.mono (fun _ h => h.elim)).drewN _

set_option maxHeartbeats 8000000 in
set_option maxRecDepth 100000 in
theorem begin_go (c : Cx) (i : Ti) (w : World) (t : Tk) (sv tv lv : Value) (sh : Sh) (ll : List LEnt) (hT : TkAt c i w t sv false 0) (hS : ShAt c w sh tv lv ll) (x : Ins) (op a b cc : Nat) (hx : InsOk (fns c.L) i.code.length x op a b cc) (hop : op = 11 ∨ op = 13)
    (hpl : i.path.length ≤ 30 ∧ (i.path.length : Int) ≤ c.dep) (hk : t.kids ≤ 1000000) (har : ∀ y ∈ c.L, 0 ≤ y.f.arity ∧ y.f.arity ≤ 4) (hE : EvOK c (sh.left.toNat + 1)) (hLim : sh.told.length + sh.left.toNat ≤ 1000000 ∧ sh.log.length + 1 + sh.left.toNat ≤ 1000000) (hd : ¬ (i.path.length : Int) = c.dep) :
    Calls Tryd.prog 53 #[.pointer (some ⟨i.g, 0, none⟩), .agg #[.int .i64 op, .int .i64 a, .int .i64 b, .int .i64 cc, .int .i64 x.k]] w
      (BgPost c i w t sv tv lv (kidR (fns c.L) c.bud c.dep i.path x t sh)) := by
  obtain ⟨r, hr⟩ : ∃ r, kidR (fns c.L) c.bud c.dep i.path x t sh = r := ⟨_, rfl⟩
  rw [hr]
  have HR := Lib.hid hr
  clear hr
  obtain ⟨g, hg⟩ : ∃ g, g = i.g := ⟨_, rfl⟩
  obtain ⟨Wb, hWb⟩ : ∃ Wb, Wb = c.W := ⟨_, rfl⟩
  rw [← hg]
  have HG := Lib.hid hg
  have HWb := Lib.hid hWb
  have HT := Lib.hid hT
  have HS0 := Lib.hid hS
  have HE := Lib.hid hE
  have HX := Lib.hid hx
  obtain ⟨hcL, harb⟩ := hx.fn hop
  rw [show (fns c.L).length = c.L.length by simp [fns]] at hcL
  have hb8 := hx.b8
  obtain ⟨y, hy⟩ : ∃ y, c.L[cc]? = some y := ⟨_, List.getElem?_eq_getElem hcL⟩
  obtain ⟨ar, hya⟩ := Int.eq_ofNat_of_zero_le (har y (List.mem_of_getElem? hy)).1
  have hal := (har y (List.mem_of_getElem? hy)).2
  have HAR : Hid (arityAt (fns c.L) x.c = ar) := Lib.hid (by unfold arityAt; rw [hx.ec, Int.toNat_natCast, fns, List.getElem?_map, hy]; exact hya)
  have harb' : ar + b ≤ 8 := by have := HAR.out; rw [hx.ec] at this; rw [this] at harb; simpa using harb
  have HY := Lib.hid hy
  have HYA := Lib.hid hya
  clear hT hS hg hWb hE hx hy har harb hya
  go_enter Tryd.func53, Tryd.ntmps53
  have hgl := HT.out.blk.lt
  have hWl := HS0.out.blk.lt
  rw [← HG.out] at hgl
  rw [← HWb.out] at hWl
  have BT0 := HT.out.blk
  rw [← HG.out] at BT0
  have c9 : w.cell? ⟨g, 9, none⟩ = some (.pointer (some ⟨Wb, 0, none⟩)) := by rw [BT0.cell, HWb.out]; exact (tk_at HT.out.r8 HT.out.f4).1
  clear BT0
  go_wp2_with fail
  generalize hW : w.alloc (.cells _ 55) = W
  have hFW : Fr (fun _ => False) w W := by rw [← hW]; exact (Fr.refl _ _).alloc _
  have B2 : Blk W w.heap.size 55 #[.int .i64 op, .int .i64 a, .int .i64 b, .int .i64 cc, .int .i64 x.k] := by rw [← hW]; exact Blk.new _ _ _
  have hWs : W.heap.size = w.heap.size + 1 := by rw [← hW]; simp
  have HTW := Lib.hid (HT.out.keep hFW (fun _ h => h.elim))
  have HSW := Lib.hid (HS0.out.keep hFW (fun _ h => h.elim))
  have BT := HTW.out.blk
  have BS := HSW.out.blk
  rw [← HG.out] at BT
  rw [← HWb.out] at BS
  have c9' : W.cell? ⟨g, 9, none⟩ = some (.pointer (some ⟨Wb, 0, none⟩)) := by rw [BT.cell, HWb.out]; exact (tk_at HTW.out.r8 HTW.out.f4).1
  have c11 : W.cell? ⟨g, 11, none⟩ = some (.slice i.pA i.path.length i.pc) := by rw [BT.cell]; exact (tk_at HTW.out.r8 HTW.out.f4).2.2.1
  have c13 : W.cell? ⟨g, 13, none⟩ = some (.int .i64 t.kids) := by rw [BT.cell]; exact (tk_at HTW.out.r8 HTW.out.f4).2.2.2.2.1
  have s0 : W.cell? ⟨Wb, 0, none⟩ = some (.slice c.PA c.L.length c.pc) := by rw [BS.cell]; rfl
  have s2 : W.cell? ⟨Wb, 2, none⟩ = some (.int .i64 c.dep) := by rw [BS.cell]; rfl
  have d1 : W.cell? ⟨w.heap.size, 1, none⟩ = some (.int .i64 a) := by rw [B2.cell]; rfl
  have d2 : W.cell? ⟨w.heap.size, 2, none⟩ = some (.int .i64 b) := by rw [B2.cell]; rfl
  have d3 : W.cell? ⟨w.heap.size, 3, none⟩ = some (.int .i64 cc) := by rw [B2.cell]; rfl
  have HFW := Lib.hid hFW
  have HBT := Lib.hid BT
  have HB2 := Lib.hid B2
  have HWS := Lib.hid hWs
  clear hW hFW B2 BT BS hWs c9
  have hd' : ((i.path.length : Int) == c.dep) = false := by simpa using hd
  have hdd : (i.path.length : Int) + 1 ≤ c.dep := by omega
  clear hd
  obtain ⟨pb, poff, hPA, _, pa0, _, _⟩ := HSW.out.prog.at_ HY.out
  rw [HYA.out] at pa0
  rw [hPA] at s0
  have HPA := Lib.hid hPA
  clear hPA
  have i1 : (0 : Int) ≤ (b : Int) := by omega
  have i2 : (0 : Int) ≤ (cc : Int) := by omega
  have i3 : (cc : Int) < (c.L.length : Int) := by omega
  have i4 : (0 : Int) ≤ (b : Int) + (ar : Int) := by omega
  have i5 : (b : Int) + (ar : Int) ≤ 8 := by omega
  have i6 : (b : Int) ≤ (b : Int) + (ar : Int) := by omega
  have w1 : IntKind.i64.wrap ((b : Int) + (ar : Int)) = (b : Int) + (ar : Int) := IntWalk.i64_in _ (by omega)
  go_quiet (fail)
  go_wp2_with fail
  go_quiet (fail)
  go_wp2_with fail
  rw [Nat.add_sub_cancel_left]
  generalize hW2 : (W.drewN _).drewN _ = W2
  have hF2 : Fr (fun _ => False) W W2 := by rw [← hW2]; exact ((Fr.refl _ _).drewN _).drewN _
  have e11 : W2.cell? ⟨g, 11, none⟩ = some (.slice i.pA i.path.length i.pc) := hF2.held c11 (fun h => h)
  have e13 : W2.cell? ⟨g, 13, none⟩ = some (.int .i64 t.kids) := hF2.held c13 (fun h => h)
  have hs2 : w.heap.size < W2.heap.size := by rw [← hW2]; have := HWS.out; show w.heap.size < W.heap.size; omega
  have HF2 := Lib.hid (HFW.out.trans hF2)
  have HT2 := Lib.hid (HTW.out.keep hF2 (fun _ h => h.elim))
  have HS2 := Lib.hid (HSW.out.keep hF2 (fun _ h => h.elim))
  have HB22 := Lib.hid (HB2.out.fr hF2 (fun h => h))
  clear hW2 hF2 c9' c11 c13 s0 s2 d1 d2 d3 pa0 hd' HTW HSW HB2 HBT HFW
  have hcl := fun W' => clip_any W' i.pA i.path.length i.pc HT2.out.pcap (by omega)
  have HCL := Lib.hid hcl
  clear hcl
  obtain ⟨i0, hi0, hz0, hz1, hz2⟩ := info3 info_int
  have key : Hid (∀ (w3 : World), Fr (fun _ => False) W2 w3 → w3.heap.size = W2.heap.size + 1 → w3.heap[W2.heap.size]? = some (.cells #[.int .i64 t.kids] 3) → ∀ (v' : Value) (w4 : World), w4.ownsRow w3.heap.size 3 1 v' (i.path.length + 1) (ints i.path ++ [.int .i64 t.kids]) → w3.grownBy w4 none →
      ∃ A cp, v' = .slice A (i.path.length + 1) cp ∧ i.path.length + 1 ≤ cp ∧ PInts w4 A (i.path ++ [(t.kids : Int)]) ∧ Fr (fun _ => False) W2 w4 ∧ w.heap.size < w4.heap.size) := Lib.hid (by
    intro w3 hF3 _ _ v' w4 ho hg4
    have ho' : w4.ownsRow w3.heap.size 3 1 v' (i.path.length + 1) (ints (i.path ++ [(t.kids : Int)])) := by
      rw [show ints (i.path ++ [(t.kids : Int)]) = ints i.path ++ [.int .i64 t.kids] by simp [ints]]; exact ho
    obtain ⟨A, cp, hv, hl, hp⟩ := PInts.of_own ho'
    rw [show (i.path ++ [(t.kids : Int)]).length = i.path.length + 1 by simp] at hv hl
    have hF4 := hF3.trans ((Fr.grown hg4).mono (fun _ h => by cases h))
    exact ⟨A, cp, hv, hl, hp, hF4, by have := hF4.size; omega⟩)
  have hold : Hid (∀ (w3 : World), Fr (fun _ => False) W2 w3 → ∀ b', i.pA = some b' → ∀ (j : Nat) (u : Value), (ints i.path)[j]? = some u → w3.cell? (b'.add j) = some u) := Lib.hid (by
    intro w3 hF3 b' hb' j u hu
    have hj : j < i.path.length := by have := (List.getElem?_eq_some_iff.1 hu).1; simpa using this
    obtain ⟨pb', cs', hpa, hblk, hcs⟩ := HT2.out.pth (by omega)
    rw [hpa] at hb'
    injection hb' with hb'
    subst hb'
    rw [List.getElem?_map] at hu
    cases hxj : i.path[j]? with
    | none => rw [hxj] at hu; cases hu
    | some z =>
      rw [hxj] at hu
      cases hu
      have hadd : (⟨pb', 0, none⟩ : Addr).add j = ⟨pb', j, none⟩ := by unfold Addr.add; split <;> simp_all
      rw [hadd, (hblk.fr hF3 (fun h => h)).cell]
      exact hcs j z hxj)
  have hnone : Hid (i.pA = none → i.path.length = 0 ∧ i.path.length = 0) := Lib.hid (fun h => by
    rcases Nat.eq_zero_or_pos i.path.length with h0 | h0
    · exact ⟨h0, h0⟩
    · obtain ⟨_, _, hpa, _⟩ := HT2.out.pth h0
      rw [h] at hpa
      cases hpa)
  have fin : Hid (∀ (A : Option Addr) (cp : Nat) (w4 : World), i.path.length + 1 ≤ cp → PInts w4 A (i.path ++ [(t.kids : Int)]) → Fr (fun _ => False) W2 w4 → w.heap.size < w4.heap.size → w4.cell? ⟨g, 13, none⟩ = some (.int .i64 t.kids)) := Lib.hid (fun A cp w4 _ _ hF4 _ => hF4.held e13 (fun h => h))
  have hF3 : Fr (fun _ => False) W2 (W2.alloc (.cells #[.int .i64 t.kids] 3)).drew := ((Fr.refl _ _).alloc _).drew
  have HS3 : (fun w' : World => w'.cell? ⟨g, 11, none⟩ = some (.slice i.pA i.path.length i.pc) ∧ w'.cell? ⟨g, 13, none⟩ = some (.int .i64 t.kids)) (W2.alloc (.cells #[.int .i64 t.kids] 3)).drew := ⟨hF3.held e11 (fun h => h), hF3.held e13 (fun h => h)⟩
  have HF3 := Lib.hid hF3
  clear hF3
  refine region_K 9 (fun w' => w'.cell? ⟨g, 11, none⟩ = some (.slice i.pA i.path.length i.pc) ∧ w'.cell? ⟨g, 13, none⟩ = some (.int .i64 t.kids)) (by kernel_rfl) ?_
  have HS : (fun w' : World => w'.cell? ⟨g, 11, none⟩ = some (.slice i.pA i.path.length i.pc) ∧ w'.cell? ⟨g, 13, none⟩ = some (.int .i64 t.kids)) W2.drew := ⟨e11, e13⟩
  refine AnyK.take (i := 0) rfl (by decide) (by kernel_rfl) (by kernel_rfl) (by kernel_rfl) (fun _ _ _ _ h => h) HS (fun K hK => ?_)
  go_simp
  refine hK.out _ ⟨_, by rfl, Or.inl ⟨by rfl, by intro w hSw; (try dsimp only at hSw); go_simp⟩, ?_⟩
  clear hK K
  refine AnyK.take (i := 1) rfl (by decide) (by kernel_rfl) (by kernel_rfl) (by kernel_rfl) (fun _ _ _ _ h => h) HS (fun K hK => ?_)
  go_simp
  refine hK.out _ ⟨_, by rfl, Or.inl ⟨by rfl, by intro w hSw; (try dsimp only at hSw); go_simp⟩, ?_⟩
  clear hK K
  refine AnyK.take (i := 2) rfl (by decide) (by kernel_rfl) (by kernel_rfl) (by kernel_rfl) (fun _ _ _ _ h => h) HS (fun K hK => ?_)
  go_simp
  refine hK.out _ ⟨_, by rfl, Or.inl ⟨by rfl, by intro w hSw; (try dsimp only at hSw); go_simp⟩, ?_⟩
  clear hK K
  refine AnyK.take (i := 3) rfl (by decide) (by kernel_rfl) (by kernel_rfl) (by kernel_rfl) (fun _ _ _ _ h => h) HS (fun K hK => ?_)
  go_simp
  refine hK.out _ ⟨_, by rfl, Or.inl ⟨by rfl, by intro w hSw; (try dsimp only at hSw); go_simp⟩, ?_⟩
  clear hK K
  refine AnyK.take (i := 5) rfl (by decide) (by kernel_rfl) (by kernel_rfl) (by kernel_rfl) (fun _ _ _ _ h => h) HS (fun K hK => ?_)
  go_simp
  refine hK.out _ ⟨_, by rfl, Or.inl ⟨by rfl, by intro w hSw; (try dsimp only at hSw); go_simp⟩, ?_⟩
  clear hK K
  refine AnyK.take (i := 6) rfl (by decide) (by kernel_rfl) (by kernel_rfl) (by kernel_rfl) (fun _ _ _ _ h => h) HS (fun K hK => ?_)
  go_simp
  refine hK.out _ ⟨_, by rfl, Or.inl ⟨by rfl, by intro w hSw; (try dsimp only at hSw); go_simp⟩, ?_⟩
  clear hK K
  refine AnyK.take (i := 7) rfl (by decide) (by kernel_rfl) (by kernel_rfl) (by kernel_rfl) (fun _ _ _ _ h => h) HS (fun K hK => ?_)
  go_simp
  refine hK.out _ ⟨_, by rfl, Or.inl ⟨by rfl, by intro w hSw; (try dsimp only at hSw); go_simp⟩, ?_⟩
  clear hK K
  refine AnyK.take (i := 8) rfl (by decide) (by kernel_rfl) (by kernel_rfl) (by kernel_rfl) (fun _ _ _ _ h => h) HS (fun K hK => ?_)
  go_simp
  refine hK.out _ ⟨_, by rfl, Or.inl ⟨by rfl, by intro w hSw; (try dsimp only at hSw); go_simp⟩, ?_⟩
  clear hK K
  refine AnyK.two (i := 4) (j := 9) rfl rfl (by kernel_rfl) (fun K hK => ?_) (fun K hK => ?_)
  · go_simp
    refine (HCL.out _).mono ?_
    rintro e w' ⟨rfl, rfl⟩
    refine hK.out _ _ (fun _ => HS) ?_
    clear hK K
    refine AnyK.one (i := 9) rfl (by kernel_rfl) (fun K hK => ?_)
    go_simp
    refine hK.out _ _ (fun _ => HS3) ?_
    clear hK K
    refine AnyK.one (i := 10) rfl (by kernel_rfl) (fun K hK => ?_)
    refine step_append_grows (by rfl) _ _ _ (by rfl) 3 i0 _ 1 8 Tryd.underlying47 hi0 hz0 hz1 hz2 rfl (by omega) i.pA i.path.length i.path.length (ints i.path) (by rfl) hnone.out (by simp) (hold.out _ HF3.out) ⟨W2.heap.size, 0, none⟩ 1 1 [.int .i64 t.kids] (by rfl) (by rfl) (World.news_of_block (cs := #[.int .i64 t.kids]) (t := 3) (fr := (0, 0)) (heap_alloc_new W2 _)) (by simp [Value.oneCell']) (by omega) (by unfold maxLen; omega) (by omega) ?_
    intro v' w4 hown4 hg4
    obtain ⟨A', cp', hv', hcp, hP4, hF4, hsz4⟩ := key.out _ HF3.out (by simp) (heap_alloc_new W2 _) v' w4 hown4 hg4
    subst hv'
    have k13 : w4.cell? ⟨g, 13, none⟩ = some (.int .i64 t.kids) := hF4.held e13 (fun h => h)
    have HS4 : (fun w' : World => w'.cell? ⟨g, 11, none⟩ = some (.slice i.pA i.path.length i.pc) ∧ w'.cell? ⟨g, 13, none⟩ = some (.int .i64 t.kids)) w4 := ⟨hF4.held e11 (fun h => h), k13⟩
    refine hK.out _ _ (fun _ => HS4) ?_
    clear hK K hown4 hg4
    refine AnyK.one (i := 11) rfl (by kernel_rfl) (fun K hK => ?_)
    go_simp
    refine hK.out _ _ (fun _ => HS4) ?_
    clear hK K
    refine AnyK.done (by kernel_rfl) ?_ _
    have HT4 := Lib.hid (HT2.out.keep hF4 (fun _ h => h.elim))
    have HS4' := Lib.hid (HS2.out.keep hF4 (fun _ h => h.elim))
    have HB4 := Lib.hid (HB22.out.fr hF4 (fun h => h))
    have HP4 := Lib.hid hP4
    have HF4 := Lib.hid (HF2.out.trans hF4)
    have BT4 := HT4.out.blk
    rw [← HG.out] at BT4
    have z13 := BT4.frozen 13
    have HBT4 := Lib.hid BT4
    have hgw4 : g < w4.heap.size := BT4.lt
    clear hP4 hF4 HS4 BT4 e11 e13 HS HS3
    go_wp2_with fail
    generalize hW5 : w4.setCell ⟨g, 13, none⟩ _ = W5
    have hF5 : Fr (At g) w4 W5 := by rw [← hW5]; exact (Fr.refl (At g) w4).setCell (p := ⟨g, 13, none⟩) (.inl rfl) _
    have hB5 : Blk W5 g 106 (tkL c.W (.slice i.CA i.code.length i.cc) (.slice i.pA i.path.length i.pc) i.me { t with kids := t.kids + 1 } sv false 0).toArray := by
      rw [← hW5]
      have := HBT4.out.set_ 13 (.int .i64 ((t.kids : Int) + 1))
      rw [tk_setKids HT4.out.r8 HT4.out.f4 (t.kids + 1) _ (by simp)] at this
      exact this
    have hF5' : Fr (At i.g) w4 W5 := by rw [← HG.out]; exact hF5
    have HT5 := Lib.hid (HT4.out.turn (t' := { t with kids := t.kids + 1 }) hF5' (by rw [← HG.out]; exact hB5) HT4.out.r8 HT4.out.f4 rfl)
    have HS5 := Lib.hid (HS4'.out.keep hF5' (fun k hk => by
      have hk' : k = i.g := hk
      subst hk'
      exact Typed.blk HT4.out.blk HT4.out.low (.inl rfl)))
    have hB25 := HB4.out.fr hF5 (fun h => by have h' : w.heap.size = g := h; omega)
    have m3 : W5.cell? ⟨w.heap.size, 3, none⟩ = some (.int .i64 cc) := by rw [hB25.cell]; rfl
    obtain ⟨f0, f1, f2, f3, hfu⟩ := list4 HT4.out.f4
    have fc : ∀ j u, (futC [f0, f1, f2, f3])[j]? = some u → W5.cell? ⟨g, 14 + j, none⟩ = some u := fun j u hu => by
      have hj : j < 8 := (List.getElem?_eq_some_iff.1 hu).1
      rw [hB5.cell, tk_futs (t := { t with kids := t.kids + 1 }) HT4.out.r8 HT4.out.f4 j hj, show ({ t with kids := t.kids + 1 } : Tk).futs = [f0, f1, f2, f3] from hfu]
      exact hu
    have m14 := fc 0 _ rfl
    have m15 := fc 1 _ rfl
    have m16 := fc 2 _ rfl
    have m17 := fc 3 _ rfl
    have m18 := fc 4 _ rfl
    have m19 := fc 5 _ rfl
    have m20 := fc 6 _ rfl
    have m21 := fc 7 _ rfl
    have HP5 : Hid (PInts W5 A' (i.path ++ [(t.kids : Int)])) := Lib.hid (HP4.out.fr hF5 (fun k cs hk h => by
      have h' : k = g := h
      subst h'
      exact Blk.ne_ hk HBT4.out (by decide) rfl))
    have hargs := regs_ints HT5.out b ar (by omega)
    have hal5 : ((({ t with kids := t.kids + 1 } : Tk).regs.drop b).take ar).length = ar := by
      rw [List.length_take, List.length_drop, HT4.out.r8]; omega
    have hS5d := HS5.out.keep ((Fr.refl (fun _ => False) W5).drew) (fun _ h => h.elim)
    have hEv := HE.out W5.drew sh tv lv ll cc y ((({ t with kids := t.kids + 1 } : Tk).regs.drop b).take ar) (some ⟨i.g, 1 + b, none⟩) (8 - b) (i.path ++ [(t.kids : Int)]) A' cp' t.futs hS5d (by omega) HY.out hargs (by omega) HP5.out (by simp; exact hdd) (by simp; omega) HT4.out.f4 ⟨hLim.1, by simp [enter]; have := hLim.2; omega⟩
    rw [hal5, ← HG.out, ← HWb.out, show (i.path ++ [(t.kids : Int)]).length = i.path.length + 1 by simp, hfu] at hEv
    have hkid : runF (fns c.L) c.bud c.dep y.f.code (i.path ++ [(t.kids : Int)]) sh.log.length (newTk ((({ t with kids := t.kids + 1 } : Tk).regs.drop b).take ar) [f0, f1, f2, f3]) (enter sh (i.path ++ [(t.kids : Int)])) = kidR (fns c.L) c.bud c.dep i.path x t sh := by
      unfold kidR argsOf
      rw [HAR.out, Int.toNat_natCast, HX.out.eb, Int.toNat_natCast, HX.out.ec, Int.toNat_natCast, hfu]
      congr 1
      unfold codeAt
      rw [fns, List.getElem?_map, HY.out]
      rfl
    rw [hkid] at hEv
    have HEV := Lib.hid hEv
    have hF05 : Fr (BgB c i tv lv) w W5 := (HF4.out.mono (fun _ h => h.elim)).trans (hF5'.mono (fun k h => .inl h))
    have HF05 := Lib.hid hF05
    have HFU := Lib.hid hfu
    have hsz5 : w.heap.size ≤ W5.heap.size := hF05.size
    clear hEv hkid hargs hal5 fc hfu hF05 hF5 hF5' hB5 hB25 hW5 k13 z13 HBT4
    rw [HR.out] at HEV
    have HS5D := Lib.hid hS5d
    clear hS5d
    go_still_tail 9, (by kernel_rfl)
    change wpList _ _ _ _ _ (World.drew _)
    go_wp2_with fail
    refine HEV.out.mono ?_
    intro e w6 hp
    have hT6 : ∀ w6, Fr (ShB c tv lv) W5.drew w6 → TkAt c i w6 { t with kids := t.kids + 1 } sv false 0 := fun w6 hF6 => (HT5.out.keep ((Fr.refl (fun _ => False) W5).drew) (fun _ h => h.elim)).keep hF6 (fun k hk => ShB.typed HS5D.out hk)
    have HT6 := Lib.hid hT6
    have hF6' : ∀ w6, Fr (ShB c tv lv) W5.drew w6 → Fr (BgB c i tv lv) w w6 := fun w6 hF6 => HF05.out.drew.trans (hF6.mono (fun k h => .inr h))
    have HF6 := Lib.hid hF6'
    have hnw : ∀ v v', Newer W5.drew v v' → Newer w v v' := fun v v' h k hk => (h k hk).imp id (fun h' => by have : W5.heap.size ≤ k := h'; omega)
    have HNW := Lib.hid hnw
    clear hT6 hF6' hnw
    obtain ⟨o, sh2⟩ := r
    cases o with
    | ok v =>
      obtain ⟨rfl, tv', lv', ll', hS6, hF6, n1, n2⟩ := hp
      have HS6 := Lib.hid hS6
      have HF6x := Lib.hid hF6
      have HN1 := Lib.hid n1
      have HN2 := Lib.hid n2
      clear hS6 hF6 n1 n2
      go_wp2_with fail
      go_ret
      exact ⟨rfl, tv', lv', ll', HS6.out, HT6.out _ HF6x.out, HF6.out _ HF6x.out, HNW.out _ _ HN1.out, HNW.out _ _ HN2.out⟩
    | fail k' =>
      obtain ⟨rfl, tv', lv', ll', hS6, hF6⟩ := hp
      have HS6 := Lib.hid hS6
      have HF6x := Lib.hid hF6
      clear hS6 hF6
      go_wp2_with fail
      exact ⟨rfl, rfl, tv', lv', ll', HS6.out, HF6.out _ HF6x.out⟩
    | long =>
      obtain ⟨rfl, hF6⟩ := hp
      have HF6x := Lib.hid hF6
      clear hF6
      go_wp2_with fail
      exact ⟨rfl, rfl, HF6.out _ HF6x.out⟩
  · go_simp
    refine hK.out _ _ (fun _ => HS3) ?_
    clear hK K
    refine AnyK.one (i := 4) rfl (by kernel_rfl) (fun K hK => ?_)
    go_simp
    refine (HCL.out _).mono ?_
    rintro e w' ⟨rfl, rfl⟩
    refine hK.out _ _ (fun _ => HS3) ?_
    clear hK K
    refine AnyK.one (i := 10) rfl (by kernel_rfl) (fun K hK => ?_)
    refine step_append_grows (by rfl) _ _ _ (by rfl) 3 i0 _ 1 8 Tryd.underlying47 hi0 hz0 hz1 hz2 rfl (by omega) i.pA i.path.length i.path.length (ints i.path) (by rfl) hnone.out (by simp) (hold.out _ HF3.out) ⟨W2.heap.size, 0, none⟩ 1 1 [.int .i64 t.kids] (by rfl) (by rfl) (World.news_of_block (cs := #[.int .i64 t.kids]) (t := 3) (fr := (0, 0)) (heap_alloc_new W2 _)) (by simp [Value.oneCell']) (by omega) (by unfold maxLen; omega) (by omega) ?_
    intro v' w4 hown4 hg4
    obtain ⟨A', cp', hv', hcp, hP4, hF4, hsz4⟩ := key.out _ HF3.out (by simp) (heap_alloc_new W2 _) v' w4 hown4 hg4
    subst hv'
    have k13 : w4.cell? ⟨g, 13, none⟩ = some (.int .i64 t.kids) := hF4.held e13 (fun h => h)
    have HS4 : (fun w' : World => w'.cell? ⟨g, 11, none⟩ = some (.slice i.pA i.path.length i.pc) ∧ w'.cell? ⟨g, 13, none⟩ = some (.int .i64 t.kids)) w4 := ⟨hF4.held e11 (fun h => h), k13⟩
    refine hK.out _ _ (fun _ => HS4) ?_
    clear hK K hown4 hg4
    refine AnyK.one (i := 11) rfl (by kernel_rfl) (fun K hK => ?_)
    go_simp
    refine hK.out _ _ (fun _ => HS4) ?_
    clear hK K
    refine AnyK.done (by kernel_rfl) ?_ _
    have HT4 := Lib.hid (HT2.out.keep hF4 (fun _ h => h.elim))
    have HS4' := Lib.hid (HS2.out.keep hF4 (fun _ h => h.elim))
    have HB4 := Lib.hid (HB22.out.fr hF4 (fun h => h))
    have HP4 := Lib.hid hP4
    have HF4 := Lib.hid (HF2.out.trans hF4)
    have BT4 := HT4.out.blk
    rw [← HG.out] at BT4
    have z13 := BT4.frozen 13
    have HBT4 := Lib.hid BT4
    have hgw4 : g < w4.heap.size := BT4.lt
    clear hP4 hF4 HS4 BT4 e11 e13 HS HS3
    go_wp2_with fail
    generalize hW5 : w4.setCell ⟨g, 13, none⟩ _ = W5
    have hF5 : Fr (At g) w4 W5 := by rw [← hW5]; exact (Fr.refl (At g) w4).setCell (p := ⟨g, 13, none⟩) (.inl rfl) _
    have hB5 : Blk W5 g 106 (tkL c.W (.slice i.CA i.code.length i.cc) (.slice i.pA i.path.length i.pc) i.me { t with kids := t.kids + 1 } sv false 0).toArray := by
      rw [← hW5]
      have := HBT4.out.set_ 13 (.int .i64 ((t.kids : Int) + 1))
      rw [tk_setKids HT4.out.r8 HT4.out.f4 (t.kids + 1) _ (by simp)] at this
      exact this
    have hF5' : Fr (At i.g) w4 W5 := by rw [← HG.out]; exact hF5
    have HT5 := Lib.hid (HT4.out.turn (t' := { t with kids := t.kids + 1 }) hF5' (by rw [← HG.out]; exact hB5) HT4.out.r8 HT4.out.f4 rfl)
    have HS5 := Lib.hid (HS4'.out.keep hF5' (fun k hk => by
      have hk' : k = i.g := hk
      subst hk'
      exact Typed.blk HT4.out.blk HT4.out.low (.inl rfl)))
    have hB25 := HB4.out.fr hF5 (fun h => by have h' : w.heap.size = g := h; omega)
    have m3 : W5.cell? ⟨w.heap.size, 3, none⟩ = some (.int .i64 cc) := by rw [hB25.cell]; rfl
    obtain ⟨f0, f1, f2, f3, hfu⟩ := list4 HT4.out.f4
    have fc : ∀ j u, (futC [f0, f1, f2, f3])[j]? = some u → W5.cell? ⟨g, 14 + j, none⟩ = some u := fun j u hu => by
      have hj : j < 8 := (List.getElem?_eq_some_iff.1 hu).1
      rw [hB5.cell, tk_futs (t := { t with kids := t.kids + 1 }) HT4.out.r8 HT4.out.f4 j hj, show ({ t with kids := t.kids + 1 } : Tk).futs = [f0, f1, f2, f3] from hfu]
      exact hu
    have m14 := fc 0 _ rfl
    have m15 := fc 1 _ rfl
    have m16 := fc 2 _ rfl
    have m17 := fc 3 _ rfl
    have m18 := fc 4 _ rfl
    have m19 := fc 5 _ rfl
    have m20 := fc 6 _ rfl
    have m21 := fc 7 _ rfl
    have HP5 : Hid (PInts W5 A' (i.path ++ [(t.kids : Int)])) := Lib.hid (HP4.out.fr hF5 (fun k cs hk h => by
      have h' : k = g := h
      subst h'
      exact Blk.ne_ hk HBT4.out (by decide) rfl))
    have hargs := regs_ints HT5.out b ar (by omega)
    have hal5 : ((({ t with kids := t.kids + 1 } : Tk).regs.drop b).take ar).length = ar := by
      rw [List.length_take, List.length_drop, HT4.out.r8]; omega
    have hS5d := HS5.out.keep ((Fr.refl (fun _ => False) W5).drew) (fun _ h => h.elim)
    have hEv := HE.out W5.drew sh tv lv ll cc y ((({ t with kids := t.kids + 1 } : Tk).regs.drop b).take ar) (some ⟨i.g, 1 + b, none⟩) (8 - b) (i.path ++ [(t.kids : Int)]) A' cp' t.futs hS5d (by omega) HY.out hargs (by omega) HP5.out (by simp; exact hdd) (by simp; omega) HT4.out.f4 ⟨hLim.1, by simp [enter]; have := hLim.2; omega⟩
    rw [hal5, ← HG.out, ← HWb.out, show (i.path ++ [(t.kids : Int)]).length = i.path.length + 1 by simp, hfu] at hEv
    have hkid : runF (fns c.L) c.bud c.dep y.f.code (i.path ++ [(t.kids : Int)]) sh.log.length (newTk ((({ t with kids := t.kids + 1 } : Tk).regs.drop b).take ar) [f0, f1, f2, f3]) (enter sh (i.path ++ [(t.kids : Int)])) = kidR (fns c.L) c.bud c.dep i.path x t sh := by
      unfold kidR argsOf
      rw [HAR.out, Int.toNat_natCast, HX.out.eb, Int.toNat_natCast, HX.out.ec, Int.toNat_natCast, hfu]
      congr 1
      unfold codeAt
      rw [fns, List.getElem?_map, HY.out]
      rfl
    rw [hkid] at hEv
    have HEV := Lib.hid hEv
    have hF05 : Fr (BgB c i tv lv) w W5 := (HF4.out.mono (fun _ h => h.elim)).trans (hF5'.mono (fun k h => .inl h))
    have HF05 := Lib.hid hF05
    have HFU := Lib.hid hfu
    have hsz5 : w.heap.size ≤ W5.heap.size := hF05.size
    clear hEv hkid hargs hal5 fc hfu hF05 hF5 hF5' hB5 hB25 hW5 k13 z13 HBT4
    rw [HR.out] at HEV
    have HS5D := Lib.hid hS5d
    clear hS5d
    go_still_tail 9, (by kernel_rfl)
    change wpList _ _ _ _ _ (World.drew _)
    go_wp2_with fail
    refine HEV.out.mono ?_
    intro e w6 hp
    have hT6 : ∀ w6, Fr (ShB c tv lv) W5.drew w6 → TkAt c i w6 { t with kids := t.kids + 1 } sv false 0 := fun w6 hF6 => (HT5.out.keep ((Fr.refl (fun _ => False) W5).drew) (fun _ h => h.elim)).keep hF6 (fun k hk => ShB.typed HS5D.out hk)
    have HT6 := Lib.hid hT6
    have hF6' : ∀ w6, Fr (ShB c tv lv) W5.drew w6 → Fr (BgB c i tv lv) w w6 := fun w6 hF6 => HF05.out.drew.trans (hF6.mono (fun k h => .inr h))
    have HF6 := Lib.hid hF6'
    have hnw : ∀ v v', Newer W5.drew v v' → Newer w v v' := fun v v' h k hk => (h k hk).imp id (fun h' => by have : W5.heap.size ≤ k := h'; omega)
    have HNW := Lib.hid hnw
    clear hT6 hF6' hnw
    obtain ⟨o, sh2⟩ := r
    cases o with
    | ok v =>
      obtain ⟨rfl, tv', lv', ll', hS6, hF6, n1, n2⟩ := hp
      have HS6 := Lib.hid hS6
      have HF6x := Lib.hid hF6
      have HN1 := Lib.hid n1
      have HN2 := Lib.hid n2
      clear hS6 hF6 n1 n2
      go_wp2_with fail
      go_ret
      exact ⟨rfl, tv', lv', ll', HS6.out, HT6.out _ HF6x.out, HF6.out _ HF6x.out, HNW.out _ _ HN1.out, HNW.out _ _ HN2.out⟩
    | fail k' =>
      obtain ⟨rfl, tv', lv', ll', hS6, hF6⟩ := hp
      have HS6 := Lib.hid hS6
      have HF6x := Lib.hid hF6
      clear hS6 hF6
      go_wp2_with fail
      exact ⟨rfl, rfl, tv', lv', ll', HS6.out, HF6.out _ HF6x.out⟩
    | long =>
      obtain ⟨rfl, hF6⟩ := hp
      have HF6x := Lib.hid hF6
      clear hF6
      go_wp2_with fail
      exact ⟨rfl, rfl, HF6.out _ HF6x.out⟩

end Go.Proofs.YtbhnnnpofindiaaDoor
