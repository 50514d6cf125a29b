/-
  The statement EpochOwn holds: a worker is told its own things alone, in the order in which it retired them. No condition.
-/
import Derived.Test.YtjphmiemakmcbaaPureO
import Derived.Test.YtjphmiemakmcbaaEr1
import Derived.Test.YtjphmiemakmcbaaRows
import Derived.ProofKit
import Derived.OpenShut
import Derived.ShutString
import Derived.ChangeOld
namespace Go.Proofs.Ytjphmiemakmcbaa.epochOwn
open Go.ChangeShapes Go.WideShapes Go.ChangeAt Go.RowKit
open Go.ChangeMaps (open_string shut_string)

theorem step_app {P : Program} (w : World) {ops : Array Oper} {o : Oper} {a : Act} {K : Act → World → Prop} {R : Exit → Act → World → Prop} {E : Prop} (hgd : o.guard = none) (s x : Operand) (t : TypeId)
    (ho : o.op = .call { callee := .builtin .append, args := #[s, x], argTypes := #[t, t] })
    (base : Nat) (e : TypeId) (i : TypeInfo) (z : Value) (size bytes : Nat) (ht : P.underlying t = some (.slice e)) (hi : P.info? e = some i) (hz : i.zero = some z)
    (hsize : i.size = size) (hby : i.bytes = bytes) (hzs : z.cells.size = size) (hsz : 0 < size)
    (v : Value) (n : Nat) (xs : List Value) (hs : a.eval s = v) (hown : w.ownsRow base e size v n xs)
    (Q : Nat → Prop) (A : Option Addr) (m c : Nat) (news : List Value) (hx : a.eval x = .slice A m c) (hr : Rd w Q size A m news) (h1 : ∀ u ∈ news, u.oneCell' = true)
    (h63 : n + m ≤ maxLen) (hbytes : (n + m) * bytes ≤ 140737488355328) (hbase : base ≤ w.heap.size)
    (h : ∀ v' w', w'.ownsRow base e size v' (n + m) (xs ++ news) → w.grownBy w' v.ownBlock → (v'.ownBlock = v.ownBlock ∨ v'.ownBlock = some w.heap.size) → K (a.put o.dst v') w') :
    if Region.wanted o (yielded ops a.tmps) = true then Oper.wp P o a w K R else E := by
  have hw : Region.wanted o (yielded ops a.tmps) = true := by simp [Region.wanted, hgd]
  rw [if_pos hw]
  exact app_wp w s x t ho base e i z size bytes ht hi hz hsize hby hzs hsz v n xs hs hown Q A m c news hx hr h1 h63 hbytes hbase h
theorem ne_got : 51 ≠ 55 ∧ 51 ≠ 58 ∧ 51 ≠ 60 := by decide
theorem ne_six : 50 ≠ 55 ∧ 50 ≠ 58 ∧ 50 ≠ 60 := by decide
/-- Six rows of numbers, each by itself. -/
structure Got (w : World) (x : Nat) (gvs : List Value) (got : List (List Int)) : Prop where
  l1 : gvs.length = 6
  own : ∀ (v : Nat) (gv : Value) (g : List Int), gvs[v]? = some gv → got[v]? = some g → w.ownsRow x 3 1 gv g.length (ic g)
  dis : ∀ (i j : Nat) (gi gj : Value) (b : Nat), gvs[i]? = some gi → gvs[j]? = some gj → gi.ownBlock = some b → gj.ownBlock = some b → i = j
  blt : ∀ (i : Nat) (gi : Value) (b : Nat), gvs[i]? = some gi → gi.ownBlock = some b → b < w.heap.size
theorem Got.fr {w w' : World} {x : Nat} {gvs : List Value} {got : List (List Int)} {B : Nat → Prop} (h : Got w x gvs got) (hf : Fr B w w') (hB : ∀ (i : Nat) (gi : Value) (b : Nat), gvs[i]? = some gi → gi.ownBlock = some b → ¬ B b) : Got w' x gvs got :=
  ⟨h.l1, fun v gv g h1 h2 => own_fr (h.own v gv g h1 h2) hf (fun b hb => hB v gv b h1 hb), h.dis, fun i gi b h1 h2 => Nat.lt_of_lt_of_le (h.blt i gi b h1 h2) hf.size⟩
theorem Got.frE {w w' : World} {x b : Nat} {gvs : List Value} {got : List (List Int)} (h : Got w x gvs got) (hl : got.length = 6) (hf : FrE b w w') : Got w' x gvs got := by
  refine h.fr hf ?_
  rintro i gi bb h1 h2 ⟨_, hm⟩
  obtain ⟨g, hg⟩ := get_lt (l := got) (i := i) (by have := (List.getElem?_eq_some_iff.1 h1).1; have := h.l1; omega)
  exact own_mine (h.own i gi g h1 hg) ne_int3 bb hm h2
theorem Got.turn {w w4 W : World} {x G u : Nat} {gvs : List Value} {got : List (List Int)} {gv nv : Value} {g g' : List Int} {t : TypeId} {cs : Array Value} (h : Got w x gvs got) (hB : Blk w G t cs) (ht : 3 ≠ t) (hgv : gvs[u]? = some gv) (hg : got[u]? = some g)
    (hF : Fr (fun k => gv.ownBlock = some k) w w4) (hO : w4.ownsRow x 3 1 nv g'.length (ic g')) (hor : nv.ownBlock = gv.ownBlock ∨ ∀ b, nv.ownBlock = some b → w.heap.size ≤ b) (hS : Fr (fun q => q = G) w4 W) : Got W x (gvs.set u nv) (got.set u g') := by
  have hB4 : Blk w4 G t cs := hB.fr hF (fun he => own_ne (h.own u gv g hgv hg) hB ht he)
  have hul : u < gvs.length := (List.getElem?_eq_some_iff.1 hgv).1
  refine ⟨by rw [List.length_set]; exact h.l1, fun v a b ha hb => ?_, fun i j gi gj b hi hj hbi hbj => ?_, fun i gi b hi hb => ?_⟩
  · rcases set_at ha with ⟨rfl, rfl, _⟩ | ⟨hv, ha⟩
    · rcases set_at hb with ⟨_, rfl, _⟩ | ⟨hn, _⟩
      · exact own_fr hO hS (fun q hq he => own_ne hO hB4 ht (he ▸ hq))
      · exact absurd rfl hn
    · rw [List.getElem?_set_ne (Ne.symm hv)] at hb
      have h1 := h.own v a b ha hb
      have h2 := own_fr h1 hF (fun q hq he => hv (h.dis v u a gv q ha hgv hq he))
      exact own_fr h2 hS (fun q hq he => own_ne h2 hB4 ht (he ▸ hq))
  · rcases set_at hi with ⟨e1, e2, _⟩ | ⟨hni, hi'⟩ <;> rcases set_at hj with ⟨e3, e4, _⟩ | ⟨hnj, hj'⟩
    · rw [e1, e3]
    · rw [e2] at hbi
      rcases hor with hor | hor
      · rw [e1]
        exact h.dis _ j gv gj b hgv hj' (by rw [← hor]; exact hbi) hbj
      · have h1 := hor b hbi
        have h2 := h.blt j gj b hj' hbj
        omega
    · rw [e4] at hbj
      rcases hor with hor | hor
      · rw [e3]
        exact h.dis i _ gi gv b hi' hgv hbi (by rw [← hor]; exact hbj)
      · have h1 := hor b hbj
        have h2 := h.blt i gi b hi' hbi
        omega
    · exact h.dis i j gi gj b hi' hj' hbi hbj
  · rcases set_at hi with ⟨rfl, rfl, _⟩ | ⟨hni, hi⟩
    · exact Nat.lt_of_lt_of_le (own_lt hO b hb) hS.size
    · exact Nat.lt_of_lt_of_le (h.blt i gi b hi hb) (Nat.le_trans hF.size hS.size)

set_option maxHeartbeats 16000000 in
set_option maxRecDepth 100000 in
theorem few (c : Nat) (hc : c < 256) (ms : List Nat) (hm6 : ms.length = 6) (hm256 : ∀ m ∈ ms, m < 256) (w : World) :
    Calls Try.prog 8 #[.int .u8 (c : Int), .agg (bc ms).toArray] w fun e w' => e = .returned (.bool true) ∧ Fr F0 w w' := by
  obtain ⟨i0, hi0, hz0, hz1, hz2⟩ := info_parts info_int
  obtain ⟨n, hn⟩ : ∃ n, n = c % 6 + 1 := ⟨_, rfl⟩
  have hn2 : 1 ≤ n := by omega
  have hn6 : n ≤ 6 := by omega
  have e1 : (c : Int) % 6 + 1 = (n : Int) := by omega
  obtain ⟨BC, hBC⟩ : ∃ BC, BC = (bc ms).toArray := ⟨_, rfl⟩
  rw [← hBC]
  have hfA : Fr F0 w (w.alloc (.cells BC 50)) := (Fr.refl _ _).alloc _
  have HARR := Lib.hid (Blk.new w 50 BC)
  have HNEW := Lib.hid (new_yes (w.alloc (.cells BC 50)) n (by omega) (by omega))
  have HFA := Lib.hid hfA
  have HBC := Lib.hid hBC
  have HM6 := Lib.hid hm6
  have HM := Lib.hid hm256
  clear hn hfA hBC hm6 hm256
  go_enter Try.func8, Try.ntmps8
  go_wp2_with fail
  refine HNEW.out.mono ?_
  rintro e w1 ⟨rfl, hE1, hF1⟩
  obtain ⟨x, hx⟩ : ∃ x, x = (w.alloc (.cells BC 50)).heap.size := ⟨_, rfl⟩
  rw [← hx] at hE1 ⊢
  have hxw : x = w.heap.size + 1 := by rw [hx]; simp
  have hwx : w.heap.size ≤ x := by omega
  have HE1 := Lib.hid hE1
  have HF1 := Lib.hid (HFA.out.trans hF1)
  have HAR1 := Lib.hid (HARR.out.fr hF1 (fun h => h))
  have HX1 : Hid (x ≤ w1.heap.size) := by rw [hx]; exact hF1.size
  obtain ⟨B, hB⟩ : ∃ B, B = w.heap.size := ⟨_, rfl⟩
  rw [← hB] at HAR1 ⊢
  have hBx : B < x := by omega
  clear hE1 hF1 HNEW hx e1 HARR HFA hxw hB
  go_wp2_with fail
  go_loopw [8] (fun i wx => ∃ (k : Nat) (ws : List Wk), k ≤ n ∧ i = .int .i64 (k : Int) ∧ Hid (RO n k 0 ms ws) ∧ Hid (EpAt wx x x 0 ws) ∧ Hid (Blk wx B 50 BC) ∧ Hid (Fr F0 w wx) ∧ Hid (x ≤ wx.heap.size)) (fun i _ => n - (intOf i).toNat)
  case atStart => exact ⟨0, _, by omega, rfl, Lib.hid (RO.start n ms), HE1, HAR1, HF1, HX1⟩
  case round =>
    obtain ⟨k, ws, hkn, rfl, HP, HE, HAR, HF, HXS⟩ := hrel
    by_cases hk : k < n
    · have g1 : (k : Int) < (n : Int) := by omega
      have g6 : (k : Int) < 6 := by omega
      have g6n : k < 6 := by omega
      obtain ⟨mk, hmk⟩ := get_lt (l := ms) (i := k) (by rw [HM6.out]; omega)
      have hmk2 := HM.out mk (List.mem_of_getElem? hmk)
      obtain ⟨cc, hcc⟩ : ∃ cc, cc = mmF ms k := ⟨_, rfl⟩
      have hccv : cc = mk % 30 := by rw [hcc]; unfold mmF; rw [List.getD_eq_getElem?_getD, hmk]; rfl
      have hcc30 : cc < 30 := by omega
      have e3 : (mk : Int) % 30 = (cc : Int) := by omega
      have HBK : Hid (BC[k]? = some (.int .u8 (mk : Int))) := by
        show BC[k]? = some (.int .u8 (mk : Int))
        rw [HBC.out, List.getElem?_toArray]
        unfold bc
        rw [List.getElem?_map, hmk]
        rfl
      have HCC := Lib.hid hcc
      clear hmk hcc hccv
      go_wp2_with fail
      go_loopw [9] (fun i wx => ∃ (j : Nat) (ws : List Wk), j ≤ cc ∧ i = .int .i64 (j : Int) ∧ Hid (RO n k j ms ws) ∧ Hid (EpAt wx x x 0 ws) ∧ Hid (Blk wx B 50 BC) ∧ Hid (Fr F0 w wx) ∧ Hid (x ≤ wx.heap.size)) (fun i _ => cc - (intOf i).toNat)
      case atStart => exact ⟨0, _, by omega, rfl, HP, HE, HAR, HF, HXS⟩
      case round =>
        obtain ⟨j, ws, hjc, rfl, HP, HE, HAR, HF, HXS⟩ := hrel
        have cB : wr.cell? ⟨B, k, none⟩ = some (.int .u8 (mk : Int)) := by rw [HAR.out.cell]; exact HBK.out
        by_cases hj : j < cc
        · have g2 : (j : Int) < (cc : Int) := by omega
          obtain ⟨q, hq⟩ := get_lt (l := ws) (i := k) (by rw [HP.out.len]; exact hk)
          have hql : q.limbo.length ≤ 30 := by rw [(HP.out.all k q hq).2, if_neg (by omega), if_pos rfl, thsF_len]; omega
          have HRT := Lib.hid (retire_yes wr x x 0 ws HE.out k q hq (by omega) HXS.out (100 * (k : Int) + (j : Int)))
          have HP2 := Lib.hid (HP.out.step hq)
          clear hq hql
          go_wp2_with fail
          refine HRT.out.mono ?_
          rintro e w2 ⟨rfl, hE2, hF2⟩
          have HE2 := Lib.hid hE2
          have HF2 := Lib.hid (HF.out.thenE hF2 hwx)
          have HAR2 := Lib.hid (HAR.out.frE hF2 ne_six)
          have HXS2 : Hid (x ≤ w2.heap.size) := Nat.le_trans HXS.out hF2.size
          clear hE2 hF2 HRT cB
          go_wp2_with fail
          exact ⟨⟨j + 1, _, by omega, by go_num, HP2, HE2, HAR2, HF2, HXS2⟩, by simp [intOf]; omega⟩
        · obtain rfl : j = cc := by omega
          have hPT := HP.out
          rw [HCC.out] at hPT
          have HP2 := Lib.hid hPT.turn
          clear hPT
          go_wp2_with fail
          exact ⟨⟨k + 1, ws, by omega, by go_num, HP2, HE, HAR, HF, HXS⟩, by simp [intOf]; omega⟩
    · obtain rfl : k = n := by omega
      have HJ0 := Lib.hid (JO.start HP.out hn2 hn6)
      have HQ0 := Lib.hid (QO.start HP.out hn2)
      have hfB : Fr F0 wr (wr.alloc (.cells #[.slice none 0 0, .slice none 0 0, .slice none 0 0, .slice none 0 0, .slice none 0 0, .slice none 0 0] 51)) := (Fr.refl _ _).alloc _
      have HE2 := Lib.hid (HE.out.f0 hfB)
      have HF2 := Lib.hid (HF.out.trans hfB)
      have HAR2 := Lib.hid (HAR.out.fr hfB (fun h => h))
      have HG2 := Lib.hid (Blk.new wr 51 #[.slice none 0 0, .slice none 0 0, .slice none 0 0, .slice none 0 0, .slice none 0 0, .slice none 0 0])
      have key6 : ∀ (v : Nat) (gv : Value), ([.slice none 0 0, .slice none 0 0, .slice none 0 0, .slice none 0 0, .slice none 0 0, .slice none 0 0] : List Value)[v]? = some gv → gv = .slice none 0 0 := by
        intro v gv h
        have := List.mem_of_getElem? h
        simpa using this
      have HGOT : Hid (Got (wr.alloc (.cells #[.slice none 0 0, .slice none 0 0, .slice none 0 0, .slice none 0 0, .slice none 0 0, .slice none 0 0] 51)) x [.slice none 0 0, .slice none 0 0, .slice none 0 0, .slice none 0 0, .slice none 0 0, .slice none 0 0] [[], [], [], [], [], []]) := by
        refine ⟨rfl, fun v gv g h1 h2 => ?_, fun i j gi gj b h1 _ hb _ => ?_, fun i gi b h1 hb => ?_⟩
        · rw [key6 v gv h1]
          have : ∀ g ∈ ([[], [], [], [], [], []] : List (List Int)), g = [] := by simp
          rw [this g (List.mem_of_getElem? h2)]
          exact World.ownsRow_nil _ _ _ _
        · rw [key6 i gi h1] at hb; cases hb
        · rw [key6 i gi h1] at hb; cases hb
      clear key6 hfB
      go_wp2_with fail
      obtain ⟨G, hG⟩ : ∃ G, G = wr.heap.size := ⟨_, rfl⟩
      rw [← hG] at HG2 ⊢
      have hGx : x ≤ G := by rw [hG]; exact HXS.out
      have hGA : B ≠ G := by omega
      clear hG HE HF HAR HP HXS
      go_loopw [11] (fun i wx => ∃ (j now : Nat) (ws : List Wk) (got : List (List Int)) (gvs : List Value), j ≤ 3 * k ∧ i = .int .i64 (j : Int) ∧ Hid (JO k now ws ms got) ∧ Hid (∃ N, QG k N j now ws) ∧ Hid (EpAt wx x x now ws) ∧ Hid (Blk wx G 51 gvs.toArray) ∧ Hid (Got wx x gvs got) ∧ Hid (Blk wx B 50 BC) ∧ Hid (Fr F0 w wx) ∧ now ≤ j) (fun i _ => 3 * k - (intOf i).toNat)
      case atStart => exact ⟨0, 0, _, _, _, by omega, rfl, HJ0, Lib.hid ⟨0, HQ0.out⟩, HE2, HG2, HGOT, HAR2, HF2, by omega⟩
      case round =>
        obtain ⟨j, now, ws, got, gvs, hjk, rfl, HJ, HQ, HE, HGB, HGOT, HAR, HF, hnj⟩ := hrel
        by_cases hj : j < 3 * k
        · have g1 : (j : Int) < 3 * (k : Int) := by omega
          obtain ⟨u, hu0⟩ : ∃ u, u = j % k := ⟨_, rfl⟩
          have hun : u < k := by rw [hu0]; exact Nat.mod_lt _ (by omega)
          have hu : (j : Int) % (k : Int) = (u : Int) := by rw [hu0]; exact (Int.natCast_emod _ k).symm
          have g6 : (u : Int) < 6 := by omega
          have g6n : u < 6 := by omega
          obtain ⟨q, hq⟩ := get_lt (l := ws) (i := u) (by rw [HJ.out.len]; exact hun)
          obtain ⟨g, hg⟩ := get_lt (l := got) (i := u) (by rw [HJ.out.l6]; omega)
          obtain ⟨gv, hgv⟩ := get_lt (l := gvs) (i := u) (by rw [HGOT.out.l1]; omega)
          have hglen : g.length ≤ 30 := by
            have h1 := HJ.out.con u q g hq hg
            have h2 := congrArg List.length h1
            rw [List.length_append, List.length_map, List.length_map, thsF_len] at h2
            have := mmF_lt ms u
            omega
          have hlq := HJ.out.lim u q hq
          have HAN := Lib.hid (announce_yes wr x x now ws HE.out u q hq (by omega) (by rw [HJ.out.len]; omega) (by omega))
          have hJ2 := HJ.out.next hq hg
          have hQ2 : ∃ N, QG k N (j + 1) (annN now ws u q) (annW (annN now ws u q) now ws u q) := by
            obtain ⟨N, hN⟩ := HQ.out
            exact ⟨N, QO.next hN hn2 hj hu0 hq HJ.out.len⟩
          have hn1b := annN_cases now ws u q
          obtain ⟨n1, hn1⟩ : ∃ n1, n1 = annN now ws u q := ⟨_, rfl⟩
          rw [← hn1] at HAN hJ2 hQ2 hn1b
          obtain ⟨gone, hgone⟩ : ∃ gone, gone = annG n1 q := ⟨_, rfl⟩
          rw [← hgone] at hJ2
          have hgl2 : gone.length ≤ 30 := by
            rw [hgone]
            unfold annG
            rw [List.length_map]
            have h1 := (List.takeWhile_prefix (rdy n1) (l := q.limbo)).length_le
            omega
          have HJ2 := Lib.hid hJ2
          have HQ2 := Lib.hid hQ2
          have HN1 : Hid (n1 ≤ now + 1) := Lib.hid (by rcases hn1b with h | h <;> omega)
          have HGONE := Lib.hid hgone
          have HGG := Lib.hid hg
          have HGV := Lib.hid hgv
          have HL6 := Lib.hid HJ.out.l6
          clear hJ2 hQ2 hn1b hn1 hgone hq hlq hg hgv HQ0 HJ0 HQ hu0
          go_wp2_with fail
          refine HAN.out.mono ?_
          rintro e w2 ⟨v, rfl, hO2, hE2, hF2⟩
          rw [← HGONE.out] at hO2
          obtain ⟨gl, hgl⟩ : ∃ gl, gl = gone.length := ⟨_, rfl⟩
          rw [← hgl] at hO2 hgl2
          obtain ⟨vA, vc, rfl⟩ := own_slice hO2
          have HE2 := Lib.hid hE2
          have HGOT2 := Lib.hid (HGOT.out.frE HL6.out hF2)
          have HGB2 := Lib.hid (HGB.out.frE hF2 ne_got)
          have HAR2 := Lib.hid (HAR.out.frE hF2 ne_six)
          have HF2 := Lib.hid (HF.out.thenE hF2 hwx)
          have HRD : Hid (Rd w2.drew (fun _ => True) 1 vA gl (ic gone)) := ((Rd.of_own hO2).mono (fun _ _ => trivial)).drew
          have HONE : Hid (∀ u ∈ ic gone, u.oneCell' = true) := by
            intro u hu
            simp only [List.mem_map] at hu
            obtain ⟨z, _, rfl⟩ := hu
            rfl
          have HGL := Lib.hid hgl
          have hxs2 : x ≤ w2.heap.size := Nat.le_trans hGx (Nat.le_of_lt HGB2.out.lt)
          clear hO2 hE2 hF2 HAN hgl HE HGOT HGB HAR HF HJ
          have HGB := HGB2
          have HGOT := HGOT2
          clear HGB2 HGOT2
          have hgr := HGOT.out.own u gv g HGV.out HGG.out
          obtain ⟨gA, gc, rfl⟩ := own_slice hgr
          have hoG : ¬ (Value.slice gA g.length gc).ownBlock = some G := fun he => own_ne hgr HGB.out (by decide) he
          have HGR := Lib.hid hgr
          have cG : w2.cell? ⟨G, u, none⟩ = some (.slice gA g.length gc) := by rw [HGB.out.cell, List.getElem?_toArray]; exact HGV.out
          clear hgr
          go_wp2_with fail
          have hk0 : ¬ k = 0 := by omega
          have hrm : (j : Int).tmod (k : Int) = (u : Int) := by rw [Int.tmod_eq_emod_of_nonneg (by omega)]; exact hu
          clear hu
          refine region_K 10 (fun w' : World => w'.cell? ⟨G, u, none⟩ = some (.slice gA g.length gc)) (by kernel_rfl) ?_
          have HS : (fun w' : World => w'.cell? ⟨G, u, none⟩ = some (.slice gA g.length gc)) (w2).drew := cG
          refine AnyK.take (i := 0) rfl (by decide) (by kernel_rfl) (by kernel_rfl) (by kernel_rfl) (fun _ _ _ _ h => h) HS (fun K hK => ?_)
          go_simp
          refine hK.out _ ⟨_, by rfl, Or.inl ⟨by rfl, by intro w hSw; (try dsimp only at hSw); go_simp⟩, ?_⟩
          clear hK K
          refine AnyK.take (i := 1) rfl (by decide) (by kernel_rfl) (by kernel_rfl) (by kernel_rfl) (fun _ _ _ _ h => h) HS (fun K hK => ?_)
          go_simp
          refine hK.out _ ⟨_, by rfl, Or.inl ⟨by rfl, by intro w hSw; (try dsimp only at hSw); go_simp⟩, ?_⟩
          clear hK K
          refine AnyK.take (i := 2) rfl (by decide) (by kernel_rfl) (by kernel_rfl) (by kernel_rfl) (fun _ _ _ _ h => h) HS (fun K hK => ?_)
          go_simp
          refine hK.out _ ⟨_, by rfl, Or.inl ⟨by rfl, by intro w hSw; (try dsimp only at hSw); go_simp⟩, ?_⟩
          clear hK K
          refine AnyK.take (i := 3) rfl (by decide) (by kernel_rfl) (by kernel_rfl) (by kernel_rfl) (fun _ _ _ _ h => h) HS (fun K hK => ?_)
          go_simp
          refine hK.out _ ⟨_, by rfl, Or.inl ⟨by rfl, by intro w hSw; (try dsimp only at hSw); go_simp⟩, ?_⟩
          clear hK K
          refine AnyK.take (i := 4) rfl (by decide) (by kernel_rfl) (by kernel_rfl) (by kernel_rfl) (fun _ _ _ _ h => h) HS (fun K hK => ?_)
          go_simp
          refine hK.out _ ⟨_, by rfl, Or.inl ⟨by rfl, by intro w hSw; (try dsimp only at hSw); go_simp⟩, ?_⟩
          clear hK K
          refine AnyK.take (i := 5) rfl (by decide) (by kernel_rfl) (by kernel_rfl) (by kernel_rfl) (fun _ _ _ _ h => h) HS (fun K hK => ?_)
          go_simp
          refine hK.out _ ⟨_, by rfl, Or.inl ⟨by rfl, by intro w hSw; (try dsimp only at hSw); go_simp⟩, ?_⟩
          clear hK K
          refine AnyK.take (i := 6) rfl (by decide) (by kernel_rfl) (by kernel_rfl) (by kernel_rfl) (fun _ _ _ _ h => h) HS (fun K hK => ?_)
          go_simp
          refine hK.out _ ⟨_, by rfl, Or.inl ⟨by rfl, by intro w hSw; (try dsimp only at hSw); go_simp⟩, ?_⟩
          clear hK K
          refine AnyK.take (i := 7) rfl (by decide) (by kernel_rfl) (by kernel_rfl) (by kernel_rfl) (fun _ _ _ _ h => h) HS (fun K hK => ?_)
          go_simp
          refine hK.out _ ⟨_, by rfl, Or.inl ⟨by rfl, by intro w hSw; (try dsimp only at hSw); go_simp⟩, ?_⟩
          clear hK K
          refine AnyK.take (i := 8) rfl (by decide) (by kernel_rfl) (by kernel_rfl) (by kernel_rfl) (fun _ _ _ _ h => h) HS (fun K hK => ?_)
          go_simp
          refine hK.out _ ⟨_, by rfl, Or.inl ⟨by rfl, by intro w hSw; (try dsimp only at hSw); go_simp⟩, ?_⟩
          clear hK K
          refine AnyK.one (i := 9) rfl (by kernel_rfl) (fun K hK => ?_)
          refine step_app w2.drew (by rfl) _ _ _ (by rfl) x 3 i0 _ 1 8 Try.underlying33 hi0 hz0 hz1 hz2 rfl (by omega) (.slice gA g.length gc) g.length _ (by rfl) HGR.out (fun _ => True) vA gl vc (ic gone) (by rfl) HRD.out HONE.out (by unfold maxLen; omega) (by omega) hxs2 ?_
          intro v' w4 hown4 hg4 hor4
          have HF4 : Hid (Fr (fun k => (Value.slice gA g.length gc).ownBlock = some k) w2 w4) := Lib.hid (((Fr.refl _ w2).drew).trans ((Fr.grown hg4).mono (fun _ h => h.symm)))
          have hGL : G < w2.heap.size := HGB.out.lt
          have f4 : w4.frozen? ⟨G, u, none⟩ = false := by rw [World.frozen?_of_block (a := ⟨G, u, none⟩) (HF4.out.block G hGL hoG)]; exact HGB.out.frozen u
          have HS : (fun w' : World => w'.cell? ⟨G, u, none⟩ = some (.slice gA g.length gc)) w4 := HF4.out.held HS hoG
          have HO4 := Lib.hid hown4
          have HOR4 := Lib.hid hor4
          refine hK.out _ _ (fun _ => HS) ?_
          clear hK K
          obtain ⟨nA, nc, rfl⟩ := own_slice hown4
          clear hown4 hg4 hor4 hGL
          refine AnyK.one (i := 10) rfl (by kernel_rfl) (fun K hK => ?_)
          go_simp
          refine hK.out _ _ (fun _ => HS) ?_
          clear hK K
          refine AnyK.one (i := 11) rfl (by kernel_rfl) (fun K hK => ?_)
          go_simp
          refine hK.out _ _ (fun h => absurd (h.symm.trans (by kernel_rfl : _ = true)) (by decide)) ?_
          clear hK K
          refine AnyK.done (by kernel_rfl) ?_ _
          clear HS f4
          go_wp2_with fail
          have hfS : Fr (fun q => q = G) w4 (w4.setCell ⟨G, u, none⟩ (.slice nA (g.length + gl) nc)) := (Fr.refl (fun q => q = G) w4).setCell (p := ⟨G, u, none⟩) (.inl rfl) _
          have hB4 := HGB.out.fr HF4.out hoG
          have hO4 : w4.ownsRow x 3 1 (.slice nA (g.length + gl) nc) (g ++ gone).length (ic (g ++ gone)) := by
            rw [List.length_append, ← HGL.out]
            simpa [ic] using HO4.out
          have key := HGOT.out.turn HGB.out (by decide) HGV.out HGG.out HF4.out hO4 (by
            rcases HOR4.out with h | h
            · exact .inl h
            · exact .inr (fun b hb => by rw [h] at hb; injection hb with hb; rw [← hb]; exact Nat.le_refl _)) hfS
          refine ⟨⟨j + 1, n1, _, got.set u (g ++ gone), _, by omega, by go_num, HJ2, HQ2, Lib.hid ((HE2.out.fr HF4.out (fun q hq he => own_mine HGR.out ne_int3 q hq he)).fr hfS (fun q hq he => blk_mine hB4 ne_got (he ▸ hq))), Lib.hid (by have := hB4.set_ u (.slice nA (g.length + gl) nc); simpa using this), Lib.hid key, Lib.hid ?_, Lib.hid ?_, by have := HN1.out; omega⟩, by simp [intOf]; omega⟩
          · exact (HAR2.out.fr HF4.out (fun he => own_ne HGR.out HAR2.out (by decide) he)).fr hfS (fun he => hGA he)
          · exact Fr.then (Fr.then HF2.out HF4.out (fun k hk => .inr (Nat.le_trans hwx (own_low HGR.out k hk)))) hfS (fun k hk => .inr (by rw [hk]; exact Nat.le_trans hwx hGx))
        · obtain rfl : j = 3 * k := by omega
          obtain ⟨N, hN⟩ := HQ.out
          have HD := Lib.hid (HJ.out.done hN)
          have HL6 := Lib.hid HJ.out.l6
          clear hN HJ HQ HE
          go_wp2_with fail
          go_loopw [14] (fun iv wx => ∃ v : Nat, v ≤ k ∧ iv = .int .i64 (v : Int) ∧ Hid (Fr F0 wr wx)) (fun iv _ => k - (intOf iv).toNat)
          case atStart => exact ⟨0, by omega, rfl, Lib.hid (Fr.refl _ _)⟩
          case round =>
            obtain ⟨v, hvk, rfl, HFV⟩ := hrel
            by_cases hv : v < k
            · have g1 : (v : Int) < (k : Int) := by omega
              have g6 : (v : Int) < 6 := by omega
              have g6n : v < 6 := by omega
              obtain ⟨g, hg⟩ := get_lt (l := got) (i := v) (by rw [HL6.out]; omega)
              obtain ⟨gv, hgv⟩ := get_lt (l := gvs) (i := v) (by rw [HGOT.out.l1]; omega)
              have hge := HD.out v g hv hg
              have hgr := own_fr (HGOT.out.own v gv g hgv hg) HFV.out (fun _ _ h => h)
              obtain ⟨gA, gc, rfl⟩ := own_slice hgr
              obtain ⟨mk, hmk⟩ := get_lt (l := ms) (i := v) (by rw [HM6.out]; omega)
              have hmk2 := HM.out mk (List.mem_of_getElem? hmk)
              have HBK : Hid (BC[v]? = some (.int .u8 (mk : Int))) := by
                show BC[v]? = some (.int .u8 (mk : Int))
                rw [HBC.out, List.getElem?_toArray]
                unfold bc
                rw [List.getElem?_map, hmk]
                rfl
              obtain ⟨gl, hgl⟩ : ∃ gl, gl = g.length := ⟨_, rfl⟩
              have hglm : gl = mk % 30 := by
                rw [hgl, hge, List.length_map, thsF_len]
                unfold mmF
                rw [List.getD_eq_getElem?_getD, hmk]
                rfl
              have hgl30 : gl < 30 := by omega
              have e3 : (mk : Int) % 30 = (gl : Int) := by omega
              have e4 : ((gl : Int) != (gl : Int)) = false := by simp
              have cB : wr.cell? ⟨B, v, none⟩ = some (.int .u8 (mk : Int)) := by rw [(HAR.out.fr HFV.out (fun h => h)).cell]; exact HBK.out
              have cG : wr.cell? ⟨G, v, none⟩ = some (.slice gA gl gc) := by rw [(HGB.out.fr HFV.out (fun h => h)).cell, List.getElem?_toArray, hgv, hgl]
              have HGR := Lib.hid hgr
              have HGE := Lib.hid hge
              have HGL := Lib.hid hgl
              have HCG := Lib.hid cG
              clear hge hgr hmk hgl hglm hg hgv
              go_wp2_with fail
              go_quiet (fail)
              go_wp2_with fail
              clear cB cG e3
              go_loopw [15] (fun iv wx => ∃ i : Nat, i ≤ gl ∧ iv = .int .i64 (i : Int) ∧ Hid (Fr F0 wr wx)) (fun iv _ => gl - (intOf iv).toNat)
              case atStart => exact ⟨0, by omega, rfl, Lib.hid ((Fr.refl _ _).drewN _)⟩
              case round =>
                obtain ⟨i, hig, rfl, HFI⟩ := hrel
                have cG := HFI.out.held HCG.out (fun h => h)
                by_cases hi : i < gl
                · have g8 : (i : Int) < (gl : Int) := by omega
                  have hz : g[i]? = some (100 * (v : Int) + (i : Int)) := by
                    have h1 := HGE.out
                    have h2 : i < mmF ms v := by
                      have h3 := congrArg List.length h1
                      rw [List.length_map, thsF_len, ← HGL.out] at h3
                      omega
                    rw [h1]
                    unfold thsF
                    rw [List.map_map, List.getElem?_map, List.getElem?_range h2]
                    rfl
                  obtain ⟨gb, gcp, hgv2, _, _, _, cz⟩ := own_at (own_fr HGR.out HFI.out (fun _ _ h => h)) (ic_at hz)
                  injection hgv2 with hgv3 _ hgv4
                  subst hgv3; subst hgv4
                  have e5 : ((100 * (v : Int) + (i : Int)) != (100 * (v : Int) + (i : Int))) = false := by simp
                  clear hz
                  go_wp2_with fail
                  exact ⟨⟨i + 1, by omega, by go_num, HFI⟩, by simp [intOf]; omega⟩
                · obtain rfl : i = gl := by omega
                  go_wp2_with fail
                  exact ⟨⟨v + 1, by omega, by go_num, Lib.hid (HFV.out.trans HFI.out)⟩, by simp [intOf]; omega⟩
            · obtain rfl : v = k := by omega
              go_wp2_with fail
              refine (awake_any _).mono ?_
              rintro e w5 ⟨rfl, hF5⟩
              have HF5 := Lib.hid ((HF.out.trans HFV.out).trans hF5)
              clear hF5
              go_wp2_with fail
              go_ret
              exact ⟨rfl, HF5.out⟩
theorem walk (x : Int) (hx : (Lit.int .u8 x).wf = true) (ms : List Nat) (h6 : ms.length = 6) (hm : ∀ m ∈ ms, m < 256) (w : World) :
    Calls Try.prog 8 #[.int .u8 x, .agg (bc ms).toArray] w fun e w' => e = .returned (.bool true) ∧ Below w.heap.size w w' := by
  obtain ⟨c, rfl, hc⟩ : ∃ c : Nat, x = c ∧ c < 256 := bounds8 hx
  exact (few c hc ms h6 hm w).mono fun _ _ ⟨he, hF⟩ => ⟨he, hF.below (Nat.le_refl _) (fun _ h => h.elim)⟩

/-! ### The row's step -/
theorem own : ownKnob Try.prog.godebug = none := by kernel_rfl
theorem laidOut : laidOutB Try.prog = true := by kernel_rfl

set_option maxRecDepth 100000 in
theorem lifted (os : Os) (started : os.Started) (H : Type) (enc : TypeId × Value → H) :
    ReturnsInHanded {} Try.checked os 8 .any (Rows.epochOwnSpec.pre6 enc Try.prog Try.f8 Rows.epochOwnRow.domain false) (Rows.epochOwnSpec.post enc Try.prog Try.f8 false true false false) := by
  refine returnsInHanded_of_change (C := Try.checked) own started (by kernel_rfl) Try.func8
    (ChangeSpec.witness6 (enc := enc) (C := Try.checked) false ⟨#[], #[.int .u8 0, .agg #[.int .u8 0, .int .u8 0, .int .u8 0, .int .u8 0, .int .u8 0, .int .u8 0]], []⟩ 8 (by kernel_rfl) (by kernel_rfl) (by kernel_rfl) (by kernel_rfl)) ?_
  intro W base args ds gs before hval0 hW hcnd _
  have hval : ∀ (j : Nat) t v, Try.f8.params[j]? = some t → args[j]? = some v → Value.okWide Try.prog W .any base t v := hval0
  have hW' := hW
  obtain ⟨p, q, hA0, hV, rfl, hfz, hnd⟩ := hW
  have hA : DataW.TrodAll enc Try.prog W 0 (fun _ => true) true Try.f8.params.toList args.toList ds p := hA0
  rw [Try.params8] at hA hval
  obtain ⟨v0, vs0, d0, ds0, p0, q0, hargs, rfl, rfl, h0, r0⟩ := trodAll_cons hA
  obtain ⟨v1, vs1, d1, ds1, p1, q1, rfl, rfl, rfl, h1, r1⟩ := trodAll_cons r0
  obtain ⟨rfl, rfl, rfl⟩ := trodAll_nil r1
  obtain rfl : args = #[v0, v1] := by cases args; simp_all
  obtain ⟨rfl, rfl⟩ := trodVars_none hV
  obtain ⟨a0, rfl, rfl, rfl, w0⟩ := open_int Try.underlying5 (hval 0 5 v0 rfl rfl) h0
  have k1 := h1
  have lt1 : ∀ x ∈ p1, x.block < W.heap.size := by obtain ⟨m, hm⟩ := k1; exact DataW.trod_lt m _ _ _ hm
  obtain ⟨z1, w1, hz1, rfl⟩ := open_six (hval 1 50 v1 rfl rfl) h1
  clear hA0 hval0
  refine (walk a0 w0 z1 w1 hz1 W).mono fun e W' ⟨he, bel⟩ => ?_
  subst he
  exact ⟨_, rfl, _, _, _, [], _, [], hW', trodAll_mk1 (shut_bool Try.underlying4 _), (trodAll_cons_mk (shut_int Try.underlying5 w0) (trodAll_cons_mk (Below.trod laidOut (by kernel_rfl) (of_decide_eq_true (by kernel_rfl)) k1 bel lt1) trodAll_mk0)), rfl, bel.frame _, fun h => by cases h⟩

theorem over : Rows.epochOwnRow.holds Try.pinned (OpenSpec.ofChange Rows.epochOwnSpec) :=
  OpenClaim.holds_of_wide 8 Try.f8 rfl rfl rfl rfl rfl rfl rfl ⟨rfl, rfl, rfl, rfl, rfl⟩ rfl rfl rfl rfl rfl (by kernel_rfl) Try.func8 (by kernel_rfl)
    (of_decide_eq_true (by kernel_rfl)) (by unfold Func.isWrapper; first | (rw [if_pos (by decide +kernel)]; kernel_rfl) | (rw [if_neg (by decide +kernel)]; exact ⟨rfl, rfl⟩))
    (fun os started H enc _ => lifted os started H enc)

/-- The statement. -/
theorem proved : Rows.EpochOwnSaid := over
#print axioms proved
end Go.Proofs.Ytjphmiemakmcbaa.epochOwn
