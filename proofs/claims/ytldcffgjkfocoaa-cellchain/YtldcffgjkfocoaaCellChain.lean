/-
  haymowlaw13.CellChain returns true for every five bytes and every number. No condition.
-/
import Derived.Test.YtldcffgjkfocoaaChn
import Derived.Test.YtldcffgjkfocoaaRows
import Derived.Deep.AppendLies
import Derived.Laws.IdiomArrays
import Derived.ProofKit
import Derived.OpenShut
import Derived.ShutString
import Derived.ChangeOld
namespace Go.Proofs.Ytldcffgjkfocoaa.cellChain
open Go.ChangeShapes Go.WideShapes Go.ChangeAt Go.RowKit
open Go.ChangeMaps (open_string shut_string)

section
variable {w w' : World} {base base' size size' n n' : Nat} {e e' : TypeId} {v v' : Value} {xs xs' : List Value}
theorem own_fr {B : Nat → Prop} (h : w.ownsRow base e size v n xs) (hf : Fr B w w') (hB : ∀ g, v.ownBlock = some g → ¬ B g) : w'.ownsRow base e size v n xs := by
  refine ⟨h.1, ?_⟩
  rcases h.2 with h2 | ⟨g, cap, cur, hv, hg, hh, r⟩
  · exact .inl h2
  · have hlt : g < w.heap.size := Blk.lt (t := e) hh
    exact .inr ⟨g, cap, cur, hv, hg, (hf.block g hlt (hB g (by rw [hv]; rfl))).trans hh, r⟩
theorem own_low (h : w.ownsRow base e size v n xs) : ∀ g, v.ownBlock = some g → base ≤ g := by
  intro g hg
  rcases h.2 with ⟨rfl, _⟩ | ⟨g1, cap, cur, rfl, hb, h1, _⟩
  · cases hg
  · simp only [Value.ownBlock, Option.some.injEq] at hg
    omega
theorem own_lt (h : w.ownsRow base e size v n xs) : ∀ g, v.ownBlock = some g → g < w.heap.size := fun g hg => (h.lt g hg).2
theorem own_slice (h : w.ownsRow base e size v n xs) : ∃ A c, v = .slice A n c := by
  rcases h.2 with ⟨rfl, rfl⟩ | ⟨g1, cap, cur, rfl, hb, h1, _⟩
  · exact ⟨none, 0, rfl⟩
  · exact ⟨_, cap, rfl⟩
end
theorem info_i64 : (Try.prog.info? 2).map (fun i => (i.zero, i.size, i.bytes)) = some (some (.int .i64 0), 1, 8) := by kernel_rfl
theorem info_parts {t : TypeId} {z : Value} {s b : Nat} (h : (Try.prog.info? t).map (fun i => (i.zero, i.size, i.bytes)) = some (some z, s, b)) : ∃ i, Try.prog.info? t = some i ∧ i.zero = some z ∧ i.size = s ∧ i.bytes = b := by
  obtain ⟨i, hi, h2⟩ := Option.map_eq_some_iff.1 h
  simp only [Prod.mk.injEq] at h2
  exact ⟨i, hi, h2.1, h2.2.1, h2.2.2⟩
theorem Fr.grown {w w' : World} {row : Option Nat} (h : w.grownBy w' row) : Fr (fun k => some k = row) w w' := ⟨h.os, h.tape, h.output, h.size, fun k hk hn => h.block k hk hn⟩
def wcs (l : List Nat) : List Value := l.map fun (k : Nat) => .int .i64 (k : Int)
/-- The five bytes. -/
abbrev arr (an : Nat → Nat) : Array Value := #[.int .u8 (an 0 : Int), .int .u8 (an 1 : Int), .int .u8 (an 2 : Int), .int .u8 (an 3 : Int), .int .u8 (an 4 : Int)]
theorem arr_get (an : Nat → Nat) (i : Nat) (hi : i < 5) : (arr an)[i]? = some (.int .u8 (an i : Int)) := by
  have : i = 0 ∨ i = 1 ∨ i = 2 ∨ i = 3 ∨ i = 4 := by omega
  rcases this with rfl | rfl | rfl | rfl | rfl <;> rfl
theorem js_start {w0 w : World} {q : Pl} {S : (Nat → PO) × List Int} {b : Nat} (h : WIs w0 w q S b) : WorldJs w w0 w q S.1 S.2 b := ⟨h, Fr.refl _ _⟩
theorem wis_more {w0 w : World} {q : Pl} {S : (Nat → PO) × List Int} {b c : Nat} (h : WIs w0 w q S b) (hbc : b ≤ c) : WIs w0 w q S c := ⟨h.hV, h.hM.more hbc, h.hL, h.hO, h.hR, h.sep, h.new, h.newo, h.fr, h.len, h.sta, h.wf⟩
theorem row_cell {w : World} {B n c j : Nat} {e : TypeId} {A : Option Addr} {xs : List Value} (h : w.ownsRow B e 1 (.slice A n c) n xs) (hj : j < n) : ∃ g, A = some ⟨g, 0, none⟩ ∧ w.cell? ⟨g, j, none⟩ = xs[j]? := by
  have h0 := h
  rcases h.2 with ⟨_, h1⟩ | ⟨g, cap, cur, hv, _⟩
  · omega
  · injection hv with h1 h2 h3
    subst h1
    exact ⟨g, rfl, World.ownsRow.cellAt h0 j (by omega)⟩
/-- A row that is newer than the world's blocks stays. -/
theorem row_js {w0 w1 w : World} {q : Pl} {S : (Nat → PO) × List Int} {b B n : Nat} {e : TypeId} {v : Value} {xs : List Value} (hr : w1.ownsRow B e 1 v n xs) (hl : Low q B) (h : WorldJs w1 w0 w q S.1 S.2 b) : w.ownsRow B e 1 v n xs :=
  own_fr hr h.fr1 (fun g hg hq => hq.elim (fun h1 => hl.not (own_low hr g hg) h1) (fun h1 => by have := own_lt hr g hg; omega))

set_option maxHeartbeats 16000000 in
set_option maxRecDepth 100000 in
theorem walk_f (an : Nat → Nat) (han : ∀ i, an i < 256) (value : Int) (w : World) :
    Calls Try.prog 7 #[.agg (arr an), .int .i64 value] w fun e w' => e = .returned (.bool true) ∧ Fr F0 w w' := by
  obtain ⟨i0, hi0, hz0, hz1, hz2⟩ := info_parts info_i64
  obtain ⟨D, hD⟩ : ∃ D, D = w.heap.size := ⟨_, rfl⟩
  obtain ⟨wb, hwb⟩ : ∃ wb, wb = w.alloc (.cells (arr an) 59) := ⟨_, rfl⟩
  have hDb : Blk wb D 59 (arr an) := by rw [hwb, hD]; exact Blk.new _ _ _
  have hFb : Fr F0 w wb := by rw [hwb]; exact (Fr.refl _ _).alloc _
  have HWD := Lib.hid (world_any wb value 0)
  have HDB := Lib.hid hDb
  have HFB := Lib.hid hFb
  clear hDb hFb
  go_enter Try.func7, Try.ntmps7
  go_wp2_with fail
  rw [← hwb, ← hD]
  refine HWD.out.mono ?_
  clear hwb hD
  rintro e w1 ⟨q, rfl, hW⟩
  have HW : Hid (WIs wb w1 q (ops0 value 0, m0) (27 * 0)) := Lib.hid hW
  obtain ⟨B, hB⟩ : ∃ B, B = w1.heap.size := ⟨_, rfl⟩
  have HLO : Hid (Low q B) := Lib.hid (by rw [hB]; exact hW.low)
  have hwB : wb.heap.size ≤ B := by rw [hB]; exact hW.fr.size
  have HROW : Hid (w1.ownsRow B 2 1 (.slice none 0 0) 0 (wcs [])) := Lib.hid (World.ownsRow_nil _ _ _ _)
  have HBS : Hid (B ≤ w1.heap.size) := Lib.hid (by omega)
  have HC := Lib.hid (Ch.start value)
  clear hW HWD hB
  go_wp2_with fail
  go_loopw [7, 8] (fun wv iv wx => ∃ (i n : Nat) (l : List Nat) (S : (Nat → PO) × List Int), i ≤ 5 ∧ n ≤ i ∧ iv = .int .i64 (i : Int) ∧ l.length = n ∧ Hid (WIs wb wx q S (27 * i)) ∧ Hid (Ch value S l) ∧ Hid (wx.ownsRow B 2 1 wv n (wcs l)) ∧ Hid (B ≤ wx.heap.size)) (fun _ iv _ => 5 - (intOf iv).toNat)
  case atStart => exact ⟨0, 0, [], _, by omega, by omega, rfl, rfl, HW, HC, HROW, HBS⟩
  case round =>
    clear HW HC HROW HBS
    obtain ⟨i, n, l, S, hi5, hni, rfl, hln, HW, HC, HROW, HBS⟩ := hrel
    have HLN := Lib.hid hln
    clear hln
    obtain ⟨A7, c7, rfl⟩ := own_slice HROW.out
    by_cases hi : i < 5
    · have g1 : (i : Int) < 5 := by omega
      have d0 : wr.cell? ⟨D, i, none⟩ = some (.int .u8 (an i : Int)) := by rw [(HDB.out.fr HW.out.fr (fun h => h)).cell]; exact arr_get an i hi
      obtain ⟨k, hk⟩ : ∃ k, k = an i % 5 + 1 := ⟨_, rfl⟩
      have e1 : (an i : Int) % 5 + 1 = (k : Int) := by omega
      have hk1 : 1 ≤ k := by omega
      have hk6 : k < 6 := by omega
      have hk7 : (k : Int) < 6 := by omega
      have hai := han i
      have p1 := WIs.own HW.out k hk6
      have p2 := WIs.ended HW.out k hk6
      clear hk
      by_cases hkl : k ∈ l
      · rw [(HC.out.end_ k hkl).1] at p2
        clear hkl
        go_wp2_with fail
        exact ⟨⟨i + 1, n, l, S, by omega, by omega, by go_num, HLN.out, Lib.hid (wis_more HW.out (by omega)), HC, HROW, HBS⟩, by simp [intOf]; omega⟩
      · have hef : (S.1 k).ended = false := by rw [HC.out.fre k hk1 hk6 hkl]
        rw [hef] at p2
        have HC2 := Lib.hid (HC.out.step k hk1 hk6 hkl)
        have HJ : Hid (WorldJs wr wb wr q (wrun k 0 S).1 (wrun k 0 S).2 (27 * i + 9 * 0)) := Lib.hid (js_start HW.out)
        clear hkl hef
        go_wp2_with fail
        clear p1 p2 d0 HW HC e1
        go_loopw [10] (fun jv wx => ∃ (j : Nat), j ≤ 3 ∧ jv = .int .i64 (j : Int) ∧ Hid (WorldJs wr wb wx q (wrun k j S).1 (wrun k j S).2 (27 * i + 9 * j))) (fun jv _ => 3 - (intOf jv).toNat)
        case atStart => exact ⟨0, by omega, rfl, HJ⟩
        case round =>
          clear HJ
          obtain ⟨j, hj3, rfl, HJ⟩ := hrel
          by_cases hj : j < 3
          · have g3 : (j : Int) < 3 := by omega
            have HMV := Lib.hid (wmove_jk _ wb wr q (wrun k j S) _ HJ.out (by omega) k hk6)
            go_wp2_with fail
            refine HMV.out.mono ?_
            rintro e w3 ⟨rfl, hW3⟩
            have HW3 := Lib.hid hW3
            clear hW3 HMV HJ
            go_wp2_with fail
            exact ⟨⟨j + 1, by omega, by go_num, HW3⟩, by simp [intOf]; omega⟩
          · obtain rfl : j = 3 := by omega
            (try rw [show ((3 : Nat) : Int) = 3 from rfl])
            have hrow := row_js HROW.out HLO.out HJ.out
            have hbs : B ≤ wr.heap.size := Nat.le_trans HBS.out HJ.out.fr1.size
            have hfA : Fr F0 wr (wr.alloc (.cells #[.int .i64 (k : Int)] 2)) := (Fr.refl _ _).alloc _
            have HNB := Lib.hid (heap_alloc_new wr (.cells #[.int .i64 (k : Int)] 2))
            have HOW := Lib.hid (own_fr hrow hfA (fun _ _ h => h))
            have HW4 : Hid (WIs wb (wr.alloc (.cells #[.int .i64 (k : Int)] 2)) q (wrun k 3 S) (27 * (i + 1))) := Lib.hid (HJ.out.toWorldIs.f0 hfA)
            clear hrow hfA HJ HROW HBS
            go_wp2_with (at_builtin; refine wpList_append_lies _ rfl (.tmp 52) (.tmp 54) 35 rfl B 2 i0 (.int .i64 0) 1 8 Try.underlying35 hi0 hz0 hz1 hz2 rfl (by decide) _ n _ rfl HOW.out ⟨wr.heap.size, 0, none⟩ 1 1 [.int .i64 (k : Int)] rfl rfl ?c1 ?c2 (by decide) ?c3 ?c4 ?c5 (wr.heap.size + 1) ?c6 ?_)
            case c1 => intro i u hi; exact World.news_of_block HNB.out i u hi
            case c2 => intro u hu; simp at hu; rcases hu with rfl; rfl
            case c3 => unfold maxLen; omega
            case c4 => omega
            case c5 => simp; omega
            case c6 => simp
            intro g cap w3 hown3 hg3 hor3 hlt3
            have HW5 : Hid (WIs wb w3 q (wrun k 3 S) (27 * (i + 1))) := Lib.hid (WorldIs.newer HW4.out HLO.out hwB ((Fr.grown hg3).mono (fun q hq => own_low HOW.out q hq.symm)))
            have HR5 : Hid (w3.ownsRow B 2 1 (.slice (some ⟨g, 0, none⟩) (n + 1) cap) (n + 1) (wcs (l ++ [k]))) := Lib.hid (by simpa [wcs] using hown3)
            have HB5 : Hid (B ≤ w3.heap.size) := Lib.hid (by have := hg3.size; simp at this; omega)
            have HL5 : Hid ((l ++ [k]).length = n + 1) := Lib.hid (by rw [List.length_append, HLN.out]; rfl)
            clear hown3 hg3 hor3 hlt3 HW4 HOW HNB
            go_wp2_with fail
            exact ⟨⟨i + 1, n + 1, l ++ [k], wrun k 3 S, by omega, by omega, by go_num, HL5.out, HW5, HC2, HR5, HB5⟩, by simp [intOf]; omega⟩
    · obtain rfl : i = 5 := by omega
      rw [show ((5 : Nat) : Int) = 5 from rfl]
      have HJ : Hid (WorldJs wr wb wr q (wrun 0 0 S).1 (wrun 0 0 S).2 (27 * 5 + 9 * 0)) := Lib.hid (js_start HW.out)
      clear HW
      go_wp2_with fail
      go_loopw [11] (fun jv wx => ∃ (j : Nat), j ≤ 4 ∧ jv = .int .i64 (j : Int) ∧ Hid (WorldJs wr wb wx q (wrun 0 j S).1 (wrun 0 j S).2 (27 * 5 + 9 * j))) (fun jv _ => 4 - (intOf jv).toNat)
      case atStart => exact ⟨0, by omega, rfl, HJ⟩
      case round =>
        clear HJ
        obtain ⟨j, hj4, rfl, HJ⟩ := hrel
        by_cases hj : j < 4
        · have g3 : (j : Int) < 4 := by omega
          have hmv := wmove_jk _ wb wr q (wrun 0 j S) _ HJ.out (by omega) 0 (by omega)
          rw [show ((0 : Nat) : Int) = 0 from rfl] at hmv
          have HMV := Lib.hid hmv
          clear hmv
          go_wp2_with fail
          refine HMV.out.mono ?_
          rintro e w3 ⟨rfl, hW3⟩
          have HW3 := Lib.hid hW3
          clear hW3 HMV HJ
          go_wp2_with fail
          exact ⟨⟨j + 1, by omega, by go_num, HW3⟩, by simp [intOf]; omega⟩
        · obtain rfl : j = 4 := by omega
          (try rw [show ((4 : Nat) : Int) = 4 from rfl])
          have HR4 := Lib.hid (row_js HROW.out HLO.out HJ.out)
          obtain ⟨f, z1, z2, z3, z4, z5, z6⟩ := HC.out.fill
          have HW4 : Hid (WIs wb wr q (wrun 0 4 S) 171) := Lib.hid HJ.out.toWorldIs
          have HE0 := Lib.hid (WIs.end_ HW4.out 0 (by decide) z1 false 0 0 f z3 z4 z5 z2)
          have HLK := Lib.hid z6
          have HEN : Hid (∀ x, x ∈ l → 1 ≤ x ∧ x < 6) := Lib.hid (fun x hx => (HC.out.end_ x hx).2)
          obtain ⟨m, hm⟩ : ∃ m, m = wrun 0 4 S := ⟨_, rfl⟩
          rw [← hm] at HLK HW4
          have p0 := WIs.op HW4.out 0 (by decide)
          clear z1 z2 z3 z4 z5 z6 hm HJ HROW HC HBS
          go_wp2_with fail
          refine HE0.out.mono ?_
          rintro e w5 ⟨rfl, hf5⟩
          have hf6 : Fr F0 w5 (w5.alloc (.cells #[.bool false, .int .i64 0, .int .i64 0, .int .i64 f] 45)) := (Fr.refl _ _).alloc _
          have HW6 := Lib.hid (WorldIs.f0 (WorldIs.f0 HW4.out hf5) hf6)
          have HR6 := Lib.hid (own_fr (own_fr HR4.out hf5 (fun _ _ h => h)) hf6 (fun _ _ h => h))
          have HLK6 : Hid (Lnk m.2 f (l.take n).reverse) := Lib.hid (by rw [← HLN.out, List.take_length]; exact HLK.out)
          clear hf5 hf6 HE0 HW4 HR4 HLK p0
          go_wp2_with fail
          go_loopw [14, 15] (fun av iv wx => ∃ (j c : Nat) (fv : Int), j ≤ n ∧ c + j ≤ 400 ∧ av = .int .i64 fv ∧ iv = .int .i64 ((j : Int) - 1) ∧ Hid (Lnk m.2 fv (l.take j).reverse) ∧ Hid (WIs wb wx q m c) ∧ Hid (wx.ownsRow B 2 1 (.slice A7 n c7) n (wcs l))) (fun _ iv _ => ((intOf iv) + 1).toNat)
          case atStart => exact ⟨n, 171, f, by omega, by omega, rfl, rfl, HLK6, HW6, HR6⟩
          case round =>
            clear HLK6 HW6 HR6
            obtain ⟨j, c, fv, hjn, hcj, rfl, rfl, HLK, HW, HR⟩ := hrel
            cases j with
            | zero =>
              obtain rfl : fv = 0 := HLK.out
              rw [show ((0 : Nat) : Int) - 1 = -1 from rfl]
              go_wp2_with fail
              refine (awake_any wr).mono ?_
              rintro e w7 ⟨rfl, hf7⟩
              have HFE := Lib.hid ((HFB.out.trans HW.out.fr).trans hf7)
              clear hf7 HW HR
              go_wp2_with fail
              go_ret
              exact ⟨rfl, HFE.out⟩
            | succ j =>
              have hjl : j < l.length := by rw [HLN.out]; omega
              obtain ⟨x, hx⟩ : ∃ x, x = l[j] := ⟨_, rfl⟩
              have hlk := HLK.out
              rw [List.take_succ_eq_append_getElem hjl, List.reverse_append, ← hx] at hlk
              obtain ⟨rfl, hln⟩ := hlk
              have hln' : Lnk m.2 (m.2.getD (10 + x) 0) (l.take j).reverse := hln
              obtain ⟨x1, x6⟩ := HEN.out x (by rw [hx]; exact List.getElem_mem _)
              obtain ⟨g, rfl, hgc⟩ := row_cell HR.out (j := j) (by omega)
              have hgx : (wcs l)[j]? = some (.int .i64 (x : Int)) := by
                unfold wcs
                rw [List.getElem?_map, List.getElem?_eq_getElem hjl, hx]
                rfl
              rw [hgx] at hgc
              rw [show ((j + 1 : Nat) : Int) - 1 = (j : Int) by omega]
              have b1 : ((x : Int) != (x : Int)) = false := by simp
              have g4 : (j : Int) < (n : Int) := by omega
              have g5 : j < n := by omega
              obtain ⟨nn, hnn⟩ : ∃ nn, nn = m.2.getD (10 + x) 0 := ⟨_, rfl⟩
              rw [← hnn] at hln'
              have HLN2 := Lib.hid hln'
              have hld := load_mi HW.out.hM (by omega) (10 + x) (by rw [HW.out.len]; omega) nn hnn.symm
              rw [show ((10 + x : Nat) : Int) = 10 + (x : Int) by omega] at hld
              have HLD := Lib.hid hld
              have v0 := WIs.mem HW.out
              clear hln hln' hx hgx hnn hld hjl HLK
              go_wp2_with fail
              refine HLD.out.mono ?_
              rintro e w6 ⟨rfl, hM8, hF8⟩
              have HW8 := Lib.hid (WorldIs.mem HW.out hM8 hF8)
              have HR8 := Lib.hid (own_fr HR.out hF8 (fun i hi h => by
                have h1 := own_low HR.out i hi
                have h2 := HLO.out.a
                rcases h with rfl | rfl <;> omega))
              clear hM8 hF8 HLD HW HR v0 hgc
              go_wp2_with fail
              exact ⟨⟨j, c + 1, nn, by omega, by omega, rfl, by go_num, HLN2, HW8, HR8⟩, by simp [intOf]⟩

theorem trod_array5 {H : Type} {enc : TypeId × Value → H} {P : Program} {w : World} {base : Nat} {spare : Nat → Bool} {held : Bool} {t e : TypeId} {fuel : Nat} {c0 c1 c2 c3 c4 : Value} {x : DataW H × List MemPlace} (ht : P.underlying t = some (.array 5 e)) (hce : P.cellsOf e = 1)
    (h : DataW.trod enc P w base spare held fuel t [c0, c1, c2, c3, c4] = some x) :
    ∃ y0 y1 y2 y3 y4 n, DataW.trod enc P w base spare held n e [c0] = some y0 ∧ DataW.trod enc P w base spare held n e [c1] = some y1 ∧ DataW.trod enc P w base spare held n e [c2] = some y2 ∧ DataW.trod enc P w base spare held n e [c3] = some y3 ∧ DataW.trod enc P w base spare held n e [c4] = some y4 := by
  obtain ⟨xs, m, _, _, _, hx, hi⟩ := DataW.trod_array ht h
  have g : ∀ i, i < 5 → ∃ y, xs[i]? = some y := fun i hi' => ⟨xs[i], List.getElem?_eq_getElem (by omega)⟩
  obtain ⟨y0, e0⟩ := g 0 (by decide)
  obtain ⟨y1, e1⟩ := g 1 (by decide)
  obtain ⟨y2, e2⟩ := g 2 (by decide)
  obtain ⟨y3, e3⟩ := g 3 (by decide)
  obtain ⟨y4, e4⟩ := g 4 (by decide)
  have h0 := hi 0 (by decide)
  have h1 := hi 1 (by decide)
  have h2 := hi 2 (by decide)
  have h3 := hi 3 (by decide)
  have h4 := hi 4 (by decide)
  rw [hce] at h0 h1 h2 h3 h4
  exact ⟨y0, y1, y2, y3, y4, m, h0.trans e0, h1.trans e1, h2.trans e2, h3.trans e3, h4.trans e4⟩
theorem open_arr {H : Type} {enc : TypeId × Value → H} {W : World} {base b0 : Nat} {spare : Nat → Bool} {held : Bool} {r : Reach} {v : Value} {d : DataW H} {p : List MemPlace} (hv : Value.okWide Try.prog W r b0 59 v) (h : DataW.Trod enc Try.prog W base spare held 59 v d p) :
    ∃ an : Nat → Nat, v = .agg (arr an) ∧ ∀ i, an i < 256 := by
  have ht := Try.underlying59
  simp only [Value.okWide, ht] at hv
  obtain ⟨cs, rfl, hsz, _⟩ := hv
  have hc : Try.prog.cellsOf 59 = 5 := by kernel_rfl
  rw [hc] at hsz
  obtain ⟨l⟩ := cs
  have hl : l.length = 5 := by simpa using hsz
  match l, hl with
  | [c0, c1, c2, c3, c4], _ =>
    obtain ⟨fuel, hf⟩ := h
    obtain ⟨y0, y1, y2, y3, y4, n, h0, h1, h2, h3, h4⟩ := trod_array5 ht (by kernel_rfl) hf
    obtain ⟨a0, e0, _, w0⟩ := DataW.trod_int Try.underlying5 h0
    obtain ⟨a1, e1, _, w1⟩ := DataW.trod_int Try.underlying5 h1
    obtain ⟨a2, e2, _, w2⟩ := DataW.trod_int Try.underlying5 h2
    obtain ⟨a3, e3, _, w3⟩ := DataW.trod_int Try.underlying5 h3
    obtain ⟨a4, e4, _, w4⟩ := DataW.trod_int Try.underlying5 h4
    simp at e0 e1 e2 e3 e4
    subst e0 e1 e2 e3 e4
    have key : ∀ a : Int, (Lit.int .u8 a).wf = true → ∃ n : Nat, a = n ∧ n < 256 := by
      intro a ha
      have hm : IntKind.u8.min = 0 := rfl
      have hM : IntKind.u8.max = 255 := rfl
      simp [Lit.wf, hm, hM] at ha
      exact ⟨a.toNat, by omega, by omega⟩
    obtain ⟨n0, rfl, k0⟩ := key a0 w0
    obtain ⟨n1, rfl, k1⟩ := key a1 w1
    obtain ⟨n2, rfl, k2⟩ := key a2 w2
    obtain ⟨n3, rfl, k3⟩ := key a3 w3
    obtain ⟨n4, rfl, k4⟩ := key a4 w4
    refine ⟨fun i => if i = 0 then n0 else if i = 1 then n1 else if i = 2 then n2 else if i = 3 then n3 else n4, rfl, fun i => ?_⟩
    dsimp only
    (repeat' split) <;> assumption
theorem walk (an : Nat → Nat) (han : ∀ i, an i < 256) (a1 : Int) (_w1 : (Lit.int .i64 a1).wf = true) (w : World) :
    Calls Try.prog 7 #[.agg (arr an), .int .i64 a1] w fun e w' => e = .returned (.bool true) ∧ Below w.heap.size w w' :=
  (walk_f an han a1 w).mono fun _ _ ⟨he, hf⟩ => ⟨he, hf.below (Nat.le_refl _) (fun _ h => h.elim)⟩

/-! ### The row's step -/
theorem own : ownKnob Try.prog.godebug = none := by kernel_rfl
theorem laidOut : laidOutB Try.prog = true := by kernel_rfl

set_option maxRecDepth 100000 in
theorem lifted (os : Os) (started : os.Started) (H : Type) (enc : TypeId × Value → H) :
    ReturnsInHanded {} Try.checked os 7 .any (Rows.cellChainSpec.pre6 enc Try.prog Try.f7 Rows.cellChainRow.domain false) (Rows.cellChainSpec.post enc Try.prog Try.f7 false true false false) := by
  refine returnsInHanded_of_change (C := Try.checked) own started (by kernel_rfl) Try.func7
    (ChangeSpec.witness6 (enc := enc) (C := Try.checked) false ⟨#[], #[.agg #[.int .u8 0, .int .u8 0, .int .u8 0, .int .u8 0, .int .u8 0], .int .i64 0], []⟩ 8 (by kernel_rfl) (by kernel_rfl) (by kernel_rfl) (by kernel_rfl)) ?_
  intro W base args ds gs before hval0 hW hcnd _
  have hval : ∀ (j : Nat) t v, Try.f7.params[j]? = some t → args[j]? = some v → Value.okWide Try.prog W .any base t v := hval0
  have hW' := hW
  obtain ⟨p, q, hA0, hV, rfl, hfz, hnd⟩ := hW
  have hA : DataW.TrodAll enc Try.prog W 0 (fun _ => true) true Try.f7.params.toList args.toList ds p := hA0
  rw [Try.params7] at hA hval
  obtain ⟨v0, vs0, d0, ds0, p0, q0, hargs, rfl, rfl, h0, r0⟩ := trodAll_cons hA
  obtain ⟨v1, vs1, d1, ds1, p1, q1, rfl, rfl, rfl, h1, r1⟩ := trodAll_cons r0
  obtain ⟨rfl, rfl, rfl⟩ := trodAll_nil r1
  obtain rfl : args = #[v0, v1] := by cases args; simp_all
  obtain ⟨rfl, rfl⟩ := trodVars_none hV
  have k0 := h0
  have lt0 : ∀ x ∈ p0, x.block < W.heap.size := by obtain ⟨m, hm⟩ := k0; exact DataW.trod_lt m _ _ _ hm
  obtain ⟨z0, rfl, w0⟩ := open_arr (hval 0 59 v0 rfl rfl) h0
  obtain ⟨a1, rfl, rfl, rfl, w1⟩ := open_int Try.underlying2 (hval 1 2 v1 rfl rfl) h1
  clear hA0 hval0
  refine (walk z0 w0 a1 w1 W).mono fun e W' ⟨he, bel⟩ => ?_
  subst he
  exact ⟨_, rfl, _, _, _, [], _, [], hW', trodAll_mk1 (shut_bool Try.underlying4 _), (trodAll_cons_mk (Below.trod laidOut (by kernel_rfl) (of_decide_eq_true (by kernel_rfl)) k0 bel lt0) (trodAll_cons_mk (shut_int Try.underlying2 w1) trodAll_mk0)), rfl, bel.frame _, fun h => by cases h⟩

theorem over : Rows.cellChainRow.holds Try.pinned (OpenSpec.ofChange Rows.cellChainSpec) :=
  OpenClaim.holds_of_wide 7 Try.f7 rfl rfl rfl rfl rfl rfl rfl ⟨rfl, rfl, rfl, rfl, rfl⟩ rfl rfl rfl rfl rfl (by kernel_rfl) Try.func7 (by kernel_rfl)
    (of_decide_eq_true (by kernel_rfl)) (by unfold Func.isWrapper; first | (rw [if_pos (by decide +kernel)]; kernel_rfl) | (rw [if_neg (by decide +kernel)]; exact ⟨rfl, rfl⟩))
    (fun os started H enc _ => lifted os started H enc)

/-- The statement. -/
theorem proved : Rows.CellChainSaid := over
#print axioms proved
end Go.Proofs.Ytldcffgjkfocoaa.cellChain
