/-
  What the document's Read comes to, behind the first two bytes.
-/
import Derived.Test.YtahojahplpcbiaaRefR
import Derived.IntWalk
namespace Go.Proofs.Ytahojahplpcbiaa
open Go.RowKit

theorem readE_none (bs : List Int) (h0 : bs.getD 0 0 = 72) (h1 : 1 ≤ bs.length) (h : pProg (bs.drop 1) = none) : readE bs = 2 := by
  match bs, h1 with
  | x :: t, _ =>
    have hx : x = 72 := by simpa using h0
    have h' : pProg t = none := by simpa using h
    simp [readE, hx, h']
theorem readE_long (bs : List Int) (h0 : bs.getD 0 0 = 72) (h1 : 1 ≤ bs.length) (l : List Fn) (r : List Int) (hr : r ≠ []) (h : pProg (bs.drop 1) = some (l, r)) : readE bs = 3 := by
  match bs, h1 with
  | x :: t, _ =>
    have hx : x = 72 := by simpa using h0
    have h' : pProg t = some (l, r) := by simpa using h
    match r, hr with
    | y :: r', _ => simp [readE, hx, h']
theorem prog_many (bs : List Int) (h2 : 2 ≤ bs.length) : pProg (bs.drop 1) = pMany pFn (bs.getD 1 0).toNat (bs.drop 2) := by
  match bs, h2 with
  | x :: m :: t, _ => rfl

set_option maxHeartbeats 8000000 in
set_option maxRecDepth 100000 in
theorem refRead_main (w : World) (b off c : Nat) (bs : List Int) (h2 : 2 ≤ bs.length) (hl : bs.length ≤ 3000) (h72 : bs.getD 0 0 = 72) (hB : ∀ j, 0 ≤ bs.getD j 0 ∧ bs.getD j 0 ≤ 255) (hbq : b < w.heap.size)
    (hC : ∀ j, j < bs.length → w.cell? ⟨b, off + j, none⟩ = some (.int .u8 (bs.getD j 0))) :
    Calls Try.prog 15 #[.slice (some ⟨b, off, none⟩) bs.length c] w (RrPost w bs) := by
  obtain ⟨i5, hi5, hz50, hz51, hz52⟩ := info_parts info_rins
  obtain ⟨i2, hi2, hz20, hz21, hz22⟩ := info_parts info_rfn
  have d0 : w.cell? ⟨b, off, none⟩ = some (.int .u8 72) := by have := hC 0 (by omega); rw [h72] at this; exact this
  obtain ⟨m, hm⟩ := Int.eq_ofNat_of_zero_le (hB 1).1
  have hm255 : m ≤ 255 := by have := (hB 1).2; omega
  have d1 : w.cell? ⟨b, off + 1, none⟩ = some (.int .u8 (m : Int)) := by have := hC 1 (by omega); rw [hm] at this; exact this
  have g0 : ¬ (bs.length : Int) = 0 := by omega
  have g1 : ((bs.length : Int) == 0) = false := by simpa using g0
  have g2 : ¬ (bs.length : Int) < 2 := by omega
  have HC := Lib.hid hC
  have HB := Lib.hid hB
  have H72 := Lib.hid h72
  have HPM := Lib.hid (prog_many bs h2)
  rw [hm] at HPM
  clear hC hB h72 hm
  go_enter Try.func15, Try.ntmps15
  go_wp2_with fail
  go_loopw [4, 5, 6] (fun v a i wx => ∃ (k q : Nat) (L : List LFn), i = .int .i64 k ∧ a = .int .i64 q ∧ L.length = k ∧ k ≤ m ∧ q ≤ bs.length ∧ Part pFn (bs.drop 2) (fns L) (bs.drop q) ∧ MadeR wx w.heap.size v L ∧ Fr (fun _ => False) w wx) (fun v a i _ => m - (intOf i).toNat)
  case atStart => exact ⟨0, 2, [], rfl, rfl, rfl, by omega, by omega, rfl, ⟨⟨rfl, .inl ⟨rfl, rfl⟩⟩, (fun x hx => by cases hx)⟩, Fr.refl _ _⟩
  case round =>
    obtain ⟨k, q, L, rfl, rfl, hLk, hkm, hq, hP, hM, hF⟩ := hrel
    have e1 := hF.held d1 (fun h => h)
    have HP := Lib.hid hP
    have HM := Lib.hid hM
    have HF := Lib.hid hF
    have hbw := hF.size
    clear hP hM hF d0 d1
    have hfl : (fns L).length = k := by simp [fns, hLk]
    obtain ⟨wo, hwo⟩ : ∃ wo, wo = wr := ⟨_, rfl⟩
    subst hwo
    by_cases hk : k < m
    · by_cases hs : bs.length - q < 2
      · have g3 : (bs.length : Int) - (q : Int) < 2 := by omega
        go_wp2_with fail
        go_ret2
        exact .inr ⟨2, readE_none bs H72.out (by omega) (by rw [HPM.out]; exact HP.out.none (by rw [Int.toNat_natCast]; omega) (pFn_short _ (by rw [List.length_drop]; omega))), by decide, rfl, HF.out⟩
      · have g3 : ¬ (bs.length : Int) - (q : Int) < 2 := by omega
        have a0 := HF.out.held (HC.out q (by omega)) (fun h => h)
        have a1 := HF.out.held (HC.out (q + 1) (by omega)) (fun h => h)
        obtain ⟨ar, har⟩ := Int.eq_ofNat_of_zero_le (HB.out q).1
        obtain ⟨n, hn⟩ := Int.eq_ofNat_of_zero_le (HB.out (q + 1)).1
        have har2 : ar ≤ 255 := by have := (HB.out q).2; omega
        have hn2 : n ≤ 255 := by have := (HB.out (q + 1)).2; omega
        rw [har] at a0
        rw [hn] at a1
        have HAR := Lib.hid har
        have HN := Lib.hid hn
        clear har hn
        have hbo : b < wo.heap.size := by omega
        by_cases hf : bs.length - (q + 2) < 8 * n
        · have g4 : (bs.length : Int) - ((q : Int) + 2) < 8 * (n : Int) := by omega
          go_wp2_with fail
          go_ret2
          exact .inr ⟨2, readE_none bs H72.out (by omega) (by rw [HPM.out]; exact HP.out.none (by rw [Int.toNat_natCast]; omega) (pFn_few _ (by rw [List.length_drop]; omega) (by rw [drop_getD, HN.out, Int.toNat_natCast, List.length_drop, List.length_drop]; omega))), by decide, rfl, HF.out.alloc _⟩
        · have g4 : ¬ (bs.length : Int) - ((q : Int) + 2) < 8 * (n : Int) := by omega
          go_wp2_with fail
          have hO : Blk (wo.alloc (.cells #[.int .i64 (ar : Int), .slice none 0 0] 51)) wo.heap.size 51 #[.int .i64 (ar : Int), .slice none 0 0] := Blk.new _ _ _
          go_loopw [5, 9] (fun a i wx => ∃ (j : Nat) (l : List Ins) (v : Value), i = .int .i64 j ∧ a = .int .i64 ((q + 2 + 8 * j : Nat) : Int) ∧ l.length = j ∧ j ≤ n ∧ Part pIns (bs.drop (q + 2)) l (bs.drop (q + 2 + 8 * j)) ∧ Blk wx wo.heap.size 51 #[.int .i64 (ar : Int), v] ∧ wx.ownsRow wo.heap.size 56 5 v j (l.flatMap Ins.cells) ∧ Fr (fun _ => False) wo wx) (fun a i _ => n - (intOf i).toNat)
          case atStart => exact ⟨0, [], _, rfl, by go_num, rfl, by omega, rfl, hO, ⟨by simp, .inl ⟨rfl, rfl⟩⟩, (Fr.refl _ _).alloc _⟩
          case round =>
            clear hO
            obtain ⟨j, l, v, rfl, rfl, hlj, hjn, hPj, hBj, hown, hFj⟩ := hrel
            have c0 : wr.cell? ⟨wo.heap.size, 0, none⟩ = some (.int .i64 (ar : Int)) := by rw [hBj.cell]; rfl
            have c1 : wr.cell? ⟨wo.heap.size, 1, none⟩ = some v := by rw [hBj.cell]; rfl
            have f1 : wr.frozen? ⟨wo.heap.size, 1, none⟩ = false := hBj.frozen 1
            have hlt : wo.heap.size < wr.heap.size := hBj.lt
            have HPJ := Lib.hid hPj
            have HBJ := Lib.hid hBj
            have HOW := Lib.hid hown
            have HFJ := Lib.hid hFj
            clear hPj hBj hown hFj a0 a1
            by_cases hjl : j < n
            · have hbr : b < wr.heap.size := by omega
              have gt : ∀ i, i < 8 → wr.cell? ⟨b, off + (q + 2 + 8 * j + i), none⟩ = some (.int .u8 (bs.getD (q + 2 + 8 * j + i) 0)) := fun i hi => HFJ.out.held (HF.out.held (HC.out _ (by omega)) (fun h => h)) (fun h => h)
              generalize hqq : q + 2 + 8 * j = z at *
              have z0 := gt 0 (by omega)
              have z1 := gt 1 (by omega)
              have z2 := gt 2 (by omega)
              have z3 := gt 3 (by omega)
              have z4 := gt 4 (by omega)
              have z5 := gt 5 (by omega)
              have z6 := gt 6 (by omega)
              have z7 := gt 7 (by omega)
              have r0 := HB.out (z + 0)
              have r1 := HB.out (z + 1)
              have r2 := HB.out (z + 2)
              have r3 := HB.out (z + 3)
              have r4 := HB.out (z + 4)
              have r5 := HB.out (z + 5)
              have r6 := HB.out (z + 6)
              have r7 := HB.out (z + 7)
              rw [Nat.add_zero] at z0 r0
              have hins : pIns (bs.drop z) = some (⟨bs.getD z 0, bs.getD (z + 1) 0, bs.getD (z + 2) 0, bs.getD (z + 3) 0, kval (bs.getD (z + 4) 0) (bs.getD (z + 5) 0) (bs.getD (z + 6) 0) (bs.getD (z + 7) 0)⟩, bs.drop (z + 8)) := by
                rw [pIns_at _ (by rw [List.length_drop]; omega)]
                simp only [drop_getD, List.drop_drop, Nat.add_zero]
              have HINS := Lib.hid hins
              clear gt hins
              generalize bs.getD z 0 = y0 at *
              generalize bs.getD (z + 1) 0 = y1 at *
              generalize bs.getD (z + 2) 0 = y2 at *
              generalize bs.getD (z + 3) 0 = y3 at *
              generalize bs.getD (z + 4) 0 = y4 at *
              generalize bs.getD (z + 5) 0 = y5 at *
              generalize bs.getD (z + 6) 0 = y6 at *
              generalize bs.getD (z + 7) 0 = y7 at *
              have hzl : z + 8 ≤ bs.length := by omega
              have hneo := own_ne HOW.out HBJ.out (by decide)
              have HKV : Hid (∀ n : Int, n = y4 + 256 * (y5 + 256 * (y6 + 256 * y7)) - (if 2147483648 ≤ y4 + 256 * (y5 + 256 * (y6 + 256 * y7)) then 4294967296 else 0) → n = kval y4 y5 y6 y7) := Lib.hid (fun n hn => by
                unfold kval uval
                split at hn <;> split <;> omega)
              clear hi2 hz20 hz21 hz22 HC HB H72 HPM HP HM HF e1 hfl g0 g1 g2 g3 g4 c0
              by_cases hu : 2147483648 ≤ y4 + 256 * (y5 + 256 * (y6 + 256 * y7))
              · obtain ⟨ny, hny⟩ : ∃ ny, ny = y4 + 256 * (y5 + 256 * (y6 + 256 * y7)) - 4294967296 := ⟨_, rfl⟩
                have HNY : Hid (ny = kval y4 y5 y6 y7) := Lib.hid (HKV.out ny (by rw [if_pos hu]; exact hny))
                have bny : -2147483648 ≤ ny ∧ ny ≤ 2147483647 := by omega
                go_wp2_with fail
                go_quiet (fail)
                go_wp2_with fail
                rw [← hny]
                clear hny hu z4 z5 z6 z7 r4 r5 r6 r7
                have b1 : IntKind.i64.wrap ((z : Int) + 1) = (z : Int) + 1 := IntWalk.i64_in _ (by omega)
                have n1 : ((z : Int) + 1).toNat = z + 1 := by omega
                have p1 : 0 ≤ (z : Int) + 1 := by omega
                have l1 : (z : Int) + 1 < (bs.length : Int) := by omega
                have b2 : IntKind.i64.wrap ((z : Int) + 2) = (z : Int) + 2 := IntWalk.i64_in _ (by omega)
                have n2 : ((z : Int) + 2).toNat = z + 2 := by omega
                have p2 : 0 ≤ (z : Int) + 2 := by omega
                have l2 : (z : Int) + 2 < (bs.length : Int) := by omega
                have b3 : IntKind.i64.wrap ((z : Int) + 3) = (z : Int) + 3 := IntWalk.i64_in _ (by omega)
                have n3 : ((z : Int) + 3).toNat = z + 3 := by omega
                have p3 : 0 ≤ (z : Int) + 3 := by omega
                have l3 : (z : Int) + 3 < (bs.length : Int) := by omega
                have zl : z < bs.length := by omega
                have zl' : (z : Int) < (bs.length : Int) := by omega
                have v0 : IntKind.i64.wrap y0 = y0 := IntWalk.i64_in _ (by omega)
                have v1 : IntKind.i64.wrap y1 = y1 := IntWalk.i64_in _ (by omega)
                have v2 : IntKind.i64.wrap y2 = y2 := IntWalk.i64_in _ (by omega)
                have v3 : IntKind.i64.wrap y3 = y3 := IntWalk.i64_in _ (by omega)
                have hj3 : j < 3000 := by omega
                have hz3 : z + 8 ≤ 3000 := by omega
                have hbne : b ≠ wo.heap.size := by omega
                have hbne' : wo.heap.size ≠ b := by omega
                have hvb : some b ≠ v.ownBlock := fun h => by have := own_low HOW.out b h.symm; omega
                have e0 : (wr.drewN nq).cell? ⟨b, off + z, none⟩ = some (.int .u8 y0) := z0
                have e1 : (wr.drewN nq).cell? ⟨b, off + (z + 1), none⟩ = some (.int .u8 y1) := z1
                have e2 : (wr.drewN nq).cell? ⟨b, off + (z + 2), none⟩ = some (.int .u8 y2) := z2
                have e3 : (wr.drewN nq).cell? ⟨b, off + (z + 3), none⟩ = some (.int .u8 y3) := z3
                have ec : (wr.drewN nq).cell? ⟨wo.heap.size, 1, none⟩ = some v := c1
                have ef : (wr.drewN nq).frozen? ⟨wo.heap.size, 1, none⟩ = false := f1
                have elt : wo.heap.size < (wr.drewN nq).heap.size := hlt
                have HOW2 : Hid ((wr.drewN nq).ownsRow wo.heap.size 56 5 v j (l.flatMap Ins.cells)) := Lib.hid HOW.out
                have HBJ2 : Hid (Blk (wr.drewN nq) wo.heap.size 51 #[.int .i64 (ar : Int), v]) := Lib.hid HBJ.out
                have HFJ2 : Hid (Fr (fun _ => False) wo (wr.drewN nq)) := Lib.hid (HFJ.out.drewN _)
                clear r0 r1 r2 r3 hzl hl h2 hq hbw hkm hLk hn2 har2 hm255 hs hf hk hbq z0 z1 z2 z3 c1 f1 hlt HOW HBJ HFJ hbr
                generalize wr.drewN nq = w2 at *
                refine wp_region_noPanic ?_
                refine wp_region_held_drew (S := (fun w' => w'.cell? ⟨b, off + z, none⟩ = some (.int .u8 y0) ∧ w'.cell? ⟨b, off + (z + 1), none⟩ = some (.int .u8 y1) ∧ w'.cell? ⟨b, off + (z + 2), none⟩ = some (.int .u8 y2) ∧ w'.cell? ⟨b, off + (z + 3), none⟩ = some (.int .u8 y3))) (by kernel_rfl) (show _ from ⟨e0, e1, e2, e3⟩) (fun hHeld => ?_)
                refine wpAnyH_take (i := 0) (oi := { dst := some 96, op := Op.fieldAddr 51 (Operand.tmp 7) 1, type := 0, pos := "ref.go:71", after := #[], guard := none }) (v := .pointer (some ⟨wo.heap.size, 1, none⟩)) rfl (by kernel_rfl) (by kernel_rfl) (by kernel_rfl) (fun _ _ _ h => h) (Or.inl ⟨by rfl, (by intro w hSw; (try dsimp only at hSw); go_simp)⟩) hHeld ?_
                try simp only [Act.put, List.setIfInBounds_toArray, List.set_cons_zero, List.set_cons_succ]
                refine wpAnyH_take (i := 2) (oi := { dst := some 98, op := Op.move (Operand.tmp 0), type := 24, pos := "ref.go:71", after := #[], guard := none }) (v := .slice (some ⟨b, off, none⟩) bs.length c) rfl (by kernel_rfl) (by kernel_rfl) (by kernel_rfl) (fun _ _ _ h => h) (Or.inl ⟨by rfl, (by intro w hSw; (try dsimp only at hSw); go_simp)⟩) hHeld ?_
                try simp only [Act.put, List.setIfInBounds_toArray, List.set_cons_zero, List.set_cons_succ]
                refine wpAnyH_take (i := 3) (oi := { dst := some 99, op := Op.move (Operand.tmp 5), type := 3, pos := "ref.go:71", after := #[], guard := none }) (v := .int .i64 (z : Int)) rfl (by kernel_rfl) (by kernel_rfl) (by kernel_rfl) (fun _ _ _ h => h) (Or.inl ⟨by rfl, (by intro w hSw; (try dsimp only at hSw); go_simp)⟩) hHeld ?_
                try simp only [Act.put, List.setIfInBounds_toArray, List.set_cons_zero, List.set_cons_succ]
                refine wpAnyH_take (i := 4) (oi := { dst := some 100, op := Op.indexAddr 24 (Operand.tmp 98) (Operand.tmp 99), type := 0, pos := "ref.go:71", after := #[{ on := 2, ground := Ground.data }, { on := 3, ground := Ground.data }], guard := none }) (v := .pointer (some ⟨b, off + z, none⟩)) rfl (by kernel_rfl) (by kernel_rfl) (by kernel_rfl) (fun _ _ _ h => h) (Or.inl ⟨by rfl, (by intro w hSw; (try dsimp only at hSw); go_simp)⟩) hHeld ?_
                try simp only [Act.put, List.setIfInBounds_toArray, List.set_cons_zero, List.set_cons_succ]
                refine wpAnyH_take (i := 5) (oi := { dst := some 101, op := Op.load 5 (Operand.tmp 100), type := 5, pos := "ref.go:71", after := #[{ on := 4, ground := Ground.data }], guard := none }) (v := .int .u8 y0) rfl (by kernel_rfl) (by kernel_rfl) (by kernel_rfl) (fun _ _ _ h => h) (Or.inl ⟨by rfl, (by intro w hSw; (try dsimp only at hSw); go_simp)⟩) hHeld ?_
                try simp only [Act.put, List.setIfInBounds_toArray, List.set_cons_zero, List.set_cons_succ]
                refine wpAnyH_take (i := 6) (oi := { dst := some 102, op := Op.convert 5 3 (Operand.tmp 101), type := 3, pos := "ref.go:71", after := #[{ on := 5, ground := Ground.data }], guard := none }) (v := .int .i64 y0) rfl (by kernel_rfl) (by kernel_rfl) (by kernel_rfl) (fun _ _ _ h => h) (Or.inl ⟨by rfl, (by intro w hSw; (try dsimp only at hSw); go_simp)⟩) hHeld ?_
                try simp only [Act.put, List.setIfInBounds_toArray, List.set_cons_zero, List.set_cons_succ]
                refine wpAnyH_take (i := 7) (oi := { dst := some 103, op := Op.move (Operand.tmp 0), type := 24, pos := "ref.go:71", after := #[], guard := none }) (v := .slice (some ⟨b, off, none⟩) bs.length c) rfl (by kernel_rfl) (by kernel_rfl) (by kernel_rfl) (fun _ _ _ h => h) (Or.inl ⟨by rfl, (by intro w hSw; (try dsimp only at hSw); go_simp)⟩) hHeld ?_
                try simp only [Act.put, List.setIfInBounds_toArray, List.set_cons_zero, List.set_cons_succ]
                refine wpAnyH_take (i := 8) (oi := { dst := some 104, op := Op.move (Operand.tmp 5), type := 3, pos := "ref.go:71", after := #[], guard := none }) (v := .int .i64 (z : Int)) rfl (by kernel_rfl) (by kernel_rfl) (by kernel_rfl) (fun _ _ _ h => h) (Or.inl ⟨by rfl, (by intro w hSw; (try dsimp only at hSw); go_simp)⟩) hHeld ?_
                try simp only [Act.put, List.setIfInBounds_toArray, List.set_cons_zero, List.set_cons_succ]
                refine wpAnyH_take (i := 9) (oi := { dst := some 105, op := Op.binOp BinOp.add 3 (Operand.tmp 104) (Operand.const (Value.int IntKind.i64 1)) 3, type := 3, pos := "ref.go:71", after := #[{ on := 8, ground := Ground.data }], guard := none }) (v := .int .i64 ((z : Int) + 1)) rfl (by kernel_rfl) (by kernel_rfl) (by kernel_rfl) (fun _ _ _ h => h) (Or.inl ⟨by rfl, (by intro w hSw; (try dsimp only at hSw); go_simp)⟩) hHeld ?_
                try simp only [Act.put, List.setIfInBounds_toArray, List.set_cons_zero, List.set_cons_succ]
                refine wpAnyH_take (i := 10) (oi := { dst := some 106, op := Op.indexAddr 24 (Operand.tmp 103) (Operand.tmp 105), type := 0, pos := "ref.go:71", after := #[{ on := 7, ground := Ground.data }, { on := 9, ground := Ground.data }], guard := none }) (v := .pointer (some ⟨b, off + (z + 1), none⟩)) rfl (by kernel_rfl) (by kernel_rfl) (by kernel_rfl) (fun _ _ _ h => h) (Or.inl ⟨by rfl, (by intro w hSw; (try dsimp only at hSw); go_simp)⟩) hHeld ?_
                try simp only [Act.put, List.setIfInBounds_toArray, List.set_cons_zero, List.set_cons_succ]
                refine wpAnyH_take (i := 11) (oi := { dst := some 107, op := Op.load 5 (Operand.tmp 106), type := 5, pos := "ref.go:71", after := #[{ on := 10, ground := Ground.data }], guard := none }) (v := .int .u8 y1) rfl (by kernel_rfl) (by kernel_rfl) (by kernel_rfl) (fun _ _ _ h => h) (Or.inl ⟨by rfl, (by intro w hSw; (try dsimp only at hSw); go_simp)⟩) hHeld ?_
                try simp only [Act.put, List.setIfInBounds_toArray, List.set_cons_zero, List.set_cons_succ]
                refine wpAnyH_take (i := 12) (oi := { dst := some 108, op := Op.convert 5 3 (Operand.tmp 107), type := 3, pos := "ref.go:71", after := #[{ on := 11, ground := Ground.data }], guard := none }) (v := .int .i64 y1) rfl (by kernel_rfl) (by kernel_rfl) (by kernel_rfl) (fun _ _ _ h => h) (Or.inl ⟨by rfl, (by intro w hSw; (try dsimp only at hSw); go_simp)⟩) hHeld ?_
                try simp only [Act.put, List.setIfInBounds_toArray, List.set_cons_zero, List.set_cons_succ]
                refine wpAnyH_take (i := 13) (oi := { dst := some 109, op := Op.move (Operand.tmp 0), type := 24, pos := "ref.go:71", after := #[], guard := none }) (v := .slice (some ⟨b, off, none⟩) bs.length c) rfl (by kernel_rfl) (by kernel_rfl) (by kernel_rfl) (fun _ _ _ h => h) (Or.inl ⟨by rfl, (by intro w hSw; (try dsimp only at hSw); go_simp)⟩) hHeld ?_
                try simp only [Act.put, List.setIfInBounds_toArray, List.set_cons_zero, List.set_cons_succ]
                refine wpAnyH_take (i := 14) (oi := { dst := some 110, op := Op.move (Operand.tmp 5), type := 3, pos := "ref.go:71", after := #[], guard := none }) (v := .int .i64 (z : Int)) rfl (by kernel_rfl) (by kernel_rfl) (by kernel_rfl) (fun _ _ _ h => h) (Or.inl ⟨by rfl, (by intro w hSw; (try dsimp only at hSw); go_simp)⟩) hHeld ?_
                try simp only [Act.put, List.setIfInBounds_toArray, List.set_cons_zero, List.set_cons_succ]
                refine wpAnyH_take (i := 15) (oi := { dst := some 111, op := Op.binOp BinOp.add 3 (Operand.tmp 110) (Operand.const (Value.int IntKind.i64 2)) 3, type := 3, pos := "ref.go:71", after := #[{ on := 14, ground := Ground.data }], guard := none }) (v := .int .i64 ((z : Int) + 2)) rfl (by kernel_rfl) (by kernel_rfl) (by kernel_rfl) (fun _ _ _ h => h) (Or.inl ⟨by rfl, (by intro w hSw; (try dsimp only at hSw); go_simp)⟩) hHeld ?_
                try simp only [Act.put, List.setIfInBounds_toArray, List.set_cons_zero, List.set_cons_succ]
                refine wpAnyH_take (i := 16) (oi := { dst := some 112, op := Op.indexAddr 24 (Operand.tmp 109) (Operand.tmp 111), type := 0, pos := "ref.go:71", after := #[{ on := 13, ground := Ground.data }, { on := 15, ground := Ground.data }], guard := none }) (v := .pointer (some ⟨b, off + (z + 2), none⟩)) rfl (by kernel_rfl) (by kernel_rfl) (by kernel_rfl) (fun _ _ _ h => h) (Or.inl ⟨by rfl, (by intro w hSw; (try dsimp only at hSw); go_simp)⟩) hHeld ?_
                try simp only [Act.put, List.setIfInBounds_toArray, List.set_cons_zero, List.set_cons_succ]
                refine wpAnyH_take (i := 17) (oi := { dst := some 113, op := Op.load 5 (Operand.tmp 112), type := 5, pos := "ref.go:71", after := #[{ on := 16, ground := Ground.data }], guard := none }) (v := .int .u8 y2) rfl (by kernel_rfl) (by kernel_rfl) (by kernel_rfl) (fun _ _ _ h => h) (Or.inl ⟨by rfl, (by intro w hSw; (try dsimp only at hSw); go_simp)⟩) hHeld ?_
                try simp only [Act.put, List.setIfInBounds_toArray, List.set_cons_zero, List.set_cons_succ]
                refine wpAnyH_take (i := 18) (oi := { dst := some 114, op := Op.convert 5 3 (Operand.tmp 113), type := 3, pos := "ref.go:71", after := #[{ on := 17, ground := Ground.data }], guard := none }) (v := .int .i64 y2) rfl (by kernel_rfl) (by kernel_rfl) (by kernel_rfl) (fun _ _ _ h => h) (Or.inl ⟨by rfl, (by intro w hSw; (try dsimp only at hSw); go_simp)⟩) hHeld ?_
                try simp only [Act.put, List.setIfInBounds_toArray, List.set_cons_zero, List.set_cons_succ]
                refine wpAnyH_take (i := 19) (oi := { dst := some 115, op := Op.move (Operand.tmp 0), type := 24, pos := "ref.go:71", after := #[], guard := none }) (v := .slice (some ⟨b, off, none⟩) bs.length c) rfl (by kernel_rfl) (by kernel_rfl) (by kernel_rfl) (fun _ _ _ h => h) (Or.inl ⟨by rfl, (by intro w hSw; (try dsimp only at hSw); go_simp)⟩) hHeld ?_
                try simp only [Act.put, List.setIfInBounds_toArray, List.set_cons_zero, List.set_cons_succ]
                refine wpAnyH_take (i := 20) (oi := { dst := some 116, op := Op.move (Operand.tmp 5), type := 3, pos := "ref.go:71", after := #[], guard := none }) (v := .int .i64 (z : Int)) rfl (by kernel_rfl) (by kernel_rfl) (by kernel_rfl) (fun _ _ _ h => h) (Or.inl ⟨by rfl, (by intro w hSw; (try dsimp only at hSw); go_simp)⟩) hHeld ?_
                try simp only [Act.put, List.setIfInBounds_toArray, List.set_cons_zero, List.set_cons_succ]
                refine wpAnyH_take (i := 21) (oi := { dst := some 117, op := Op.binOp BinOp.add 3 (Operand.tmp 116) (Operand.const (Value.int IntKind.i64 3)) 3, type := 3, pos := "ref.go:71", after := #[{ on := 20, ground := Ground.data }], guard := none }) (v := .int .i64 ((z : Int) + 3)) rfl (by kernel_rfl) (by kernel_rfl) (by kernel_rfl) (fun _ _ _ h => h) (Or.inl ⟨by rfl, (by intro w hSw; (try dsimp only at hSw); go_simp)⟩) hHeld ?_
                try simp only [Act.put, List.setIfInBounds_toArray, List.set_cons_zero, List.set_cons_succ]
                refine wpAnyH_take (i := 22) (oi := { dst := some 118, op := Op.indexAddr 24 (Operand.tmp 115) (Operand.tmp 117), type := 0, pos := "ref.go:71", after := #[{ on := 19, ground := Ground.data }, { on := 21, ground := Ground.data }], guard := none }) (v := .pointer (some ⟨b, off + (z + 3), none⟩)) rfl (by kernel_rfl) (by kernel_rfl) (by kernel_rfl) (fun _ _ _ h => h) (Or.inl ⟨by rfl, (by intro w hSw; (try dsimp only at hSw); go_simp)⟩) hHeld ?_
                try simp only [Act.put, List.setIfInBounds_toArray, List.set_cons_zero, List.set_cons_succ]
                refine wpAnyH_take (i := 23) (oi := { dst := some 119, op := Op.load 5 (Operand.tmp 118), type := 5, pos := "ref.go:71", after := #[{ on := 22, ground := Ground.data }], guard := none }) (v := .int .u8 y3) rfl (by kernel_rfl) (by kernel_rfl) (by kernel_rfl) (fun _ _ _ h => h) (Or.inl ⟨by rfl, (by intro w hSw; (try dsimp only at hSw); go_simp)⟩) hHeld ?_
                try simp only [Act.put, List.setIfInBounds_toArray, List.set_cons_zero, List.set_cons_succ]
                refine wpAnyH_take (i := 24) (oi := { dst := some 120, op := Op.convert 5 3 (Operand.tmp 119), type := 3, pos := "ref.go:71", after := #[{ on := 23, ground := Ground.data }], guard := none }) (v := .int .i64 y3) rfl (by kernel_rfl) (by kernel_rfl) (by kernel_rfl) (fun _ _ _ h => h) (Or.inl ⟨by rfl, (by intro w hSw; (try dsimp only at hSw); go_simp)⟩) hHeld ?_
                try simp only [Act.put, List.setIfInBounds_toArray, List.set_cons_zero, List.set_cons_succ]
                refine wpAnyH_take (i := 25) (oi := { dst := some 121, op := Op.move (Operand.tmp 10), type := 3, pos := "ref.go:71", after := #[], guard := none }) (v := .int .i64 ny) rfl (by kernel_rfl) (by kernel_rfl) (by kernel_rfl) (fun _ _ _ h => h) (Or.inl ⟨by rfl, (by intro w hSw; (try dsimp only at hSw); go_simp)⟩) hHeld ?_
                try simp only [Act.put, List.setIfInBounds_toArray, List.set_cons_zero, List.set_cons_succ]
                refine wpAnyH_take (i := 26) (oi := { dst := some 122, op := Op.build 56 #[(0, Operand.tmp 102), (1, Operand.tmp 108), (2, Operand.tmp 114), (3, Operand.tmp 120), (4, Operand.tmp 121)], type := 56, pos := "ref.go:71", after := #[{ on := 6, ground := Ground.data }, { on := 12, ground := Ground.data }, { on := 18, ground := Ground.data }, { on := 24, ground := Ground.data }, { on := 25, ground := Ground.data }], guard := none }) (v := .agg #[.int .i64 y0, .int .i64 y1, .int .i64 y2, .int .i64 y3, .int .i64 ny]) rfl (by kernel_rfl) (by kernel_rfl) (by kernel_rfl) (fun _ _ _ h => h) (Or.inl ⟨by rfl, (by intro w hSw; (try dsimp only at hSw); go_simp)⟩) hHeld ?_
                try simp only [Act.put, List.setIfInBounds_toArray, List.set_cons_zero, List.set_cons_succ]
                refine wpAnyH_ready (rs := [1, 27]) (by kernel_rfl) (by simp) ?_
                refine AllReadyH.cons (o := { dst := some 97, op := Op.load 49 (Operand.tmp 96), type := 49, pos := "ref.go:71", after := #[{ on := 0, ground := Ground.data }], guard := none }) rfl (fun K hK => ?_) ?_
                · go_simp
                  refine hK.out _ _ (by ((try dsimp only); first | go_keep | (go_split_ands; refine ⟨?_, ?_, ?_, ?_⟩ <;> (rw [hg1.cell_far _ (by simp; omega) hvb]; assumption)))) (fun hH1 => ?_)
                  clear hK K
                  try simp only [Act.put, List.setIfInBounds_toArray, List.set_cons_zero, List.set_cons_succ]
                  refine wpAnyH_ready (rs := [27]) (by kernel_rfl) (by simp) ?_
                  refine AllReadyH.cons (o := { dst := some 123, op := Op.buildSlice 49 1 #[(0, Operand.tmp 122)], type := 49, pos := "ref.go:71", after := #[{ on := 26, ground := Ground.data }], guard := none }) rfl (fun K hK => ?_) AllReadyH.nil
                  go_simp
                  refine hK.out _ _ (by ((try dsimp only); first | go_keep | (go_split_ands; refine ⟨?_, ?_, ?_, ?_⟩ <;> (rw [hg1.cell_far _ (by simp; omega) hvb]; assumption)))) (fun hH27 => ?_)
                  clear hK K
                  try simp only [Act.put, List.setIfInBounds_toArray, List.set_cons_zero, List.set_cons_succ]
                  refine wpAnyH_ready (rs := [28]) (by kernel_rfl) (by simp) ?_
                  refine AllReadyH.cons (o := { dst := some 124, op := Op.call { callee := Callee.builtin Builtin.append, args := #[Operand.tmp 97, Operand.tmp 123], argTypes := #[49, 49] }, type := 49, pos := "ref.go:71", after := #[{ on := 1, ground := Ground.data }, { on := 27, ground := Ground.data }], guard := none }) rfl (fun K hK => ?_) AllReadyH.nil
                  (refine step_append_lies _ (by rfl) _ _ _ (by rfl) wo.heap.size 56 i5 _ 5 40 Try.underlying49 hi5 hz50 hz51 hz52 rfl (by omega) v j _ (by rfl) (own_fr HOW2.out (((Fr.refl (fun _ => False) w2).alloc _).drew) (fun _ _ h => h)) ⟨w2.heap.size, 0, none⟩ 1 1 [.int .i64 y0, .int .i64 y1, .int .i64 y2, .int .i64 y3, .int .i64 ny] (by rfl) (by rfl) (World.news_of_block (cs := #[.int .i64 y0, .int .i64 y1, .int .i64 y2, .int .i64 y3, .int .i64 ny]) (t := 56) (fr := (0, 0)) (heap_alloc_new w2 _)) (by simp [Value.oneCell']) (by omega) (by unfold maxLen; omega) (by omega) (by simp; omega) (w2.heap.size + 1) (by simp) ?_; intro g cap w1 hown1 hg1 hat hlt1; have hcf : w1.cell? ⟨wo.heap.size, 1, none⟩ = some v := hg1.cell (by exact (World.cell?_alloc_lt _ _ _ elt).trans ec) (fun h => hneo h.symm); have hff : w1.frozen? ⟨wo.heap.size, 1, none⟩ = false := (by rw [World.frozen?_of_block (hg1.block wo.heap.size (by simp; omega) (fun h => hneo h.symm))]; exact (HBJ2.out.alloc _).frozen 1); clear hat)
                  refine hK.out _ _ (by ((try dsimp only); first | go_keep | (go_split_ands; refine ⟨?_, ?_, ?_, ?_⟩ <;> (rw [hg1.cell_far _ (by simp; omega) hvb]; assumption)))) (fun hH28 => ?_)
                  clear hK K
                  try simp only [Act.put, List.setIfInBounds_toArray, List.set_cons_zero, List.set_cons_succ]
                  refine wpAnyH_take (i := 29) (oi := { dst := some 125, op := Op.fieldAddr 51 (Operand.tmp 7) 1, type := 0, pos := "ref.go:71", after := #[{ on := 0, ground := Ground.phase }, { on := 1, ground := Ground.phase }, { on := 2, ground := Ground.phase }, { on := 3, ground := Ground.phase }, { on := 4, ground := Ground.phase }, { on := 5, ground := Ground.phase }, { on := 6, ground := Ground.phase }, { on := 7, ground := Ground.phase }, { on := 8, ground := Ground.phase }, { on := 9, ground := Ground.phase }, { on := 10, ground := Ground.phase }, { on := 11, ground := Ground.phase }, { on := 12, ground := Ground.phase }, { on := 13, ground := Ground.phase }, { on := 14, ground := Ground.phase }, { on := 15, ground := Ground.phase }, { on := 16, ground := Ground.phase }, { on := 17, ground := Ground.phase }, { on := 18, ground := Ground.phase }, { on := 19, ground := Ground.phase }, { on := 20, ground := Ground.phase }, { on := 21, ground := Ground.phase }, { on := 22, ground := Ground.phase }, { on := 23, ground := Ground.phase }, { on := 24, ground := Ground.phase }, { on := 25, ground := Ground.phase }, { on := 26, ground := Ground.phase }, { on := 27, ground := Ground.phase }, { on := 28, ground := Ground.phase }], guard := none }) (v := .pointer (some ⟨wo.heap.size, 1, none⟩)) rfl (by kernel_rfl) (by kernel_rfl) (by kernel_rfl) (fun _ _ _ h => h) (Or.inl ⟨by rfl, (by intro w hSw; (try dsimp only at hSw); go_simp)⟩) hH28 ?_
                  try simp only [Act.put, List.setIfInBounds_toArray, List.set_cons_zero, List.set_cons_succ]
                  refine wpAnyH_ready (rs := [30]) (by kernel_rfl) (by simp) ?_
                  refine AllReadyH.cons (o := { dst := none, op := Op.store 49 (Operand.tmp 125) (Operand.tmp 124), type := 0, pos := "ref.go:71", after := #[{ on := 29, ground := Ground.data }, { on := 28, ground := Ground.data }, { on := 28, ground := Ground.chain }, { on := 0, ground := Ground.phase }, { on := 1, ground := Ground.phase }, { on := 2, ground := Ground.phase }, { on := 3, ground := Ground.phase }, { on := 4, ground := Ground.phase }, { on := 5, ground := Ground.phase }, { on := 6, ground := Ground.phase }, { on := 7, ground := Ground.phase }, { on := 8, ground := Ground.phase }, { on := 9, ground := Ground.phase }, { on := 10, ground := Ground.phase }, { on := 11, ground := Ground.phase }, { on := 12, ground := Ground.phase }, { on := 13, ground := Ground.phase }, { on := 14, ground := Ground.phase }, { on := 15, ground := Ground.phase }, { on := 16, ground := Ground.phase }, { on := 17, ground := Ground.phase }, { on := 18, ground := Ground.phase }, { on := 19, ground := Ground.phase }, { on := 20, ground := Ground.phase }, { on := 21, ground := Ground.phase }, { on := 22, ground := Ground.phase }, { on := 23, ground := Ground.phase }, { on := 24, ground := Ground.phase }, { on := 25, ground := Ground.phase }, { on := 26, ground := Ground.phase }, { on := 27, ground := Ground.phase }, { on := 28, ground := Ground.phase }], guard := none }) rfl (fun K hK => ?_) AllReadyH.nil
                  go_simp
                  refine hK.out _ _ (by ((try dsimp only); first | go_keep | (go_split_ands; refine ⟨?_, ?_, ?_, ?_⟩ <;> (rw [hg1.cell_far _ (by simp; omega) hvb]; assumption)))) (fun hH30 => ?_)
                  clear hK K
                  try simp only [Act.put, List.setIfInBounds_toArray, List.set_cons_zero, List.set_cons_succ]
                  refine wpAnyH_done (by kernel_rfl) ?_ _
                  refine NoPanic.normal ?_
                  have HG1 := Lib.hid hg1
                  have HW1 := Lib.hid hown1
                  clear hg1 hown1
                  go_wp2_with fail
                  have hBw : Blk w1 wo.heap.size 51 #[.int .i64 (ar : Int), v] := (HG1.out.block wo.heap.size (by simp; omega) (fun h => hneo h.symm)).trans (HBJ2.out.alloc _)
                  refine ⟨⟨j + 1, l ++ [⟨y0, y1, y2, y3, kval y4 y5 y6 y7⟩], _, by go_num, by rw [← hqq]; go_num, by simp [hlj], by omega, ?_, hBw.set_ 1 _, ?_, ((HFJ2.out.alloc _).drew.grow HG1.out (own_low HOW2.out)).setCell (.inr (Nat.le_refl _)) _⟩, by simp [intOf]; omega⟩
                  · have := HPJ.out.snoc HINS.out
                    rw [show q + 2 + 8 * (j + 1) = z + 8 by omega]
                    exact this
                  · rw [List.flatMap_append, ← HNY.out]
                    exact own_fr HW1.out ((Fr.refl (fun b => b = wo.heap.size) w1).setCell (.inl rfl) _) (fun g' hg' h => own_ne HW1.out hBw (by decide) (by rw [hg', h]))
                refine AllReadyH.cons (o := { dst := some 123, op := Op.buildSlice 49 1 #[(0, Operand.tmp 122)], type := 49, pos := "ref.go:71", after := #[{ on := 26, ground := Ground.data }], guard := none }) rfl (fun K hK => ?_) AllReadyH.nil
                go_simp
                refine hK.out _ _ (by ((try dsimp only); first | go_keep | (go_split_ands; refine ⟨?_, ?_, ?_, ?_⟩ <;> (rw [hg1.cell_far _ (by simp; omega) hvb]; assumption)))) (fun hH27 => ?_)
                clear hK K
                try simp only [Act.put, List.setIfInBounds_toArray, List.set_cons_zero, List.set_cons_succ]
                refine wpAnyH_ready (rs := [1]) (by kernel_rfl) (by simp) ?_
                refine AllReadyH.cons (o := { dst := some 97, op := Op.load 49 (Operand.tmp 96), type := 49, pos := "ref.go:71", after := #[{ on := 0, ground := Ground.data }], guard := none }) rfl (fun K hK => ?_) AllReadyH.nil
                go_simp
                refine hK.out _ _ (by ((try dsimp only); first | go_keep | (go_split_ands; refine ⟨?_, ?_, ?_, ?_⟩ <;> (rw [hg1.cell_far _ (by simp; omega) hvb]; assumption)))) (fun hH1 => ?_)
                clear hK K
                try simp only [Act.put, List.setIfInBounds_toArray, List.set_cons_zero, List.set_cons_succ]
                refine wpAnyH_ready (rs := [28]) (by kernel_rfl) (by simp) ?_
                refine AllReadyH.cons (o := { dst := some 124, op := Op.call { callee := Callee.builtin Builtin.append, args := #[Operand.tmp 97, Operand.tmp 123], argTypes := #[49, 49] }, type := 49, pos := "ref.go:71", after := #[{ on := 1, ground := Ground.data }, { on := 27, ground := Ground.data }], guard := none }) rfl (fun K hK => ?_) AllReadyH.nil
                (refine step_append_lies _ (by rfl) _ _ _ (by rfl) wo.heap.size 56 i5 _ 5 40 Try.underlying49 hi5 hz50 hz51 hz52 rfl (by omega) v j _ (by rfl) (own_fr HOW2.out (((Fr.refl (fun _ => False) w2).alloc _).drew) (fun _ _ h => h)) ⟨w2.heap.size, 0, none⟩ 1 1 [.int .i64 y0, .int .i64 y1, .int .i64 y2, .int .i64 y3, .int .i64 ny] (by rfl) (by rfl) (World.news_of_block (cs := #[.int .i64 y0, .int .i64 y1, .int .i64 y2, .int .i64 y3, .int .i64 ny]) (t := 56) (fr := (0, 0)) (heap_alloc_new w2 _)) (by simp [Value.oneCell']) (by omega) (by unfold maxLen; omega) (by omega) (by simp; omega) (w2.heap.size + 1) (by simp) ?_; intro g cap w1 hown1 hg1 hat hlt1; have hcf : w1.cell? ⟨wo.heap.size, 1, none⟩ = some v := hg1.cell (by exact (World.cell?_alloc_lt _ _ _ elt).trans ec) (fun h => hneo h.symm); have hff : w1.frozen? ⟨wo.heap.size, 1, none⟩ = false := (by rw [World.frozen?_of_block (hg1.block wo.heap.size (by simp; omega) (fun h => hneo h.symm))]; exact (HBJ2.out.alloc _).frozen 1); clear hat)
                refine hK.out _ _ (by ((try dsimp only); first | go_keep | (go_split_ands; refine ⟨?_, ?_, ?_, ?_⟩ <;> (rw [hg1.cell_far _ (by simp; omega) hvb]; assumption)))) (fun hH28 => ?_)
                clear hK K
                try simp only [Act.put, List.setIfInBounds_toArray, List.set_cons_zero, List.set_cons_succ]
                refine wpAnyH_take (i := 29) (oi := { dst := some 125, op := Op.fieldAddr 51 (Operand.tmp 7) 1, type := 0, pos := "ref.go:71", after := #[{ on := 0, ground := Ground.phase }, { on := 1, ground := Ground.phase }, { on := 2, ground := Ground.phase }, { on := 3, ground := Ground.phase }, { on := 4, ground := Ground.phase }, { on := 5, ground := Ground.phase }, { on := 6, ground := Ground.phase }, { on := 7, ground := Ground.phase }, { on := 8, ground := Ground.phase }, { on := 9, ground := Ground.phase }, { on := 10, ground := Ground.phase }, { on := 11, ground := Ground.phase }, { on := 12, ground := Ground.phase }, { on := 13, ground := Ground.phase }, { on := 14, ground := Ground.phase }, { on := 15, ground := Ground.phase }, { on := 16, ground := Ground.phase }, { on := 17, ground := Ground.phase }, { on := 18, ground := Ground.phase }, { on := 19, ground := Ground.phase }, { on := 20, ground := Ground.phase }, { on := 21, ground := Ground.phase }, { on := 22, ground := Ground.phase }, { on := 23, ground := Ground.phase }, { on := 24, ground := Ground.phase }, { on := 25, ground := Ground.phase }, { on := 26, ground := Ground.phase }, { on := 27, ground := Ground.phase }, { on := 28, ground := Ground.phase }], guard := none }) (v := .pointer (some ⟨wo.heap.size, 1, none⟩)) rfl (by kernel_rfl) (by kernel_rfl) (by kernel_rfl) (fun _ _ _ h => h) (Or.inl ⟨by rfl, (by intro w hSw; (try dsimp only at hSw); go_simp)⟩) hH28 ?_
                try simp only [Act.put, List.setIfInBounds_toArray, List.set_cons_zero, List.set_cons_succ]
                refine wpAnyH_ready (rs := [30]) (by kernel_rfl) (by simp) ?_
                refine AllReadyH.cons (o := { dst := none, op := Op.store 49 (Operand.tmp 125) (Operand.tmp 124), type := 0, pos := "ref.go:71", after := #[{ on := 29, ground := Ground.data }, { on := 28, ground := Ground.data }, { on := 28, ground := Ground.chain }, { on := 0, ground := Ground.phase }, { on := 1, ground := Ground.phase }, { on := 2, ground := Ground.phase }, { on := 3, ground := Ground.phase }, { on := 4, ground := Ground.phase }, { on := 5, ground := Ground.phase }, { on := 6, ground := Ground.phase }, { on := 7, ground := Ground.phase }, { on := 8, ground := Ground.phase }, { on := 9, ground := Ground.phase }, { on := 10, ground := Ground.phase }, { on := 11, ground := Ground.phase }, { on := 12, ground := Ground.phase }, { on := 13, ground := Ground.phase }, { on := 14, ground := Ground.phase }, { on := 15, ground := Ground.phase }, { on := 16, ground := Ground.phase }, { on := 17, ground := Ground.phase }, { on := 18, ground := Ground.phase }, { on := 19, ground := Ground.phase }, { on := 20, ground := Ground.phase }, { on := 21, ground := Ground.phase }, { on := 22, ground := Ground.phase }, { on := 23, ground := Ground.phase }, { on := 24, ground := Ground.phase }, { on := 25, ground := Ground.phase }, { on := 26, ground := Ground.phase }, { on := 27, ground := Ground.phase }, { on := 28, ground := Ground.phase }], guard := none }) rfl (fun K hK => ?_) AllReadyH.nil
                go_simp
                refine hK.out _ _ (by ((try dsimp only); first | go_keep | (go_split_ands; refine ⟨?_, ?_, ?_, ?_⟩ <;> (rw [hg1.cell_far _ (by simp; omega) hvb]; assumption)))) (fun hH30 => ?_)
                clear hK K
                try simp only [Act.put, List.setIfInBounds_toArray, List.set_cons_zero, List.set_cons_succ]
                refine wpAnyH_done (by kernel_rfl) ?_ _
                refine NoPanic.normal ?_
                have HG1 := Lib.hid hg1
                have HW1 := Lib.hid hown1
                clear hg1 hown1
                go_wp2_with fail
                have hBw : Blk w1 wo.heap.size 51 #[.int .i64 (ar : Int), v] := (HG1.out.block wo.heap.size (by simp; omega) (fun h => hneo h.symm)).trans (HBJ2.out.alloc _)
                refine ⟨⟨j + 1, l ++ [⟨y0, y1, y2, y3, kval y4 y5 y6 y7⟩], _, by go_num, by rw [← hqq]; go_num, by simp [hlj], by omega, ?_, hBw.set_ 1 _, ?_, ((HFJ2.out.alloc _).drew.grow HG1.out (own_low HOW2.out)).setCell (.inr (Nat.le_refl _)) _⟩, by simp [intOf]; omega⟩
                · have := HPJ.out.snoc HINS.out
                  rw [show q + 2 + 8 * (j + 1) = z + 8 by omega]
                  exact this
                · rw [List.flatMap_append, ← HNY.out]
                  exact own_fr HW1.out ((Fr.refl (fun b => b = wo.heap.size) w1).setCell (.inl rfl) _) (fun g' hg' h => own_ne HW1.out hBw (by decide) (by rw [hg', h]))
              · obtain ⟨ny, hny⟩ : ∃ ny, ny = y4 + 256 * (y5 + 256 * (y6 + 256 * y7)) := ⟨_, rfl⟩
                have HNY : Hid (ny = kval y4 y5 y6 y7) := Lib.hid (HKV.out ny (by rw [if_neg hu]; omega))
                have bny : 0 ≤ ny ∧ ny ≤ 2147483647 := by omega
                have hu' : y4 + 256 * (y5 + 256 * (y6 + 256 * y7)) < 2147483648 := by omega
                clear hu
                go_wp2_with fail
                go_quiet (fail)
                go_wp2_with fail
                rw [← hny]
                clear hny hu' z4 z5 z6 z7 r4 r5 r6 r7
                have b1 : IntKind.i64.wrap ((z : Int) + 1) = (z : Int) + 1 := IntWalk.i64_in _ (by omega)
                have n1 : ((z : Int) + 1).toNat = z + 1 := by omega
                have p1 : 0 ≤ (z : Int) + 1 := by omega
                have l1 : (z : Int) + 1 < (bs.length : Int) := by omega
                have b2 : IntKind.i64.wrap ((z : Int) + 2) = (z : Int) + 2 := IntWalk.i64_in _ (by omega)
                have n2 : ((z : Int) + 2).toNat = z + 2 := by omega
                have p2 : 0 ≤ (z : Int) + 2 := by omega
                have l2 : (z : Int) + 2 < (bs.length : Int) := by omega
                have b3 : IntKind.i64.wrap ((z : Int) + 3) = (z : Int) + 3 := IntWalk.i64_in _ (by omega)
                have n3 : ((z : Int) + 3).toNat = z + 3 := by omega
                have p3 : 0 ≤ (z : Int) + 3 := by omega
                have l3 : (z : Int) + 3 < (bs.length : Int) := by omega
                have zl : z < bs.length := by omega
                have zl' : (z : Int) < (bs.length : Int) := by omega
                have v0 : IntKind.i64.wrap y0 = y0 := IntWalk.i64_in _ (by omega)
                have v1 : IntKind.i64.wrap y1 = y1 := IntWalk.i64_in _ (by omega)
                have v2 : IntKind.i64.wrap y2 = y2 := IntWalk.i64_in _ (by omega)
                have v3 : IntKind.i64.wrap y3 = y3 := IntWalk.i64_in _ (by omega)
                have hj3 : j < 3000 := by omega
                have hz3 : z + 8 ≤ 3000 := by omega
                have hbne : b ≠ wo.heap.size := by omega
                have hbne' : wo.heap.size ≠ b := by omega
                have hvb : some b ≠ v.ownBlock := fun h => by have := own_low HOW.out b h.symm; omega
                have e0 : (wr.drewN nq).cell? ⟨b, off + z, none⟩ = some (.int .u8 y0) := z0
                have e1 : (wr.drewN nq).cell? ⟨b, off + (z + 1), none⟩ = some (.int .u8 y1) := z1
                have e2 : (wr.drewN nq).cell? ⟨b, off + (z + 2), none⟩ = some (.int .u8 y2) := z2
                have e3 : (wr.drewN nq).cell? ⟨b, off + (z + 3), none⟩ = some (.int .u8 y3) := z3
                have ec : (wr.drewN nq).cell? ⟨wo.heap.size, 1, none⟩ = some v := c1
                have ef : (wr.drewN nq).frozen? ⟨wo.heap.size, 1, none⟩ = false := f1
                have elt : wo.heap.size < (wr.drewN nq).heap.size := hlt
                have HOW2 : Hid ((wr.drewN nq).ownsRow wo.heap.size 56 5 v j (l.flatMap Ins.cells)) := Lib.hid HOW.out
                have HBJ2 : Hid (Blk (wr.drewN nq) wo.heap.size 51 #[.int .i64 (ar : Int), v]) := Lib.hid HBJ.out
                have HFJ2 : Hid (Fr (fun _ => False) wo (wr.drewN nq)) := Lib.hid (HFJ.out.drewN _)
                clear r0 r1 r2 r3 hzl hl h2 hq hbw hkm hLk hn2 har2 hm255 hs hf hk hbq z0 z1 z2 z3 c1 f1 hlt HOW HBJ HFJ hbr
                generalize wr.drewN nq = w2 at *
                refine wp_region_noPanic ?_
                refine wp_region_held_drew (S := (fun w' => w'.cell? ⟨b, off + z, none⟩ = some (.int .u8 y0) ∧ w'.cell? ⟨b, off + (z + 1), none⟩ = some (.int .u8 y1) ∧ w'.cell? ⟨b, off + (z + 2), none⟩ = some (.int .u8 y2) ∧ w'.cell? ⟨b, off + (z + 3), none⟩ = some (.int .u8 y3))) (by kernel_rfl) (show _ from ⟨e0, e1, e2, e3⟩) (fun hHeld => ?_)
                refine wpAnyH_take (i := 0) (oi := { dst := some 96, op := Op.fieldAddr 51 (Operand.tmp 7) 1, type := 0, pos := "ref.go:71", after := #[], guard := none }) (v := .pointer (some ⟨wo.heap.size, 1, none⟩)) rfl (by kernel_rfl) (by kernel_rfl) (by kernel_rfl) (fun _ _ _ h => h) (Or.inl ⟨by rfl, (by intro w hSw; (try dsimp only at hSw); go_simp)⟩) hHeld ?_
                try simp only [Act.put, List.setIfInBounds_toArray, List.set_cons_zero, List.set_cons_succ]
                refine wpAnyH_take (i := 2) (oi := { dst := some 98, op := Op.move (Operand.tmp 0), type := 24, pos := "ref.go:71", after := #[], guard := none }) (v := .slice (some ⟨b, off, none⟩) bs.length c) rfl (by kernel_rfl) (by kernel_rfl) (by kernel_rfl) (fun _ _ _ h => h) (Or.inl ⟨by rfl, (by intro w hSw; (try dsimp only at hSw); go_simp)⟩) hHeld ?_
                try simp only [Act.put, List.setIfInBounds_toArray, List.set_cons_zero, List.set_cons_succ]
                refine wpAnyH_take (i := 3) (oi := { dst := some 99, op := Op.move (Operand.tmp 5), type := 3, pos := "ref.go:71", after := #[], guard := none }) (v := .int .i64 (z : Int)) rfl (by kernel_rfl) (by kernel_rfl) (by kernel_rfl) (fun _ _ _ h => h) (Or.inl ⟨by rfl, (by intro w hSw; (try dsimp only at hSw); go_simp)⟩) hHeld ?_
                try simp only [Act.put, List.setIfInBounds_toArray, List.set_cons_zero, List.set_cons_succ]
                refine wpAnyH_take (i := 4) (oi := { dst := some 100, op := Op.indexAddr 24 (Operand.tmp 98) (Operand.tmp 99), type := 0, pos := "ref.go:71", after := #[{ on := 2, ground := Ground.data }, { on := 3, ground := Ground.data }], guard := none }) (v := .pointer (some ⟨b, off + z, none⟩)) rfl (by kernel_rfl) (by kernel_rfl) (by kernel_rfl) (fun _ _ _ h => h) (Or.inl ⟨by rfl, (by intro w hSw; (try dsimp only at hSw); go_simp)⟩) hHeld ?_
                try simp only [Act.put, List.setIfInBounds_toArray, List.set_cons_zero, List.set_cons_succ]
                refine wpAnyH_take (i := 5) (oi := { dst := some 101, op := Op.load 5 (Operand.tmp 100), type := 5, pos := "ref.go:71", after := #[{ on := 4, ground := Ground.data }], guard := none }) (v := .int .u8 y0) rfl (by kernel_rfl) (by kernel_rfl) (by kernel_rfl) (fun _ _ _ h => h) (Or.inl ⟨by rfl, (by intro w hSw; (try dsimp only at hSw); go_simp)⟩) hHeld ?_
                try simp only [Act.put, List.setIfInBounds_toArray, List.set_cons_zero, List.set_cons_succ]
                refine wpAnyH_take (i := 6) (oi := { dst := some 102, op := Op.convert 5 3 (Operand.tmp 101), type := 3, pos := "ref.go:71", after := #[{ on := 5, ground := Ground.data }], guard := none }) (v := .int .i64 y0) rfl (by kernel_rfl) (by kernel_rfl) (by kernel_rfl) (fun _ _ _ h => h) (Or.inl ⟨by rfl, (by intro w hSw; (try dsimp only at hSw); go_simp)⟩) hHeld ?_
                try simp only [Act.put, List.setIfInBounds_toArray, List.set_cons_zero, List.set_cons_succ]
                refine wpAnyH_take (i := 7) (oi := { dst := some 103, op := Op.move (Operand.tmp 0), type := 24, pos := "ref.go:71", after := #[], guard := none }) (v := .slice (some ⟨b, off, none⟩) bs.length c) rfl (by kernel_rfl) (by kernel_rfl) (by kernel_rfl) (fun _ _ _ h => h) (Or.inl ⟨by rfl, (by intro w hSw; (try dsimp only at hSw); go_simp)⟩) hHeld ?_
                try simp only [Act.put, List.setIfInBounds_toArray, List.set_cons_zero, List.set_cons_succ]
                refine wpAnyH_take (i := 8) (oi := { dst := some 104, op := Op.move (Operand.tmp 5), type := 3, pos := "ref.go:71", after := #[], guard := none }) (v := .int .i64 (z : Int)) rfl (by kernel_rfl) (by kernel_rfl) (by kernel_rfl) (fun _ _ _ h => h) (Or.inl ⟨by rfl, (by intro w hSw; (try dsimp only at hSw); go_simp)⟩) hHeld ?_
                try simp only [Act.put, List.setIfInBounds_toArray, List.set_cons_zero, List.set_cons_succ]
                refine wpAnyH_take (i := 9) (oi := { dst := some 105, op := Op.binOp BinOp.add 3 (Operand.tmp 104) (Operand.const (Value.int IntKind.i64 1)) 3, type := 3, pos := "ref.go:71", after := #[{ on := 8, ground := Ground.data }], guard := none }) (v := .int .i64 ((z : Int) + 1)) rfl (by kernel_rfl) (by kernel_rfl) (by kernel_rfl) (fun _ _ _ h => h) (Or.inl ⟨by rfl, (by intro w hSw; (try dsimp only at hSw); go_simp)⟩) hHeld ?_
                try simp only [Act.put, List.setIfInBounds_toArray, List.set_cons_zero, List.set_cons_succ]
                refine wpAnyH_take (i := 10) (oi := { dst := some 106, op := Op.indexAddr 24 (Operand.tmp 103) (Operand.tmp 105), type := 0, pos := "ref.go:71", after := #[{ on := 7, ground := Ground.data }, { on := 9, ground := Ground.data }], guard := none }) (v := .pointer (some ⟨b, off + (z + 1), none⟩)) rfl (by kernel_rfl) (by kernel_rfl) (by kernel_rfl) (fun _ _ _ h => h) (Or.inl ⟨by rfl, (by intro w hSw; (try dsimp only at hSw); go_simp)⟩) hHeld ?_
                try simp only [Act.put, List.setIfInBounds_toArray, List.set_cons_zero, List.set_cons_succ]
                refine wpAnyH_take (i := 11) (oi := { dst := some 107, op := Op.load 5 (Operand.tmp 106), type := 5, pos := "ref.go:71", after := #[{ on := 10, ground := Ground.data }], guard := none }) (v := .int .u8 y1) rfl (by kernel_rfl) (by kernel_rfl) (by kernel_rfl) (fun _ _ _ h => h) (Or.inl ⟨by rfl, (by intro w hSw; (try dsimp only at hSw); go_simp)⟩) hHeld ?_
                try simp only [Act.put, List.setIfInBounds_toArray, List.set_cons_zero, List.set_cons_succ]
                refine wpAnyH_take (i := 12) (oi := { dst := some 108, op := Op.convert 5 3 (Operand.tmp 107), type := 3, pos := "ref.go:71", after := #[{ on := 11, ground := Ground.data }], guard := none }) (v := .int .i64 y1) rfl (by kernel_rfl) (by kernel_rfl) (by kernel_rfl) (fun _ _ _ h => h) (Or.inl ⟨by rfl, (by intro w hSw; (try dsimp only at hSw); go_simp)⟩) hHeld ?_
                try simp only [Act.put, List.setIfInBounds_toArray, List.set_cons_zero, List.set_cons_succ]
                refine wpAnyH_take (i := 13) (oi := { dst := some 109, op := Op.move (Operand.tmp 0), type := 24, pos := "ref.go:71", after := #[], guard := none }) (v := .slice (some ⟨b, off, none⟩) bs.length c) rfl (by kernel_rfl) (by kernel_rfl) (by kernel_rfl) (fun _ _ _ h => h) (Or.inl ⟨by rfl, (by intro w hSw; (try dsimp only at hSw); go_simp)⟩) hHeld ?_
                try simp only [Act.put, List.setIfInBounds_toArray, List.set_cons_zero, List.set_cons_succ]
                refine wpAnyH_take (i := 14) (oi := { dst := some 110, op := Op.move (Operand.tmp 5), type := 3, pos := "ref.go:71", after := #[], guard := none }) (v := .int .i64 (z : Int)) rfl (by kernel_rfl) (by kernel_rfl) (by kernel_rfl) (fun _ _ _ h => h) (Or.inl ⟨by rfl, (by intro w hSw; (try dsimp only at hSw); go_simp)⟩) hHeld ?_
                try simp only [Act.put, List.setIfInBounds_toArray, List.set_cons_zero, List.set_cons_succ]
                refine wpAnyH_take (i := 15) (oi := { dst := some 111, op := Op.binOp BinOp.add 3 (Operand.tmp 110) (Operand.const (Value.int IntKind.i64 2)) 3, type := 3, pos := "ref.go:71", after := #[{ on := 14, ground := Ground.data }], guard := none }) (v := .int .i64 ((z : Int) + 2)) rfl (by kernel_rfl) (by kernel_rfl) (by kernel_rfl) (fun _ _ _ h => h) (Or.inl ⟨by rfl, (by intro w hSw; (try dsimp only at hSw); go_simp)⟩) hHeld ?_
                try simp only [Act.put, List.setIfInBounds_toArray, List.set_cons_zero, List.set_cons_succ]
                refine wpAnyH_take (i := 16) (oi := { dst := some 112, op := Op.indexAddr 24 (Operand.tmp 109) (Operand.tmp 111), type := 0, pos := "ref.go:71", after := #[{ on := 13, ground := Ground.data }, { on := 15, ground := Ground.data }], guard := none }) (v := .pointer (some ⟨b, off + (z + 2), none⟩)) rfl (by kernel_rfl) (by kernel_rfl) (by kernel_rfl) (fun _ _ _ h => h) (Or.inl ⟨by rfl, (by intro w hSw; (try dsimp only at hSw); go_simp)⟩) hHeld ?_
                try simp only [Act.put, List.setIfInBounds_toArray, List.set_cons_zero, List.set_cons_succ]
                refine wpAnyH_take (i := 17) (oi := { dst := some 113, op := Op.load 5 (Operand.tmp 112), type := 5, pos := "ref.go:71", after := #[{ on := 16, ground := Ground.data }], guard := none }) (v := .int .u8 y2) rfl (by kernel_rfl) (by kernel_rfl) (by kernel_rfl) (fun _ _ _ h => h) (Or.inl ⟨by rfl, (by intro w hSw; (try dsimp only at hSw); go_simp)⟩) hHeld ?_
                try simp only [Act.put, List.setIfInBounds_toArray, List.set_cons_zero, List.set_cons_succ]
                refine wpAnyH_take (i := 18) (oi := { dst := some 114, op := Op.convert 5 3 (Operand.tmp 113), type := 3, pos := "ref.go:71", after := #[{ on := 17, ground := Ground.data }], guard := none }) (v := .int .i64 y2) rfl (by kernel_rfl) (by kernel_rfl) (by kernel_rfl) (fun _ _ _ h => h) (Or.inl ⟨by rfl, (by intro w hSw; (try dsimp only at hSw); go_simp)⟩) hHeld ?_
                try simp only [Act.put, List.setIfInBounds_toArray, List.set_cons_zero, List.set_cons_succ]
                refine wpAnyH_take (i := 19) (oi := { dst := some 115, op := Op.move (Operand.tmp 0), type := 24, pos := "ref.go:71", after := #[], guard := none }) (v := .slice (some ⟨b, off, none⟩) bs.length c) rfl (by kernel_rfl) (by kernel_rfl) (by kernel_rfl) (fun _ _ _ h => h) (Or.inl ⟨by rfl, (by intro w hSw; (try dsimp only at hSw); go_simp)⟩) hHeld ?_
                try simp only [Act.put, List.setIfInBounds_toArray, List.set_cons_zero, List.set_cons_succ]
                refine wpAnyH_take (i := 20) (oi := { dst := some 116, op := Op.move (Operand.tmp 5), type := 3, pos := "ref.go:71", after := #[], guard := none }) (v := .int .i64 (z : Int)) rfl (by kernel_rfl) (by kernel_rfl) (by kernel_rfl) (fun _ _ _ h => h) (Or.inl ⟨by rfl, (by intro w hSw; (try dsimp only at hSw); go_simp)⟩) hHeld ?_
                try simp only [Act.put, List.setIfInBounds_toArray, List.set_cons_zero, List.set_cons_succ]
                refine wpAnyH_take (i := 21) (oi := { dst := some 117, op := Op.binOp BinOp.add 3 (Operand.tmp 116) (Operand.const (Value.int IntKind.i64 3)) 3, type := 3, pos := "ref.go:71", after := #[{ on := 20, ground := Ground.data }], guard := none }) (v := .int .i64 ((z : Int) + 3)) rfl (by kernel_rfl) (by kernel_rfl) (by kernel_rfl) (fun _ _ _ h => h) (Or.inl ⟨by rfl, (by intro w hSw; (try dsimp only at hSw); go_simp)⟩) hHeld ?_
                try simp only [Act.put, List.setIfInBounds_toArray, List.set_cons_zero, List.set_cons_succ]
                refine wpAnyH_take (i := 22) (oi := { dst := some 118, op := Op.indexAddr 24 (Operand.tmp 115) (Operand.tmp 117), type := 0, pos := "ref.go:71", after := #[{ on := 19, ground := Ground.data }, { on := 21, ground := Ground.data }], guard := none }) (v := .pointer (some ⟨b, off + (z + 3), none⟩)) rfl (by kernel_rfl) (by kernel_rfl) (by kernel_rfl) (fun _ _ _ h => h) (Or.inl ⟨by rfl, (by intro w hSw; (try dsimp only at hSw); go_simp)⟩) hHeld ?_
                try simp only [Act.put, List.setIfInBounds_toArray, List.set_cons_zero, List.set_cons_succ]
                refine wpAnyH_take (i := 23) (oi := { dst := some 119, op := Op.load 5 (Operand.tmp 118), type := 5, pos := "ref.go:71", after := #[{ on := 22, ground := Ground.data }], guard := none }) (v := .int .u8 y3) rfl (by kernel_rfl) (by kernel_rfl) (by kernel_rfl) (fun _ _ _ h => h) (Or.inl ⟨by rfl, (by intro w hSw; (try dsimp only at hSw); go_simp)⟩) hHeld ?_
                try simp only [Act.put, List.setIfInBounds_toArray, List.set_cons_zero, List.set_cons_succ]
                refine wpAnyH_take (i := 24) (oi := { dst := some 120, op := Op.convert 5 3 (Operand.tmp 119), type := 3, pos := "ref.go:71", after := #[{ on := 23, ground := Ground.data }], guard := none }) (v := .int .i64 y3) rfl (by kernel_rfl) (by kernel_rfl) (by kernel_rfl) (fun _ _ _ h => h) (Or.inl ⟨by rfl, (by intro w hSw; (try dsimp only at hSw); go_simp)⟩) hHeld ?_
                try simp only [Act.put, List.setIfInBounds_toArray, List.set_cons_zero, List.set_cons_succ]
                refine wpAnyH_take (i := 25) (oi := { dst := some 121, op := Op.move (Operand.tmp 10), type := 3, pos := "ref.go:71", after := #[], guard := none }) (v := .int .i64 ny) rfl (by kernel_rfl) (by kernel_rfl) (by kernel_rfl) (fun _ _ _ h => h) (Or.inl ⟨by rfl, (by intro w hSw; (try dsimp only at hSw); go_simp)⟩) hHeld ?_
                try simp only [Act.put, List.setIfInBounds_toArray, List.set_cons_zero, List.set_cons_succ]
                refine wpAnyH_take (i := 26) (oi := { dst := some 122, op := Op.build 56 #[(0, Operand.tmp 102), (1, Operand.tmp 108), (2, Operand.tmp 114), (3, Operand.tmp 120), (4, Operand.tmp 121)], type := 56, pos := "ref.go:71", after := #[{ on := 6, ground := Ground.data }, { on := 12, ground := Ground.data }, { on := 18, ground := Ground.data }, { on := 24, ground := Ground.data }, { on := 25, ground := Ground.data }], guard := none }) (v := .agg #[.int .i64 y0, .int .i64 y1, .int .i64 y2, .int .i64 y3, .int .i64 ny]) rfl (by kernel_rfl) (by kernel_rfl) (by kernel_rfl) (fun _ _ _ h => h) (Or.inl ⟨by rfl, (by intro w hSw; (try dsimp only at hSw); go_simp)⟩) hHeld ?_
                try simp only [Act.put, List.setIfInBounds_toArray, List.set_cons_zero, List.set_cons_succ]
                refine wpAnyH_ready (rs := [1, 27]) (by kernel_rfl) (by simp) ?_
                refine AllReadyH.cons (o := { dst := some 97, op := Op.load 49 (Operand.tmp 96), type := 49, pos := "ref.go:71", after := #[{ on := 0, ground := Ground.data }], guard := none }) rfl (fun K hK => ?_) ?_
                · go_simp
                  refine hK.out _ _ (by ((try dsimp only); first | go_keep | (go_split_ands; refine ⟨?_, ?_, ?_, ?_⟩ <;> (rw [hg1.cell_far _ (by simp; omega) hvb]; assumption)))) (fun hH1 => ?_)
                  clear hK K
                  try simp only [Act.put, List.setIfInBounds_toArray, List.set_cons_zero, List.set_cons_succ]
                  refine wpAnyH_ready (rs := [27]) (by kernel_rfl) (by simp) ?_
                  refine AllReadyH.cons (o := { dst := some 123, op := Op.buildSlice 49 1 #[(0, Operand.tmp 122)], type := 49, pos := "ref.go:71", after := #[{ on := 26, ground := Ground.data }], guard := none }) rfl (fun K hK => ?_) AllReadyH.nil
                  go_simp
                  refine hK.out _ _ (by ((try dsimp only); first | go_keep | (go_split_ands; refine ⟨?_, ?_, ?_, ?_⟩ <;> (rw [hg1.cell_far _ (by simp; omega) hvb]; assumption)))) (fun hH27 => ?_)
                  clear hK K
                  try simp only [Act.put, List.setIfInBounds_toArray, List.set_cons_zero, List.set_cons_succ]
                  refine wpAnyH_ready (rs := [28]) (by kernel_rfl) (by simp) ?_
                  refine AllReadyH.cons (o := { dst := some 124, op := Op.call { callee := Callee.builtin Builtin.append, args := #[Operand.tmp 97, Operand.tmp 123], argTypes := #[49, 49] }, type := 49, pos := "ref.go:71", after := #[{ on := 1, ground := Ground.data }, { on := 27, ground := Ground.data }], guard := none }) rfl (fun K hK => ?_) AllReadyH.nil
                  (refine step_append_lies _ (by rfl) _ _ _ (by rfl) wo.heap.size 56 i5 _ 5 40 Try.underlying49 hi5 hz50 hz51 hz52 rfl (by omega) v j _ (by rfl) (own_fr HOW2.out (((Fr.refl (fun _ => False) w2).alloc _).drew) (fun _ _ h => h)) ⟨w2.heap.size, 0, none⟩ 1 1 [.int .i64 y0, .int .i64 y1, .int .i64 y2, .int .i64 y3, .int .i64 ny] (by rfl) (by rfl) (World.news_of_block (cs := #[.int .i64 y0, .int .i64 y1, .int .i64 y2, .int .i64 y3, .int .i64 ny]) (t := 56) (fr := (0, 0)) (heap_alloc_new w2 _)) (by simp [Value.oneCell']) (by omega) (by unfold maxLen; omega) (by omega) (by simp; omega) (w2.heap.size + 1) (by simp) ?_; intro g cap w1 hown1 hg1 hat hlt1; have hcf : w1.cell? ⟨wo.heap.size, 1, none⟩ = some v := hg1.cell (by exact (World.cell?_alloc_lt _ _ _ elt).trans ec) (fun h => hneo h.symm); have hff : w1.frozen? ⟨wo.heap.size, 1, none⟩ = false := (by rw [World.frozen?_of_block (hg1.block wo.heap.size (by simp; omega) (fun h => hneo h.symm))]; exact (HBJ2.out.alloc _).frozen 1); clear hat)
                  refine hK.out _ _ (by ((try dsimp only); first | go_keep | (go_split_ands; refine ⟨?_, ?_, ?_, ?_⟩ <;> (rw [hg1.cell_far _ (by simp; omega) hvb]; assumption)))) (fun hH28 => ?_)
                  clear hK K
                  try simp only [Act.put, List.setIfInBounds_toArray, List.set_cons_zero, List.set_cons_succ]
                  refine wpAnyH_take (i := 29) (oi := { dst := some 125, op := Op.fieldAddr 51 (Operand.tmp 7) 1, type := 0, pos := "ref.go:71", after := #[{ on := 0, ground := Ground.phase }, { on := 1, ground := Ground.phase }, { on := 2, ground := Ground.phase }, { on := 3, ground := Ground.phase }, { on := 4, ground := Ground.phase }, { on := 5, ground := Ground.phase }, { on := 6, ground := Ground.phase }, { on := 7, ground := Ground.phase }, { on := 8, ground := Ground.phase }, { on := 9, ground := Ground.phase }, { on := 10, ground := Ground.phase }, { on := 11, ground := Ground.phase }, { on := 12, ground := Ground.phase }, { on := 13, ground := Ground.phase }, { on := 14, ground := Ground.phase }, { on := 15, ground := Ground.phase }, { on := 16, ground := Ground.phase }, { on := 17, ground := Ground.phase }, { on := 18, ground := Ground.phase }, { on := 19, ground := Ground.phase }, { on := 20, ground := Ground.phase }, { on := 21, ground := Ground.phase }, { on := 22, ground := Ground.phase }, { on := 23, ground := Ground.phase }, { on := 24, ground := Ground.phase }, { on := 25, ground := Ground.phase }, { on := 26, ground := Ground.phase }, { on := 27, ground := Ground.phase }, { on := 28, ground := Ground.phase }], guard := none }) (v := .pointer (some ⟨wo.heap.size, 1, none⟩)) rfl (by kernel_rfl) (by kernel_rfl) (by kernel_rfl) (fun _ _ _ h => h) (Or.inl ⟨by rfl, (by intro w hSw; (try dsimp only at hSw); go_simp)⟩) hH28 ?_
                  try simp only [Act.put, List.setIfInBounds_toArray, List.set_cons_zero, List.set_cons_succ]
                  refine wpAnyH_ready (rs := [30]) (by kernel_rfl) (by simp) ?_
                  refine AllReadyH.cons (o := { dst := none, op := Op.store 49 (Operand.tmp 125) (Operand.tmp 124), type := 0, pos := "ref.go:71", after := #[{ on := 29, ground := Ground.data }, { on := 28, ground := Ground.data }, { on := 28, ground := Ground.chain }, { on := 0, ground := Ground.phase }, { on := 1, ground := Ground.phase }, { on := 2, ground := Ground.phase }, { on := 3, ground := Ground.phase }, { on := 4, ground := Ground.phase }, { on := 5, ground := Ground.phase }, { on := 6, ground := Ground.phase }, { on := 7, ground := Ground.phase }, { on := 8, ground := Ground.phase }, { on := 9, ground := Ground.phase }, { on := 10, ground := Ground.phase }, { on := 11, ground := Ground.phase }, { on := 12, ground := Ground.phase }, { on := 13, ground := Ground.phase }, { on := 14, ground := Ground.phase }, { on := 15, ground := Ground.phase }, { on := 16, ground := Ground.phase }, { on := 17, ground := Ground.phase }, { on := 18, ground := Ground.phase }, { on := 19, ground := Ground.phase }, { on := 20, ground := Ground.phase }, { on := 21, ground := Ground.phase }, { on := 22, ground := Ground.phase }, { on := 23, ground := Ground.phase }, { on := 24, ground := Ground.phase }, { on := 25, ground := Ground.phase }, { on := 26, ground := Ground.phase }, { on := 27, ground := Ground.phase }, { on := 28, ground := Ground.phase }], guard := none }) rfl (fun K hK => ?_) AllReadyH.nil
                  go_simp
                  refine hK.out _ _ (by ((try dsimp only); first | go_keep | (go_split_ands; refine ⟨?_, ?_, ?_, ?_⟩ <;> (rw [hg1.cell_far _ (by simp; omega) hvb]; assumption)))) (fun hH30 => ?_)
                  clear hK K
                  try simp only [Act.put, List.setIfInBounds_toArray, List.set_cons_zero, List.set_cons_succ]
                  refine wpAnyH_done (by kernel_rfl) ?_ _
                  refine NoPanic.normal ?_
                  have HG1 := Lib.hid hg1
                  have HW1 := Lib.hid hown1
                  clear hg1 hown1
                  go_wp2_with fail
                  have hBw : Blk w1 wo.heap.size 51 #[.int .i64 (ar : Int), v] := (HG1.out.block wo.heap.size (by simp; omega) (fun h => hneo h.symm)).trans (HBJ2.out.alloc _)
                  refine ⟨⟨j + 1, l ++ [⟨y0, y1, y2, y3, kval y4 y5 y6 y7⟩], _, by go_num, by rw [← hqq]; go_num, by simp [hlj], by omega, ?_, hBw.set_ 1 _, ?_, ((HFJ2.out.alloc _).drew.grow HG1.out (own_low HOW2.out)).setCell (.inr (Nat.le_refl _)) _⟩, by simp [intOf]; omega⟩
                  · have := HPJ.out.snoc HINS.out
                    rw [show q + 2 + 8 * (j + 1) = z + 8 by omega]
                    exact this
                  · rw [List.flatMap_append, ← HNY.out]
                    exact own_fr HW1.out ((Fr.refl (fun b => b = wo.heap.size) w1).setCell (.inl rfl) _) (fun g' hg' h => own_ne HW1.out hBw (by decide) (by rw [hg', h]))
                refine AllReadyH.cons (o := { dst := some 123, op := Op.buildSlice 49 1 #[(0, Operand.tmp 122)], type := 49, pos := "ref.go:71", after := #[{ on := 26, ground := Ground.data }], guard := none }) rfl (fun K hK => ?_) AllReadyH.nil
                go_simp
                refine hK.out _ _ (by ((try dsimp only); first | go_keep | (go_split_ands; refine ⟨?_, ?_, ?_, ?_⟩ <;> (rw [hg1.cell_far _ (by simp; omega) hvb]; assumption)))) (fun hH27 => ?_)
                clear hK K
                try simp only [Act.put, List.setIfInBounds_toArray, List.set_cons_zero, List.set_cons_succ]
                refine wpAnyH_ready (rs := [1]) (by kernel_rfl) (by simp) ?_
                refine AllReadyH.cons (o := { dst := some 97, op := Op.load 49 (Operand.tmp 96), type := 49, pos := "ref.go:71", after := #[{ on := 0, ground := Ground.data }], guard := none }) rfl (fun K hK => ?_) AllReadyH.nil
                go_simp
                refine hK.out _ _ (by ((try dsimp only); first | go_keep | (go_split_ands; refine ⟨?_, ?_, ?_, ?_⟩ <;> (rw [hg1.cell_far _ (by simp; omega) hvb]; assumption)))) (fun hH1 => ?_)
                clear hK K
                try simp only [Act.put, List.setIfInBounds_toArray, List.set_cons_zero, List.set_cons_succ]
                refine wpAnyH_ready (rs := [28]) (by kernel_rfl) (by simp) ?_
                refine AllReadyH.cons (o := { dst := some 124, op := Op.call { callee := Callee.builtin Builtin.append, args := #[Operand.tmp 97, Operand.tmp 123], argTypes := #[49, 49] }, type := 49, pos := "ref.go:71", after := #[{ on := 1, ground := Ground.data }, { on := 27, ground := Ground.data }], guard := none }) rfl (fun K hK => ?_) AllReadyH.nil
                (refine step_append_lies _ (by rfl) _ _ _ (by rfl) wo.heap.size 56 i5 _ 5 40 Try.underlying49 hi5 hz50 hz51 hz52 rfl (by omega) v j _ (by rfl) (own_fr HOW2.out (((Fr.refl (fun _ => False) w2).alloc _).drew) (fun _ _ h => h)) ⟨w2.heap.size, 0, none⟩ 1 1 [.int .i64 y0, .int .i64 y1, .int .i64 y2, .int .i64 y3, .int .i64 ny] (by rfl) (by rfl) (World.news_of_block (cs := #[.int .i64 y0, .int .i64 y1, .int .i64 y2, .int .i64 y3, .int .i64 ny]) (t := 56) (fr := (0, 0)) (heap_alloc_new w2 _)) (by simp [Value.oneCell']) (by omega) (by unfold maxLen; omega) (by omega) (by simp; omega) (w2.heap.size + 1) (by simp) ?_; intro g cap w1 hown1 hg1 hat hlt1; have hcf : w1.cell? ⟨wo.heap.size, 1, none⟩ = some v := hg1.cell (by exact (World.cell?_alloc_lt _ _ _ elt).trans ec) (fun h => hneo h.symm); have hff : w1.frozen? ⟨wo.heap.size, 1, none⟩ = false := (by rw [World.frozen?_of_block (hg1.block wo.heap.size (by simp; omega) (fun h => hneo h.symm))]; exact (HBJ2.out.alloc _).frozen 1); clear hat)
                refine hK.out _ _ (by ((try dsimp only); first | go_keep | (go_split_ands; refine ⟨?_, ?_, ?_, ?_⟩ <;> (rw [hg1.cell_far _ (by simp; omega) hvb]; assumption)))) (fun hH28 => ?_)
                clear hK K
                try simp only [Act.put, List.setIfInBounds_toArray, List.set_cons_zero, List.set_cons_succ]
                refine wpAnyH_take (i := 29) (oi := { dst := some 125, op := Op.fieldAddr 51 (Operand.tmp 7) 1, type := 0, pos := "ref.go:71", after := #[{ on := 0, ground := Ground.phase }, { on := 1, ground := Ground.phase }, { on := 2, ground := Ground.phase }, { on := 3, ground := Ground.phase }, { on := 4, ground := Ground.phase }, { on := 5, ground := Ground.phase }, { on := 6, ground := Ground.phase }, { on := 7, ground := Ground.phase }, { on := 8, ground := Ground.phase }, { on := 9, ground := Ground.phase }, { on := 10, ground := Ground.phase }, { on := 11, ground := Ground.phase }, { on := 12, ground := Ground.phase }, { on := 13, ground := Ground.phase }, { on := 14, ground := Ground.phase }, { on := 15, ground := Ground.phase }, { on := 16, ground := Ground.phase }, { on := 17, ground := Ground.phase }, { on := 18, ground := Ground.phase }, { on := 19, ground := Ground.phase }, { on := 20, ground := Ground.phase }, { on := 21, ground := Ground.phase }, { on := 22, ground := Ground.phase }, { on := 23, ground := Ground.phase }, { on := 24, ground := Ground.phase }, { on := 25, ground := Ground.phase }, { on := 26, ground := Ground.phase }, { on := 27, ground := Ground.phase }, { on := 28, ground := Ground.phase }], guard := none }) (v := .pointer (some ⟨wo.heap.size, 1, none⟩)) rfl (by kernel_rfl) (by kernel_rfl) (by kernel_rfl) (fun _ _ _ h => h) (Or.inl ⟨by rfl, (by intro w hSw; (try dsimp only at hSw); go_simp)⟩) hH28 ?_
                try simp only [Act.put, List.setIfInBounds_toArray, List.set_cons_zero, List.set_cons_succ]
                refine wpAnyH_ready (rs := [30]) (by kernel_rfl) (by simp) ?_
                refine AllReadyH.cons (o := { dst := none, op := Op.store 49 (Operand.tmp 125) (Operand.tmp 124), type := 0, pos := "ref.go:71", after := #[{ on := 29, ground := Ground.data }, { on := 28, ground := Ground.data }, { on := 28, ground := Ground.chain }, { on := 0, ground := Ground.phase }, { on := 1, ground := Ground.phase }, { on := 2, ground := Ground.phase }, { on := 3, ground := Ground.phase }, { on := 4, ground := Ground.phase }, { on := 5, ground := Ground.phase }, { on := 6, ground := Ground.phase }, { on := 7, ground := Ground.phase }, { on := 8, ground := Ground.phase }, { on := 9, ground := Ground.phase }, { on := 10, ground := Ground.phase }, { on := 11, ground := Ground.phase }, { on := 12, ground := Ground.phase }, { on := 13, ground := Ground.phase }, { on := 14, ground := Ground.phase }, { on := 15, ground := Ground.phase }, { on := 16, ground := Ground.phase }, { on := 17, ground := Ground.phase }, { on := 18, ground := Ground.phase }, { on := 19, ground := Ground.phase }, { on := 20, ground := Ground.phase }, { on := 21, ground := Ground.phase }, { on := 22, ground := Ground.phase }, { on := 23, ground := Ground.phase }, { on := 24, ground := Ground.phase }, { on := 25, ground := Ground.phase }, { on := 26, ground := Ground.phase }, { on := 27, ground := Ground.phase }, { on := 28, ground := Ground.phase }], guard := none }) rfl (fun K hK => ?_) AllReadyH.nil
                go_simp
                refine hK.out _ _ (by ((try dsimp only); first | go_keep | (go_split_ands; refine ⟨?_, ?_, ?_, ?_⟩ <;> (rw [hg1.cell_far _ (by simp; omega) hvb]; assumption)))) (fun hH30 => ?_)
                clear hK K
                try simp only [Act.put, List.setIfInBounds_toArray, List.set_cons_zero, List.set_cons_succ]
                refine wpAnyH_done (by kernel_rfl) ?_ _
                refine NoPanic.normal ?_
                have HG1 := Lib.hid hg1
                have HW1 := Lib.hid hown1
                clear hg1 hown1
                go_wp2_with fail
                have hBw : Blk w1 wo.heap.size 51 #[.int .i64 (ar : Int), v] := (HG1.out.block wo.heap.size (by simp; omega) (fun h => hneo h.symm)).trans (HBJ2.out.alloc _)
                refine ⟨⟨j + 1, l ++ [⟨y0, y1, y2, y3, kval y4 y5 y6 y7⟩], _, by go_num, by rw [← hqq]; go_num, by simp [hlj], by omega, ?_, hBw.set_ 1 _, ?_, ((HFJ2.out.alloc _).drew.grow HG1.out (own_low HOW2.out)).setCell (.inr (Nat.le_refl _)) _⟩, by simp [intOf]; omega⟩
                · have := HPJ.out.snoc HINS.out
                  rw [show q + 2 + 8 * (j + 1) = z + 8 by omega]
                  exact this
                · rw [List.flatMap_append, ← HNY.out]
                  exact own_fr HW1.out ((Fr.refl (fun b => b = wo.heap.size) w1).setCell (.inl rfl) _) (fun g' hg' h => own_ne HW1.out hBw (by decide) (by rw [hg', h]))
            · obtain rfl : j = n := by omega
              obtain ⟨vA, vc, rfl⟩ := own_slice HOW.out
              have hMo := own_fr HM.out.1 HFJ.out (fun _ _ h => h)
              have hnb : (wr.alloc (.cells #[.int .i64 (ar : Int), .slice vA j vc] 51)).heap[wr.heap.size]? = some (.cells #[.int .i64 (ar : Int), .slice vA j vc] 51) := heap_alloc_new _ _
              have HNB := Lib.hid hnb
              have HMO := Lib.hid hMo
              have hwr := HFJ.out.size
              clear hnb hMo
              go_wp2_with (at_builtin; refine wpList_append_lies _ rfl (.tmp 128) (.tmp 130) 22 rfl w.heap.size 51 i2 (.agg #[.int .i64 0, .slice none 0 0]) 2 32 Try.underlying22 hi2 hz20 hz21 hz22 rfl (by decide) _ _ _ rfl (own_fr HMO.out ((Fr.refl (fun _ => False) _).alloc _) (fun _ _ h => h)) ⟨wr.heap.size, 0, none⟩ 1 1 [.int .i64 (ar : Int), .slice vA j vc] rfl rfl ?c1 ?c2 (by decide) ?c3 ?c4 ?c5 (wr.heap.size + 1) ?c6 ?_)
              case c1 => intro i u hi; exact World.news_of_block HNB.out i u hi
              case c2 => intro u hu; simp at hu; rcases hu with rfl | rfl <;> rfl
              case c3 => unfold maxLen; omega
              case c4 => omega
              case c5 => simp; omega
              case c6 => simp
              intro g cap w1 hown1 hg1 hor hlt1
              have HG1 := Lib.hid hg1
              have HW1 := Lib.hid hown1
              clear hor hg1 hown1
              go_wp2_with fail
              have hfr1 : Fr (fun b => some b = u4.ownBlock) wr w1 := ((Fr.refl _ _).alloc _).trans (Fr.grown HG1.out)
              refine ⟨⟨k + 1, q + 2 + 8 * j, L ++ [⟨⟨ar, l⟩, vA, vc⟩], by go_num, by go_num, by simp [hLk], by omega, by omega, ?_, ⟨?_, fun x hx => ?_⟩, ((HF.out.trans HFJ.out).alloc _).grow HG1.out (own_low HMO.out)⟩, by simp [intOf]; omega⟩
              · have hpf := pFn_at (bs.drop q) (bs.drop (q + 2 + 8 * j)) l (by rw [List.length_drop]; omega) (by rw [List.drop_drop]; exact HPJ.out) (by rw [drop_getD, HN.out, Int.toNat_natCast]; exact hlj)
                rw [drop_getD, Nat.add_zero, HAR.out] at hpf
                have := HP.out.snoc hpf
                simpa [fns] using this
              · have := HW1.out
                rw [List.length_append, List.flatMap_append]
                simpa [LFn.cells, hlj, hLk] using this
              · rcases List.mem_append.1 hx with hx | hx
                · have hrow := own_fr (HM.out.2 x hx) HFJ.out (fun _ _ h => h)
                  exact own_fr hrow hfr1 (fun g' hg' h => own_apart hrow HMO.out (by decide) g' hg' h.symm)
                · rw [List.mem_singleton.1 hx]
                  have h5 : wr.ownsRow w.heap.size 56 5 (.slice vA l.length vc) l.length (l.flatMap Ins.cells) := by rw [hlj]; exact own_down HOW.out hbw
                  exact own_fr h5 hfr1 (fun g' hg' h => own_apart h5 HMO.out (by decide) g' hg' h.symm)
    · obtain rfl : k = m := by omega
      have hpp : pProg (bs.drop 1) = some (fns L, bs.drop q) := by
        rw [HPM.out, Int.toNat_natCast]
        have := HP.out.many
        rw [hfl] at this
        exact this
      have HPP := Lib.hid hpp
      clear hpp
      by_cases hql : q < bs.length
      · have g3 : (q : Int) < (bs.length : Int) := by omega
        go_wp2_with fail
        go_ret2
        exact .inr ⟨3, readE_long bs H72.out (by omega) _ _ (by intro e; have := congrArg List.length e; simp at this; omega) HPP.out, by decide, rfl, HF.out⟩
      · have g3 : ¬ (q : Int) < (bs.length : Int) := by omega
        go_wp2_with fail
        go_ret2
        refine .inl ⟨bs.drop 1, L, _, ?_, ?_, rfl, HM.out, HF.out⟩
        · match bs, h2, H72 with
          | x :: t, _, H72 => have := H72.out; simp at this; rw [this]; rfl
        · have := HPP.out
          rw [List.drop_eq_nil_of_le (by omega : bs.length ≤ q)] at this
          exact this

/-- The document's Read, of any bytes. -/
theorem refRead_any (w : World) (A : Option Addr) (c : Nat) (bs : List Int) (hR : Rd w (fun b => b < w.heap.size) 1 A bs.length (by8 bs)) (hB : AllB bs) (hl : bs.length ≤ 3000) :
    Calls Try.prog 15 #[.slice A bs.length c] w (RrPost w bs) := by
  match bs, hR, hB, hl with
  | [], _, _, _ => exact refRead_empty w A c
  | x :: t, hR, hB, hl =>
    obtain ⟨b, off, rfl, hq, hc⟩ := hR.at_ (by simp)
    have d0 : w.cell? ⟨b, off, none⟩ = some (.int .u8 x) := hc 0 _ rfl
    by_cases hx : x = 72
    · subst hx
      match t, hR, hB, hl, hc with
      | [], _, _, _, _ => exact refRead_one w b off c d0
      | m :: t', hR, hB, hl, hc =>
        refine refRead_main w b off c (72 :: m :: t') (by simp) hl rfl (fun j => ?_) hq (fun j hj => ?_)
        · rw [List.getD_eq_getElem?_getD]
          cases hj : (72 :: m :: t')[j]? with
          | none => exact ⟨by decide, by decide⟩
          | some y => exact hB y (List.mem_of_getElem? hj)
        · refine hc j _ ?_
          simp only [by8, List.getElem?_map, List.getElem?_eq_getElem hj, Option.map_some, List.getD_eq_getElem?_getD, Option.getD_some]
    · exact refRead_other w b off c x t d0 hx
end Go.Proofs.Ytahojahplpcbiaa
