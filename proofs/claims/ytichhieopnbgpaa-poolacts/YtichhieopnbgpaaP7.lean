/-
  Package pool: Drain. No condition.
-/
import Derived.Test.YtichhieopnbgpaaP6
namespace Go.Proofs.Ytichhieopnbgpaa
open Go.RowKit

/-- The class of a block. -/
def cls (S : Shp) (n : Nat) : Nat := match whr S n with
  | some (_, _, _, c) => c
  | none => 0
/-- One more goes home. -/
def home1 (S : Shp) (i : Nat) (ls : List (List Nat)) (n : Nat) : List (List Nat) := ls.set (i * 4 + cls S n) (ls.getD (i * 4 + cls S n) [] ++ [n])
def drainL (S : Shp) (i : Nat) (ls : List (List Nat)) : List (List Nat) := ((ls.getD (i * 4 + 3) []).foldl (home1 S i) ls).set (i * 4 + 3) []
theorem getDL {ls : List (List Nat)} {j : Nat} {l : List Nat} (h : ls[j]? = some l) : ls.getD j [] = l := by simp [List.getD, h]
theorem foldl_take {α β : Type} (f : β → α → β) (l : List α) (j : Nat) (z : β) {a : α} (h : l[j]? = some a) : (l.take (j + 1)).foldl f z = f ((l.take j).foldl f z) a := by
  rw [show l.take (j + 1) = l.take j ++ [a] by rw [List.take_add_one, h]; rfl, List.foldl_append]; rfl

section
variable (w : World) (x P mp ms b t : Nat) (S : Shp) (base : Nat) (st : Int) (vs : List Value) (ls : List (List Nat)) (tk : List Bool) (ws : List (Bool × Int))
theorem drain_no (h : PR w x P mp ms b t S base st vs ls tk ws) (i : Int) (hn : i < 0 ∨ (S.k : Int) ≤ i) :
    Calls Try.prog 19 #[.pointer (some ⟨P, 0, none⟩), .int .i64 i] w fun e w' => e = .returned (.int .i64 0) ∧ w' = w := by
  have HH := Lib.hid (has_no2 w P S base mp b t h.hP i hn)
  clear h hn
  go_enter Try.func19, Try.ntmps19
  go_wp2_with fail
  refine HH.out.mono ?_
  rintro e w1 ⟨rfl, rfl⟩
  go_wp2_with fail
  go_ret
  exact ⟨rfl, rfl⟩
theorem drain_nil (i : Int) :
    Calls Try.prog 19 #[.pointer none, .int .i64 i] w fun e w' => e = .returned (.int .i64 0) ∧ w' = w := by
  have HH := Lib.hid (has_nil2 w i)
  go_enter Try.func19, Try.ntmps19
  go_wp2_with fail
  refine HH.out.mono ?_
  rintro e w1 ⟨rfl, rfl⟩
  go_wp2_with fail
  go_ret
  exact ⟨rfl, rfl⟩

set_option maxHeartbeats 16000000 in
set_option maxRecDepth 100000 in
theorem drain_yes (h : PR w x P mp ms b t S base st vs ls tk ws) (hbase : base ≤ 100000) (i : Nat) (hi : i < S.k) (bk : List Nat) (hbk : ls[i * 4 + 3]? = some bk) (hbl : bk.length ≤ 50000) (hlen : ∀ l ∈ ls, l.length ≤ 50000) (hin : ∀ n ∈ bk, 1 ≤ n ∧ n ≤ S.many) :
    Calls Try.prog 19 #[.pointer (some ⟨P, 0, none⟩), .int .i64 (i : Int)] w fun e w' => e = .returned (.int .i64 (bk.length : Int)) ∧ ∃ vs', PR w' x P mp ms b t S base st vs' (drainL S i ls) tk ws ∧ Fr (PB vs b t mp ms) w w' ∧ ∀ k, PB vs' b t mp ms k → PB vs b t mp ms k ∨ w.heap.size ≤ k := by
  have HH := Lib.hid (has_yes2 w P S base mp b t h.hP i hi)
  obtain ⟨c0, c13, c14⟩ := h.cells
  obtain ⟨v3, hv3⟩ := of_lt (show i * 4 + 3 < vs.length by have := h.vlen; omega)
  have hown3 := h.hr.own _ v3 _ hv3 hbk
  obtain ⟨A3, cp3, rfl⟩ := own_slice hown3
  obtain ⟨N, hN⟩ : ∃ N, N = bk.length := ⟨_, rfl⟩
  rw [← hN] at hv3 hown3 hbl
  have hcb : w.cell? ⟨b, i * 4 + 3, none⟩ = some (.slice A3 N cp3) := by rw [h.hb.cell, List.getElem?_toArray, hv3]
  have g1 : (i : Int) < (S.k : Int) := by omega
  have H := Lib.hid h
  have HV3 := Lib.hid hv3
  have HBK := Lib.hid hbk
  have HLEN := Lib.hid hlen
  have HIN := Lib.hid hin
  have HNN := Lib.hid hN
  rw [← hN]
  clear h hv3 hown3 hbk hlen hin hN
  go_enter Try.func19, Try.ntmps19
  go_wp2_with fail
  refine HH.out.mono ?_
  rintro e w1 ⟨rfl, rfl⟩
  go_wp2_with fail
  clear c0 c13 c14 hcb HH
  go_loopw [34] (fun iv wx => ∃ (j : Nat) (vj : List Value) (lj : List (List Nat)), j ≤ N ∧ iv = .int .i64 (j : Int) ∧ Hid (lj = (bk.take j).foldl (home1 S i) ls) ∧ Hid (vj[i * 4 + 3]? = some (.slice A3 N cp3)) ∧ Hid (lj[i * 4 + 3]? = some bk) ∧ Hid (∀ l ∈ lj, l.length ≤ 50000 + j) ∧ Hid (PR wx x P mp ms b t S base st vj lj tk ws) ∧ Hid (Fr (PB vs b t mp ms) w1 wx) ∧ Hid (∀ k, PB vj b t mp ms k → PB vs b t mp ms k ∨ w1.heap.size ≤ k)) (fun iv _ => N - (intOf iv).toNat)
  case atStart => exact ⟨0, vs, ls, by omega, rfl, Lib.hid rfl, HV3, HBK, Lib.hid (fun l hl => by have := HLEN.out l hl; omega), H, Lib.hid (Fr.refl _ _), Lib.hid (fun k hk => .inl hk)⟩
  case round =>
    obtain ⟨j, vj, lj, hj, rfl, HLJ, HVJ, HBJ, HLN, HR, HF, HPB⟩ := hrel
    by_cases hjn : j < N
    · have g2 : (j : Int) < (N : Int) := by omega
      obtain ⟨n, hn⟩ := of_lt (show j < bk.length by have := HNN.out; omega)
      have hn1 := HIN.out n (List.mem_of_getElem? hn)
      obtain ⟨a, z, o, cc, hw⟩ := whr_some hn1.1 hn1.2
      have hat := whr_at hw
      have hcls : cls S n = cc := by unfold cls; rw [hw]
      have HOW : wr.ownsRow x 3 1 (.slice A3 N cp3) N (nc bk) := by
        have := HR.out.hr.own _ _ _ HVJ.out HBJ.out
        rwa [← HNN.out] at this
      obtain ⟨g3, hA3, hcn⟩ := own_at HOW (nc_at hn)
      subst hA3
      have g4 : (cc : Int) < 3 := by have := hat.cls; omega
      have g5 : cc < 3 := hat.cls
      obtain ⟨v, hv⟩ := of_lt (show i * 4 + cc < vj.length by have := HR.out.vlen; omega)
      obtain ⟨l, hl⟩ := of_lt (show i * 4 + cc < lj.length by have := HR.out.hl; omega)
      have hown := HR.out.hr.own _ v _ hv hl
      obtain ⟨A, cp, rfl⟩ := own_slice hown
      obtain ⟨L, hL⟩ : ∃ L, L = l.length := ⟨_, rfl⟩
      have hll : L ≤ 150000 := by have := HLN.out l (List.mem_of_getElem? hl); omega
      rw [← hL] at hv hown
      have HV := Lib.hid hv
      have HLS := Lib.hid hl
      have HLL := Lib.hid hL
      have HWH := Lib.hid (where_in wr x P mp ms b t S base st vj lj tk ws HR.out hbase n a z o cc hw)
      obtain ⟨at_, hat_⟩ : ∃ at_, at_ = base + a := ⟨_, rfl⟩
      rw [← hat_] at HWH
      have HN := Lib.hid hn
      have HCL := Lib.hid hcls
      clear hn hw hat hcls HOW hv hown hl hL hat_ hn1
      go_wp2_with fail
      refine HWH.out.mono ?_
      rintro e w2 ⟨rfl, hF2⟩
      have HF2 := Lib.hid hF2
      have H2 := Lib.hid (HR.out.f0 hF2)
      have hcb2 : w2.cell? ⟨b, i * 4 + cc, none⟩ = some (.slice A L cp) := by rw [H2.out.hb.cell, List.getElem?_toArray, HV.out]
      have H2D : Hid (PR w2.drew x P mp ms b t S base st vj lj tk ws) := Lib.hid (H2.out.f0 ((Fr.refl _ _).drew))
      clear hF2 hcn
      go_wp2_with fail
      refine region_K 11 (fun w' : World => w'.cell? ⟨b, i * 4 + cc, none⟩ = some (.slice A L cp)) (by kernel_rfl) ?_
      have HS0 : (fun w' : World => w'.cell? ⟨b, i * 4 + cc, none⟩ = some (.slice A L cp)) w2.drew := hcb2
      refine AnyK.take (i := 0) rfl (by decide) (by kernel_rfl) (by kernel_rfl) (by kernel_rfl) (fun _ _ _ _ h => h) HS0 (fun K hK => ?_)
      go_simp
      refine hK.out _ ⟨_, by rfl, Or.inl ⟨by rfl, by intro w hSw; (try dsimp only at hSw); go_simp⟩, ?_⟩
      clear hK K
      refine AnyK.take (i := 1) rfl (by decide) (by kernel_rfl) (by kernel_rfl) (by kernel_rfl) (fun _ _ _ _ h => h) HS0 (fun K hK => ?_)
      go_simp
      refine hK.out _ ⟨_, by rfl, Or.inl ⟨by rfl, by intro w hSw; (try dsimp only at hSw); go_simp⟩, ?_⟩
      clear hK K
      refine AnyK.take (i := 2) rfl (by decide) (by kernel_rfl) (by kernel_rfl) (by kernel_rfl) (fun _ _ _ _ h => h) HS0 (fun K hK => ?_)
      go_simp
      refine hK.out _ ⟨_, by rfl, Or.inl ⟨by rfl, by intro w hSw; (try dsimp only at hSw); go_simp⟩, ?_⟩
      clear hK K
      refine AnyK.take (i := 3) rfl (by decide) (by kernel_rfl) (by kernel_rfl) (by kernel_rfl) (fun _ _ _ _ h => h) HS0 (fun K hK => ?_)
      go_simp
      refine hK.out _ ⟨_, by rfl, Or.inl ⟨by rfl, by intro w hSw; (try dsimp only at hSw); go_simp⟩, ?_⟩
      clear hK K
      refine AnyK.take (i := 4) rfl (by decide) (by kernel_rfl) (by kernel_rfl) (by kernel_rfl) (fun _ _ _ _ h => h) HS0 (fun K hK => ?_)
      go_simp
      refine hK.out _ ⟨_, by rfl, Or.inl ⟨by rfl, by intro w hSw; (try dsimp only at hSw); go_simp⟩, ?_⟩
      clear hK K
      refine AnyK.take (i := 5) rfl (by decide) (by kernel_rfl) (by kernel_rfl) (by kernel_rfl) (fun _ _ _ _ h => h) HS0 (fun K hK => ?_)
      go_simp
      refine hK.out _ ⟨_, by rfl, Or.inl ⟨by rfl, by intro w hSw; (try dsimp only at hSw); go_simp⟩, ?_⟩
      clear hK K
      refine AnyK.take (i := 6) rfl (by decide) (by kernel_rfl) (by kernel_rfl) (by kernel_rfl) (fun _ _ _ _ h => h) HS0 (fun K hK => ?_)
      go_simp
      refine hK.out _ ⟨_, by rfl, Or.inl ⟨by rfl, by intro w hSw; (try dsimp only at hSw); go_simp⟩, ?_⟩
      clear hK K
      refine AnyK.take (i := 7) rfl (by decide) (by kernel_rfl) (by kernel_rfl) (by kernel_rfl) (fun _ _ _ _ h => h) HS0 (fun K hK => ?_)
      go_simp
      refine hK.out _ ⟨_, by rfl, Or.inl ⟨by rfl, by intro w hSw; (try dsimp only at hSw); go_simp⟩, ?_⟩
      clear hK K
      refine AnyK.take (i := 8) rfl (by decide) (by kernel_rfl) (by kernel_rfl) (by kernel_rfl) (fun _ _ _ _ h => h) HS0 (fun K hK => ?_)
      go_simp
      refine hK.out _ ⟨_, by rfl, Or.inl ⟨by rfl, by intro w hSw; (try dsimp only at hSw); go_simp⟩, ?_⟩
      clear hK K
      refine AnyK.two (i := 9) (j := 11) rfl rfl (by kernel_rfl) (fun K hK => ?_) (fun K hK => ?_)
      · go_simp
        have hfa : Fr F0 w2.drew (w2.drew.alloc (.cells #[.int .i64 (n : Int)] 3)) := (Fr.refl _ _).alloc _
        have HNB : Hid (Blk (w2.drew.alloc (.cells #[.int .i64 (n : Int)] 3)) w2.heap.size 3 #[.int .i64 (n : Int)]) := Blk.new w2.drew _ _
        have HR5 := Lib.hid (H2D.out.f0 hfa)
        have HS1 : (fun w' : World => w'.cell? ⟨b, i * 4 + cc, none⟩ = some (.slice A L cp)) (w2.drew.alloc (.cells #[.int .i64 (n : Int)] 3)) := hfa.held hcb2 (fun h => h)
        have HT := Lib.hid (turn_more _ x A cp L n l (by have := HR5.out.hr.own _ _ _ HV.out HLS.out; rwa [← HLL.out] at this) (by omega) HR5.out.hx w2.heap.size HNB.out)
        refine hK.out _ _ (fun _ => HS1) ?_
        clear hK K
        refine AnyK.two (i := 10) (j := 11) rfl rfl (by kernel_rfl) (fun K hK => ?_) (fun K hK => ?_)
        · go_simp
          refine HT.out.mono ?_
          rintro e w6 ⟨A', c', rfl, hO6, hF6, hor6⟩
          have hvm := List.mem_of_getElem? HV.out
          have HS6 : (fun w' : World => w'.cell? ⟨b, i * 4 + cc, none⟩ = some (.slice A L cp)) w6 := hF6.held HS1 (fun e => HR5.out.ownT hvm HR5.out.hb (by decide) e)
          have hfz6 : w6.frozen? ⟨b, i * 4 + cc, none⟩ = false := by
            rw [World.frozen?_of_block (hF6.block b HR5.out.hb.lt (fun e => HR5.out.ownT hvm HR5.out.hb (by decide) e))]
            exact HR5.out.hb.frozen _
          rw [show L + 1 = (l ++ [n]).length by rw [HLL.out]; simp] at hO6
          have HR6 := Lib.hid (HR5.out.row HV.out hF6 hO6 (by rw [← show L + 1 = (l ++ [n]).length by rw [HLL.out]; simp]; exact hor6))
          rw [← show L + 1 = (l ++ [n]).length by rw [HLL.out]; simp] at HR6
          have HF6 := Lib.hid hF6
          have HOR6 := Lib.hid hor6
          refine hK.out _ _ (fun _ => HS6) ?_
          clear hK K
          clear hO6 hF6 hor6 hvm hfa HT
          refine AnyK.one (i := 11) rfl (by kernel_rfl) (fun K hK => ?_)
          go_simp
          refine hK.out _ _ (fun _ => HS6) ?_
          clear hK K
          refine AnyK.one (i := 12) rfl (by kernel_rfl) (fun K hK => ?_)
          go_simp
          refine hK.out _ _ (fun _ => HS6) ?_
          clear hK K
          refine AnyK.one (i := 13) rfl (by kernel_rfl) (fun K hK => ?_)
          go_simp
          refine hK.out _ _ (fun _ => HS6) ?_
          clear hK K
          refine AnyK.one (i := 14) rfl (by kernel_rfl) (fun K hK => ?_)
          go_simp
          refine hK.out _ _ (fun h => absurd (h.symm.trans (by kernel_rfl : _ = true)) (by decide)) ?_
          clear hK K
          refine AnyK.done (by kernel_rfl) ?_ _
          have HLN2 : Hid (∀ l' ∈ lj.set (i * 4 + cc) (l ++ [n]), l'.length ≤ 50000 + (j + 1)) := Lib.hid (fun l' hl' => by
            obtain ⟨q, hq⟩ := List.getElem?_of_mem hl'
            rcases set_at hq with ⟨_, rfl⟩ | ⟨_, hq'⟩
            · have := HLN.out l (List.mem_of_getElem? HLS.out)
              simp; omega
            · have := HLN.out l' (List.mem_of_getElem? hq'); omega)
          have HLJ2 : Hid (lj.set (i * 4 + cc) (l ++ [n]) = (bk.take (j + 1)).foldl (home1 S i) ls) := Lib.hid (by
            rw [foldl_take _ _ _ _ HN.out, ← HLJ.out]
            unfold home1
            rw [HCL.out, getDL HLS.out])
          have HVJ2 : Hid ((vj.set (i * 4 + cc) (.slice A' (L + 1) c'))[i * 4 + 3]? = some (.slice (some ⟨g3, 0, none⟩) N cp3)) := Lib.hid (by rw [List.getElem?_set_ne (by omega)]; exact HVJ.out)
          have HBJ2 : Hid ((lj.set (i * 4 + cc) (l ++ [n]))[i * 4 + 3]? = some bk) := Lib.hid (by rw [List.getElem?_set_ne (by omega)]; exact HBJ.out)
          have HF8 : Hid (Fr (PB vs b t mp ms) w1 (w6.setCell ⟨b, i * 4 + cc, none⟩ (.slice A' (L + 1) c'))) := Lib.hid (by
            have f2 : Fr (PB vs b t mp ms) w1 (w2.drew.alloc (.cells #[.int .i64 (n : Int)] 3)) := ((HF.out.trans HF2.out.f0).drew).alloc _
            have f6 : Fr (PB vs b t mp ms) w1 w6 := f2.then HF6.out (fun k hk => by
              rcases HPB.out k (.inr (.inr (.inr (.inr ⟨_, List.mem_of_getElem? HV.out, hk⟩)))) with h | h
              · exact .inl h
              · exact .inr h)
            exact f6.setCell (p := ⟨b, i * 4 + cc, none⟩) (.inl (.inl rfl)) _)
          have HPB8 : Hid (∀ k, PB (vj.set (i * 4 + cc) (.slice A' (L + 1) c')) b t mp ms k → PB vs b t mp ms k ∨ w1.heap.size ≤ k) := Lib.hid (fun k hk => by
            rcases PB.row HV.out HOR6.out hk with h1 | h1
            · exact HPB.out k h1
            · have h2 := HF.out.size
              have h3 := HF2.out.size
              have h4 : (w2.drew.alloc (.cells #[.int .i64 (n : Int)] 3)).heap.size = w2.heap.size + 1 := by simp
              exact .inr (by omega))
          go_wp2_with fail
          exact ⟨⟨j + 1, _, _, by omega, by go_num, HLJ2, HVJ2, HBJ2, HLN2, HR6, HF8, HPB8⟩, by simp [intOf]; omega⟩
        · go_simp
          refine hK.out _ _ (fun _ => HS1) ?_
          clear hK K
          refine AnyK.two (i := 10) (j := 12) rfl rfl (by kernel_rfl) (fun K hK => ?_) (fun K hK => ?_)
          · go_simp
            refine HT.out.mono ?_
            rintro e w6 ⟨A', c', rfl, hO6, hF6, hor6⟩
            have hvm := List.mem_of_getElem? HV.out
            have HS6 : (fun w' : World => w'.cell? ⟨b, i * 4 + cc, none⟩ = some (.slice A L cp)) w6 := hF6.held HS1 (fun e => HR5.out.ownT hvm HR5.out.hb (by decide) e)
            have hfz6 : w6.frozen? ⟨b, i * 4 + cc, none⟩ = false := by
              rw [World.frozen?_of_block (hF6.block b HR5.out.hb.lt (fun e => HR5.out.ownT hvm HR5.out.hb (by decide) e))]
              exact HR5.out.hb.frozen _
            rw [show L + 1 = (l ++ [n]).length by rw [HLL.out]; simp] at hO6
            have HR6 := Lib.hid (HR5.out.row HV.out hF6 hO6 (by rw [← show L + 1 = (l ++ [n]).length by rw [HLL.out]; simp]; exact hor6))
            rw [← show L + 1 = (l ++ [n]).length by rw [HLL.out]; simp] at HR6
            have HF6 := Lib.hid hF6
            have HOR6 := Lib.hid hor6
            refine hK.out _ _ (fun _ => HS6) ?_
            clear hK K
            clear hO6 hF6 hor6 hvm hfa HT
            refine AnyK.one (i := 12) rfl (by kernel_rfl) (fun K hK => ?_)
            go_simp
            refine hK.out _ _ (fun _ => HS6) ?_
            clear hK K
            refine AnyK.one (i := 13) rfl (by kernel_rfl) (fun K hK => ?_)
            go_simp
            refine hK.out _ _ (fun _ => HS6) ?_
            clear hK K
            refine AnyK.one (i := 14) rfl (by kernel_rfl) (fun K hK => ?_)
            go_simp
            refine hK.out _ _ (fun h => absurd (h.symm.trans (by kernel_rfl : _ = true)) (by decide)) ?_
            clear hK K
            refine AnyK.done (by kernel_rfl) ?_ _
            have HLN2 : Hid (∀ l' ∈ lj.set (i * 4 + cc) (l ++ [n]), l'.length ≤ 50000 + (j + 1)) := Lib.hid (fun l' hl' => by
              obtain ⟨q, hq⟩ := List.getElem?_of_mem hl'
              rcases set_at hq with ⟨_, rfl⟩ | ⟨_, hq'⟩
              · have := HLN.out l (List.mem_of_getElem? HLS.out)
                simp; omega
              · have := HLN.out l' (List.mem_of_getElem? hq'); omega)
            have HLJ2 : Hid (lj.set (i * 4 + cc) (l ++ [n]) = (bk.take (j + 1)).foldl (home1 S i) ls) := Lib.hid (by
              rw [foldl_take _ _ _ _ HN.out, ← HLJ.out]
              unfold home1
              rw [HCL.out, getDL HLS.out])
            have HVJ2 : Hid ((vj.set (i * 4 + cc) (.slice A' (L + 1) c'))[i * 4 + 3]? = some (.slice (some ⟨g3, 0, none⟩) N cp3)) := Lib.hid (by rw [List.getElem?_set_ne (by omega)]; exact HVJ.out)
            have HBJ2 : Hid ((lj.set (i * 4 + cc) (l ++ [n]))[i * 4 + 3]? = some bk) := Lib.hid (by rw [List.getElem?_set_ne (by omega)]; exact HBJ.out)
            have HF8 : Hid (Fr (PB vs b t mp ms) w1 (w6.setCell ⟨b, i * 4 + cc, none⟩ (.slice A' (L + 1) c'))) := Lib.hid (by
              have f2 : Fr (PB vs b t mp ms) w1 (w2.drew.alloc (.cells #[.int .i64 (n : Int)] 3)) := ((HF.out.trans HF2.out.f0).drew).alloc _
              have f6 : Fr (PB vs b t mp ms) w1 w6 := f2.then HF6.out (fun k hk => by
                rcases HPB.out k (.inr (.inr (.inr (.inr ⟨_, List.mem_of_getElem? HV.out, hk⟩)))) with h | h
                · exact .inl h
                · exact .inr h)
              exact f6.setCell (p := ⟨b, i * 4 + cc, none⟩) (.inl (.inl rfl)) _)
            have HPB8 : Hid (∀ k, PB (vj.set (i * 4 + cc) (.slice A' (L + 1) c')) b t mp ms k → PB vs b t mp ms k ∨ w1.heap.size ≤ k) := Lib.hid (fun k hk => by
              rcases PB.row HV.out HOR6.out hk with h1 | h1
              · exact HPB.out k h1
              · have h2 := HF.out.size
                have h3 := HF2.out.size
                have h4 : (w2.drew.alloc (.cells #[.int .i64 (n : Int)] 3)).heap.size = w2.heap.size + 1 := by simp
                exact .inr (by omega))
            go_wp2_with fail
            exact ⟨⟨j + 1, _, _, by omega, by go_num, HLJ2, HVJ2, HBJ2, HLN2, HR6, HF8, HPB8⟩, by simp [intOf]; omega⟩
          · go_simp
            refine hK.out _ _ (fun _ => HS1) ?_
            clear hK K
            refine AnyK.one (i := 10) rfl (by kernel_rfl) (fun K hK => ?_)
            go_simp
            refine HT.out.mono ?_
            rintro e w6 ⟨A', c', rfl, hO6, hF6, hor6⟩
            have hvm := List.mem_of_getElem? HV.out
            have HS6 : (fun w' : World => w'.cell? ⟨b, i * 4 + cc, none⟩ = some (.slice A L cp)) w6 := hF6.held HS1 (fun e => HR5.out.ownT hvm HR5.out.hb (by decide) e)
            have hfz6 : w6.frozen? ⟨b, i * 4 + cc, none⟩ = false := by
              rw [World.frozen?_of_block (hF6.block b HR5.out.hb.lt (fun e => HR5.out.ownT hvm HR5.out.hb (by decide) e))]
              exact HR5.out.hb.frozen _
            rw [show L + 1 = (l ++ [n]).length by rw [HLL.out]; simp] at hO6
            have HR6 := Lib.hid (HR5.out.row HV.out hF6 hO6 (by rw [← show L + 1 = (l ++ [n]).length by rw [HLL.out]; simp]; exact hor6))
            rw [← show L + 1 = (l ++ [n]).length by rw [HLL.out]; simp] at HR6
            have HF6 := Lib.hid hF6
            have HOR6 := Lib.hid hor6
            refine hK.out _ _ (fun _ => HS6) ?_
            clear hK K
            clear hO6 hF6 hor6 hvm hfa HT
            refine AnyK.one (i := 13) rfl (by kernel_rfl) (fun K hK => ?_)
            go_simp
            refine hK.out _ _ (fun _ => HS6) ?_
            clear hK K
            refine AnyK.one (i := 14) rfl (by kernel_rfl) (fun K hK => ?_)
            go_simp
            refine hK.out _ _ (fun h => absurd (h.symm.trans (by kernel_rfl : _ = true)) (by decide)) ?_
            clear hK K
            refine AnyK.done (by kernel_rfl) ?_ _
            have HLN2 : Hid (∀ l' ∈ lj.set (i * 4 + cc) (l ++ [n]), l'.length ≤ 50000 + (j + 1)) := Lib.hid (fun l' hl' => by
              obtain ⟨q, hq⟩ := List.getElem?_of_mem hl'
              rcases set_at hq with ⟨_, rfl⟩ | ⟨_, hq'⟩
              · have := HLN.out l (List.mem_of_getElem? HLS.out)
                simp; omega
              · have := HLN.out l' (List.mem_of_getElem? hq'); omega)
            have HLJ2 : Hid (lj.set (i * 4 + cc) (l ++ [n]) = (bk.take (j + 1)).foldl (home1 S i) ls) := Lib.hid (by
              rw [foldl_take _ _ _ _ HN.out, ← HLJ.out]
              unfold home1
              rw [HCL.out, getDL HLS.out])
            have HVJ2 : Hid ((vj.set (i * 4 + cc) (.slice A' (L + 1) c'))[i * 4 + 3]? = some (.slice (some ⟨g3, 0, none⟩) N cp3)) := Lib.hid (by rw [List.getElem?_set_ne (by omega)]; exact HVJ.out)
            have HBJ2 : Hid ((lj.set (i * 4 + cc) (l ++ [n]))[i * 4 + 3]? = some bk) := Lib.hid (by rw [List.getElem?_set_ne (by omega)]; exact HBJ.out)
            have HF8 : Hid (Fr (PB vs b t mp ms) w1 (w6.setCell ⟨b, i * 4 + cc, none⟩ (.slice A' (L + 1) c'))) := Lib.hid (by
              have f2 : Fr (PB vs b t mp ms) w1 (w2.drew.alloc (.cells #[.int .i64 (n : Int)] 3)) := ((HF.out.trans HF2.out.f0).drew).alloc _
              have f6 : Fr (PB vs b t mp ms) w1 w6 := f2.then HF6.out (fun k hk => by
                rcases HPB.out k (.inr (.inr (.inr (.inr ⟨_, List.mem_of_getElem? HV.out, hk⟩)))) with h | h
                · exact .inl h
                · exact .inr h)
              exact f6.setCell (p := ⟨b, i * 4 + cc, none⟩) (.inl (.inl rfl)) _)
            have HPB8 : Hid (∀ k, PB (vj.set (i * 4 + cc) (.slice A' (L + 1) c')) b t mp ms k → PB vs b t mp ms k ∨ w1.heap.size ≤ k) := Lib.hid (fun k hk => by
              rcases PB.row HV.out HOR6.out hk with h1 | h1
              · exact HPB.out k h1
              · have h2 := HF.out.size
                have h3 := HF2.out.size
                have h4 : (w2.drew.alloc (.cells #[.int .i64 (n : Int)] 3)).heap.size = w2.heap.size + 1 := by simp
                exact .inr (by omega))
            go_wp2_with fail
            exact ⟨⟨j + 1, _, _, by omega, by go_num, HLJ2, HVJ2, HBJ2, HLN2, HR6, HF8, HPB8⟩, by simp [intOf]; omega⟩
      · go_simp
        refine hK.out _ _ (fun _ => HS0) ?_
        clear hK K
        refine AnyK.two (i := 9) (j := 12) rfl rfl (by kernel_rfl) (fun K hK => ?_) (fun K hK => ?_)
        · go_simp
          have hfa : Fr F0 w2.drew (w2.drew.alloc (.cells #[.int .i64 (n : Int)] 3)) := (Fr.refl _ _).alloc _
          have HNB : Hid (Blk (w2.drew.alloc (.cells #[.int .i64 (n : Int)] 3)) w2.heap.size 3 #[.int .i64 (n : Int)]) := Blk.new w2.drew _ _
          have HR5 := Lib.hid (H2D.out.f0 hfa)
          have HS1 : (fun w' : World => w'.cell? ⟨b, i * 4 + cc, none⟩ = some (.slice A L cp)) (w2.drew.alloc (.cells #[.int .i64 (n : Int)] 3)) := hfa.held hcb2 (fun h => h)
          have HT := Lib.hid (turn_more _ x A cp L n l (by have := HR5.out.hr.own _ _ _ HV.out HLS.out; rwa [← HLL.out] at this) (by omega) HR5.out.hx w2.heap.size HNB.out)
          refine hK.out _ _ (fun _ => HS1) ?_
          clear hK K
          refine AnyK.two (i := 10) (j := 12) rfl rfl (by kernel_rfl) (fun K hK => ?_) (fun K hK => ?_)
          · go_simp
            refine HT.out.mono ?_
            rintro e w6 ⟨A', c', rfl, hO6, hF6, hor6⟩
            have hvm := List.mem_of_getElem? HV.out
            have HS6 : (fun w' : World => w'.cell? ⟨b, i * 4 + cc, none⟩ = some (.slice A L cp)) w6 := hF6.held HS1 (fun e => HR5.out.ownT hvm HR5.out.hb (by decide) e)
            have hfz6 : w6.frozen? ⟨b, i * 4 + cc, none⟩ = false := by
              rw [World.frozen?_of_block (hF6.block b HR5.out.hb.lt (fun e => HR5.out.ownT hvm HR5.out.hb (by decide) e))]
              exact HR5.out.hb.frozen _
            rw [show L + 1 = (l ++ [n]).length by rw [HLL.out]; simp] at hO6
            have HR6 := Lib.hid (HR5.out.row HV.out hF6 hO6 (by rw [← show L + 1 = (l ++ [n]).length by rw [HLL.out]; simp]; exact hor6))
            rw [← show L + 1 = (l ++ [n]).length by rw [HLL.out]; simp] at HR6
            have HF6 := Lib.hid hF6
            have HOR6 := Lib.hid hor6
            refine hK.out _ _ (fun _ => HS6) ?_
            clear hK K
            clear hO6 hF6 hor6 hvm hfa HT
            refine AnyK.one (i := 12) rfl (by kernel_rfl) (fun K hK => ?_)
            go_simp
            refine hK.out _ _ (fun _ => HS6) ?_
            clear hK K
            refine AnyK.one (i := 13) rfl (by kernel_rfl) (fun K hK => ?_)
            go_simp
            refine hK.out _ _ (fun _ => HS6) ?_
            clear hK K
            refine AnyK.one (i := 14) rfl (by kernel_rfl) (fun K hK => ?_)
            go_simp
            refine hK.out _ _ (fun h => absurd (h.symm.trans (by kernel_rfl : _ = true)) (by decide)) ?_
            clear hK K
            refine AnyK.done (by kernel_rfl) ?_ _
            have HLN2 : Hid (∀ l' ∈ lj.set (i * 4 + cc) (l ++ [n]), l'.length ≤ 50000 + (j + 1)) := Lib.hid (fun l' hl' => by
              obtain ⟨q, hq⟩ := List.getElem?_of_mem hl'
              rcases set_at hq with ⟨_, rfl⟩ | ⟨_, hq'⟩
              · have := HLN.out l (List.mem_of_getElem? HLS.out)
                simp; omega
              · have := HLN.out l' (List.mem_of_getElem? hq'); omega)
            have HLJ2 : Hid (lj.set (i * 4 + cc) (l ++ [n]) = (bk.take (j + 1)).foldl (home1 S i) ls) := Lib.hid (by
              rw [foldl_take _ _ _ _ HN.out, ← HLJ.out]
              unfold home1
              rw [HCL.out, getDL HLS.out])
            have HVJ2 : Hid ((vj.set (i * 4 + cc) (.slice A' (L + 1) c'))[i * 4 + 3]? = some (.slice (some ⟨g3, 0, none⟩) N cp3)) := Lib.hid (by rw [List.getElem?_set_ne (by omega)]; exact HVJ.out)
            have HBJ2 : Hid ((lj.set (i * 4 + cc) (l ++ [n]))[i * 4 + 3]? = some bk) := Lib.hid (by rw [List.getElem?_set_ne (by omega)]; exact HBJ.out)
            have HF8 : Hid (Fr (PB vs b t mp ms) w1 (w6.setCell ⟨b, i * 4 + cc, none⟩ (.slice A' (L + 1) c'))) := Lib.hid (by
              have f2 : Fr (PB vs b t mp ms) w1 (w2.drew.alloc (.cells #[.int .i64 (n : Int)] 3)) := ((HF.out.trans HF2.out.f0).drew).alloc _
              have f6 : Fr (PB vs b t mp ms) w1 w6 := f2.then HF6.out (fun k hk => by
                rcases HPB.out k (.inr (.inr (.inr (.inr ⟨_, List.mem_of_getElem? HV.out, hk⟩)))) with h | h
                · exact .inl h
                · exact .inr h)
              exact f6.setCell (p := ⟨b, i * 4 + cc, none⟩) (.inl (.inl rfl)) _)
            have HPB8 : Hid (∀ k, PB (vj.set (i * 4 + cc) (.slice A' (L + 1) c')) b t mp ms k → PB vs b t mp ms k ∨ w1.heap.size ≤ k) := Lib.hid (fun k hk => by
              rcases PB.row HV.out HOR6.out hk with h1 | h1
              · exact HPB.out k h1
              · have h2 := HF.out.size
                have h3 := HF2.out.size
                have h4 : (w2.drew.alloc (.cells #[.int .i64 (n : Int)] 3)).heap.size = w2.heap.size + 1 := by simp
                exact .inr (by omega))
            go_wp2_with fail
            exact ⟨⟨j + 1, _, _, by omega, by go_num, HLJ2, HVJ2, HBJ2, HLN2, HR6, HF8, HPB8⟩, by simp [intOf]; omega⟩
          · go_simp
            refine hK.out _ _ (fun _ => HS1) ?_
            clear hK K
            refine AnyK.one (i := 10) rfl (by kernel_rfl) (fun K hK => ?_)
            go_simp
            refine HT.out.mono ?_
            rintro e w6 ⟨A', c', rfl, hO6, hF6, hor6⟩
            have hvm := List.mem_of_getElem? HV.out
            have HS6 : (fun w' : World => w'.cell? ⟨b, i * 4 + cc, none⟩ = some (.slice A L cp)) w6 := hF6.held HS1 (fun e => HR5.out.ownT hvm HR5.out.hb (by decide) e)
            have hfz6 : w6.frozen? ⟨b, i * 4 + cc, none⟩ = false := by
              rw [World.frozen?_of_block (hF6.block b HR5.out.hb.lt (fun e => HR5.out.ownT hvm HR5.out.hb (by decide) e))]
              exact HR5.out.hb.frozen _
            rw [show L + 1 = (l ++ [n]).length by rw [HLL.out]; simp] at hO6
            have HR6 := Lib.hid (HR5.out.row HV.out hF6 hO6 (by rw [← show L + 1 = (l ++ [n]).length by rw [HLL.out]; simp]; exact hor6))
            rw [← show L + 1 = (l ++ [n]).length by rw [HLL.out]; simp] at HR6
            have HF6 := Lib.hid hF6
            have HOR6 := Lib.hid hor6
            refine hK.out _ _ (fun _ => HS6) ?_
            clear hK K
            clear hO6 hF6 hor6 hvm hfa HT
            refine AnyK.one (i := 13) rfl (by kernel_rfl) (fun K hK => ?_)
            go_simp
            refine hK.out _ _ (fun _ => HS6) ?_
            clear hK K
            refine AnyK.one (i := 14) rfl (by kernel_rfl) (fun K hK => ?_)
            go_simp
            refine hK.out _ _ (fun h => absurd (h.symm.trans (by kernel_rfl : _ = true)) (by decide)) ?_
            clear hK K
            refine AnyK.done (by kernel_rfl) ?_ _
            have HLN2 : Hid (∀ l' ∈ lj.set (i * 4 + cc) (l ++ [n]), l'.length ≤ 50000 + (j + 1)) := Lib.hid (fun l' hl' => by
              obtain ⟨q, hq⟩ := List.getElem?_of_mem hl'
              rcases set_at hq with ⟨_, rfl⟩ | ⟨_, hq'⟩
              · have := HLN.out l (List.mem_of_getElem? HLS.out)
                simp; omega
              · have := HLN.out l' (List.mem_of_getElem? hq'); omega)
            have HLJ2 : Hid (lj.set (i * 4 + cc) (l ++ [n]) = (bk.take (j + 1)).foldl (home1 S i) ls) := Lib.hid (by
              rw [foldl_take _ _ _ _ HN.out, ← HLJ.out]
              unfold home1
              rw [HCL.out, getDL HLS.out])
            have HVJ2 : Hid ((vj.set (i * 4 + cc) (.slice A' (L + 1) c'))[i * 4 + 3]? = some (.slice (some ⟨g3, 0, none⟩) N cp3)) := Lib.hid (by rw [List.getElem?_set_ne (by omega)]; exact HVJ.out)
            have HBJ2 : Hid ((lj.set (i * 4 + cc) (l ++ [n]))[i * 4 + 3]? = some bk) := Lib.hid (by rw [List.getElem?_set_ne (by omega)]; exact HBJ.out)
            have HF8 : Hid (Fr (PB vs b t mp ms) w1 (w6.setCell ⟨b, i * 4 + cc, none⟩ (.slice A' (L + 1) c'))) := Lib.hid (by
              have f2 : Fr (PB vs b t mp ms) w1 (w2.drew.alloc (.cells #[.int .i64 (n : Int)] 3)) := ((HF.out.trans HF2.out.f0).drew).alloc _
              have f6 : Fr (PB vs b t mp ms) w1 w6 := f2.then HF6.out (fun k hk => by
                rcases HPB.out k (.inr (.inr (.inr (.inr ⟨_, List.mem_of_getElem? HV.out, hk⟩)))) with h | h
                · exact .inl h
                · exact .inr h)
              exact f6.setCell (p := ⟨b, i * 4 + cc, none⟩) (.inl (.inl rfl)) _)
            have HPB8 : Hid (∀ k, PB (vj.set (i * 4 + cc) (.slice A' (L + 1) c')) b t mp ms k → PB vs b t mp ms k ∨ w1.heap.size ≤ k) := Lib.hid (fun k hk => by
              rcases PB.row HV.out HOR6.out hk with h1 | h1
              · exact HPB.out k h1
              · have h2 := HF.out.size
                have h3 := HF2.out.size
                have h4 : (w2.drew.alloc (.cells #[.int .i64 (n : Int)] 3)).heap.size = w2.heap.size + 1 := by simp
                exact .inr (by omega))
            go_wp2_with fail
            exact ⟨⟨j + 1, _, _, by omega, by go_num, HLJ2, HVJ2, HBJ2, HLN2, HR6, HF8, HPB8⟩, by simp [intOf]; omega⟩
        · go_simp
          refine hK.out _ _ (fun _ => HS0) ?_
          clear hK K
          refine AnyK.one (i := 9) rfl (by kernel_rfl) (fun K hK => ?_)
          go_simp
          have hfa : Fr F0 w2.drew (w2.drew.alloc (.cells #[.int .i64 (n : Int)] 3)) := (Fr.refl _ _).alloc _
          have HNB : Hid (Blk (w2.drew.alloc (.cells #[.int .i64 (n : Int)] 3)) w2.heap.size 3 #[.int .i64 (n : Int)]) := Blk.new w2.drew _ _
          have HR5 := Lib.hid (H2D.out.f0 hfa)
          have HS1 : (fun w' : World => w'.cell? ⟨b, i * 4 + cc, none⟩ = some (.slice A L cp)) (w2.drew.alloc (.cells #[.int .i64 (n : Int)] 3)) := hfa.held hcb2 (fun h => h)
          have HT := Lib.hid (turn_more _ x A cp L n l (by have := HR5.out.hr.own _ _ _ HV.out HLS.out; rwa [← HLL.out] at this) (by omega) HR5.out.hx w2.heap.size HNB.out)
          refine hK.out _ _ (fun _ => HS1) ?_
          clear hK K
          refine AnyK.one (i := 10) rfl (by kernel_rfl) (fun K hK => ?_)
          go_simp
          refine HT.out.mono ?_
          rintro e w6 ⟨A', c', rfl, hO6, hF6, hor6⟩
          have hvm := List.mem_of_getElem? HV.out
          have HS6 : (fun w' : World => w'.cell? ⟨b, i * 4 + cc, none⟩ = some (.slice A L cp)) w6 := hF6.held HS1 (fun e => HR5.out.ownT hvm HR5.out.hb (by decide) e)
          have hfz6 : w6.frozen? ⟨b, i * 4 + cc, none⟩ = false := by
            rw [World.frozen?_of_block (hF6.block b HR5.out.hb.lt (fun e => HR5.out.ownT hvm HR5.out.hb (by decide) e))]
            exact HR5.out.hb.frozen _
          rw [show L + 1 = (l ++ [n]).length by rw [HLL.out]; simp] at hO6
          have HR6 := Lib.hid (HR5.out.row HV.out hF6 hO6 (by rw [← show L + 1 = (l ++ [n]).length by rw [HLL.out]; simp]; exact hor6))
          rw [← show L + 1 = (l ++ [n]).length by rw [HLL.out]; simp] at HR6
          have HF6 := Lib.hid hF6
          have HOR6 := Lib.hid hor6
          refine hK.out _ _ (fun _ => HS6) ?_
          clear hK K
          clear hO6 hF6 hor6 hvm hfa HT
          refine AnyK.one (i := 13) rfl (by kernel_rfl) (fun K hK => ?_)
          go_simp
          refine hK.out _ _ (fun _ => HS6) ?_
          clear hK K
          refine AnyK.one (i := 14) rfl (by kernel_rfl) (fun K hK => ?_)
          go_simp
          refine hK.out _ _ (fun h => absurd (h.symm.trans (by kernel_rfl : _ = true)) (by decide)) ?_
          clear hK K
          refine AnyK.done (by kernel_rfl) ?_ _
          have HLN2 : Hid (∀ l' ∈ lj.set (i * 4 + cc) (l ++ [n]), l'.length ≤ 50000 + (j + 1)) := Lib.hid (fun l' hl' => by
            obtain ⟨q, hq⟩ := List.getElem?_of_mem hl'
            rcases set_at hq with ⟨_, rfl⟩ | ⟨_, hq'⟩
            · have := HLN.out l (List.mem_of_getElem? HLS.out)
              simp; omega
            · have := HLN.out l' (List.mem_of_getElem? hq'); omega)
          have HLJ2 : Hid (lj.set (i * 4 + cc) (l ++ [n]) = (bk.take (j + 1)).foldl (home1 S i) ls) := Lib.hid (by
            rw [foldl_take _ _ _ _ HN.out, ← HLJ.out]
            unfold home1
            rw [HCL.out, getDL HLS.out])
          have HVJ2 : Hid ((vj.set (i * 4 + cc) (.slice A' (L + 1) c'))[i * 4 + 3]? = some (.slice (some ⟨g3, 0, none⟩) N cp3)) := Lib.hid (by rw [List.getElem?_set_ne (by omega)]; exact HVJ.out)
          have HBJ2 : Hid ((lj.set (i * 4 + cc) (l ++ [n]))[i * 4 + 3]? = some bk) := Lib.hid (by rw [List.getElem?_set_ne (by omega)]; exact HBJ.out)
          have HF8 : Hid (Fr (PB vs b t mp ms) w1 (w6.setCell ⟨b, i * 4 + cc, none⟩ (.slice A' (L + 1) c'))) := Lib.hid (by
            have f2 : Fr (PB vs b t mp ms) w1 (w2.drew.alloc (.cells #[.int .i64 (n : Int)] 3)) := ((HF.out.trans HF2.out.f0).drew).alloc _
            have f6 : Fr (PB vs b t mp ms) w1 w6 := f2.then HF6.out (fun k hk => by
              rcases HPB.out k (.inr (.inr (.inr (.inr ⟨_, List.mem_of_getElem? HV.out, hk⟩)))) with h | h
              · exact .inl h
              · exact .inr h)
            exact f6.setCell (p := ⟨b, i * 4 + cc, none⟩) (.inl (.inl rfl)) _)
          have HPB8 : Hid (∀ k, PB (vj.set (i * 4 + cc) (.slice A' (L + 1) c')) b t mp ms k → PB vs b t mp ms k ∨ w1.heap.size ≤ k) := Lib.hid (fun k hk => by
            rcases PB.row HV.out HOR6.out hk with h1 | h1
            · exact HPB.out k h1
            · have h2 := HF.out.size
              have h3 := HF2.out.size
              have h4 : (w2.drew.alloc (.cells #[.int .i64 (n : Int)] 3)).heap.size = w2.heap.size + 1 := by simp
              exact .inr (by omega))
          go_wp2_with fail
          exact ⟨⟨j + 1, _, _, by omega, by go_num, HLJ2, HVJ2, HBJ2, HLN2, HR6, HF8, HPB8⟩, by simp [intOf]; omega⟩
    · have HJ := Lib.hid (show j = N by omega)
      have hcb3 : wr.cell? ⟨b, i * 4 + 3, none⟩ = some (.slice A3 N cp3) := by rw [HR.out.hb.cell, List.getElem?_toArray, HVJ.out]
      have HT := Lib.hid (turn_less wr x A3 cp3 N N 0 bk (by have := HR.out.hr.own _ _ _ HVJ.out HBJ.out; rwa [← HNN.out] at this) (by omega) (by omega) HR.out.hx)
      rw [List.take_zero] at HT
      go_wp2_with fail
      refine HT.out.mono ?_
      rintro e w6 ⟨A', c', rfl, hO6, hF6, hor6⟩
      have hvm := List.mem_of_getElem? HVJ.out
      have hcb6 : w6.cell? ⟨b, i * 4 + 3, none⟩ = some (.slice A3 N cp3) := hF6.held hcb3 (fun e => HR.out.ownT hvm HR.out.hb (by decide) e)
      have hfz6 : w6.frozen? ⟨b, i * 4 + 3, none⟩ = false := by
        rw [World.frozen?_of_block (hF6.block b HR.out.hb.lt (fun e => HR.out.ownT hvm HR.out.hb (by decide) e))]
        exact HR.out.hb.frozen _
      have HR6 := Lib.hid (HR.out.row (l' := []) HVJ.out hF6 hO6 hor6)
      have HF6 := Lib.hid hF6
      have HOR6 := Lib.hid hor6
      clear hO6 hF6 hor6 hvm hcb3
      go_wp2_with fail
      go_ret
      refine ⟨rfl, vj.set (i * 4 + 3) (.slice A' 0 c'), ?_, ?_, fun k hk => ?_⟩
      · have := HR6.out
        rw [HLJ.out, show j = bk.length by have := HJ.out; have := HNN.out; omega, List.take_length] at this
        unfold drainL
        rw [getDL HBK.out]
        exact this
      · have f6 : Fr (PB vs b t mp ms) w1 w6 := HF.out.then HF6.out (fun k hk => by
          rcases HPB.out k (.inr (.inr (.inr (.inr ⟨_, List.mem_of_getElem? HVJ.out, hk⟩)))) with h | h
          · exact .inl h
          · exact .inr h)
        exact f6.setCell (p := ⟨b, i * 4 + 3, none⟩) (.inl (.inl rfl)) _
      · rcases PB.row HVJ.out HOR6.out hk with h1 | h1
        · exact HPB.out k h1
        · have h2 := HF.out.size
          exact .inr (by omega)
end
end Go.Proofs.Ytichhieopnbgpaa
