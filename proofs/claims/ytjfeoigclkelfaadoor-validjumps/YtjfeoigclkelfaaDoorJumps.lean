/-
  haymowlaw03.ValidJumps returns true for every two numbers, with the table of fields as it was laid.
-/
import Derived.Test.YtjfeoigclkelfaaDoorAwkV
import Derived.Test.YtjfeoigclkelfaaDoorOwnR
import Derived.Test.YtjfeoigclkelfaaDoorLaidV
import Derived.Test.YtjfeoigclkelfaaDoorTie
import Derived.Test.YtjfeoigclkelfaaDoorCards
import Derived.ShutString
import Derived.ChangeOld
import Derived.SevenTiedAt
namespace Go.Proofs.YtjfeoigclkelfaaDoor.validJumps
open Go.ChangeShapes Go.WideShapes Go.ChangeAt Go.RowKit
open Go.ChangeMaps (open_string shut_string)

def jump (k : Int) : Ins := ⟨9, 0, 0, 0, k⟩
def row (n : Nat) : List Ins := (List.range n).map fun i : Nat => jump i
def row' (n : Nat) (to : Int) : List Ins := row (n - 1) ++ [jump to]
theorem row_length (n : Nat) : (row n).length = n := by simp [row]
theorem row'_length (n : Nat) (to : Int) (h : 1 ≤ n) : (row' n to).length = n := by simp [row', row_length]; omega
theorem row_snoc (n : Nat) : row (n + 1) = row n ++ [jump n] := by simp [row, List.range_succ]

theorem ins_jump (fs : List Fn) (pl : Nat) (k : Int) : insE fs pl (jump k) = rngE 0 pl 6 k := by
  have h0 : firstE (unusedE (jump k)) 0 4 = 0 := firstE_ok 4 0 (fun i _ h => by
    obtain rfl | rfl | rfl | rfl : i = 0 ∨ i = 1 ∨ i = 2 ∨ i = 3 := by omega
    all_goals rfl)
  have h1 : ∀ i, i < 3 → fieldsE fs.length pl (jump k) i = 0 := fun i h => by
    obtain rfl | rfl | rfl : i = 0 ∨ i = 1 ∨ i = 2 := by omega
    all_goals rfl
  have h3 : fieldsE fs.length pl (jump k) 3 = rngE 0 pl 6 k := rfl
  have h2 : firstE (fieldsE fs.length pl (jump k)) 0 4 = rngE 0 pl 6 k := by
    by_cases h : rngE 0 pl 6 k = 0
    · rw [h]
      exact firstE_ok 4 0 (fun i _ hi => by
        by_cases h' : i < 3
        · exact h1 i h'
        · obtain rfl : i = 3 := by omega
          rw [h3, h])
    · rw [firstE_bad (g := fieldsE fs.length pl (jump k)) 4 0 3 (fun i _ hi => h1 i (by omega)) (by omega) (by rw [Nat.zero_add, h3]; exact h)]
      exact h3
  have h4 : callE fs (jump k) = 0 := rfl
  unfold insE
  rw [if_pos (show 1 ≤ (jump k).op ∧ (jump k).op ≤ 17 from (show (1 : Int) ≤ 9 ∧ (9 : Int) ≤ 17 by decide)), if_pos h0, h2, h4]
  split
  · rename_i h; exact h.symm
  · rfl

theorem chk_one (f : Fn) : chk [f] = if (fnE [f] f).2 = 0 then (0, 0, 0) else (0, (fnE [f] f).1, (fnE [f] f).2) := by
  rw [chk_fns (by simp)]
  unfold fnsE
  split
  · rfl
  · rfl

theorem last_row (n : Nat) (to : Int) : lastOk (row' n to) := by
  unfold lastOk lastOp row'
  rw [List.getLast?_concat]; exact .inl rfl

theorem at_row (n i : Nat) (h : i < n) : (row n)[i]? = some (jump i) := by simp [row, h]

theorem chk_in (n : Nat) (to : Int) (h1 : 1 ≤ n) (h2 : n ≤ 64) (h : 0 ≤ to ∧ to < n) : chk [⟨0, row' n to⟩] = (0, 0, 0) := by
  have hl := row'_length n to h1
  have : fnE [⟨0, row' n to⟩] ⟨0, row' n to⟩ = (0, 0) := by
    rw [fnE_last (f := ⟨0, row' n to⟩) (show (0 : Int) ≤ 0 ∧ (0 : Int) ≤ 4 by decide) (by show 1 ≤ (row' n to).length ∧ (row' n to).length ≤ 64; omega) ?_]
    · exact if_pos (last_row n to)
    · intro y hy
      show insE _ (row' n to).length y = 0
      rw [hl]
      rcases List.mem_append.1 hy with hy | hy
      · obtain ⟨i, hi, rfl⟩ := List.mem_map.1 hy
        rw [ins_jump]
        exact rngE_in (by omega) (by have := List.mem_range.1 hi; omega)
      · rw [List.mem_singleton.1 hy, ins_jump]
        exact rngE_in h.1 h.2
  rw [chk_one, this]; rfl

theorem chk_out (n : Nat) (to : Int) (h1 : 1 ≤ n) (h2 : n ≤ 64) (h : ¬ (0 ≤ to ∧ to < n)) : chk [⟨0, row' n to⟩] = (0, n - 1, 6) := by
  have hl := row'_length n to h1
  have : fnE [⟨0, row' n to⟩] ⟨0, row' n to⟩ = (n - 1, 6) := by
    have hx : (row' n to)[n - 1]? = some (jump to) := by
      unfold row'
      rw [List.getElem?_append_right (by rw [row_length]; omega), row_length]; simp
    have hi : insE [⟨0, row' n to⟩] (row' n to).length (jump to) = 6 := by rw [ins_jump, hl, rngE_out h]
    have := fnE_ins (fs := [⟨0, row' n to⟩]) (f := ⟨0, row' n to⟩) (show (0 : Int) ≤ 0 ∧ (0 : Int) ≤ 4 by decide) (by show 1 ≤ (row' n to).length ∧ (row' n to).length ≤ 64; omega) (k := n - 1) hx ?_ (by rw [hi]; decide)
    · rw [this, hi]
    · intro y hy
      show insE _ (row' n to).length y = 0
      rw [hl]
      have hy' : y ∈ row (n - 1) := by
        have : (row' n to).take (n - 1) = row (n - 1) := by unfold row'; rw [List.take_append_of_le_length (by rw [row_length]; omega), List.take_of_length_le (by rw [row_length]; omega)]
        rw [← this]; exact hy
      obtain ⟨i, hi, rfl⟩ := List.mem_map.1 hy'
      rw [ins_jump]
      exact rngE_in (by omega) (by have := List.mem_range.1 hi; omega)
  rw [chk_one, this]; rfl

/-- The row behind the store. -/
theorem set_row {w : World} {base g cap n : Nat} (h : w.ownsRow base 38 5 (.slice (some ⟨g, 0, none⟩) n cap) n ((row n).flatMap Ins.cells)) (hn : 1 ≤ n) (to : Int) :
    InsRow (w.setCell ⟨g, (n - 1) * 5 + 4, none⟩ (.int .i64 to)) (fun b => b < (w.setCell ⟨g, (n - 1) * 5 + 4, none⟩ (.int .i64 to)).heap.size) (some ⟨g, 0, none⟩) (row' n to) := by
  have hR : InsRow w (fun b => base ≤ b ∧ b < w.heap.size) (some ⟨g, 0, none⟩) (row n) := by have := Rd.of_own h; unfold InsRow; rw [row_length]; exact this
  have hcell : ∀ k x, (row n)[k]? = some x → ∀ j u, x.cells[j]? = some u → w.cell? ⟨g, k * 5 + j, none⟩ = some u := by
    intro k x hx j u hu
    obtain ⟨b, off, e, q, hc⟩ := Rd.at_ hR (by rw [row_length]; omega)
    simp only [Option.some.injEq, Addr.mk.injEq, and_true] at e
    obtain ⟨rfl, rfl⟩ := e
    have hj : j < 5 := by have := (List.getElem?_eq_some_iff.1 hu).1; simpa [Ins.cells] using this
    have := hc (k * 5 + j) u (by rw [flat_at Ins.cells 5 Ins.cells_length (row n) k j x hx hj]; exact hu)
    rwa [Nat.zero_add] at this
  have hlt : g < w.heap.size := cell_lt (hcell (n - 1) _ (at_row n (n - 1) (by omega)) 0 _ rfl)
  refine InsRow.of_at (by simpa [World.setCell] using hlt) (fun k x hx j u hu => ?_)
  rw [Nat.zero_add]
  have hj : j < 5 := by have := (List.getElem?_eq_some_iff.1 hu).1; simpa [Ins.cells] using this
  have hk : k < n := by have := (List.getElem?_eq_some_iff.1 hx).1; rwa [row'_length n to hn] at this
  by_cases hlast : k = n - 1
  · subst hlast
    have hxe : x = jump to := by
      unfold row' at hx
      rw [List.getElem?_append_right (by rw [row_length]; omega), row_length] at hx
      simpa using hx.symm
    subst hxe
    by_cases h4 : j = 4
    · subst h4
      rw [World.cell?_setCell_same _ _ _ (hcell (n - 1) _ (at_row n (n - 1) (by omega)) 4 _ rfl)]
      exact hu
    · rw [World.cell?_setCell_other _ _ _ _ (by simp only [ne_eq, Addr.mk.injEq, true_and, and_true]; omega)]
      refine hcell (n - 1) _ (at_row n (n - 1) (by omega)) j u ?_
      obtain rfl | rfl | rfl | rfl : j = 0 ∨ j = 1 ∨ j = 2 ∨ j = 3 := by omega
      all_goals exact hu
  · rw [World.cell?_setCell_other _ _ _ _ (by simp only [ne_eq, Addr.mk.injEq, true_and, and_true]; omega)]
    refine hcell k x ?_ j u hu
    unfold row' at hx
    rw [List.getElem?_append_left (by rw [row_length]; omega)] at hx
    rw [at_row _ _ (by omega)] at hx ⊢
    exact hx

set_option maxHeartbeats 8000000 in
set_option maxRecDepth 100000 in
theorem walk (m : Nat) (hm : m < 256) (to : Int) (w : World) (hT : FieldsAt w) :
    Calls Tryd.prog 6 #[.int .u8 m, .int .i64 to] w fun e w' => e = .returned (.bool true) ∧ Fr None' w w' := by
  obtain ⟨i5, hi5, hz50, hz51, hz52⟩ := info_parts info_ins
  have HT := Lib.hid hT
  clear hT
  go_enter Tryd.func6, Tryd.ntmps6
  go_wp2_with fail
  obtain ⟨n, hn, hn1, hn2⟩ : ∃ n : Nat, (m : Int) % 64 + 1 = n ∧ 1 ≤ n ∧ n ≤ 64 := ⟨m % 64 + 1, by omega, by omega, by omega⟩
  rw [hn]
  clear hn
  go_loopw [6, 7] (fun v i wx => ∃ k : Nat, k ≤ n ∧ i = .int .i64 k ∧ wx.ownsRow w.heap.size 38 5 v k ((row k).flatMap Ins.cells) ∧ Fr None' w wx) (fun v i _ => n - (intOf i).toNat)
  case atStart => exact ⟨0, by omega, rfl, ⟨by simp [row], .inl ⟨rfl, rfl⟩⟩, Fr.refl _ _⟩
  case round =>
    obtain ⟨k, hk, rfl, hown, hF⟩ := hrel
    have HOW := Lib.hid hown
    have HF := Lib.hid hF
    have hbw := hF.size
    clear hown hF
    by_cases hkl : k < n
    · have hnb : (wr.alloc (.cells #[.int .i64 9, .int .i64 0, .int .i64 0, .int .i64 0, .int .i64 k] 38)).heap[wr.heap.size]? = some (.cells (jump k).cells.toArray 38) := heap_alloc_new _ _
      have HNB := Lib.hid hnb
      clear hnb
      go_wp2_with (at_builtin; refine wpList_append_lies _ rfl (.tmp 20) (.tmp 23) 39 rfl w.heap.size 38 i5 (.agg #[.int .i64 0, .int .i64 0, .int .i64 0, .int .i64 0, .int .i64 0]) 5 40 Tryd.underlying39 hi5 hz50 hz51 hz52 rfl (by decide) _ k _ rfl (own_fr HOW.out ((Fr.refl None' _).alloc _) (fun _ _ h => h)) ⟨wr.heap.size, 0, none⟩ 1 1 (jump k).cells rfl rfl ?c1 ?c2 (by decide) ?c3 ?c4 ?c5 (wr.heap.size + 1) ?c6 ?_)
      case c1 => intro i u hi; exact World.news_of_block HNB.out i u hi
      case c2 => intro u hu; simp [Ins.cells, jump] at hu; rcases hu with rfl | rfl | rfl <;> rfl
      case c3 => unfold maxLen; omega
      case c4 => omega
      case c5 => simp; omega
      case c6 => simp
      intro g cap w1 hown1 hg1 hor hlt1
      have HG1 := Lib.hid hg1
      have HW1 := Lib.hid hown1
      clear hor hg1 hown1
      go_wp2_with fail
      refine ⟨⟨k + 1, by omega, by go_num, ?_, (HF.out.alloc _).grow HG1.out (own_low HOW.out)⟩, by simp [intOf]; omega⟩
      rw [row_snoc, List.flatMap_append]
      simpa using HW1.out
    · obtain rfl : k = n := by omega
      obtain ⟨g, cap, rfl, hgb, hgl⟩ := HOW.out.form (by omega)
      have hrow := set_row HOW.out hn1 to
      have HRW := Lib.hid hrow
      have hcl : wr.cell? ⟨g, (k - 1) * 5 + 4, none⟩ = some (.int .i64 ((k - 1 : Nat) : Int)) := by
        have := HOW.out.cells (g := g) rfl ((k - 1) * 5 + 4) (.int .i64 ((k - 1 : Nat) : Int)) (by rw [flat_at Ins.cells 5 Ins.cells_length (row k) (k - 1) 4 _ (at_row k (k - 1) (by omega)) (by omega)]; rfl)
        simpa [Addr.add] using this
      have hfz : wr.frozen? ⟨g, (k - 1) * 5 + 4, none⟩ = false := by
        rcases HOW.out.2 with ⟨h, _⟩ | ⟨g', cap', cur, he, _, hh, _⟩
        · cases h
        · simp only [Value.slice.injEq, Option.some.injEq, Addr.mk.injEq, and_true, true_and] at he
          obtain ⟨rfl, _⟩ := he
          exact Blk.frozen (t := 38) hh _
      have hsub : (k : Int) - 1 = ((k - 1 : Nat) : Int) := by omega
      have hm1 : k - 1 < k := by omega
      have HFS : Hid (Fr None' w (wr.setCell ⟨g, (k - 1) * 5 + 4, none⟩ (.int .i64 to))) := Lib.hid (HF.out.setCell (.inr hgb) _)
      have hfr := fn_row 0 (row' k to) (some ⟨g, 0, none⟩) cap HRW.out
      rw [row'_length k to hn1] at hfr
      have HFR := Lib.hid hfr
      have hsz : (wr.setCell ⟨g, (k - 1) * 5 + 4, none⟩ (.int .i64 to)).heap.size = wr.heap.size := by simp [World.setCell]
      have HSZ := Lib.hid hsz
      clear hrow hfr hsz
      have HCK : Hid (Calls Tryd.prog 10 #[.slice (some ⟨wr.heap.size, 0, none⟩) 1 1] ((wr.setCell ⟨g, (k - 1) * 5 + 4, none⟩ (.int .i64 to)).alloc (.cells #[.int .i64 0, .slice (some ⟨g, 0, none⟩) k cap] 41)) (CkPost w (chk [⟨0, row' k to⟩]))) := Lib.hid (by
        have hr := HFR.out
        rw [HSZ.out] at hr
        have hF2 : Fr None' w ((wr.setCell ⟨g, (k - 1) * 5 + 4, none⟩ (.int .i64 to)).alloc (.cells #[.int .i64 0, .slice (some ⟨g, 0, none⟩) k cap] 41)) := HFS.out.alloc _
        refine (check_any _ _ 1 [⟨⟨0, row' k to⟩, some ⟨g, 0, none⟩, cap⟩] hr (HT.out.fr hF2 (fun h => h)) (by simp)).mono ?_
        rintro e w' ⟨h1, h2⟩
        exact ⟨h1, hF2.trans h2⟩)
      clear HFR HSZ HFS HRW HOW
      go_wp2_with fail
      refine HCK.out.mono ?_
      clear hcl hfz
      by_cases hto : 0 ≤ to ∧ to < k
      · rw [chk_in k to hn1 hn2 hto]
        rintro e w2 ⟨rfl, hF2⟩
        have g1 : 0 ≤ to := hto.1
        have g2 : to < k := hto.2
        clear hto HCK
        go_wp2_with fail
        refine (awake_any _ (HT.out.fr hF2 (fun h => h))).mono ?_
        rintro e w3 ⟨rfl, hF3⟩
        go_wp2_with fail
        go_ret
        exact ⟨rfl, hF2.trans hF3⟩
      · rw [chk_out k to hn1 hn2 hto]
        rintro e w2 ⟨rfl, hF2⟩
        clear HCK
        by_cases g1 : to < 0
        · clear hto
          go_wp2_with fail
          refine (awake_any _ (HT.out.fr hF2 (fun h => h))).mono ?_
          rintro e w3 ⟨rfl, hF3⟩
          go_wp2_with fail
          go_ret
          exact ⟨rfl, hF2.trans hF3⟩
        · have g2 : (k : Int) ≤ to := by omega
          have g3 : 0 ≤ to := by omega
          clear hto
          go_wp2_with fail
          refine (awake_any _ (HT.out.fr hF2 (fun h => h))).mono ?_
          rintro e w3 ⟨rfl, hF3⟩
          go_wp2_with fail
          go_ret
          exact ⟨rfl, hF2.trans hF3⟩

theorem walked (x : Int) (hx : (Lit.int .u8 x).wf = true) (y : Int) (_ : (Lit.int .i64 y).wf = true) (w : World) (hT : FieldsAt w) :
    Calls Tryd.prog 6 #[.int .u8 x, .int .i64 y] w fun e w' => e = .returned (.bool true) ∧ Below w.heap.size w w' := by
  have b1 := bounds_u8 hx
  obtain ⟨a, rfl⟩ := Int.eq_ofNat_of_zero_le b1.1
  exact (walk a (by omega) y w hT).mono fun e w' ⟨he, hF⟩ => ⟨he, hF.below (Nat.le_refl _) (fun _ h => h.elim)⟩

set_option maxRecDepth 100000 in
theorem lifted (os : Os) (started : os.Started) (H : Type) (enc : TypeId × Value → H) :
    ReturnsInHanded {} Tryd.checked os 6 .any (fun w args => (Rows.validJumpsSpec.pre enc Tryd.prog Tryd.f6 [] false w args ∧ laidMetH Tryd.prog laidN w) ∧ sizedMet enc Tryd.prog Tryd.f6 (OpenSpec.ofChange Rows.validJumpsSpec) false w args)
      (Rows.validJumpsSpec.post enc Tryd.prog Tryd.f6 false true false false) := by
  refine returnsInHanded_of_change_and (C := Tryd.checked) (X := fun w _ => laidMetH Tryd.prog laidN w) (fun _ _ _ hh h => h.of_heap hh) own started (by kernel_rfl) Tryd.func6
    (ChangeSpec.witness_shaped (enc := enc) (C := Tryd.checked) (os := os) (X := fun w _ => laidMetH Tryd.prog laidN w) false (World.doorLaid Tryd.prog 400 os) #[.int .u8 0, .int .i64 0] 8 rfl (World.shaped_of_RefB (by kernel_rfl) (by kernel_rfl)) (by kernel_rfl) (by kernel_rfl) (by kernel_rfl) (door_met os _)) ?_
  intro W base args ds gs before hval0 hW _ _ hL _
  have hval : ∀ (j : Nat) t v, Tryd.f6.params[j]? = some t → args[j]? = some v → Value.okWide Tryd.prog W .any base t v := hval0
  have hW' := hW
  obtain ⟨p, q, hA0, hV, rfl, hfz, hnd⟩ := hW
  have hA : DataW.TrodAll enc Tryd.prog W 0 (fun _ => true) true Tryd.f6.params.toList args.toList ds p := hA0
  rw [Tryd.params6] at hA hval
  obtain ⟨v0, vs0, d0, ds0, p0, q0, hargs, rfl, rfl, h0, r0⟩ := trodAll_cons hA
  obtain ⟨v1, vs1, d1, ds1, p1, q1, rfl, rfl, rfl, h1, r1⟩ := trodAll_cons r0
  obtain ⟨rfl, rfl, rfl⟩ := trodAll_nil r1
  obtain rfl : args = #[v0, v1] := by cases args; simp_all
  obtain ⟨rfl, rfl⟩ := trodVars_none hV
  obtain ⟨a0, rfl, rfl, rfl, w0⟩ := open_int Tryd.underlying5 (hval 0 5 v0 rfl rfl) h0
  obtain ⟨a1, rfl, rfl, rfl, w1⟩ := open_int Tryd.underlying3 (hval 1 3 v1 rfl rfl) h1
  clear hA0 hval0
  refine (walked a0 w0 a1 w1 W (of_laid hL)).mono fun e W' ⟨he, bel⟩ => ?_
  subst he
  exact ⟨_, rfl, _, _, _, [], _, [], hW', trodAll_mk1 (shut_bool Tryd.underlying4 _), (trodAll_cons_mk (shut_int Tryd.underlying5 w0) (trodAll_cons_mk (shut_int Tryd.underlying3 w1) trodAll_mk0)), rfl, bel.frame _, fun h => by cases h⟩

theorem over : Rows.ValidJumpsSaid :=
  OpenClaim.holds_of_wide 6 Tryd.f6 rfl rfl rfl rfl rfl rfl rfl ⟨rfl, rfl, rfl, rfl, rfl⟩ rfl rfl rfl rfl rfl (by kernel_rfl) Tryd.func6 (by kernel_rfl)
    (of_decide_eq_true (by kernel_rfl)) (by unfold Func.isWrapper; first | (rw [if_pos (by decide +kernel)]; kernel_rfl) | (rw [if_neg (by decide +kernel)]; exact ⟨rfl, rfl⟩))
    (fun os started H enc _ => lifted os started H enc)

/-- The statement: the row, and what it lists tied to the program's text. -/
theorem proved : Rows.ValidJumpsCardSaid :=
  Claim7.holds_tied_plain_at .later [] [.data] true (true, "b590b14693a41eba65153902b74f9ac5e469322994b986d8ee8add5cc5d2eee4") true
    over (fun _ h => by cases h) (by kernel_rfl) (fun _ h => by cases h) validJumps_row_tie rfl ⟨rfl, rfl⟩ (by kernel_rfl) rfl
    (fun f fn hf hfn => by
      obtain rfl : f = 6 := Option.some.inj ((show Tryd.prog.funcNamed "haymow/haymowlaw03.ValidJumps" = some 6 by kernel_rfl).symm.trans hf) |>.symm
      obtain rfl : fn = Tryd.f6 := (Option.some.inj (Tryd.func6.symm.trans hfn)).symm
      exact ⟨by kernel_rfl, fun j t ht => by
        rw [Tryd.params6] at ht
        match j, ht with
        | 0, ht =>
          obtain rfl : t = 5 := by simpa using ht.symm
          exact (show Tryd.prog.wantsStandIn 5 = false by kernel_rfl)
        | 1, ht =>
          obtain rfl : t = 3 := by simpa using ht.symm
          exact (show Tryd.prog.wantsStandIn 3 = false by kernel_rfl)
        | j + 2, ht => simp at ht⟩)
    (by kernel_rfl)
#print axioms proved
end Go.Proofs.YtjfeoigclkelfaaDoor.validJumps
