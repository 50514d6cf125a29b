/-
  haymowlaw03.ValidEnds returns true for every two numbers, with the table of fields as it was laid.
-/
import Derived.Test.YtjfeoigclkelfaaDoorAwkV
import Derived.Test.YtjfeoigclkelfaaDoorOwnR
import Derived.Test.YtjfeoigclkelfaaDoorLaidV
import Derived.Test.YtjfeoigclkelfaaDoorTie
import Derived.Test.YtjfeoigclkelfaaDoorCards
import Derived.ShutString
import Derived.ChangeOld
import Derived.SevenTiedAt
namespace Go.Proofs.YtjfeoigclkelfaaDoor.validEnds
open Go.ChangeShapes Go.WideShapes Go.ChangeAt Go.RowKit
open Go.ChangeMaps (open_string shut_string)

def sync : Ins := ⟨12, 0, 0, 0, 0⟩
def row (n : Nat) : List Ins := List.replicate n sync
def last (k : Nat) : Ins := ⟨k, 0, 0, 0, if k = 16 then 16 else 0⟩
theorem row_length (n : Nat) : (row n).length = n := by simp [row]
theorem row_snoc (n : Nat) : row (n + 1) = row n ++ [sync] := by simp [row, List.replicate_succ']

theorem field_nought (nf pl kind : Nat) (h1 : 1 ≤ nf) (h2 : 1 ≤ pl) (hk : kind ≠ 5) : fieldE nf pl kind 0 = 0 := by
  unfold fieldE
  repeat' split
  all_goals first | rfl | contradiction | exact rngE_in (by omega) (by omega)
theorem kd_five : ∀ op, op < 18 → op ≠ 16 → ∀ j, j < 4 → kdAt op j ≠ 5 := by decide
theorem kd_sixteen : ∀ j, j < 4 → kdAt 16 j = if j = 3 then 5 else 0 := by decide

theorem ins_last (f : Fn) (pl k : Nat) (h1 : 1 ≤ k) (h2 : k ≤ 17) (hp : 1 ≤ pl) (ha : f.arity = 0) : insE [f] pl (last k) = 0 := by
  have hop : (last k).op = (k : Int) := rfl
  have hnum : ∀ j, j < 4 → (last k).num j = if k = 16 ∧ j = 3 then 16 else 0 := fun j hj => by
    obtain rfl | rfl | rfl | rfl : j = 0 ∨ j = 1 ∨ j = 2 ∨ j = 3 := by omega
    all_goals simp [Ins.num, last]
  have hu : ∀ j, j < 4 → unusedE (last k) j = 0 := fun j hj => by
    refine unused_yes hop ?_
    by_cases h : k = 16 ∧ j = 3
    · obtain ⟨rfl, rfl⟩ := h
      exact .inl (by decide)
    · exact .inr (by rw [hnum j hj, if_neg h])
  have hf : ∀ j, j < 4 → fieldsE [f].length pl (last k) j = 0 := fun j hj => by
    rw [field_at hop, hnum j hj]
    by_cases h : k = 16
    · subst h
      by_cases h3 : j = 3
      · subst h3
        rfl
      · rw [if_neg (by omega), kd_sixteen j hj, if_neg h3]
        exact field_nought _ _ _ (by simp) hp (by decide)
    · rw [if_neg (by omega)]
      exact field_nought _ _ _ (by simp) hp (kd_five k (by omega) h j hj)
  rw [insE_call (by rw [hop]; omega) hu hf]
  unfold callE
  rw [if_neg]
  rintro ⟨_, h⟩
  have : arityAt [f] (last k).c = 0 := by show arityAt [f] 0 = 0; simpa [arityAt] using ha
  rw [this] at h
  have hb : (last k).b = 0 := rfl
  rw [hb] at h
  omega

theorem ins_sync (fs : List Fn) (pl : Nat) : insE fs pl sync = 0 := rfl

theorem chk_one (f : Fn) : chk [f] = if (fnE [f] f).2 = 0 then (0, 0, 0) else (0, (fnE [f] f).1, (fnE [f] f).2) := by
  rw [chk_fns (by simp)]
  unfold fnsE
  split
  · rfl
  · rfl

def ans (n k : Nat) : Nat × Nat × Int := if k = 9 ∨ k = 16 ∨ k = 17 then (0, 0, 0) else (0, n, 11)
theorem ans_yes {n k : Nat} (h : k = 9 ∨ k = 16 ∨ k = 17) : ans n k = (0, 0, 0) := if_pos h
theorem ans_no {n k : Nat} (h : ¬ (k = 9 ∨ k = 16 ∨ k = 17)) : ans n k = (0, n, 11) := if_neg h
theorem chk_ends (n k : Nat) (h1 : 1 ≤ k) (h2 : k ≤ 17) (hn : n < 60) : chk [⟨0, row n ++ [last k]⟩] = ans n k := by
  unfold ans
  have hl : (row n ++ [last k]).length = n + 1 := by simp [row_length]
  have hlo : lastOp (row n ++ [last k]) = k := by unfold lastOp; rw [List.getLast?_concat]; rfl
  have : fnE [⟨0, row n ++ [last k]⟩] ⟨0, row n ++ [last k]⟩ = if k = 9 ∨ k = 16 ∨ k = 17 then (0, 0) else (n, 11) := by
    rw [fnE_last (f := ⟨0, row n ++ [last k]⟩) (show (0 : Int) ≤ 0 ∧ (0 : Int) ≤ 4 by decide) (by show 1 ≤ (row n ++ [last k]).length ∧ (row n ++ [last k]).length ≤ 64; omega) ?_]
    · show (if lastOk (row n ++ [last k]) then (0, 0) else ((row n ++ [last k]).length - 1, 11)) = _
      rw [hl]
      by_cases h : k = 9 ∨ k = 16 ∨ k = 17
      · rw [if_pos h, if_pos (by unfold lastOk; rw [hlo]; omega)]
      · rw [if_neg h, if_neg (by unfold lastOk; rw [hlo]; omega)]; simp
    · intro y hy
      rcases List.mem_append.1 hy with hy | hy
      · rw [(List.mem_replicate.1 hy).2]; exact ins_sync _ _
      · rw [List.mem_singleton.1 hy]; exact ins_last _ _ k h1 h2 (by show 1 ≤ (row n ++ [last k]).length; omega) rfl
  rw [chk_one, this]
  by_cases h : k = 9 ∨ k = 16 ∨ k = 17
  · rw [if_pos h, if_pos h]; rfl
  · rw [if_neg h, if_neg h]; rfl

set_option maxHeartbeats 8000000 in
set_option maxRecDepth 100000 in
theorem walk (m1 m2 : Nat) (hm1 : m1 < 256) (hm2 : m2 < 256) (w : World) (hT : FieldsAt w) :
    Calls Tryd.prog 8 #[.int .u8 m1, .int .u8 m2] w fun e w' => e = .returned (.bool true) ∧ Fr None' w w' := by
  obtain ⟨i5, hi5, hz50, hz51, hz52⟩ := info_parts info_ins
  have HT := Lib.hid hT
  clear hT
  go_enter Tryd.func8, Tryd.ntmps8
  go_wp2_with fail
  obtain ⟨k, hk, hk1, hk2⟩ : ∃ k : Nat, (m1 : Int) % 17 + 1 = k ∧ 1 ≤ k ∧ k ≤ 17 := ⟨m1 % 17 + 1, by omega, by omega, by omega⟩
  obtain ⟨n, hn, hn60⟩ : ∃ n : Nat, (m2 : Int) % 60 = n ∧ n < 60 := ⟨m2 % 60, by omega, by omega⟩
  rw [hk, hn]
  clear hk hn
  go_loopw [7, 8] (fun v i wx => ∃ j : Nat, j ≤ n ∧ i = .int .i64 j ∧ wx.ownsRow w.heap.size 38 5 v j ((row j).flatMap Ins.cells) ∧ Fr None' w wx) (fun v i _ => n - (intOf i).toNat)
  case atStart => exact ⟨0, by omega, rfl, ⟨by simp [row], .inl ⟨rfl, rfl⟩⟩, Fr.refl _ _⟩
  case round =>
    obtain ⟨j, hj, rfl, hown, hF⟩ := hrel
    have HOW := Lib.hid hown
    have HF := Lib.hid hF
    have hbw := hF.size
    clear hown hF
    by_cases hjl : j < n
    · have hnb : (wr.alloc (.cells #[.int .i64 12, .int .i64 0, .int .i64 0, .int .i64 0, .int .i64 0] 38)).heap[wr.heap.size]? = some (.cells sync.cells.toArray 38) := heap_alloc_new _ _
      have HNB := Lib.hid hnb
      clear hnb
      go_wp2_with (at_builtin; refine wpList_append_lies _ rfl (.tmp 25) (.tmp 27) 39 rfl w.heap.size 38 i5 (.agg #[.int .i64 0, .int .i64 0, .int .i64 0, .int .i64 0, .int .i64 0]) 5 40 Tryd.underlying39 hi5 hz50 hz51 hz52 rfl (by decide) _ j _ rfl (own_fr HOW.out ((Fr.refl None' _).alloc _) (fun _ _ h => h)) ⟨wr.heap.size, 0, none⟩ 1 1 sync.cells rfl rfl ?c1 ?c2 (by decide) ?c3 ?c4 ?c5 (wr.heap.size + 1) ?c6 ?_)
      case c1 => intro i u hi; exact World.news_of_block HNB.out i u hi
      case c2 => intro u hu; simp [Ins.cells, sync] at hu; rcases hu with rfl | rfl <;> rfl
      case c3 => unfold maxLen; omega
      case c4 => omega
      case c5 => simp; omega
      case c6 => simp
      intro g cap w1 hown1 hg1 hor hlt1
      have HG1 := Lib.hid hg1
      have HW1 := Lib.hid hown1
      clear hor hg1 hown1
      go_wp2_with fail
      refine ⟨⟨j + 1, by omega, by go_num, ?_, (HF.out.alloc _).grow HG1.out (own_low HOW.out)⟩, by simp [intOf]; omega⟩
      rw [row_snoc, List.flatMap_append]
      simpa using HW1.out
    · obtain rfl : j = n := by omega
      have hj60 : j < 60 := hn60
      by_cases h16 : k = 16
      · subst h16
        rw [show ((16 : Nat) : Int) = 16 from rfl]
        have hnb : ((wr.alloc (.cells #[.int .i64 16, .int .i64 0, .int .i64 0, .int .i64 0, .int .i64 16] 38)).alloc (.cells #[.int .i64 16, .int .i64 0, .int .i64 0, .int .i64 0, .int .i64 16] 38)).heap[wr.heap.size + 1]? = some (.cells #[.int .i64 16, .int .i64 0, .int .i64 0, .int .i64 0, .int .i64 16] 38) := by
          have := heap_alloc_new (wr.alloc (.cells #[.int .i64 16, .int .i64 0, .int .i64 0, .int .i64 0, .int .i64 16] 38)) (.cells #[.int .i64 16, .int .i64 0, .int .i64 0, .int .i64 0, .int .i64 16] 38)
          simpa using this
        have HNB := Lib.hid hnb
        clear hnb
        go_wp2_with (at_builtin; refine wpList_append_lies _ rfl (.tmp 35) (.tmp 37) 39 rfl w.heap.size 38 i5 (.agg #[.int .i64 0, .int .i64 0, .int .i64 0, .int .i64 0, .int .i64 0]) 5 40 Tryd.underlying39 hi5 hz50 hz51 hz52 rfl (by decide) _ j _ rfl (own_fr HOW.out (((Fr.refl None' _).alloc _).alloc _) (fun _ _ h => h)) ⟨wr.heap.size + 1, 0, none⟩ 1 1 ((last 16).cells) rfl rfl ?d1 ?d2 (by decide) ?d3 ?d4 ?d5 (wr.heap.size + 1 + 1) ?d6 ?_)
        case d1 => intro i u hi; exact World.news_of_block HNB.out i u (by exact hi)
        case d2 => intro u hu; simp [Ins.cells, last] at hu; rcases hu with rfl | rfl | rfl <;> rfl
        case d3 => unfold maxLen; omega
        case d4 => omega
        case d5 => simp; omega
        case d6 => simp
        intro g cap w1 hown1 hg1 hor hlt1
        have hF1 : Fr None' w w1 := ((HF.out.alloc _).alloc _).grow hg1 (own_low HOW.out)
        have hrow : InsRow w1 (fun b => b < w1.heap.size) (some ⟨g, 0, none⟩) (row j ++ [last 16]) := by
          have := (Rd.of_own hown1).mono (Q' := fun b => b < w1.heap.size) (fun _ h => h.2)
          unfold InsRow
          rw [List.length_append, row_length, List.flatMap_append]
          simpa using this
        have hfr := fn_row 0 (row j ++ [last 16]) (some ⟨g, 0, none⟩) cap hrow
        rw [show (row j ++ [last 16]).length = j + 1 by simp [row_length]] at hfr
        have hck := check_any _ _ 1 _ hfr (HT.out.fr (hF1.alloc _) (fun h => h)) (by simp)
        rw [show fns [(⟨⟨0, row j ++ [last 16]⟩, some ⟨g, 0, none⟩, cap⟩ : LFn)] = [⟨0, row j ++ [last 16]⟩] from rfl, chk_ends j 16 (by omega) (by omega) hj60] at hck
        have HCK := Lib.hid hck
        have HF1 := Lib.hid hF1
        clear hor hg1 hown1 hrow hfr hck hF1
        go_wp2_with fail
        rw [ans_yes (show 16 = 9 ∨ 16 = 16 ∨ 16 = 17 by decide)] at HCK
        refine HCK.out.mono ?_
        rintro e w2 ⟨rfl, hF2⟩
        have hF3 := (HF1.out.alloc _).trans hF2
        clear HCK
        go_wp2_with fail
        refine (awake_any _ (HT.out.fr hF3 (fun h => h))).mono ?_
        rintro e w4 ⟨rfl, hF4⟩
        go_wp2_with fail
        go_ret
        exact ⟨rfl, hF3.trans hF4⟩
      · have hcells : (last k).cells = [.int .i64 k, .int .i64 0, .int .i64 0, .int .i64 0, .int .i64 0] := by simp [Ins.cells, last, h16]
        have g16 : ((k : Int) == 16) = false := by simp; omega
        have hnb : ((wr.alloc (.cells #[.int .i64 k, .int .i64 0, .int .i64 0, .int .i64 0, .int .i64 0] 38)).alloc (.cells #[.int .i64 k, .int .i64 0, .int .i64 0, .int .i64 0, .int .i64 0] 38)).heap[wr.heap.size + 1]? = some (.cells #[.int .i64 k, .int .i64 0, .int .i64 0, .int .i64 0, .int .i64 0] 38) := by
          have := heap_alloc_new (wr.alloc (.cells #[.int .i64 k, .int .i64 0, .int .i64 0, .int .i64 0, .int .i64 0] 38)) (.cells #[.int .i64 k, .int .i64 0, .int .i64 0, .int .i64 0, .int .i64 0] 38)
          simpa using this
        have HNB := Lib.hid hnb
        clear hnb
        go_wp2_with (at_builtin; refine wpList_append_lies _ rfl (.tmp 35) (.tmp 37) 39 rfl w.heap.size 38 i5 (.agg #[.int .i64 0, .int .i64 0, .int .i64 0, .int .i64 0, .int .i64 0]) 5 40 Tryd.underlying39 hi5 hz50 hz51 hz52 rfl (by decide) _ j _ rfl (own_fr HOW.out (((Fr.refl None' _).alloc _).alloc _) (fun _ _ h => h)) ⟨wr.heap.size + 1, 0, none⟩ 1 1 ((last k).cells) rfl rfl ?e1 ?e2 (by decide) ?e3 ?e4 ?e5 (wr.heap.size + 1 + 1) ?e6 ?_)
        case e1 => intro i u hi; exact World.news_of_block HNB.out i u (by rw [hcells] at hi; exact hi)
        case e2 => intro u hu; rw [hcells] at hu; simp at hu; rcases hu with rfl | rfl <;> rfl
        case e3 => unfold maxLen; omega
        case e4 => omega
        case e5 => simp; omega
        case e6 => simp
        intro g cap w1 hown1 hg1 hor hlt1
        have hF1 : Fr None' w w1 := ((HF.out.alloc _).alloc _).grow hg1 (own_low HOW.out)
        have hrow : InsRow w1 (fun b => b < w1.heap.size) (some ⟨g, 0, none⟩) (row j ++ [last k]) := by
          have := (Rd.of_own hown1).mono (Q' := fun b => b < w1.heap.size) (fun _ h => h.2)
          unfold InsRow
          rw [List.length_append, row_length, List.flatMap_append]
          simpa [hcells] using this
        have hfr := fn_row 0 (row j ++ [last k]) (some ⟨g, 0, none⟩) cap hrow
        rw [show (row j ++ [last k]).length = j + 1 by simp [row_length]] at hfr
        have hck := check_any _ _ 1 _ hfr (HT.out.fr (hF1.alloc _) (fun h => h)) (by simp)
        rw [show fns [(⟨⟨0, row j ++ [last k]⟩, some ⟨g, 0, none⟩, cap⟩ : LFn)] = [⟨0, row j ++ [last k]⟩] from rfl, chk_ends j k (by omega) (by omega) hj60] at hck
        have HCK := Lib.hid hck
        have HF1 := Lib.hid hF1
        clear hor hg1 hown1 hrow hfr hck hF1
        go_wp2_with fail
        by_cases h9 : k = 9
        · subst h9
          rw [show ((9 : Nat) : Int) = 9 from rfl]
          rw [ans_yes (show 9 = 9 ∨ 9 = 16 ∨ 9 = 17 by decide)] at HCK
          refine HCK.out.mono ?_
          rintro e w2 ⟨rfl, hF2⟩
          have hF3 := (HF1.out.alloc _).trans hF2
          clear HCK
          go_wp2_with fail
          refine (awake_any _ (HT.out.fr hF3 (fun h => h))).mono ?_
          rintro e w4 ⟨rfl, hF4⟩
          go_wp2_with fail
          go_ret
          exact ⟨rfl, hF3.trans hF4⟩
        by_cases h17 : k = 17
        · subst h17
          rw [show ((17 : Nat) : Int) = 17 from rfl]
          rw [ans_yes (show 17 = 9 ∨ 17 = 16 ∨ 17 = 17 by decide)] at HCK
          refine HCK.out.mono ?_
          rintro e w2 ⟨rfl, hF2⟩
          have hF3 := (HF1.out.alloc _).trans hF2
          clear HCK
          go_wp2_with fail
          refine (awake_any _ (HT.out.fr hF3 (fun h => h))).mono ?_
          rintro e w4 ⟨rfl, hF4⟩
          go_wp2_with fail
          go_ret
          exact ⟨rfl, hF3.trans hF4⟩
        · have g9 : ((k : Int) == 9) = false := by simp; omega
          have g17 : ((k : Int) == 17) = false := by simp; omega
          rw [ans_no (show ¬ (k = 9 ∨ k = 16 ∨ k = 17) by omega)] at HCK
          refine HCK.out.mono ?_
          rintro e w2 ⟨rfl, hF2⟩
          have hF3 := (HF1.out.alloc _).trans hF2
          clear HCK
          go_wp2_with fail
          refine (awake_any _ (HT.out.fr hF3 (fun h => h))).mono ?_
          rintro e w4 ⟨rfl, hF4⟩
          go_wp2_with fail
          go_ret
          exact ⟨rfl, hF3.trans hF4⟩

theorem walked (x : Int) (hx : (Lit.int .u8 x).wf = true) (y : Int) (hy : (Lit.int .u8 y).wf = true) (w : World) (hT : FieldsAt w) :
    Calls Tryd.prog 8 #[.int .u8 x, .int .u8 y] w fun e w' => e = .returned (.bool true) ∧ Below w.heap.size w w' := by
  have b1 := bounds_u8 hx
  have b2 := bounds_u8 hy
  obtain ⟨a, rfl⟩ := Int.eq_ofNat_of_zero_le b1.1
  obtain ⟨b, rfl⟩ := Int.eq_ofNat_of_zero_le b2.1
  exact (walk a b (by omega) (by omega) w hT).mono fun e w' ⟨he, hF⟩ => ⟨he, hF.below (Nat.le_refl _) (fun _ h => h.elim)⟩

set_option maxRecDepth 100000 in
theorem lifted (os : Os) (started : os.Started) (H : Type) (enc : TypeId × Value → H) :
    ReturnsInHanded {} Tryd.checked os 8 .any (fun w args => (Rows.validEndsSpec.pre enc Tryd.prog Tryd.f8 [] false w args ∧ laidMetH Tryd.prog laidN w) ∧ sizedMet enc Tryd.prog Tryd.f8 (OpenSpec.ofChange Rows.validEndsSpec) false w args)
      (Rows.validEndsSpec.post enc Tryd.prog Tryd.f8 false true false false) := by
  refine returnsInHanded_of_change_and (C := Tryd.checked) (X := fun w _ => laidMetH Tryd.prog laidN w) (fun _ _ _ hh h => h.of_heap hh) own started (by kernel_rfl) Tryd.func8
    (ChangeSpec.witness_shaped (enc := enc) (C := Tryd.checked) (os := os) (X := fun w _ => laidMetH Tryd.prog laidN w) false (World.doorLaid Tryd.prog 400 os) #[.int .u8 0, .int .u8 0] 8 rfl (World.shaped_of_RefB (by kernel_rfl) (by kernel_rfl)) (by kernel_rfl) (by kernel_rfl) (by kernel_rfl) (door_met os _)) ?_
  intro W base args ds gs before hval0 hW _ _ hL _
  have hval : ∀ (j : Nat) t v, Tryd.f8.params[j]? = some t → args[j]? = some v → Value.okWide Tryd.prog W .any base t v := hval0
  have hW' := hW
  obtain ⟨p, q, hA0, hV, rfl, hfz, hnd⟩ := hW
  have hA : DataW.TrodAll enc Tryd.prog W 0 (fun _ => true) true Tryd.f8.params.toList args.toList ds p := hA0
  rw [Tryd.params8] at hA hval
  obtain ⟨v0, vs0, d0, ds0, p0, q0, hargs, rfl, rfl, h0, r0⟩ := trodAll_cons hA
  obtain ⟨v1, vs1, d1, ds1, p1, q1, rfl, rfl, rfl, h1, r1⟩ := trodAll_cons r0
  obtain ⟨rfl, rfl, rfl⟩ := trodAll_nil r1
  obtain rfl : args = #[v0, v1] := by cases args; simp_all
  obtain ⟨rfl, rfl⟩ := trodVars_none hV
  obtain ⟨a0, rfl, rfl, rfl, w0⟩ := open_int Tryd.underlying5 (hval 0 5 v0 rfl rfl) h0
  obtain ⟨a1, rfl, rfl, rfl, w1⟩ := open_int Tryd.underlying5 (hval 1 5 v1 rfl rfl) h1
  clear hA0 hval0
  refine (walked a0 w0 a1 w1 W (of_laid hL)).mono fun e W' ⟨he, bel⟩ => ?_
  subst he
  exact ⟨_, rfl, _, _, _, [], _, [], hW', trodAll_mk1 (shut_bool Tryd.underlying4 _), (trodAll_cons_mk (shut_int Tryd.underlying5 w0) (trodAll_cons_mk (shut_int Tryd.underlying5 w1) trodAll_mk0)), rfl, bel.frame _, fun h => by cases h⟩

theorem over : Rows.ValidEndsSaid :=
  OpenClaim.holds_of_wide 8 Tryd.f8 rfl rfl rfl rfl rfl rfl rfl ⟨rfl, rfl, rfl, rfl, rfl⟩ rfl rfl rfl rfl rfl (by kernel_rfl) Tryd.func8 (by kernel_rfl)
    (of_decide_eq_true (by kernel_rfl)) (by unfold Func.isWrapper; first | (rw [if_pos (by decide +kernel)]; kernel_rfl) | (rw [if_neg (by decide +kernel)]; exact ⟨rfl, rfl⟩))
    (fun os started H enc _ => lifted os started H enc)

/-- The statement: the row, and what it lists tied to the program's text. -/
theorem proved : Rows.ValidEndsCardSaid :=
  Claim7.holds_tied_plain_at .later [] [.data] true (true, "b590b14693a41eba65153902b74f9ac5e469322994b986d8ee8add5cc5d2eee4") true
    over (fun _ h => by cases h) (by kernel_rfl) (fun _ h => by cases h) validEnds_row_tie rfl ⟨rfl, rfl⟩ (by kernel_rfl) rfl
    (fun f fn hf hfn => by
      obtain rfl : f = 8 := Option.some.inj ((show Tryd.prog.funcNamed "haymow/haymowlaw03.ValidEnds" = some 8 by kernel_rfl).symm.trans hf) |>.symm
      obtain rfl : fn = Tryd.f8 := (Option.some.inj (Tryd.func8.symm.trans hfn)).symm
      exact ⟨by kernel_rfl, fun j t ht => by
        rw [Tryd.params8] at ht
        match j, ht with
        | 0, ht =>
          obtain rfl : t = 5 := by simpa using ht.symm
          exact (show Tryd.prog.wantsStandIn 5 = false by kernel_rfl)
        | 1, ht =>
          obtain rfl : t = 5 := by simpa using ht.symm
          exact (show Tryd.prog.wantsStandIn 5 = false by kernel_rfl)
        | j + 2, ht => simp at ht⟩)
    (by kernel_rfl)
#print axioms proved
end Go.Proofs.YtjfeoigclkelfaaDoor.validEnds
