/-
  haymowlaw03.ValidCalls returns true for every call, with the table of fields as it was laid.
-/
import Derived.Test.YtjfeoigclkelfaaDoorAwkV
import Derived.Test.YtjfeoigclkelfaaDoorOwnR
import Derived.Test.YtjfeoigclkelfaaDoorLaidV
import Derived.Test.YtjfeoigclkelfaaDoorTie
import Derived.Test.YtjfeoigclkelfaaDoorCards
import Derived.ShutString
import Derived.ChangeOld
import Derived.SevenTiedAt
import Derived.Lib.SmallJoins
namespace Go.Proofs.YtjfeoigclkelfaaDoor.validCalls
open Go.ChangeShapes Go.WideShapes Go.ChangeAt Go.RowKit
open Go.ChangeMaps (open_string shut_string)

def call (op : Nat) (b c : Int) : Ins := ⟨op, 1, b, c, 0⟩
def ret : Ins := ⟨17, 0, 0, 0, 0⟩
def prog (op : Nat) (b c n : Int) : List Fn := [⟨0, [call op b c, ret]⟩, ⟨n, [ret]⟩]

theorem kd_calls : ∀ op, op = 11 ∨ op = 13 → kdAt op 1 = 1 ∧ kdAt op 2 = 3 ∧ kdAt op 3 = 0 ∧ (kdAt op 0 = 1 ∨ kdAt op 0 = 2) := by
  rintro op (rfl | rfl) <;> decide

theorem unused_call {op : Nat} (ho : op = 11 ∨ op = 13) (b c : Int) : ∀ j, j < 4 → unusedE (call op b c) j = 0 := fun j hj => by
  obtain ⟨h1, h2, h3, h0⟩ := kd_calls op ho
  refine unused_yes (op := op) rfl ?_
  obtain rfl | rfl | rfl | rfl : j = 0 ∨ j = 1 ∨ j = 2 ∨ j = 3 := by omega
  · exact .inl (by omega)
  · exact .inl (by omega)
  · exact .inl (by omega)
  · exact .inr rfl
theorem field_call {op : Nat} (ho : op = 11 ∨ op = 13) (b c : Int) (nf pl : Nat) (hb : 0 ≤ b ∧ b < 8) : ∀ j, j < 4 → fieldsE nf pl (call op b c) j = if j = 2 then rngE 0 nf 5 c else 0 := fun j hj => by
  obtain ⟨h1, h2, h3, h0⟩ := kd_calls op ho
  rw [field_at (op := op) rfl]
  obtain rfl | rfl | rfl | rfl : j = 0 ∨ j = 1 ∨ j = 2 ∨ j = 3 := by omega
  · rcases h0 with h0 | h0
    · rw [h0]; rfl
    · rw [h0]; rfl
  · rw [h1]; exact rngE_in hb.1 hb.2
  · rw [h2]; rfl
  · rw [h3]; rfl
theorem ins_call_no {op : Nat} (ho : op = 11 ∨ op = 13) (b c : Int) (fs : List Fn) (pl : Nat) (hb : 0 ≤ b ∧ b < 8) (hc : ¬ (0 ≤ c ∧ c < fs.length)) : insE fs pl (call op b c) = 5 := by
  have hf := field_call ho b c fs.length pl hb
  have h2 : fieldsE fs.length pl (call op b c) 2 = 5 := by rw [hf 2 (by omega), if_pos rfl, rngE_out hc]
  have := insE_field (fs := fs) (pl := pl) (x := call op b c) (by show 1 ≤ (op : Int) ∧ (op : Int) ≤ 17; omega) (unused_call ho b c) (k := 2) (by omega) (fun j hj => by rw [hf j (by omega), if_neg (by omega)]) (by rw [h2]; decide)
  rw [this, h2]
theorem ins_call_yes {op : Nat} (ho : op = 11 ∨ op = 13) (b c : Int) (fs : List Fn) (pl : Nat) (hb : 0 ≤ b ∧ b < 8) (hc : 0 ≤ c ∧ c < fs.length) : insE fs pl (call op b c) = if 8 - b < arityAt fs c then 6 else 0 := by
  have hf := field_call ho b c fs.length pl hb
  rw [insE_call (fs := fs) (pl := pl) (x := call op b c) (by show 1 ≤ (op : Int) ∧ (op : Int) ≤ 17; omega) (unused_call ho b c) (fun j hj => by
    rw [hf j hj]
    split
    · exact rngE_in hc.1 hc.2
    · rfl)]
  show (if ((op : Int) = 11 ∨ (op : Int) = 13) ∧ 8 - b < arityAt fs c then (6 : Int) else 0) = _
  by_cases h : 8 - b < arityAt fs c
  · rw [if_pos ⟨by omega, h⟩, if_pos h]
  · rw [if_neg (fun h' => h h'.2), if_neg h]
theorem ins_ret (fs : List Fn) (pl : Nat) : insE fs pl ret = 0 := rfl

theorem chk_bad (op : Nat) (b c n e : Int) (hn : 0 ≤ n ∧ n ≤ 4) (h : insE (prog op b c n) 2 (call op b c) = e) (he : e ≠ 0) : chk (prog op b c n) = (0, 0, e) := by
  have h0 : fnE (prog op b c n) ⟨0, [call op b c, ret]⟩ = (0, e) := by
    have := fnE_ins (fs := prog op b c n) (f := ⟨0, [call op b c, ret]⟩) (show (0 : Int) ≤ 0 ∧ (0 : Int) ≤ 4 by decide) (show 1 ≤ 2 ∧ 2 ≤ 64 by decide) (k := 0) (x := call op b c) rfl (fun y hy => by simp at hy) (by show insE (prog op b c n) 2 (call op b c) ≠ 0; rw [h]; exact he)
    rw [this]
    show (0, insE (prog op b c n) 2 (call op b c)) = _
    rw [h]
  rw [chk_fns (fs := prog op b c n) (show 1 ≤ 2 ∧ 2 ≤ 16 by decide)]
  have := fnsE_bad (prog op b c n) (prog op b c n) 0 0 ⟨0, [call op b c, ret]⟩ rfl (fun y hy => by simp at hy) (by rw [h0]; exact he)
  rw [this, h0]
theorem chk_good (op : Nat) (b c n : Int) (hn : 0 ≤ n ∧ n ≤ 4) (h : insE (prog op b c n) 2 (call op b c) = 0) : chk (prog op b c n) = (0, 0, 0) := by
  have h0 : fnE (prog op b c n) ⟨0, [call op b c, ret]⟩ = (0, 0) := by
    rw [fnE_last (f := ⟨0, [call op b c, ret]⟩) (show (0 : Int) ≤ 0 ∧ (0 : Int) ≤ 4 by decide) (show 1 ≤ 2 ∧ 2 ≤ 64 by decide) (fun y hy => by
      simp at hy
      rcases hy with rfl | rfl
      · exact h
      · rfl)]
    exact if_pos (.inr (.inr rfl))
  have h1 : fnE (prog op b c n) ⟨n, [ret]⟩ = (0, 0) := by
    rw [fnE_last (f := ⟨n, [ret]⟩) hn (show 1 ≤ 1 ∧ 1 ≤ 64 by decide) (fun y hy => by
      simp at hy
      subst hy
      rfl)]
    exact if_pos (.inr (.inr rfl))
  rw [chk_fns (fs := prog op b c n) (show 1 ≤ 2 ∧ 2 ≤ 16 by decide)]
  exact fnsE_ok _ _ _ (fun y hy => by
    simp [prog] at hy
    rcases hy with rfl | rfl
    · rw [h0]
    · rw [h1])

def ans (b c n : Int) : Nat × Nat × Int := if 0 ≤ c ∧ c < 2 then (if c = 1 ∧ 8 < b + n then (0, 0, 6) else (0, 0, 0)) else (0, 0, 5)
theorem ans_no {b c n : Int} (h : ¬ (0 ≤ c ∧ c < 2)) : ans b c n = (0, 0, 5) := if_neg h
theorem ans_few {b c n : Int} (h : c = 1) (h8 : 8 < b + n) : ans b c n = (0, 0, 6) := by unfold ans; rw [if_pos (by omega), if_pos ⟨h, h8⟩]
theorem ans_ok {b c n : Int} (h : 0 ≤ c ∧ c < 2) (h8 : ¬ (c = 1 ∧ 8 < b + n)) : ans b c n = (0, 0, 0) := by unfold ans; rw [if_pos h, if_neg h8]
theorem chk_calls (op : Nat) (b c n : Int) (ho : op = 11 ∨ op = 13) (hb : 0 ≤ b ∧ b < 8) (hn : 0 ≤ n ∧ n ≤ 4) : chk (prog op b c n) = ans b c n := by
  unfold ans
  by_cases hc : 0 ≤ c ∧ c < 2
  · rw [if_pos hc]
    have hi := ins_call_yes ho b c (prog op b c n) 2 hb hc
    by_cases h1 : c = 1
    · subst h1
      have ha : arityAt (prog op b 1 n) 1 = n := rfl
      rw [ha] at hi
      by_cases h8 : 8 < b + n
      · rw [if_pos ⟨rfl, h8⟩]
        rw [if_pos (by omega)] at hi
        exact chk_bad op b 1 n 6 hn hi (by decide)
      · rw [if_neg (fun h => h8 h.2)]
        rw [if_neg (by omega)] at hi
        exact chk_good op b 1 n hn hi
    · obtain rfl : c = 0 := by omega
      have ha : arityAt (prog op b 0 n) 0 = 0 := rfl
      rw [ha, if_neg (by omega)] at hi
      rw [if_neg (by omega)]
      exact chk_good op b 0 n hn hi
  · rw [if_neg hc]
    exact chk_bad op b c n 5 hn (ins_call_no ho b c _ 2 hb hc) (by decide)

/-- The world behind the literal. -/
abbrev W1 (w : World) (op : Nat) (b c : Int) : World := w.alloc (.cells #[.int .i64 op, .int .i64 1, .int .i64 b, .int .i64 c, .int .i64 0, .int .i64 17, .int .i64 0, .int .i64 0, .int .i64 0, .int .i64 0] 38)
abbrev W2 (w : World) (op : Nat) (b c : Int) : World := (W1 w op b c).alloc (.cells #[.int .i64 17, .int .i64 0, .int .i64 0, .int .i64 0, .int .i64 0] 38)
abbrev W3 (w : World) (op : Nat) (b c n : Int) : World := (W2 w op b c).alloc (.cells #[.int .i64 0, .slice (some ⟨w.heap.size, 0, none⟩) 2 2, .int .i64 n, .slice (some ⟨w.heap.size + 1, 0, none⟩) 1 1] 41)
theorem w3_row (w : World) (op : Nat) (b c n : Int) : FnRow (W3 w op b c n) (fun k => k < (W3 w op b c n).heap.size) (some ⟨w.heap.size + 1 + 1, 0, none⟩) [⟨⟨0, [call op b c, ret]⟩, some ⟨w.heap.size, 0, none⟩, 2⟩, ⟨⟨n, [ret]⟩, some ⟨w.heap.size + 1, 0, none⟩, 1⟩] := by
  refine ⟨Rd.of_blk (t := 41) (cs := [.int .i64 0, .slice (some ⟨w.heap.size, 0, none⟩) 2 2, .int .i64 n, .slice (some ⟨w.heap.size + 1, 0, none⟩) 1 1]) ?_ rfl (by simp), fun x hx => ?_⟩
  · have := Blk.new (W2 w op b c) 41 #[.int .i64 0, .slice (some ⟨w.heap.size, 0, none⟩) 2 2, .int .i64 n, .slice (some ⟨w.heap.size + 1, 0, none⟩) 1 1]
    simpa using this
  · simp at hx
    rcases hx with rfl | rfl
    · exact Rd.of_blk (t := 38) (cs := (call op b c).cells ++ ret.cells) (((Blk.new w _ _).alloc _).alloc _) rfl (by simp; omega)
    · refine Rd.of_blk (t := 38) (cs := ret.cells) ?_ rfl (by simp)
      show Blk (W3 w op b c n) (w.heap.size + 1) 38 #[.int .i64 17, .int .i64 0, .int .i64 0, .int .i64 0, .int .i64 0]
      have := (Blk.new (W1 w op b c) 38 #[.int .i64 17, .int .i64 0, .int .i64 0, .int .i64 0, .int .i64 0]).alloc (.cells #[.int .i64 0, .slice (some ⟨w.heap.size, 0, none⟩) 2 2, .int .i64 n, .slice (some ⟨w.heap.size + 1, 0, none⟩) 1 1] 41)
      simpa using this
theorem check_calls (w : World) (hT : FieldsAt w) (op : Nat) (b c n : Int) (ho : op = 11 ∨ op = 13) (hb : 0 ≤ b ∧ b < 8) (hn : 0 ≤ n ∧ n ≤ 4) :
    Calls Tryd.prog 10 #[.slice (some ⟨w.heap.size + 1 + 1, 0, none⟩) 2 2] (W3 w op b c n) (CkPost w (ans b c n)) := by
  have hF : Fr None' w (W3 w op b c n) := (((Fr.refl None' _).alloc _).alloc _).alloc _
  have k := check_any (W3 w op b c n) (some ⟨w.heap.size + 1 + 1, 0, none⟩) 2 _ (w3_row w op b c n) (hT.fr hF (fun h => h)) (by simp)
  refine k.mono ?_
  rintro e w' ⟨h1, h2⟩
  refine ⟨?_, hF.trans h2⟩
  rw [h1, ← chk_calls op b c n ho hb hn]; rfl

set_option maxHeartbeats 8000000 in
set_option maxRecDepth 100000 in
theorem walk11 (ar fr : Nat) (c : Int) (h1 : ar < 256) (h2 : fr < 256) (w : World) (hT : FieldsAt w) :
    Calls Tryd.prog 7 #[.agg #[.int .u8 ar, .int .u8 fr, .int .i64 c, .bool false]] w fun e w' => e = .returned (.bool true) ∧ Fr None' w w' := by
  have HT := Lib.hid hT
  clear hT
  go_enter Tryd.func7, Tryd.ntmps7
  go_wp2_with fail
  go_quiet (fail)
  go_wp2_with fail
  obtain ⟨n, hn, hn1, hn2⟩ : ∃ n : Int, (ar : Int) % 5 = n ∧ 0 ≤ n ∧ n ≤ 4 := ⟨_, rfl, by omega, by omega⟩
  obtain ⟨b, hb, hb1, hb2⟩ : ∃ b : Int, (fr : Int) % 8 = b ∧ 0 ≤ b ∧ b < 8 := ⟨_, rfl, by omega, by omega⟩
  rw [hn, hb]
  clear hn hb
  obtain ⟨w0, hw0⟩ : ∃ w0, w0 = w.alloc (.cells #[.int .u8 ar, .int .u8 fr, .int .i64 c, .bool false] 45) := ⟨_, rfl⟩
  have hF0 : Fr None' w w0 := by rw [hw0]; exact (Fr.refl _ _).alloc _
  have hs0 : w0.heap.size = w.heap.size + 1 := by rw [hw0]; simp
  rw [← hw0, ← hs0]
  have HF0 := Lib.hid hF0
  clear hw0 hs0 hF0
  refine (check_calls (w0.drewN nq) (HT.out.fr (HF0.out.drewN nq) (fun h => h)) 11 b c n (.inl rfl) ⟨hb1, hb2⟩ ⟨hn1, hn2⟩).mono ?_
  by_cases hc : 0 ≤ c ∧ c < 2
  · obtain ⟨hc1, hc2⟩ := hc
    by_cases h1' : c = 1
    · by_cases h8 : 8 < b + n
      · rw [ans_few h1' h8]
        subst h1'
        clear hc1 hc2
        rintro e w2 ⟨rfl, hF2⟩
        have hF3 := (HF0.out.drewN nq).trans hF2
        clear hF2
        go_wp2_with fail
        refine (awake_any _ (HT.out.fr hF3 (fun h => h))).mono ?_
        rintro e w4 ⟨rfl, hF4⟩
        go_wp2_with fail
        go_ret
        exact ⟨rfl, hF3.trans hF4⟩
      · rw [ans_ok ⟨hc1, hc2⟩ (fun h => h8 h.2)]
        subst h1'
        clear hc1 hc2
        rintro e w2 ⟨rfl, hF2⟩
        have hF3 := (HF0.out.drewN nq).trans hF2
        clear hF2
        go_wp2_with fail
        refine (awake_any _ (HT.out.fr hF3 (fun h => h))).mono ?_
        rintro e w4 ⟨rfl, hF4⟩
        go_wp2_with fail
        go_ret
        exact ⟨rfl, hF3.trans hF4⟩
    · obtain rfl : c = 0 := by omega
      rw [ans_ok ⟨hc1, hc2⟩ (fun h => h1' h.1)]
      clear hc1 hc2 h1'
      rintro e w2 ⟨rfl, hF2⟩
      have hF3 := (HF0.out.drewN nq).trans hF2
      clear hF2
      go_wp2_with fail
      refine (awake_any _ (HT.out.fr hF3 (fun h => h))).mono ?_
      rintro e w4 ⟨rfl, hF4⟩
      go_wp2_with fail
      go_ret
      exact ⟨rfl, hF3.trans hF4⟩
  · rw [ans_no hc]
    by_cases h0 : c < 0
    · clear hc
      rintro e w2 ⟨rfl, hF2⟩
      have hF3 := (HF0.out.drewN nq).trans hF2
      clear hF2
      go_wp2_with fail
      refine (awake_any _ (HT.out.fr hF3 (fun h => h))).mono ?_
      rintro e w4 ⟨rfl, hF4⟩
      go_wp2_with fail
      go_ret
      exact ⟨rfl, hF3.trans hF4⟩
    · have h0' : 0 ≤ c := by omega
      have h3 : 1 < c := by omega
      clear hc
      rintro e w2 ⟨rfl, hF2⟩
      have hF3 := (HF0.out.drewN nq).trans hF2
      clear hF2
      go_wp2_with fail
      refine (awake_any _ (HT.out.fr hF3 (fun h => h))).mono ?_
      rintro e w4 ⟨rfl, hF4⟩
      go_wp2_with fail
      go_ret
      exact ⟨rfl, hF3.trans hF4⟩

set_option maxHeartbeats 8000000 in
set_option maxRecDepth 100000 in
theorem walk13 (ar fr : Nat) (c : Int) (h1 : ar < 256) (h2 : fr < 256) (w : World) (hT : FieldsAt w) :
    Calls Tryd.prog 7 #[.agg #[.int .u8 ar, .int .u8 fr, .int .i64 c, .bool true]] w fun e w' => e = .returned (.bool true) ∧ Fr None' w w' := by
  have HT := Lib.hid hT
  clear hT
  go_enter Tryd.func7, Tryd.ntmps7
  go_wp2_with fail
  go_quiet (fail)
  go_wp2_with fail
  obtain ⟨n, hn, hn1, hn2⟩ : ∃ n : Int, (ar : Int) % 5 = n ∧ 0 ≤ n ∧ n ≤ 4 := ⟨_, rfl, by omega, by omega⟩
  obtain ⟨b, hb, hb1, hb2⟩ : ∃ b : Int, (fr : Int) % 8 = b ∧ 0 ≤ b ∧ b < 8 := ⟨_, rfl, by omega, by omega⟩
  rw [hn, hb]
  clear hn hb
  obtain ⟨w0, hw0⟩ : ∃ w0, w0 = w.alloc (.cells #[.int .u8 ar, .int .u8 fr, .int .i64 c, .bool true] 45) := ⟨_, rfl⟩
  have hF0 : Fr None' w w0 := by rw [hw0]; exact (Fr.refl _ _).alloc _
  have hs0 : w0.heap.size = w.heap.size + 1 := by rw [hw0]; simp
  rw [← hw0, ← hs0]
  have HF0 := Lib.hid hF0
  clear hw0 hs0 hF0
  refine (check_calls (w0.drewN nq) (HT.out.fr (HF0.out.drewN nq) (fun h => h)) 13 b c n (.inr rfl) ⟨hb1, hb2⟩ ⟨hn1, hn2⟩).mono ?_
  by_cases hc : 0 ≤ c ∧ c < 2
  · obtain ⟨hc1, hc2⟩ := hc
    by_cases h1' : c = 1
    · by_cases h8 : 8 < b + n
      · rw [ans_few h1' h8]
        subst h1'
        clear hc1 hc2
        rintro e w2 ⟨rfl, hF2⟩
        have hF3 := (HF0.out.drewN nq).trans hF2
        clear hF2
        go_wp2_with fail
        refine (awake_any _ (HT.out.fr hF3 (fun h => h))).mono ?_
        rintro e w4 ⟨rfl, hF4⟩
        go_wp2_with fail
        go_ret
        exact ⟨rfl, hF3.trans hF4⟩
      · rw [ans_ok ⟨hc1, hc2⟩ (fun h => h8 h.2)]
        subst h1'
        clear hc1 hc2
        rintro e w2 ⟨rfl, hF2⟩
        have hF3 := (HF0.out.drewN nq).trans hF2
        clear hF2
        go_wp2_with fail
        refine (awake_any _ (HT.out.fr hF3 (fun h => h))).mono ?_
        rintro e w4 ⟨rfl, hF4⟩
        go_wp2_with fail
        go_ret
        exact ⟨rfl, hF3.trans hF4⟩
    · obtain rfl : c = 0 := by omega
      rw [ans_ok ⟨hc1, hc2⟩ (fun h => h1' h.1)]
      clear hc1 hc2 h1'
      rintro e w2 ⟨rfl, hF2⟩
      have hF3 := (HF0.out.drewN nq).trans hF2
      clear hF2
      go_wp2_with fail
      refine (awake_any _ (HT.out.fr hF3 (fun h => h))).mono ?_
      rintro e w4 ⟨rfl, hF4⟩
      go_wp2_with fail
      go_ret
      exact ⟨rfl, hF3.trans hF4⟩
  · rw [ans_no hc]
    by_cases h0 : c < 0
    · clear hc
      rintro e w2 ⟨rfl, hF2⟩
      have hF3 := (HF0.out.drewN nq).trans hF2
      clear hF2
      go_wp2_with fail
      refine (awake_any _ (HT.out.fr hF3 (fun h => h))).mono ?_
      rintro e w4 ⟨rfl, hF4⟩
      go_wp2_with fail
      go_ret
      exact ⟨rfl, hF3.trans hF4⟩
    · have h0' : 0 ≤ c := by omega
      have h3 : 1 < c := by omega
      clear hc
      rintro e w2 ⟨rfl, hF2⟩
      have hF3 := (HF0.out.drewN nq).trans hF2
      clear hF2
      go_wp2_with fail
      refine (awake_any _ (HT.out.fr hF3 (fun h => h))).mono ?_
      rintro e w4 ⟨rfl, hF4⟩
      go_wp2_with fail
      go_ret
      exact ⟨rfl, hF3.trans hF4⟩


theorem open_call {H : Type} {enc : TypeId × Value → H} {W : World} {base b0 : Nat} {spare : Nat → Bool} {held : Bool} {r : Reach} {v : Value} {d : DataW H} {p : List MemPlace} (hv : Value.okWide Tryd.prog W r b0 45 v) (h : DataW.Trod enc Tryd.prog W base spare held 45 v d p) :
    ∃ z : (Int × Int) × Int × Bool, v = .agg #[.int .u8 z.1.1, .int .u8 z.1.2, .int .i64 z.2.1, .bool z.2.2] ∧ (Lit.int .u8 z.1.1).wf = true ∧ (Lit.int .u8 z.1.2).wf = true := by
  obtain ⟨c0, c1, c2, c3, y0, y1, y2, y3, m, rfl, _, _, h0, h1, h2, h3⟩ := Go.Joins.open_agg4 Tryd.underlying45 (by kernel_rfl) (by kernel_rfl) hv h
  obtain ⟨a0, e0, _, w0⟩ := DataW.trod_int Tryd.underlying5 h0
  obtain ⟨a1, e1, _, w1⟩ := DataW.trod_int Tryd.underlying5 h1
  obtain ⟨a2, e2, _, _⟩ := DataW.trod_int Tryd.underlying3 h2
  obtain ⟨a3, e3, _⟩ := DataW.trod_bool Tryd.underlying4 h3
  simp at e0 e1 e2 e3
  subst e0 e1 e2 e3
  exact ⟨((a0, a1), a2, a3), rfl, w0, w1⟩

theorem walked (z : (Int × Int) × Int × Bool) (hz : (Lit.int .u8 z.1.1).wf = true ∧ (Lit.int .u8 z.1.2).wf = true) (w : World) (hT : FieldsAt w) :
    Calls Tryd.prog 7 #[.agg #[.int .u8 z.1.1, .int .u8 z.1.2, .int .i64 z.2.1, .bool z.2.2]] w fun e w' => e = .returned (.bool true) ∧ Below w.heap.size w w' := by
  obtain ⟨⟨x, y⟩, c, f⟩ := z
  have b1 : 0 ≤ x ∧ x ≤ 255 := bounds_u8 hz.1
  have b2 : 0 ≤ y ∧ y ≤ 255 := bounds_u8 hz.2
  obtain ⟨a, rfl⟩ := Int.eq_ofNat_of_zero_le b1.1
  obtain ⟨b, rfl⟩ := Int.eq_ofNat_of_zero_le b2.1
  cases f with
  | false => exact (walk11 a b c (by omega) (by omega) w hT).mono fun e w' ⟨he, hF⟩ => ⟨he, hF.below (Nat.le_refl _) (fun _ h => h.elim)⟩
  | true => exact (walk13 a b c (by omega) (by omega) w hT).mono fun e w' ⟨he, hF⟩ => ⟨he, hF.below (Nat.le_refl _) (fun _ h => h.elim)⟩

set_option maxRecDepth 100000 in
theorem lifted (os : Os) (started : os.Started) (H : Type) (enc : TypeId × Value → H) :
    ReturnsInHanded {} Tryd.checked os 7 .any (fun w args => (Rows.validCallsSpec.pre enc Tryd.prog Tryd.f7 [] false w args ∧ laidMetH Tryd.prog laidN w) ∧ sizedMet enc Tryd.prog Tryd.f7 (OpenSpec.ofChange Rows.validCallsSpec) false w args)
      (Rows.validCallsSpec.post enc Tryd.prog Tryd.f7 false true false false) := by
  refine returnsInHanded_of_change_and (C := Tryd.checked) (X := fun w _ => laidMetH Tryd.prog laidN w) (fun _ _ _ hh h => h.of_heap hh) own started (by kernel_rfl) Tryd.func7
    (ChangeSpec.witness_shaped (enc := enc) (C := Tryd.checked) (os := os) (X := fun w _ => laidMetH Tryd.prog laidN w) false (World.doorLaid Tryd.prog 400 os) #[.agg #[.int .u8 0, .int .u8 0, .int .i64 0, .bool false]] 8 rfl (World.shaped_of_RefB (by kernel_rfl) (by kernel_rfl)) (by kernel_rfl) (by kernel_rfl) (by kernel_rfl) (door_met os _)) ?_
  intro W base args ds gs before hval0 hW _ _ hL _
  have hval : ∀ (j : Nat) t v, Tryd.f7.params[j]? = some t → args[j]? = some v → Value.okWide Tryd.prog W .any base t v := hval0
  have hW' := hW
  obtain ⟨p, q, hA0, hV, rfl, hfz, hnd⟩ := hW
  have hA : DataW.TrodAll enc Tryd.prog W 0 (fun _ => true) true Tryd.f7.params.toList args.toList ds p := hA0
  rw [Tryd.params7] at hA hval
  obtain ⟨v0, vs0, d0, ds0, p0, q0, hargs, rfl, rfl, h0, r0⟩ := trodAll_cons hA
  obtain ⟨rfl, rfl, rfl⟩ := trodAll_nil r0
  obtain rfl : args = #[v0] := by cases args; simp_all
  obtain ⟨rfl, rfl⟩ := trodVars_none hV
  have k0 := h0
  have lt0 : ∀ x ∈ p0, x.block < W.heap.size := by obtain ⟨m, hm⟩ := k0; exact DataW.trod_lt m _ _ _ hm
  obtain ⟨z0, rfl, w0⟩ := open_call (hval 0 45 v0 rfl rfl) h0
  clear hA0 hval0
  refine (walked z0 w0 W (of_laid hL)).mono fun e W' ⟨he, bel⟩ => ?_
  subst he
  exact ⟨_, rfl, _, _, _, [], _, [], hW', trodAll_mk1 (shut_bool Tryd.underlying4 _), (trodAll_cons_mk (Below.trod laidOut (by kernel_rfl) (of_decide_eq_true (by kernel_rfl)) k0 bel lt0) trodAll_mk0), rfl, bel.frame _, fun h => by cases h⟩

theorem over : Rows.ValidCallsSaid :=
  OpenClaim.holds_of_wide 7 Tryd.f7 rfl rfl rfl rfl rfl rfl rfl ⟨rfl, rfl, rfl, rfl, rfl⟩ rfl rfl rfl rfl rfl (by kernel_rfl) Tryd.func7 (by kernel_rfl)
    (of_decide_eq_true (by kernel_rfl)) (by unfold Func.isWrapper; first | (rw [if_pos (by decide +kernel)]; kernel_rfl) | (rw [if_neg (by decide +kernel)]; exact ⟨rfl, rfl⟩))
    (fun os started H enc _ => lifted os started H enc)

/-- The statement: the row, and what it lists tied to the program's text. -/
theorem proved : Rows.ValidCallsCardSaid :=
  Claim7.holds_tied_plain_at .later [] [.data] true (true, "b590b14693a41eba65153902b74f9ac5e469322994b986d8ee8add5cc5d2eee4") true
    over (fun _ h => by cases h) (by kernel_rfl) (fun _ h => by cases h) validCalls_row_tie rfl ⟨rfl, rfl⟩ (by kernel_rfl) rfl
    (fun f fn hf hfn => by
      obtain rfl : f = 7 := Option.some.inj ((show Tryd.prog.funcNamed "haymow/haymowlaw03.ValidCalls" = some 7 by kernel_rfl).symm.trans hf) |>.symm
      obtain rfl : fn = Tryd.f7 := (Option.some.inj (Tryd.func7.symm.trans hfn)).symm
      exact ⟨by kernel_rfl, fun j t ht => by
        rw [Tryd.params7] at ht
        match j, ht with
        | 0, ht =>
          obtain rfl : t = 45 := by simpa using ht.symm
          exact (show Tryd.prog.wantsStandIn 45 = false by kernel_rfl)
        | j + 1, ht => simp at ht⟩)
    (by kernel_rfl)
#print axioms proved
end Go.Proofs.YtjfeoigclkelfaaDoor.validCalls
