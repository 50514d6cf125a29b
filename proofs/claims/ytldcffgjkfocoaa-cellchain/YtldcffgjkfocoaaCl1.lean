/-
  Package cell: an operation as plain data, what a move does to it, and the smallest calls.
-/
import Derived.Test.YtldcffgjkfocoaaTurn
import Derived.Test.YtldcffgjkfocoaaHeld
import Derived.RegionTactic
import Derived.BigRegion
import Derived.Deep.QuietTactic
import Derived.BigQuiet
import Derived.StillTailTactics
import Derived.Laws.EntriesVeiled
namespace Go.Proofs.Ytldcffgjkfocoaa
open Go.RowKit

theorem cell_lt {w : World} {p : Addr} {v : Value} (h : w.cell? p = some v) : p.block < w.heap.size := by
  rcases Nat.lt_or_ge p.block w.heap.size with hlt | hge
  · exact hlt
  · unfold World.cell? at h; rw [Array.getElem?_eq_none hge] at h; cases h
theorem Fr.held {B : Nat → Prop} {w w' : World} (h : Fr B w w') {p : Addr} {v : Value} (hc : w.cell? p = some v) (hn : ¬ B p.block) : w'.cell? p = some v := (World.cell?_of_block (w := w) (h.block p.block (cell_lt hc) hn)).trans hc

/-- Words that are all live. -/
def lv (m : List Int) : List (Bool × Int) := m.map fun x => (true, x)
theorem lv_len (m : List Int) : (lv m).length = m.length := by simp [lv]
theorem lv_get (m : List Int) (i : Nat) (h : i < m.length) : (lv m)[i]? = some (true, m.getD i 0) := by
  simp [lv, List.getElem?_map, List.getElem?_eq_getElem h, List.getD_eq_getElem?_getD]
theorem lv_set (m : List Int) (i : Nat) (n : Int) : (lv m).set i (true, n) = lv (m.set i n) := by
  unfold lv; exact (List.map_set ..).symm

/-- The memory, behind at most so many steps. -/
def MI (w : World) (p s : Nat) (m : List Int) (b : Nat) : Prop := ∃ st : Int, MemIs w p s (lv m) st ∧ 0 ≤ st ∧ st ≤ b
section
variable {w w' : World} {o p s b : Nat} {m : List Int}
theorem MI.fr {B : Nat → Prop} (h : MI w p s m b) (hf : Fr B w w') (h1 : ¬ B p) (h2 : ¬ B s) : MI w' p s m b := by
  obtain ⟨st, h, a, c⟩ := h
  exact ⟨st, h.fr hf h1 h2, a, c⟩
theorem MI.drew (h : MI w p s m b) : MI w.drew p s m b := by
  obtain ⟨st, h, a, c⟩ := h
  exact ⟨st, h.drew, a, c⟩
theorem MI.more {c : Nat} (h : MI w p s m b) (hbc : b ≤ c) : MI w p s m c := by
  obtain ⟨st, h, a, d⟩ := h
  exact ⟨st, h, a, by omega⟩
theorem MI.lt (hM : MI w p s m b) : p < w.heap.size ∧ s < w.heap.size := by
  obtain ⟨st, h, _, _⟩ := hM
  exact ⟨h.hp.lt, h.hs.lt⟩
theorem MI.ne {t : TypeId} {cs : Array Value} (hO : Blk w o t cs) (hM : MI w p s m b) (h1 : t ≠ 72) (h2 : t ≠ 84) : o ≠ p ∧ o ≠ s := by
  obtain ⟨st, h, _, _⟩ := hM
  exact ⟨Blk.ne_ hO h.hp h1, Blk.ne_ hO h.hs h2⟩
theorem load_mi (hM : MI w p s m b) (hb : b < 900000) (i : Nat) (hi : i < m.length) (n : Int) (hn : m.getD i 0 = n) :
    Calls Try.prog 12 #[.pointer (some ⟨p, 0, none⟩), .int .i64 (i : Int)] w fun e w' => e = .returned (.tuple #[.int .i64 n, .int .i64 0]) ∧ MI w' p s m (b + 1) ∧ Fr (Two p s) w w' := by
  obtain ⟨st, h, h0, h1⟩ := hM
  subst hn
  exact (load_ok w p s (lv m) st h i _ (lv_get m i hi) h0 (by omega)).mono fun _ _ ⟨he, hm, hf⟩ => ⟨he, ⟨_, hm, by omega, by omega⟩, hf⟩
theorem store_mi (hM : MI w p s m b) (hb : b < 900000) (i : Nat) (n : Int) (hi : i < m.length) :
    Calls Try.prog 29 #[.pointer (some ⟨p, 0, none⟩), .int .i64 (i : Int), .int .i64 n] w fun e w' => e = .returned (.int .i64 0) ∧ MI w' p s (m.set i n) (b + 1) ∧ Fr (Two p s) w w' := by
  obtain ⟨st, h, h0, h1⟩ := hM
  exact (store_ok w p s (lv m) st h i _ n (lv_get m i hi) h0 (by omega)).mono fun _ _ ⟨he, hm, hf⟩ => ⟨he, ⟨_, by rw [← lv_set]; exact hm, by omega, by omega⟩, hf⟩
theorem swap_yes_mi (hM : MI w p s m b) (hb : b < 900000) (i : Nat) (was n : Int) (hi : i < m.length) (hw : m.getD i 0 = was) :
    Calls Try.prog 39 #[.pointer (some ⟨p, 0, none⟩), .int .i64 (i : Int), .int .i64 was, .int .i64 n] w fun e w' => e = .returned (.tuple #[.bool true, .int .i64 0]) ∧ MI w' p s (m.set i n) (b + 1) ∧ Fr (Two p s) w w' := by
  obtain ⟨st, h, h0, h1⟩ := hM
  subst hw
  exact (swap_yes w p s (lv m) st h i _ n (lv_get m i hi) h0 (by omega)).mono fun _ _ ⟨he, hm, hf⟩ => ⟨he, ⟨_, by rw [← lv_set]; exact hm, by omega, by omega⟩, hf⟩
theorem swap_no_mi (hM : MI w p s m b) (hb : b < 900000) (i : Nat) (was n : Int) (hi : i < m.length) (hw : m.getD i 0 ≠ was) :
    Calls Try.prog 39 #[.pointer (some ⟨p, 0, none⟩), .int .i64 (i : Int), .int .i64 was, .int .i64 n] w fun e w' => e = .returned (.tuple #[.bool false, .int .i64 0]) ∧ MI w' p s m (b + 1) ∧ Fr (Two p s) w w' := by
  obtain ⟨st, h, h0, h1⟩ := hM
  exact (swap_no w p s (lv m) st h i _ was n (lv_get m i hi) (by simpa using hw) h0 (by omega)).mono fun _ _ ⟨he, hm, hf⟩ => ⟨he, ⟨_, hm, by omega, by omega⟩, hf⟩
end

/-- A function whose second result is a struct in a variable. -/
theorem results_tct {fn : Func} {t p u : Tmp} {ty : TypeId} (h : fn.results = #[.tmp t, .cell p ty, .tmp u]) (tmps : Array Value) {P : Program} {w : World} (g : Nat) {cs : Array Value}
    (hp : tmps.getD p undef = .pointer (some ⟨g, 0, none⟩)) (hl : (loadVar ty ⟨g, 0, none⟩).run P w = .ok (.agg cs) w) :
    (results fn tmps).run P w = .ok (.tuple #[tmps.getD t undef, .agg cs, tmps.getD u undef]) w := by
  have hp' : tmps[p]?.getD undef = .pointer (some ⟨g, 0, none⟩) := by simpa using hp
  simp [results, h, hp', asAddr, hl, Result.andThen]
theorem results_ct {fn : Func} {p u : Tmp} {ty : TypeId} (h : fn.results = #[.cell p ty, .tmp u]) (tmps : Array Value) {P : Program} {w : World} (g : Nat) {cs : Array Value}
    (hp : tmps.getD p undef = .pointer (some ⟨g, 0, none⟩)) (hl : (loadVar ty ⟨g, 0, none⟩).run P w = .ok (.agg cs) w) :
    (results fn tmps).run P w = .ok (.tuple #[.agg cs, tmps.getD u undef]) w := by
  have hp' : tmps[p]?.getD undef = .pointer (some ⟨g, 0, none⟩) := by simpa using hp
  simp [results, h, hp', asAddr, hl, Result.andThen]

/-- The zero of an end. -/
abbrev end0 : Value := .agg #[.bool false, .int .i64 0, .int .i64 0, .int .i64 0]
theorem load_end {w : World} {g : Nat} {a : Bool} {x y z : Int} (h : Blk w g 45 #[.bool a, .int .i64 x, .int .i64 y, .int .i64 z]) : (loadVar 45 ⟨g, 0, none⟩).run Try.prog w = .ok (.agg #[.bool a, .int .i64 x, .int .i64 y, .int .i64 z]) w :=
  run_loadVar_row w g 45 45 _ (0, 0) _ h Try.underlying45 rfl (by kernel_rfl)
theorem head_any (w : World) (b : Nat) : Calls Try.prog 25 #[.agg #[.int .i64 (b : Int)]] w fun e w' => e = .returned (.int .i64 (b : Int)) ∧ Fr (fun _ => False) w w' := by
  go_enter Try.func25, Try.ntmps25
  go_wp2_with fail
  go_ret
  exact ⟨rfl, (Fr.refl _ _).alloc _⟩
theorem value_any (w : World) (b : Nat) (hb : b ≤ 60000) : Calls Try.prog 30 #[.agg #[.int .i64 (b : Int)]] w fun e w' => e = .returned (.int .i64 ((b + 1 : Nat) : Int)) ∧ Fr (fun _ => False) w w' := by
  go_enter Try.func30, Try.ntmps30
  go_wp2_with fail
  go_ret
  exact ⟨rfl, (Fr.refl _ _).alloc _⟩
theorem why_any (w : World) (b : Nat) (hb : b ≤ 60000) : Calls Try.prog 36 #[.agg #[.int .i64 (b : Int)]] w fun e w' => e = .returned (.int .i64 ((b + 2 : Nat) : Int)) ∧ Fr (fun _ => False) w w' := by
  go_enter Try.func36, Try.ntmps36
  go_wp2_with fail
  go_ret
  exact ⟨rfl, (Fr.refl _ _).alloc _⟩
theorem behind_ok (w : World) (v : Value) : Calls Try.prog 26 #[.int .i64 0, v] w fun x w' => x = .returned (.tuple #[v, end0, .int .i64 0]) ∧ Fr (fun _ => False) w w' := by
  go_enter Try.func26, Try.ntmps26
  go_wp2_with fail
  (try simp only [Exit.inBlock, Exit.then])
  refine bodyPost_ret (results_tct rfl _ _ rfl (load_end (Blk.new _ _ _)))  rfl ?_
  exact ⟨rfl, (Fr.refl _ _).alloc _⟩
theorem behind_er (w : World) (e : Int) (he : e ≠ 0) (v : Value) : Calls Try.prog 26 #[.int .i64 e, v] w fun x w' => x = .returned (.tuple #[.nilFunc, end0, .int .i64 e]) ∧ Fr (fun _ => False) w w' := by
  have hb : (e != 0) = true := by simpa using he
  go_enter Try.func26, Try.ntmps26
  go_wp2_with fail
  (try simp only [Exit.inBlock, Exit.then])
  refine bodyPost_ret (results_tct rfl _ _ rfl (load_end (Blk.new _ _ _)))  rfl ?_
  exact ⟨rfl, (Fr.refl _ _).alloc _⟩
theorem ends_ok (w : World) (a : Bool) (x y z : Int) : Calls Try.prog 38 #[.int .i64 0, .agg #[.bool a, .int .i64 x, .int .i64 y, .int .i64 z]] w fun e w' => e = .returned (.tuple #[.nilFunc, .agg #[.bool a, .int .i64 x, .int .i64 y, .int .i64 z], .int .i64 0]) ∧ Fr (fun _ => False) w w' := by
  go_enter Try.func38, Try.ntmps38
  go_wp2_with fail
  go_region
  go_wp2_with fail
  (try simp only [Exit.inBlock, Exit.then])
  refine bodyPost_ret (results_tct rfl _ _ rfl (load_end (g := w.heap.size + 1) (Blk.drew (by simpa using Blk.new (w.alloc _) _ _)))) rfl ?_
  exact ⟨rfl, (((Fr.refl _ _).alloc _).alloc _).drew⟩
end Go.Proofs.Ytldcffgjkfocoaa
