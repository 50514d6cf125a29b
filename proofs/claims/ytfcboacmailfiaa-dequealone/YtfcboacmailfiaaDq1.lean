/-
  Package deque's smallest calls: where its words stand, what goes on behind a step, the place and the tag in a word.
-/
import Derived.Test.YtfcboacmailfiaaTurn
import Derived.RegionTactic
import Derived.BigRegion
import Derived.Deep.QuietTactic
import Derived.BigQuiet
import Derived.StillTailTactics
namespace Go.Proofs.Ytfcboacmailfiaa
open Go.RowKit

theorem cell_lt {w : World} {p : Addr} {v : Value} (h : w.cell? p = some v) : p.block < w.heap.size := by
  rcases Nat.lt_or_ge p.block w.heap.size with hlt | hge
  · exact hlt
  · unfold World.cell? at h; rw [Array.getElem?_eq_none hge] at h; cases h
theorem Fr.held {B : Nat → Prop} {w w' : World} (h : Fr B w w') {p : Addr} {v : Value} (hc : w.cell? p = some v) (hn : ¬ B p.block) : w'.cell? p = some v := (World.cell?_of_block (w := w) (h.block p.block (cell_lt hc) hn)).trans hc
/-- An operation's block. -/
structure OpV where
  kind : Int
  base : Int
  room : Int
  next : Value
  final : Value
  ended : Bool
  how : Int
  takes : Bool
  num : Int
  e : Int
  t : Int
def OpV.cells (v : OpV) : Array Value := #[.int .i64 v.kind, .int .i64 v.base, .int .i64 v.room, v.next, v.final, .bool v.ended, .int .i64 v.how, .bool v.takes, .int .i64 v.num, .int .i64 v.e, .int .i64 v.t]
def OpAt (w : World) (o : Nat) (v : OpV) : Prop := Blk w o 78 v.cells

theorem wordE_any (w : World) (o : Nat) (b : Int) (h : w.cell? ⟨o, 1, none⟩ = some (.int .i64 b)) :
    Calls Try.prog 63 #[.pointer (some ⟨o, 0, none⟩)] w fun e w' => e = .returned (.int .i64 b) ∧ w' = w := by
  go_enter Try.func63, Try.ntmps63
  go_wp2_with fail
  go_ret
  exact ⟨rfl, rfl⟩
theorem wordT_any (w : World) (o b : Nat) (hb : b ≤ 65536) (h : w.cell? ⟨o, 1, none⟩ = some (.int .i64 b)) :
    Calls Try.prog 73 #[.pointer (some ⟨o, 0, none⟩)] w fun e w' => e = .returned (.int .i64 ((b + 1 : Nat) : Int)) ∧ w' = w := by
  go_enter Try.func73, Try.ntmps73
  go_wp2_with fail
  go_ret
  exact ⟨rfl, rfl⟩
theorem slot_any (w : World) (o b n : Nat) (hb : b ≤ 65536) (hn : n ≤ 65536) (h : w.cell? ⟨o, 1, none⟩ = some (.int .i64 b)) :
    Calls Try.prog 79 #[.pointer (some ⟨o, 0, none⟩), .int .i64 n] w fun e w' => e = .returned (.int .i64 ((b + 2 + n : Nat) : Int)) ∧ w' = w := by
  go_enter Try.func79, Try.ntmps79
  go_wp2_with fail
  go_ret
  exact ⟨rfl, rfl⟩
theorem room_any (w : World) (o : Nat) (r : Int) (h : w.cell? ⟨o, 2, none⟩ = some (.int .i64 r)) :
    Calls Try.prog 59 #[.pointer (some ⟨o, 0, none⟩)] w fun e w' => e = .returned (.int .i64 r) ∧ w' = w := by
  go_enter Try.func59, Try.ntmps59
  go_wp2_with fail
  go_ret
  exact ⟨rfl, rfl⟩
theorem behind_any (w : World) (e : Int) (v : Value) :
    Calls Try.prog 64 #[.int .i64 e, v] w fun x w' => x = .returned (.tuple #[if e = 0 then v else .nilFunc, .int .i64 e]) ∧ w' = w := by
  by_cases h : e = 0
  · subst h
    go_enter Try.func64, Try.ntmps64
    go_wp2_with fail
    go_ret2
    exact ⟨rfl, rfl⟩
  · have hb : (e != 0) = true := by simpa using h
    rw [if_neg h]
    go_enter Try.func64, Try.ntmps64
    go_wp2_with fail
    go_ret2
    exact ⟨rfl, rfl⟩
theorem bits_place (t : Nat) (ht : t < 4611686018427387904) : bits .and .i64 (t : Int) 65535 = ((t % 65536 : Nat) : Int) := by
  have h1 : (BitVec.ofInt 64 (t : Int)).toNat = t := by
    rw [BitVec.ofInt_natCast, BitVec.toNat_ofNat]; exact Nat.mod_eq_of_lt (by omega)
  have h2 : (BitVec.ofInt 64 65535).toNat = 65535 := by decide
  have h4 : t &&& 65535 = t % 65536 := Nat.and_two_pow_sub_one_eq_mod t 16
  have h3 : t % 65536 < 65536 := Nat.mod_lt _ (by decide)
  show IntKind.i64.wrap ((BitVec.ofInt 64 (t : Int) &&& BitVec.ofInt 64 65535).toNat : Int) = _
  rw [BitVec.toNat_and, h1, h2, h4, IntKind.wrap_i64]
  omega
theorem place_any (w : World) (t : Nat) (ht : t < 4611686018427387904) :
    Calls Try.prog 74 #[.int .i64 t] w fun e w' => e = .returned (.int .i64 ((t % 65536 : Nat) : Int)) ∧ w' = w := by
  have hb := bits_place t ht
  go_enter Try.func74, Try.ntmps74
  go_wp2_with fail
  go_ret
  exact ⟨rfl, rfl⟩
theorem raised_any (w : World) (t : Nat) (ht : t < 2305843009213693952) (to : Nat) (hto : to ≤ 65536) :
    Calls Try.prog 86 #[.int .i64 t, .int .i64 to] w fun e w' => e = .returned (.int .i64 ((t - t % 65536 + 65536 + to : Nat) : Int)) ∧ w' = w := by
  have hm : t % 65536 ≤ t := Nat.mod_le _ _
  obtain ⟨q, hq⟩ : ∃ q, q = t % 65536 := ⟨_, rfl⟩
  have HP := Lib.hid (fun W => place_any W t (by omega))
  rw [← hq] at HP hm ⊢
  clear hq
  go_enter Try.func86, Try.ntmps86
  go_wp2_with (go_at_call 74; refine (HP.out _).mono ?_; rintro e w1 ⟨rfl, rfl⟩)
  go_ret
  exact ⟨by go_num, rfl⟩
end Go.Proofs.Ytfcboacmailfiaa
