/-
  What the writer does with a row of instructions, with a function, with a row of functions.
-/
import Derived.Test.YtahojahplpcbiaaWri2
namespace Go.Proofs.Ytahojahplpcbiaa
open Go.RowKit

/-- Blocks that a writer's call leaves as they are. -/
def Safe (w : World) (p : Nat) (v : Value) (b : Nat) : Prop := b < w.heap.size ∧ ¬ (b = p ∨ v.ownBlock = some b)

def AllOk (l : List Ins) (k : Nat) : Prop := ∀ x ∈ l.take k, x.ok

theorem allOk_snoc {l : List Ins} {k : Nat} {x : Ins} (h : AllOk l k) (hx : l[k]? = some x) (hk : x.ok) : AllOk l (k + 1) := by
  unfold AllOk
  rw [take_snoc l k x hx]
  intro y hy
  rcases List.mem_append.1 hy with hy | hy
  · exact h y hy
  · rw [List.mem_singleton.1 hy]; exact hk

def InsRow (w : World) (Q : Nat → Prop) (A : Option Addr) (l : List Ins) : Prop := Rd w Q 5 A l.length (l.flatMap Ins.cells)

theorem InsRow.at_ {w : World} {Q : Nat → Prop} {A : Option Addr} {l : List Ins} (h : InsRow w Q A l) {k : Nat} {x : Ins} (hx : l[k]? = some x) :
    ∃ b off, A = some ⟨b, off, none⟩ ∧ Q b ∧ w.cell? ⟨b, off + k * 5, none⟩ = some (.int .i64 x.op) ∧ w.cell? ⟨b, off + k * 5 + 1, none⟩ = some (.int .i64 x.a) ∧ w.cell? ⟨b, off + k * 5 + 2, none⟩ = some (.int .i64 x.b) ∧ w.cell? ⟨b, off + k * 5 + 3, none⟩ = some (.int .i64 x.c) ∧ w.cell? ⟨b, off + k * 5 + 4, none⟩ = some (.int .i64 x.k) := by
  have hlt : k < l.length := (List.getElem?_eq_some_iff.1 hx).1
  obtain ⟨b, off, e, q, hc⟩ := Rd.at_ h (by omega)
  have key : ∀ j u, j < 5 → x.cells[j]? = some u → w.cell? ⟨b, off + k * 5 + j, none⟩ = some u := fun j u hj hu => by
    rw [Nat.add_assoc]
    exact hc _ u (by rw [flat_at Ins.cells 5 Ins.cells_length l k j x hx hj]; exact hu)
  exact ⟨b, off, e, q, key 0 _ (by omega) rfl, key 1 _ (by omega) rfl, key 2 _ (by omega) rfl, key 3 _ (by omega) rfl, key 4 _ (by omega) rfl⟩

theorem InsRow.fr {w w' : World} {Q B : Nat → Prop} {A : Option Addr} {l : List Ins} (h : InsRow w Q A l) (hf : Fr B w w') (hB : ∀ b, Q b → ¬ B b) : InsRow w' Q A l := Rd.fr h hf hB

theorem small_any (w : World) (base p : Nat) (v : Value) (bs : List Int) (hW : WrIs w base p v bs) (n : Int) (hl : bs.length < 1000000) :
    Calls Try.prog 27 #[.pointer (some ⟨p, 0, none⟩), .int .i64 n] w (WPost w base p v bs (fit8 n) [n]) := by
  by_cases h : fit8 n
  · refine (small_ok w base p v bs hW n h.1 h.2 hl).mono ?_
    rintro e w' ⟨he, v', h1, h2⟩
    exact .inl ⟨h, he, v', h1, h2⟩
  · refine (small_bad w p n h).mono ?_
    rintro e w' ⟨he, rfl⟩
    exact .inr ⟨h, he, v, WSt.refl⟩

set_option maxHeartbeats 4000000 in
theorem putI_any (w : World) (base p : Nat) (v : Value) (bs : List Int) (hW : WrIs w base p v bs) (A : Option Addr) (c : Nat) (l : List Ins) (hR : InsRow w (Safe w p v) A l) (hl : bs.length + 8 * l.length < 999000) :
    Calls Try.prog 28 #[.pointer (some ⟨p, 0, none⟩), .slice A l.length c, .func (.func 29) #[.pointer (some ⟨p, 0, none⟩)] #[]] w (WPost w base p v bs (codeOk l) (codeBytes l)) := by
  have HR := Lib.hid hR
  clear hR
  have hb1 : (l.length : Int) < 1000000 := by omega
  go_enter Try.func28, Try.ntmps28
  go_wp2_with fail
  refine (small_any w base p v bs hW l.length (by omega)).mono ?_
  rintro e w1 (⟨hok, rfl, v1, hW1, hS1⟩ | ⟨hno, rfl, v1, hS1⟩)
  · have HOK := Lib.hid hok
    clear hok
    go_wp2_with fail
    go_loopw [14] (fun i wr => ∃ k : Nat, k ≤ l.length ∧ i = .int .i64 k ∧ ∃ vk bk, AllOk l k ∧ Hid (bk = bs ++ ((l.length : Int) :: (l.take k).flatMap Ins.bytes)) ∧ WrIs wr base p vk bk ∧ WSt w wr p v vk) (fun i _ => l.length - (intOf i).toNat)
    case atStart => exact ⟨0, by omega, rfl, v1, _, (fun x hx => by simp at hx), Lib.hid (by simp), hW1, hS1⟩
    case round =>
      obtain ⟨k, hk, rfl, vk, bk, hall, HBK, hWk, hS⟩ := hrel
      have hbk : bk.length < 999900 := by
        rw [HBK.out, List.length_append, List.length_cons, flat_length Ins.bytes 8 Ins.bytes_length, List.length_take]
        have : min k l.length ≤ l.length := Nat.min_le_right _ _
        omega
      by_cases hlt : k < l.length
      · obtain ⟨x, hx⟩ : ∃ x, l[k]? = some x := ⟨_, List.getElem?_eq_getElem hlt⟩
        obtain ⟨b, off, rfl, hq, d0, d1, d2, d3, d4⟩ := (HR.out.fr hS.fr (fun b hb => hb.2)).at_ hx
        have HXK := Lib.hid hx
        clear hx
        go_wp2_with fail
        refine (ins_any _ base p vk bk (hWk.alloc _) x hbk).mono ?_
        rintro e w2 (⟨hok, rfl, v2, hW2, hS2⟩ | ⟨hno, rfl, v2, hS2⟩)
        · have HOK2 := Lib.hid hok
          clear hok
          go_wp2_with fail
          exact ⟨⟨k + 1, by omega, by go_num, v2, _, allOk_snoc hall HXK.out HOK2.out, Lib.hid (by rw [HBK.out, flat_snoc Ins.bytes l k x HXK.out]; simp), hW2, hS.trans (hS2.pre _)⟩, by simp [intOf]; omega⟩
        · have HNO := Lib.hid hno
          clear hno
          go_wp2_with fail
          exact ⟨rfl, .inr ⟨fun h => HNO.out (h.2 x (List.mem_of_getElem? HXK.out)), rfl, v2, hS.trans (hS2.pre _)⟩⟩
      · obtain rfl : k = l.length := by omega
        have hall' : ∀ x ∈ l, x.ok := fun x hx => hall x (by rw [List.take_length]; exact hx)
        have HF := Lib.hid hall'
        have HK : Hid (codeOk l) := ⟨by have := HOK.out.2; omega, HF.out⟩
        clear hall hall'
        go_wp2_with fail
        go_end0
        refine .inl ⟨HK.out, rfl, vk, ?_, hS⟩
        rw [HBK.out, List.take_length] at hWk
        exact hWk
  · have HNO := Lib.hid hno
    clear hno
    go_wp2_with fail
    exact ⟨rfl, .inr ⟨fun h => HNO.out ⟨by omega, by have := h.1; omega⟩, rfl, v1, hS1⟩⟩
end Go.Proofs.Ytahojahplpcbiaa
