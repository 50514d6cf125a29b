/-
  What the writer does with a function, and with a program.
-/
import Derived.Test.YtahojahplpcbiaaWri3
namespace Go.Proofs.Ytahojahplpcbiaa
open Go.RowKit

theorem Safe.step {w w' : World} {p b : Nat} {v v' : Value} (h : Safe w p v b) (hS : WSt w w' p v v') : Safe w' p v' b := by
  refine ⟨Nat.lt_of_lt_of_le h.1 hS.fr.size, ?_⟩
  rintro (h1 | h1)
  · exact h.2 (.inl h1)
  · rcases hS.own b h1 with h2 | h2
    · exact h.2 (.inr h2)
    · have := h.1; omega
theorem InsRow.step {w w' : World} {p : Nat} {v v' : Value} {A : Option Addr} {l : List Ins} (h : InsRow w (Safe w p v) A l) (hS : WSt w w' p v v') : InsRow w' (Safe w' p v') A l :=
  Rd.mono (h.fr hS.fr (fun _ hb => hb.2)) (fun _ hb => hb.step hS)
theorem WSt.one {w : World} {p : Nat} {v : Value} (o : Obj) : WSt w (w.alloc o) p v v := WSt.refl.alloc o

/-- A function, and where its code lies. -/
structure LFn where
  f : Fn
  A : Option Addr
  c : Nat
def LFn.cells (x : LFn) : List Value := [.int .i64 x.f.arity, .slice x.A x.f.code.length x.c]
theorem LFn.cells_length (x : LFn) : x.cells.length = 2 := rfl
def FnRow (w : World) (Q : Nat → Prop) (A : Option Addr) (L : List LFn) : Prop := Rd w Q 2 A L.length (L.flatMap LFn.cells) ∧ ∀ x ∈ L, InsRow w Q x.A x.f.code
theorem FnRow.fr {w w' : World} {Q B : Nat → Prop} {A : Option Addr} {L : List LFn} (h : FnRow w Q A L) (hf : Fr B w w') (hB : ∀ b, Q b → ¬ B b) : FnRow w' Q A L := ⟨Rd.fr h.1 hf hB, fun x hx => (h.2 x hx).fr hf hB⟩
theorem FnRow.mono {w : World} {Q Q' : Nat → Prop} {A : Option Addr} {L : List LFn} (h : FnRow w Q A L) (hQ : ∀ b, Q b → Q' b) : FnRow w Q' A L := ⟨Rd.mono h.1 hQ, fun x hx => Rd.mono (h.2 x hx) hQ⟩
theorem FnRow.step {w w' : World} {p : Nat} {v v' : Value} {A : Option Addr} {L : List LFn} (h : FnRow w (Safe w p v) A L) (hS : WSt w w' p v v') : FnRow w' (Safe w' p v') A L :=
  (h.fr hS.fr (fun _ hb => hb.2)).mono (fun _ hb => hb.step hS)
theorem FnRow.at_ {w : World} {Q : Nat → Prop} {A : Option Addr} {L : List LFn} (h : FnRow w Q A L) {k : Nat} {x : LFn} (hx : L[k]? = some x) :
    ∃ b off, A = some ⟨b, off, none⟩ ∧ Q b ∧ w.cell? ⟨b, off + k * 2, none⟩ = some (.int .i64 x.f.arity) ∧ w.cell? ⟨b, off + k * 2 + 1, none⟩ = some (.slice x.A x.f.code.length x.c) ∧ InsRow w Q x.A x.f.code := by
  have hlt : k < L.length := (List.getElem?_eq_some_iff.1 hx).1
  obtain ⟨b, off, e, q, hc⟩ := Rd.at_ h.1 (by omega)
  have key : ∀ j u, j < 2 → x.cells[j]? = some u → w.cell? ⟨b, off + k * 2 + j, none⟩ = some u := fun j u hj hu => by
    rw [Nat.add_assoc]
    exact hc _ u (by rw [flat_at LFn.cells 2 LFn.cells_length L k j x hx hj]; exact hu)
  exact ⟨b, off, e, q, key 0 _ (by omega) rfl, key 1 _ (by omega) rfl, h.2 x (List.mem_of_getElem? hx)⟩

set_option maxHeartbeats 4000000 in
theorem fn_any (w : World) (base p : Nat) (v : Value) (bs : List Int) (hW : WrIs w base p v bs) (f : Fn) (A : Option Addr) (c : Nat) (hR : InsRow w (Safe w p v) A f.code) (hl : bs.length + 8 * f.code.length < 998900) :
    Calls Try.prog 23 #[.pointer (some ⟨p, 0, none⟩), .agg #[.int .i64 f.arity, .slice A f.code.length c]] w (WPost w base p v bs f.ok f.bytes) := by
  have hX := Blk.new w 47 #[.int .i64 f.arity, .slice A f.code.length c]
  have hW0 := hW.alloc (.cells #[.int .i64 f.arity, .slice A f.code.length c] 47)
  have S0 : WSt w (w.alloc (.cells #[.int .i64 f.arity, .slice A f.code.length c] 47)) p v v := WSt.one _
  have hxb : ¬ (w.heap.size = p ∨ v.ownBlock = some w.heap.size) := by
    rintro (h | h)
    · have := hW.hp.lt; omega
    · have := (hW.own.lt _ h).2; omega
  have HX := Lib.hid hX
  have HB := Lib.hid hxb
  have HR := Lib.hid hR
  clear hX hxb hR
  go_enter Try.func23, Try.ntmps23
  go_wp2_with fail
  refine (small_any _ base p v bs hW0 f.arity (by omega)).mono ?_
  rintro e w1 (⟨hok, rfl, v1, hW1, hS1⟩ | ⟨hno, rfl, v1, hS1⟩)
  · have HOK := Lib.hid hok
    clear hok
    have c1 : w1.cell? ⟨w.heap.size, 1, none⟩ = some (.slice A f.code.length c) := by rw [(HX.out.fr hS1.fr HB.out).cell]; rfl
    go_wp2_with fail
    have S1 := S0.trans hS1
    refine (putI_any _ base p v1 _ hW1 A c f.code (HR.out.step S1) (by simp only [List.length_append, List.length_cons, List.length_nil]; omega)).mono ?_
    rintro e w2 (⟨hok2, rfl, v2, hW2, hS2⟩ | ⟨hno2, rfl, v2, hS2⟩)
    · have HOK2 := Lib.hid hok2
      clear hok2
      go_wp2_with fail
      go_end0
      refine .inl ⟨⟨HOK.out, HOK2.out⟩, rfl, v2, ?_, S1.trans hS2⟩
      simpa [Fn.bytes] using hW2
    · have HNO2 := Lib.hid hno2
      clear hno2
      go_wp2_with fail
      exact ⟨rfl, .inr ⟨fun h => HNO2.out h.2, rfl, v2, S1.trans hS2⟩⟩
  · have HNO := Lib.hid hno
    clear hno
    go_wp2_with fail
    exact ⟨rfl, .inr ⟨fun h => HNO.out h.1, rfl, v1, S0.trans hS1⟩⟩

def fns (L : List LFn) : List Fn := L.map LFn.f
def AllFn (L : List LFn) (k : Nat) : Prop := ∀ x ∈ L.take k, x.f.ok
theorem allFn_snoc {l : List LFn} {k : Nat} {x : LFn} (h : AllFn l k) (hx : l[k]? = some x) (hk : x.f.ok) : AllFn l (k + 1) := by
  unfold AllFn
  rw [take_snoc l k x hx]
  intro y hy
  rcases List.mem_append.1 hy with hy | hy
  · exact h y hy
  · rw [List.mem_singleton.1 hy]; exact hk

/-- How many bytes, at most, the first k functions take. -/
def room (L : List LFn) : Nat := (L.map fun x => 2 + 8 * x.f.code.length).sum
theorem bytes_room (L : List LFn) : (L.flatMap fun x => x.f.bytes).length = room L := by
  induction L with
  | nil => rfl
  | cons a r ih =>
    rw [List.flatMap_cons, List.length_append, ih]
    simp [room, Fn.bytes, codeBytes, flat_length Ins.bytes 8 Ins.bytes_length]
    omega
theorem room_take (L : List LFn) (k : Nat) (x : LFn) (hx : L[k]? = some x) : room (L.take k) + 2 + 8 * x.f.code.length ≤ room L := by
  have h : room (L.take (k + 1)) = room (L.take k) + (2 + 8 * x.f.code.length) := by
    rw [take_snoc L k x hx]; simp [room]
  have h2 : room L = room (L.take (k + 1)) + room (L.drop (k + 1)) := by
    unfold room
    rw [← List.sum_append, ← List.map_append, List.take_append_drop]
  omega
theorem room_take_le (L : List LFn) (k : Nat) : room (L.take k) ≤ room L := by
  have h2 : room L = room (L.take k) + room (L.drop k) := by
    unfold room
    rw [← List.sum_append, ← List.map_append, List.take_append_drop]
  omega

set_option maxHeartbeats 4000000 in
theorem putF_any (w : World) (base p : Nat) (v : Value) (bs : List Int) (hW : WrIs w base p v bs) (A : Option Addr) (c : Nat) (L : List LFn) (hR : FnRow w (Safe w p v) A L) (hl : bs.length + room L < 998000) (hL : L.length < 1000000) :
    Calls Try.prog 22 #[.pointer (some ⟨p, 0, none⟩), .slice A L.length c, .func (.func 23) #[.pointer (some ⟨p, 0, none⟩)] #[]] w (WPost w base p v bs (progOk (fns L)) (progBytes (fns L))) := by
  have HR := Lib.hid hR
  clear hR
  have hfl : (fns L).length = L.length := by simp [fns]
  have HFL := Lib.hid hfl
  clear hfl
  go_enter Try.func22, Try.ntmps22
  go_wp2_with fail
  refine (small_any w base p v bs hW L.length (by omega)).mono ?_
  rintro e w1 (⟨hok, rfl, v1, hW1, hS1⟩ | ⟨hno, rfl, v1, hS1⟩)
  · have HOK := Lib.hid hok
    clear hok
    go_wp2_with fail
    go_loopw [14] (fun i wr => ∃ k : Nat, k ≤ L.length ∧ i = .int .i64 k ∧ ∃ vk bk, AllFn L k ∧ Hid (bk = bs ++ ((L.length : Int) :: (L.take k).flatMap fun x => x.f.bytes)) ∧ WrIs wr base p vk bk ∧ WSt w wr p v vk) (fun i _ => L.length - (intOf i).toNat)
    case atStart => exact ⟨0, by omega, rfl, v1, _, (fun x hx => by simp at hx), Lib.hid (by simp), hW1, hS1⟩
    case round =>
      obtain ⟨k, hk, rfl, vk, bk, hall, HBK, hWk, hS⟩ := hrel
      by_cases hlt : k < L.length
      · obtain ⟨x, hx⟩ : ∃ x, L[k]? = some x := ⟨_, List.getElem?_eq_getElem hlt⟩
        have hbk : bk.length + 8 * x.f.code.length < 998900 := by
          have := room_take L k x hx
          rw [HBK.out, List.length_append, List.length_cons, bytes_room]
          omega
        have hRk := HR.out.step hS
        obtain ⟨b, off, rfl, hq, d0, d1, hI⟩ := hRk.at_ hx
        have HXK := Lib.hid hx
        have HI := Lib.hid hI
        clear hx hRk hI
        go_wp2_with fail
        refine (fn_any _ base p vk bk (hWk.alloc _) x.f x.A x.c (HI.out.step (WSt.one _)) hbk).mono ?_
        rintro e w2 (⟨hok, rfl, v2, hW2, hS2⟩ | ⟨hno, rfl, v2, hS2⟩)
        · have HOK2 := Lib.hid hok
          clear hok
          go_wp2_with fail
          exact ⟨⟨k + 1, by omega, by go_num, v2, _, allFn_snoc hall HXK.out HOK2.out, Lib.hid (by rw [HBK.out, flat_snoc (fun x => x.f.bytes) L k x HXK.out]; simp), hW2, hS.trans (hS2.pre _)⟩, by simp [intOf]; omega⟩
        · have HNO := Lib.hid hno
          clear hno
          go_wp2_with fail
          exact ⟨rfl, .inr ⟨fun h => HNO.out (h.2 x.f (List.mem_map_of_mem (List.mem_of_getElem? HXK.out))), rfl, v2, hS.trans (hS2.pre _)⟩⟩
      · obtain rfl : k = L.length := by omega
        have hall' : ∀ f ∈ fns L, f.ok := fun f hf => by
          obtain ⟨x, hx, rfl⟩ := List.mem_map.1 hf
          exact hall x (by rw [List.take_length]; exact hx)
        have HF := Lib.hid hall'
        have HK : Hid (progOk (fns L)) := ⟨by rw [HFL.out]; have := HOK.out.2; omega, HF.out⟩
        clear hall hall'
        go_wp2_with fail
        go_end0
        refine .inl ⟨HK.out, rfl, vk, ?_, hS⟩
        rw [HBK.out, List.take_length] at hWk
        have e : progBytes (fns L) = (L.length : Int) :: L.flatMap fun x => x.f.bytes := by
          unfold progBytes; rw [HFL.out]; simp [fns, List.flatMap_map]
        rw [e]
        exact hWk
  · have HNO := Lib.hid hno
    clear hno
    go_wp2_with fail
    exact ⟨rfl, .inr ⟨fun h => HNO.out ⟨by omega, by have := h.1; rw [HFL.out] at this; omega⟩, rfl, v1, hS1⟩⟩

set_option maxHeartbeats 4000000 in
theorem program_any (w : World) (base p : Nat) (v : Value) (bs : List Int) (hW : WrIs w base p v bs) (A : Option Addr) (c : Nat) (L : List LFn) (hR : FnRow w (Safe w p v) A L) (hl : bs.length + room L < 998000) (hL : L.length < 1000000) :
    Calls Try.prog 18 #[.pointer (some ⟨p, 0, none⟩), .slice A L.length c] w (WPost w base p v bs (progOk (fns L)) (progBytes (fns L))) := by
  have HR := Lib.hid hR
  clear hR
  go_enter Try.func18, Try.ntmps18
  go_wp2_with fail
  refine (putF_any w base p v bs hW A c L HR.out hl hL).mono ?_
  rintro e w1 (⟨hok, rfl, v1, hW1, hS1⟩ | ⟨hno, rfl, v1, hS1⟩)
  · have HOK := Lib.hid hok
    clear hok
    go_wp2_with fail
    go_end0
    exact .inl ⟨HOK.out, rfl, v1, hW1, hS1⟩
  · have HNO := Lib.hid hno
    clear hno
    go_wp2_with fail
    exact ⟨rfl, .inr ⟨HNO.out, rfl, v1, hS1⟩⟩
end Go.Proofs.Ytahojahplpcbiaa
