/-
  What the writer's calls do: the bytes that they put behind what was written, or the panic with ErrRange.
-/
import Derived.Test.YtahojahplpcbiaaBase
import Derived.Test.YtahojahplpcbiaaPure
import Derived.Test.YtahojahplpcbiaaProg
import Derived.Outline
import Derived.KernelRfl
import Derived.WalkLawsBesides
import Derived.Deep.RegionLaw
import Derived.Deep.RegionHeld3
namespace Go.Proofs.Ytahojahplpcbiaa
open Go.RowKit

theorem info_u8 : (Try.prog.info? 5).map (fun i => (i.zero, i.size, i.bytes)) = some (some (.int .u8 0), 1, 1) := by kernel_rfl

def by8 (bs : List Int) : List Value := bs.map (Value.int .u8)

/-- The writer at block p: its slice is v, the bytes bs. -/
structure WrIs (w : World) (base p : Nat) (v : Value) (bs : List Int) : Prop where
  hp : Blk w p 54 #[v]
  own : w.ownsRow base 5 1 v bs.length (by8 bs)
  len : bs.length ≤ 1000000
  low : base ≤ w.heap.size

/-- What a writer's call may turn: the writer, its row, and what is new. -/
structure WSt (w w' : World) (p : Nat) (v v' : Value) : Prop where
  fr : Fr (fun k => k = p ∨ v.ownBlock = some k) w w'
  own : ∀ g, v'.ownBlock = some g → v.ownBlock = some g ∨ w.heap.size ≤ g

section
variable {w w' w2 : World} {base p : Nat} {v v' v2 : Value} {bs : List Int}
theorem WSt.refl : WSt w w p v v := ⟨Fr.refl _ _, fun _ h => .inl h⟩
theorem WSt.trans (h : WSt w w' p v v') (k : WSt w' w2 p v' v2) : WSt w w2 p v v2 :=
  ⟨h.fr.then k.fr fun i hi => by
      rcases hi with hi | hi
      · exact .inl (.inl hi)
      · rcases h.own i hi with hi | hi
        · exact .inl (.inr hi)
        · exact .inr hi,
    fun g hg => by
      rcases k.own g hg with hg | hg
      · exact h.own g hg
      · exact .inr (Nat.le_trans h.fr.size hg)⟩
theorem own_ne {t : TypeId} {cs : Array Value} {e : TypeId} {size n g : Nat} {xs : List Value} (h : w.ownsRow base e size v n xs) (hg : Blk w g t cs) (hne : e ≠ t) : v.ownBlock ≠ some g := by
  rcases h.2 with ⟨rfl, _⟩ | ⟨g', cap, cur, rfl, _, hh, _⟩
  · simp [Value.ownBlock]
  · intro he
    have : g' = g := by simpa [Value.ownBlock] using he
    subst this
    exact Blk.ne_ (t := e) hh hg hne rfl
theorem own_fr {B : Nat → Prop} {e : TypeId} {size n : Nat} {xs : List Value} (h : w.ownsRow base e size v n xs) (hf : Fr B w w') (hB : ∀ g, v.ownBlock = some g → ¬ B g) : w'.ownsRow base e size v n xs := by
  refine ⟨h.1, ?_⟩
  rcases h.2 with h2 | ⟨g, cap, cur, hv, hg, hh, r⟩
  · exact .inl h2
  · have hlt : g < w.heap.size := Blk.lt (t := e) hh
    exact .inr ⟨g, cap, cur, hv, hg, (hf.block g hlt (hB g (by rw [hv]; rfl))).trans hh, r⟩
theorem WrIs.fr {B : Nat → Prop} (h : WrIs w base p v bs) (hf : Fr B w w') (hp : ¬ B p) (hB : ∀ g, v.ownBlock = some g → ¬ B g) : WrIs w' base p v bs :=
  ⟨h.hp.fr hf hp, own_fr h.own hf hB, h.len, Nat.le_trans h.low hf.size⟩
theorem WrIs.alloc (h : WrIs w base p v bs) (o : Obj) : WrIs (w.alloc o) base p v bs := h.fr (B := fun _ => False) ((Fr.refl _ _).alloc o) (fun h => h) (fun _ _ h => h)
theorem WSt.alloc (h : WSt w w' p v v') (o : Obj) : WSt w (w'.alloc o) p v v' := ⟨h.fr.alloc o, h.own⟩
theorem WSt.pre (o : Obj) (h : WSt (w.alloc o) w' p v v') : WSt w w' p v v' :=
  ⟨((Fr.refl _ _).alloc o).trans h.fr, fun g hg => (h.own g hg).imp id (fun k => by simp at k; omega)⟩
end

theorem WrIs.appended {w w1 : World} {base p g cap : Nat} {v : Value} {bs : List Int} {n : Int} (hW : WrIs w base p v bs) (o : Obj) (hl : bs.length < 1000000) (hg : (w.alloc o).grownBy w1 v.ownBlock)
    (hown : w1.ownsRow base 5 1 (.slice (some ⟨g, 0, none⟩) (bs.length + 1) cap) (bs.length + 1) (by8 bs ++ [.int .u8 n])) (hor : v.ownBlock = some g ∨ g = w.heap.size + 1) :
    WrIs (w1.setCell ⟨p, 0, none⟩ (.slice (some ⟨g, 0, none⟩) (bs.length + 1) cap)) base p (.slice (some ⟨g, 0, none⟩) (bs.length + 1) cap) (bs ++ [n]) ∧ WSt w (w1.setCell ⟨p, 0, none⟩ (.slice (some ⟨g, 0, none⟩) (bs.length + 1) cap)) p v (.slice (some ⟨g, 0, none⟩) (bs.length + 1) cap) := by
  have hne := own_ne hW.own hW.hp (by decide)
  have hpl := hW.hp.lt
  have hF1 := Fr.grown hg
  have hgp : g ≠ p := by
    rintro rfl
    rcases hor with h | h
    · exact hne h
    · omega
  have hp1 : Blk w1 p 54 #[v] := (hW.hp.alloc o).fr hF1 (fun h => hne h.symm)
  refine ⟨⟨?_, ?_, ?_, ?_⟩, ?_, ?_⟩
  · have := hp1.set_ 0 (.slice (some ⟨g, 0, none⟩) (bs.length + 1) cap)
    simpa using this
  · have h2 := own_fr hown (B := fun k => k = p) ((Fr.refl (fun k => k = p) w1).setCell (p := ⟨p, 0, none⟩) (.inl rfl) (.slice (some ⟨g, 0, none⟩) (bs.length + 1) cap)) (fun g' h' hp' => by
      have : g = g' := by simpa [Value.ownBlock] using h'
      exact hgp (this.trans hp'))
    have e : by8 (bs ++ [n]) = by8 bs ++ [.int .u8 n] := by simp [by8]
    rw [e, List.length_append]
    exact h2
  · simp; omega
  · have h1 := hg.size
    have h2 := hW.low
    simp [World.setCell] at h1 ⊢
    omega
  · have h3 : Fr (fun k => k = p ∨ v.ownBlock = some k) w w1 := (((Fr.refl _ w).alloc o).then hF1 fun i hi => .inl (.inr hi.symm))
    exact h3.setCell (.inl (.inl rfl)) _
  · intro g' h'
    have : g = g' := by simpa [Value.ownBlock] using h'
    subst this
    rcases hor with h | h
    · exact .inl h
    · exact .inr (by omega)

set_option maxHeartbeats 1000000 in
theorem small_ok (w : World) (base p : Nat) (v : Value) (bs : List Int) (hW : WrIs w base p v bs) (n : Int) (h0 : 0 ≤ n) (h1 : n ≤ 255) (hl : bs.length < 1000000) :
    Calls Try.prog 27 #[.pointer (some ⟨p, 0, none⟩), .int .i64 n] w fun e w' => e = .returned (.tuple #[]) ∧ ∃ v', WrIs w' base p v' (bs ++ [n]) ∧ WSt w w' p v v' := by
  obtain ⟨i0, hi, hz0, hz1, hz2⟩ := info_parts info_u8
  have c0 : w.cell? ⟨p, 0, none⟩ = some v := by rw [hW.hp.cell]; rfl
  have f0 := hW.hp.frozen 0
  have hpl := hW.hp.lt
  have hne := own_ne hW.own hW.hp (by decide)
  have hlow := hW.low
  go_enter Try.func27, Try.ntmps27
  go_wp2_with (at_builtin; refine wpList_append_lies _ rfl (.tmp 15) (.tmp 18) 24 rfl base 5 i0 (.int .u8 0) 1 1 Try.underlying24 hi hz0 hz1 hz2 rfl (by decide) v bs.length (by8 bs) rfl (hW.alloc _).own ⟨w.heap.size, 0, none⟩ 1 1 [.int .u8 n] rfl rfl ?c1 ?c2 (by decide) ?c3 ?c4 ?c5 (w.heap.size + 1) ?c6 ?_)
  case c1 => intro j u hj; exact World.news_of_block (heap_alloc_new w _) j u hj
  case c2 => intro u hu; simp at hu; subst hu; rfl
  case c3 => unfold maxLen; omega
  case c4 => omega
  case c5 => simp; omega
  case c6 => simp
  intro g cap w1 hown hg hor hlt
  have HO := Lib.hid hor
  clear hor
  have hc1 : w1.cell? ⟨p, 0, none⟩ = some v := hg.cell (by rw [World.cell?_alloc_lt _ _ _ hpl]; exact c0) (fun h => hne h.symm)
  have hf1 : w1.frozen? ⟨p, 0, none⟩ = false := by rw [World.frozen?_of_block (hg.block p (by simp; omega) (fun h => hne h.symm))]; exact (hW.alloc _).hp.frozen 0
  go_wp2
  go_end0
  obtain ⟨r1, r2⟩ := hW.appended _ hl hg hown HO.out
  exact ⟨rfl, _, r1, r2⟩

theorem small_no (w : World) (p : Nat) (n : Int) (h : n < 0 ∨ 255 < n) :
    Calls Try.prog 27 #[.pointer (some ⟨p, 0, none⟩), .int .i64 n] w fun e w' => e = .panicked [{ v := .iface 25 (.int .i64 6), recovered := false }] ∧ w = w' := by
  rcases h with h | h
  · go_enter Try.func27, Try.ntmps27
    go_wp2
    exact ⟨rfl, rfl, rfl⟩
  · have h0 : ¬ n < 0 := by omega
    go_enter Try.func27, Try.ntmps27
    go_wp2
    exact ⟨rfl, rfl, rfl⟩

theorem kb0_eq (n : Int) : IntKind.u8.wrap n = kb n 0 := by rw [IntKind.wrap_u8]; simp [kb]
theorem kb1_eq (n : Int) : IntKind.u8.wrap (n / 256) = kb n 1 := by rw [IntKind.wrap_u8]; simp [kb]
theorem kb2_eq (n : Int) : IntKind.u8.wrap (n / 65536) = kb n 2 := by rw [IntKind.wrap_u8]; simp [kb]
theorem kb3_eq (n : Int) : IntKind.u8.wrap (n / 16777216) = kb n 3 := by rw [IntKind.wrap_u8]; simp [kb]

set_option maxHeartbeats 2000000 in
theorem wide_ok (w : World) (base p : Nat) (v : Value) (bs : List Int) (hW : WrIs w base p v bs) (n : Int) (h0 : -2147483648 ≤ n) (h1 : n ≤ 2147483647) (hl : bs.length < 999990) :
    Calls Try.prog 32 #[.pointer (some ⟨p, 0, none⟩), .int .i64 n] w fun e w' => e = .returned (.tuple #[]) ∧ ∃ v', WrIs w' base p v' (bs ++ [kb n 0, kb n 1, kb n 2, kb n 3]) ∧ WSt w w' p v v' := by
  obtain ⟨i0, hi, hz0, hz1, hz2⟩ := info_parts info_u8
  go_enter Try.func32, Try.ntmps32
  go_wp2
  go_loopw [4] (fun i wr => ∃ k : Nat, k ≤ 4 ∧ i = .int .i64 (8 * k : Nat) ∧ ∃ vk bk, Hid (bk = bs ++ ((List.range k).map (kb n))) ∧ WrIs wr base p vk bk ∧ WSt w wr p v vk) (fun i _ => 32 - (intOf i).toNat)
  case atStart => exact ⟨0, by omega, rfl, v, bs, Lib.hid (by simp), hW, WSt.refl⟩
  case round =>
    obtain ⟨k, hk, rfl, vk, bk, HBK, hWk, hS⟩ := hrel
    by_cases hlt : k < 4
    · have c0 : wr.cell? ⟨p, 0, none⟩ = some vk := by rw [hWk.hp.cell]; rfl
      have f0 := hWk.hp.frozen 0
      have hpl := hWk.hp.lt
      have hne := own_ne hWk.own hWk.hp (by decide)
      have hlow := hWk.low
      have hlen := hWk.len
      have hlen2 : bk.length < 1000000 := by rw [HBK.out]; simp; omega
      obtain rfl | rfl | rfl | rfl : k = 0 ∨ k = 1 ∨ k = 2 ∨ k = 3 := by omega
      · rw [show ((8 * 0 : Nat) : Int) = 0 from rfl]
        go_wp2
        go_region_law (refine step_append_lies _ rfl (.tmp 20) (.tmp 25) 24 rfl base 5 i0 (.int .u8 0) 1 1 Try.underlying24 hi hz0 hz1 hz2 rfl (by decide) vk _ _ rfl (by exact (hWk.alloc _).own) ⟨wr.heap.size, 0, none⟩ 1 1 [.int .u8 (IntKind.u8.wrap n)] rfl rfl (by exact fun j u hj => World.news_of_block (heap_alloc_new wr _) j u hj) (by intro u hu; simp at hu; subst hu; rfl) (by decide) (by unfold maxLen; omega) (by omega) (by simp; omega) (wr.heap.size + 1) (by simp) ?_; intro g cap w1 hown hg hor hlt2; have HO := Lib.hid hor; clear hor; have hc1 : w1.cell? ⟨p, 0, none⟩ = some vk := (hg.cell (by exact (World.cell?_alloc_lt _ _ _ hpl).trans c0) (fun h => hne h.symm)); have hf1 : w1.frozen? ⟨p, 0, none⟩ = false := (by rw [World.frozen?_of_block (hg.block p (by simp; omega) (fun h => hne h.symm))]; exact (hWk.alloc _).hp.frozen 0))
        all_goals have HG := Lib.hid (show (wr.alloc _).grownBy w1 vk.ownBlock from ⟨hg.os, hg.tape, hg.output, hg.size, hg.block⟩)
        all_goals clear hg
        all_goals go_wp2
        all_goals have HA := hWk.appended _ (by omega) HG.out hown HO.out
        all_goals rw [kb0_eq] at HA
        all_goals exact ⟨⟨1, by omega, by go_num, _, _, Lib.hid (by rw [HBK.out]; simp [List.range_succ]), HA.1, hS.trans HA.2⟩, by simp [intOf]⟩
      · rw [show ((8 * 1 : Nat) : Int) = 8 from rfl]
        go_wp2
        go_region_law (refine step_append_lies _ rfl (.tmp 20) (.tmp 25) 24 rfl base 5 i0 (.int .u8 0) 1 1 Try.underlying24 hi hz0 hz1 hz2 rfl (by decide) vk _ _ rfl (by exact (hWk.alloc _).own) ⟨wr.heap.size, 0, none⟩ 1 1 [.int .u8 (IntKind.u8.wrap (n / 256))] rfl rfl (by exact fun j u hj => World.news_of_block (heap_alloc_new wr _) j u hj) (by intro u hu; simp at hu; subst hu; rfl) (by decide) (by unfold maxLen; omega) (by omega) (by simp; omega) (wr.heap.size + 1) (by simp) ?_; intro g cap w1 hown hg hor hlt2; have HO := Lib.hid hor; clear hor; have hc1 : w1.cell? ⟨p, 0, none⟩ = some vk := (hg.cell (by exact (World.cell?_alloc_lt _ _ _ hpl).trans c0) (fun h => hne h.symm)); have hf1 : w1.frozen? ⟨p, 0, none⟩ = false := (by rw [World.frozen?_of_block (hg.block p (by simp; omega) (fun h => hne h.symm))]; exact (hWk.alloc _).hp.frozen 0))
        all_goals have HG := Lib.hid (show (wr.alloc _).grownBy w1 vk.ownBlock from ⟨hg.os, hg.tape, hg.output, hg.size, hg.block⟩)
        all_goals clear hg
        all_goals go_wp2
        all_goals have HA := hWk.appended _ (by omega) HG.out hown HO.out
        all_goals rw [kb1_eq] at HA
        all_goals exact ⟨⟨2, by omega, by go_num, _, _, Lib.hid (by rw [HBK.out]; simp [List.range_succ]), HA.1, hS.trans HA.2⟩, by simp [intOf]⟩
      · rw [show ((8 * 2 : Nat) : Int) = 16 from rfl]
        go_wp2
        go_region_law (refine step_append_lies _ rfl (.tmp 20) (.tmp 25) 24 rfl base 5 i0 (.int .u8 0) 1 1 Try.underlying24 hi hz0 hz1 hz2 rfl (by decide) vk _ _ rfl (by exact (hWk.alloc _).own) ⟨wr.heap.size, 0, none⟩ 1 1 [.int .u8 (IntKind.u8.wrap (n / 65536))] rfl rfl (by exact fun j u hj => World.news_of_block (heap_alloc_new wr _) j u hj) (by intro u hu; simp at hu; subst hu; rfl) (by decide) (by unfold maxLen; omega) (by omega) (by simp; omega) (wr.heap.size + 1) (by simp) ?_; intro g cap w1 hown hg hor hlt2; have HO := Lib.hid hor; clear hor; have hc1 : w1.cell? ⟨p, 0, none⟩ = some vk := (hg.cell (by exact (World.cell?_alloc_lt _ _ _ hpl).trans c0) (fun h => hne h.symm)); have hf1 : w1.frozen? ⟨p, 0, none⟩ = false := (by rw [World.frozen?_of_block (hg.block p (by simp; omega) (fun h => hne h.symm))]; exact (hWk.alloc _).hp.frozen 0))
        all_goals have HG := Lib.hid (show (wr.alloc _).grownBy w1 vk.ownBlock from ⟨hg.os, hg.tape, hg.output, hg.size, hg.block⟩)
        all_goals clear hg
        all_goals go_wp2
        all_goals have HA := hWk.appended _ (by omega) HG.out hown HO.out
        all_goals rw [kb2_eq] at HA
        all_goals exact ⟨⟨3, by omega, by go_num, _, _, Lib.hid (by rw [HBK.out]; simp [List.range_succ]), HA.1, hS.trans HA.2⟩, by simp [intOf]⟩
      · rw [show ((8 * 3 : Nat) : Int) = 24 from rfl]
        go_wp2
        go_region_law (refine step_append_lies _ rfl (.tmp 20) (.tmp 25) 24 rfl base 5 i0 (.int .u8 0) 1 1 Try.underlying24 hi hz0 hz1 hz2 rfl (by decide) vk _ _ rfl (by exact (hWk.alloc _).own) ⟨wr.heap.size, 0, none⟩ 1 1 [.int .u8 (IntKind.u8.wrap (n / 16777216))] rfl rfl (by exact fun j u hj => World.news_of_block (heap_alloc_new wr _) j u hj) (by intro u hu; simp at hu; subst hu; rfl) (by decide) (by unfold maxLen; omega) (by omega) (by simp; omega) (wr.heap.size + 1) (by simp) ?_; intro g cap w1 hown hg hor hlt2; have HO := Lib.hid hor; clear hor; have hc1 : w1.cell? ⟨p, 0, none⟩ = some vk := (hg.cell (by exact (World.cell?_alloc_lt _ _ _ hpl).trans c0) (fun h => hne h.symm)); have hf1 : w1.frozen? ⟨p, 0, none⟩ = false := (by rw [World.frozen?_of_block (hg.block p (by simp; omega) (fun h => hne h.symm))]; exact (hWk.alloc _).hp.frozen 0))
        all_goals have HG := Lib.hid (show (wr.alloc _).grownBy w1 vk.ownBlock from ⟨hg.os, hg.tape, hg.output, hg.size, hg.block⟩)
        all_goals clear hg
        all_goals go_wp2
        all_goals have HA := hWk.appended _ (by omega) HG.out hown HO.out
        all_goals rw [kb3_eq] at HA
        all_goals exact ⟨⟨4, by omega, by go_num, _, _, Lib.hid (by rw [HBK.out]; simp [List.range_succ]), HA.1, hS.trans HA.2⟩, by simp [intOf]⟩
    · obtain rfl : k = 4 := by omega
      go_wp2
      go_end0
      rw [HBK.out] at hWk
      exact ⟨rfl, vk, hWk, hS⟩
end Go.Proofs.Ytahojahplpcbiaa
