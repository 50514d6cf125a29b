/-
  Rows of functions, of instructions and of numbers that were laid in blocks of their own; what a result's rows hold.
-/
import Derived.Test.YtbhnnnpofindiaaDoorAwkE
import Derived.Test.YtbhnnnpofindiaaDoorPureU
import Derived.OpenShut
namespace Go.Proofs.YtbhnnnpofindiaaDoor
open Go.RowKit

theorem sz (w : World) (o : Obj) : (w.alloc o).heap.size = w.heap.size + 1 := by simp
theorem addr_add (g j : Nat) : (⟨g, 0, none⟩ : Addr).add j = ⟨g, j, none⟩ := by unfold Addr.add; split <;> simp_all
theorem ins_row {W : World} {g : Nat} {l : List Ins} (h : Blk W g 55 (l.flatMap Ins.cells).toArray) : InsRow W (fun b => b < W.heap.size) (some ⟨g, 0, none⟩) l :=
  Rd.of_blk (t := 55) h (flat_length Ins.cells 5 Ins.cells_length l) h.lt
theorem fn_row {W : World} {g : Nat} {L : List LFn} (h : Blk W g 58 (L.flatMap LFn.cells).toArray) (hc : ∀ x ∈ L, InsRow W (fun b => b < W.heap.size) x.A x.f.code) : FnRow W (fun b => b < W.heap.size) (some ⟨g, 0, none⟩) L :=
  ⟨Rd.of_blk (t := 58) h (flat_length LFn.cells 2 LFn.cells_length L) h.lt, hc⟩
theorem own_rd {w : World} {base : Nat} {e : TypeId} {size : Nat} {A : Option Addr} {n c : Nat} {xs : List Value} (h : w.ownsRow base e size (.slice A n c) n xs) : Rd w (fun b => b < w.heap.size) size A n xs := by
  refine ⟨h.1, fun hn => ?_⟩
  obtain ⟨g, cap, hv, _, hlt⟩ := h.form hn
  cases hv
  refine ⟨g, 0, rfl, hlt, fun j u hu => ?_⟩
  have := h.cells (g := g) rfl j u hu
  rw [Nat.zero_add]
  rwa [addr_add] at this
theorem ins_one (l : List Ins) : ∀ u ∈ l.flatMap Ins.cells, u.oneCell' = true := fun u hu => by
  obtain ⟨x, _, hx⟩ := List.mem_flatMap.1 hu
  simp [Ins.cells] at hx
  rcases hx with rfl | rfl | rfl | rfl | rfl <;> rfl

/-- A function whose code was grown, and two that were laid behind it. -/
theorem row3 (W : World) (base : Nat) (A : Option Addr) (n c : Nat) (l0 l1 l2 : List Ins) (n1 n2 : Nat) (c1 c2 cf : Array Value) (v : Value) (ca : Array Value)
    (hown : W.ownsRow base 55 5 (.slice A n c) n (l0.flatMap Ins.cells)) (h0 : l0.length = n) (h1 : l1.length = n1) (h2 : l2.length = n2) (e1 : c1 = (l1.flatMap Ins.cells).toArray) (e2 : c2 = (l2.flatMap Ins.cells).toArray)
    (ef : cf = #[.int .i64 1, .slice A n c, .int .i64 1, .slice (some ⟨W.heap.size, 0, none⟩) n1 n1, .int .i64 1, .slice (some ⟨W.heap.size + 1, 0, none⟩) n2 n2]) (ea : ca = #[v]) :
    FnRow ((((W.alloc (.cells c1 55)).alloc (.cells c2 55)).alloc (.cells cf 58)).alloc (.cells ca 2)) (fun b => b < ((((W.alloc (.cells c1 55)).alloc (.cells c2 55)).alloc (.cells cf 58)).alloc (.cells ca 2)).heap.size) (some ⟨W.heap.size + 2, 0, none⟩)
      [⟨⟨1, l0⟩, A, c⟩, ⟨⟨1, l1⟩, some ⟨W.heap.size, 0, none⟩, n1⟩, ⟨⟨1, l2⟩, some ⟨W.heap.size + 1, 0, none⟩, n2⟩] ∧
    Blk ((((W.alloc (.cells c1 55)).alloc (.cells c2 55)).alloc (.cells cf 58)).alloc (.cells ca 2)) (W.heap.size + 3) 2 #[v] ∧
    Fr None' W ((((W.alloc (.cells c1 55)).alloc (.cells c2 55)).alloc (.cells cf 58)).alloc (.cells ca 2)) := by
  subst h0 h1 h2 e1 e2 ef ea
  have hF : Fr None' W ((((W.alloc (.cells (l1.flatMap Ins.cells).toArray 55)).alloc (.cells (l2.flatMap Ins.cells).toArray 55)).alloc (.cells #[.int .i64 1, .slice A l0.length c, .int .i64 1, .slice (some ⟨W.heap.size, 0, none⟩) l1.length l1.length, .int .i64 1, .slice (some ⟨W.heap.size + 1, 0, none⟩) l2.length l2.length] 58)).alloc (.cells #[v] 2)) := ((((Fr.refl _ _).alloc _).alloc _).alloc _).alloc _
  have b1 := (((Blk.new W 55 (l1.flatMap Ins.cells).toArray).alloc (.cells (l2.flatMap Ins.cells).toArray 55)).alloc (.cells #[.int .i64 1, .slice A l0.length c, .int .i64 1, .slice (some ⟨W.heap.size, 0, none⟩) l1.length l1.length, .int .i64 1, .slice (some ⟨W.heap.size + 1, 0, none⟩) l2.length l2.length] 58)).alloc (.cells #[v] 2)
  have b2 := ((Blk.new (W.alloc (.cells (l1.flatMap Ins.cells).toArray 55)) 55 (l2.flatMap Ins.cells).toArray).alloc (.cells #[.int .i64 1, .slice A l0.length c, .int .i64 1, .slice (some ⟨W.heap.size, 0, none⟩) l1.length l1.length, .int .i64 1, .slice (some ⟨W.heap.size + 1, 0, none⟩) l2.length l2.length] 58)).alloc (.cells #[v] 2)
  have b3 := (Blk.new ((W.alloc (.cells (l1.flatMap Ins.cells).toArray 55)).alloc (.cells (l2.flatMap Ins.cells).toArray 55)) 58 #[.int .i64 1, .slice A l0.length c, .int .i64 1, .slice (some ⟨W.heap.size, 0, none⟩) l1.length l1.length, .int .i64 1, .slice (some ⟨W.heap.size + 1, 0, none⟩) l2.length l2.length]).alloc (.cells #[v] 2)
  have b4 := Blk.new (((W.alloc (.cells (l1.flatMap Ins.cells).toArray 55)).alloc (.cells (l2.flatMap Ins.cells).toArray 55)).alloc (.cells #[.int .i64 1, .slice A l0.length c, .int .i64 1, .slice (some ⟨W.heap.size, 0, none⟩) l1.length l1.length, .int .i64 1, .slice (some ⟨W.heap.size + 1, 0, none⟩) l2.length l2.length] 58)) 2 #[v]
  rw [sz] at b2
  rw [sz, sz] at b3
  rw [sz, sz, sz] at b4
  refine ⟨fn_row (L := [⟨⟨1, l0⟩, A, c⟩, ⟨⟨1, l1⟩, some ⟨W.heap.size, 0, none⟩, l1.length⟩, ⟨⟨1, l2⟩, some ⟨W.heap.size + 1, 0, none⟩, l2.length⟩]) b3 (fun x hx => ?_), b4, hF⟩
  simp only [List.mem_cons, List.not_mem_nil, or_false] at hx
  rcases hx with rfl | rfl | rfl
  · exact ((own_rd hown).fr hF (fun _ _ h => h)).mono (fun _ hb => Nat.lt_of_lt_of_le hb hF.size)
  · exact ins_row b1
  · exact ins_row b2
theorem ints_row {W : World} {g : Nat} {xs : List Int} (h : Blk W g 2 (ints xs).toArray) : IntsA W (some ⟨g, 0, none⟩) xs := fun _ =>
  ⟨g, 0, rfl, fun j x hx => by rw [Nat.zero_add, h.cell]; simp [ints, hx]⟩

theorem ResAt.told_form {w : World} {base : Nat} {tv lv : Value} {told : List Int} {log : List (List Int × Int)} (h : ResAt w base tv lv told log) (hn : 0 < told.length) :
    ∃ g c, tv = .slice (some ⟨g, 0, none⟩) told.length c ∧ g < w.heap.size ∧ ∀ i x, told[i]? = some x → w.cell? ⟨g, i, none⟩ = some (.int .i64 x) := by
  obtain ⟨g, c, hv, _, hl⟩ := h.1.form hn
  refine ⟨g, c, hv, hl, fun i x hx => ?_⟩
  have := h.1.cells (g := g) (by rw [hv]; rfl) i (.int .i64 x) (by simp [ints, hx])
  rwa [addr_add] at this
theorem ResAt.log_form {w : World} {base : Nat} {tv lv : Value} {told : List Int} {log : List (List Int × Int)} (h : ResAt w base tv lv told log) (hn : 0 < log.length) :
    ∃ g c, lv = .slice (some ⟨g, 0, none⟩) log.length c ∧ g < w.heap.size ∧ ∀ i p s, log[i]? = some (p, s) → ∃ A k, w.cell? ⟨g, i * 2, none⟩ = some (.slice A p.length k) ∧ w.cell? ⟨g, i * 2 + 1, none⟩ = some (.int .i64 s) ∧ PInts w A p := by
  obtain ⟨_, ll, hll, hlo, hp⟩ := h
  have hlen : ll.length = log.length := by rw [← hll, List.length_map]
  obtain ⟨g, c, hv, _, hl⟩ := hlo.form (by omega)
  refine ⟨g, c, by rw [← hlen]; exact hv, hl, fun i p s hi => ?_⟩
  rw [← hll, List.getElem?_map] at hi
  cases hx : ll[i]? with
  | none => rw [hx] at hi; cases hi
  | some x =>
    rw [hx] at hi
    obtain ⟨rfl, rfl⟩ : x.path = p ∧ x.steps = s := by
      have := Option.some.inj hi
      simp [LEnt.pure] at this
      exact this
    have c0 := hlo.cells (g := g) (by rw [hv]; rfl) (i * 2 + 0) (.slice x.A x.path.length x.c) (by rw [flat_at LEnt.cells 2 LEnt.cells_length ll i 0 x hx (by omega)]; rfl)
    have c1 := hlo.cells (g := g) (by rw [hv]; rfl) (i * 2 + 1) (.int .i64 x.steps) (by rw [flat_at LEnt.cells 2 LEnt.cells_length ll i 1 x hx (by omega)]; rfl)
    rw [addr_add] at c0 c1
    refine ⟨x.A, x.c, by simpa using c0, c1, hp x (List.mem_of_getElem? hx)⟩

/-- A run from its beginning, told as a result. -/
theorem evalR_begun {fs : List Fn} {args : List Int} {bud dep most : Int} (h : rightB fs args.length bud dep = true) : evalR fs args bud dep most = resOf (begun fs args bud dep most) := by
  unfold evalR
  rw [if_pos h]
  rfl

/-- What is left of a small number. -/
theorem rem_nat (y n : Nat) (hy : y < 4294967296) (hn : 0 < n) : ∃ d : Nat, (wrap64 (y : Int)).tmod (n : Int) = (d : Int) ∧ d < n := by
  refine ⟨y % n, ?_, Nat.mod_lt _ hn⟩
  rw [show wrap64 (y : Int) = (y : Int) by unfold wrap64; omega]
  rw [Int.tmod_eq_emod_of_nonneg (by omega), Int.natCast_emod]
theorem rem_u8 (x : Int) (hx : (Lit.int .u8 x).wf = true) (n : Nat) (hn : 0 < n) : ∃ y d : Nat, x = (y : Int) ∧ (wrap64 (y : Int)).tmod (n : Int) = (d : Int) ∧ d < n := by
  have hb := bounds_u8 hx
  obtain ⟨y, rfl⟩ : ∃ y : Nat, x = y := ⟨x.toNat, by omega⟩
  obtain ⟨d, h1, h2⟩ := rem_nat y n (by omega) hn
  exact ⟨y, d, rfl, h1, h2⟩
theorem rem_u16 (x : Int) (hx : (Lit.int .u16 x).wf = true) (n : Nat) (hn : 0 < n) : ∃ y d : Nat, x = (y : Int) ∧ (wrap64 (y : Int)).tmod (n : Int) = (d : Int) ∧ d < n := by
  have hb := bounds_u16 hx
  obtain ⟨y, rfl⟩ : ∃ y : Nat, x = y := ⟨x.toNat, by omega⟩
  obtain ⟨d, h1, h2⟩ := rem_nat y n (by omega) hn
  exact ⟨y, d, rfl, h1, h2⟩
end Go.Proofs.YtbhnnnpofindiaaDoor
