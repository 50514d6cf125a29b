/-
  Rows of rows that the law makes: all empty, and each behind the one ahead of it. No condition.
-/
import Derived.Test.YtdknhiohkicogaaY6
namespace Go.Proofs.Ytdknhiohkicogaa
open Go.RowKit

theorem info_parts {P : Program} {t : TypeId} {z : Value} {s b : Nat} (h : (P.info? t).map (fun i => (i.zero, i.size, i.bytes)) = some (some z, s, b)) : ∃ i, P.info? t = some i ∧ i.zero = some z ∧ i.size = s ∧ i.bytes = b := by
  obtain ⟨i, hi, hx⟩ := Option.map_eq_some_iff.1 h
  simp only [Prod.mk.injEq] at hx
  exact ⟨i, hi, hx.1, hx.2.1, hx.2.2⟩
theorem info_ints : (Try.prog.info? 24).map (fun i => (i.zero, i.size, i.bytes)) = some (some (.slice none 0 0), 1, 24) := by kernel_rfl

theorem make_rows (n : Nat) (hn : n ≤ 1000) (w : World) : (Instr.makeSlice 22 (.int .i64 (n : Int)) (.int .i64 (n : Int))).run Try.prog w = .ok (.slice (some ⟨w.heap.size, 0, none⟩) n n) (w.alloc (.cells (Array.replicate n (Value.slice none 0 0)) 24)) := by
  have hr := run_make (P := Try.prog) w 22 24 _ (.slice none 0 0) Try.underlying22 rfl rfl .i64 .i64 (n : Int) (n : Int) (by omega) (by omega) (by show (24 : Int) * _ ≤ _; omega) (by omega)
  rw [hr]
  simp only [Int.toNat_natCast]
  have e : (madeCells (Value.slice none 0 0).cells (n * 1)) = Array.replicate n (Value.slice none 0 0) := by
    apply Array.ext'
    show (madeCells #[Value.slice none 0 0] (n * 1)).toList = _
    rw [toList_madeCells_one]
    simp
  rw [← e]
  rfl

theorem rows_free {w : World} {b n : Nat} (hb : Blk w b 24 (Array.replicate n (Value.slice none 0 0))) : GrAt w (fun q => q = b) (some ⟨b, 0, none⟩) (gi (List.replicate n [])) := by
  intro i row hi
  have hin : i < n := by have := lt_of hi; rw [gi_length] at this; simpa using this
  rw [gi_at (r := []) (by rw [List.getElem?_replicate, if_pos hin])] at hi
  injection hi with hi
  subst hi
  refine ⟨b, 0, none, 0, rfl, rfl, ?_, Rd.nil⟩
  rw [hb.cell, Nat.zero_add, Array.getElem?_replicate, if_pos hin]
  rfl

/-- The row of steps, each behind the one ahead of it. -/
def lineG (n : Nat) : List (List Nat) := (List.range n).map fun i => if i = 0 then [] else [i - 1]
theorem lineG_length (n : Nat) : (lineG n).length = n := by simp [lineG]
theorem lineG_at {n i : Nat} {row : List Nat} (h : (lineG n)[i]? = some row) : row = if i = 0 then [] else [i - 1] := by
  have hl := lt_of h
  rw [lineG_length] at hl
  rw [lineG, List.getElem?_map, range_at hl] at h
  injection h with h
  exact h.symm
theorem lineG_ahead (n : Nat) : Ahead (lineG n) := by
  intro i row hr a ha
  rw [lineG_at hr] at ha
  split at ha
  · cases ha
  · rw [List.mem_singleton] at ha; omega
theorem few_of {G : List (List Nat)} (hn : G.length ≤ 200) (hr : ∀ row ∈ G, row.length ≤ 1) : Few (gi G) := by
  refine ⟨by rw [gi_length]; omega, fun row h => ?_⟩
  obtain ⟨r, hr', rfl⟩ := List.mem_map.1 h
  rw [ni_length]
  have := hr r hr'
  omega
theorem rowB_of {s : Nat} : ∀ (r : List Nat), r.length ≤ 1 → (∀ a ∈ r, a < s) → rowB (s : Int) 0 (ni r) = true
  | [], _, _ => rfl
  | [a], _, h => by
    have := h a (by simp)
    simp only [ni, List.map_cons, List.map_nil, rowB, Bool.and_true, Bool.and_eq_true, decide_eq_true_eq]
    omega
  | _ :: _ :: _, h, _ => by simp at h
theorem rightFrom_of : ∀ (G : List (List Nat)) (s : Nat), (∀ row ∈ G, row.length ≤ 1) → (∀ (n : Nat) (row : List Nat), G[n]? = some row → ∀ a ∈ row, a < s + n) → rightFrom s (gi G) = true
  | [], _, _, _ => rfl
  | r :: G, s, h1, h2 => by
    show (rowB (s : Int) 0 (ni r) && rightFrom (s + 1) (gi G)) = true
    rw [rowB_of r (h1 r (by simp)) (fun a ha => by have := h2 0 r (by simp) a ha; omega), rightFrom_of G (s + 1) (fun row h => h1 row (by simp [h])) (fun n row hr a ha => by have := h2 (n + 1) row (by simpa using hr) a ha; omega)]
    rfl
theorem right_of {G : List (List Nat)} (h1 : ∀ row ∈ G, row.length ≤ 1) (hA : Ahead G) : rightB (gi G) = true := rightFrom_of G 0 h1 (fun n row hr a ha => by have := hA n row hr a ha; omega)

section
variable {w w' : World} {base base' size size' n n' : Nat} {e e' : TypeId} {v v' : Value} {xs xs' : List Value}
theorem own_ne {t : TypeId} {cs : Array Value} {g : Nat} (h : w.ownsRow base e size v n xs) (hg : Blk w g t cs) (hne : e ≠ t) : v.ownBlock ≠ some g := by
  rcases h.2 with ⟨rfl, _⟩ | ⟨g', cap, cur, rfl, _, hh, _⟩
  · simp [Value.ownBlock]
  · intro he
    have : g' = g := by simpa [Value.ownBlock] using he
    subst this
    exact Blk.ne_ (t := e) hh hg hne rfl
theorem own_fr {B : Nat → Prop} (h : w.ownsRow base e size v n xs) (hf : Fr B w w') (hB : ∀ g, v.ownBlock = some g → ¬ B g) : w'.ownsRow base e size v n xs := by
  refine ⟨h.1, ?_⟩
  rcases h.2 with h2 | ⟨g, cap, cur, hv, hg, hh, r⟩
  · exact .inl h2
  · have hlt : g < w.heap.size := Blk.lt (t := e) hh
    exact .inr ⟨g, cap, cur, hv, hg, (hf.block g hlt (hB g (by rw [hv]; rfl))).trans hh, r⟩
theorem own_low (h : w.ownsRow base e size v n xs) : ∀ g, v.ownBlock = some g → base ≤ g := by
  intro g hg
  rcases h.2 with ⟨rfl, _⟩ | ⟨g1, cap, cur, rfl, hb, h1, _⟩
  · cases hg
  · simp only [Value.ownBlock, Option.some.injEq] at hg
    omega
theorem own_slice (h : w.ownsRow base e size v n xs) : ∃ A c, v = .slice A n c := by
  rcases h.2 with ⟨rfl, rfl⟩ | ⟨g1, cap, cur, rfl, hb, h1, _⟩
  · exact ⟨none, 0, rfl⟩
  · exact ⟨_, cap, rfl⟩
end

/-- What a line's cells are. -/
def LineC (w : World) (base : Nat) (vs : List Value) : Prop := ∀ (i : Nat) (v : Value), vs[i]? = some v → (i = 0 ∧ v = .slice none 0 0) ∨ (0 < i ∧ ∃ b, v = .slice (some ⟨b, 0, none⟩) 1 1 ∧ base ≤ b ∧ Blk w b 3 #[.int .i64 ((i : Int) - 1)])
theorem LineC.fr {w w' : World} {base : Nat} {vs : List Value} {B : Nat → Prop} (h : LineC w base vs) (hf : Fr B w w') (hB : ∀ b cs, Blk w b 3 cs → ¬ B b) : LineC w' base vs := by
  intro i v hi
  rcases h i v hi with h1 | ⟨h1, b, h2, h3, h4⟩
  · exact .inl h1
  · exact .inr ⟨h1, b, h2, h3, h4.fr hf (hB b _ h4)⟩
theorem LineC.gr {w : World} {base n : Nat} {vs : List Value} {A : Option Addr} {c : Nat} (h : LineC w base vs) (ho : w.ownsRow base 24 1 (.slice A n c) n vs) : GrAt w (fun b => base ≤ b) A (gi (lineG n)) := by
  intro i row hi
  have hin : i < n := by have := lt_of hi; rw [gi_length, lineG_length] at this; exact this
  have hvl : vs.length = n := by have := ho.1; omega
  obtain ⟨v, hv⟩ := of_lt (show i < vs.length by omega)
  have hr : row = ni (if i = 0 then [] else [i - 1]) := by
    have : (gi (lineG n))[i]? = some (ni (if i = 0 then [] else [i - 1])) := gi_at (by rw [lineG, List.getElem?_map, range_at hin]; rfl)
    rw [this] at hi
    injection hi with hi
    exact hi.symm
  obtain ⟨b, off, hA, hq, hc⟩ := (Rd.of_own ho).2 (by omega)
  have hci := hc i v hv
  rcases h i v hv with ⟨h1, rfl⟩ | ⟨h1, b2, rfl, h2, h3⟩
  · subst h1
    rw [hr]
    exact ⟨b, off, none, 0, hA, hq.1, hci, Rd.nil⟩
  · rw [hr, if_neg (by omega)]
    refine ⟨b, off, some ⟨b2, 0, none⟩, 1, hA, hq.1, hci, ?_⟩
    have : ic (ni [i - 1]) = [.int .i64 ((i : Int) - 1)] := by
      simp only [ic, ni, List.map_cons, List.map_nil]
      congr 2
      omega
    rw [this]
    exact Rd.of_blk h3 rfl h2
end Go.Proofs.Ytdknhiohkicogaa
