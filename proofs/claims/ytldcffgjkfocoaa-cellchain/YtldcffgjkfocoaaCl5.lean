/-
  Layer 13: the document's move of an operation is the plain machine's.
-/
import Derived.Test.YtldcffgjkfocoaaCl4
import Derived.Test.YtldcffgjkfocoaaPureI
namespace Go.Proofs.Ytldcffgjkfocoaa
open Go.RowKit

/-- The struct World: the memory, the cell at 2, the document's words, all operations. -/
def vcl (p : Nat) (H Va Y : Int) (L : Nat) (os rs : List Value) : Array Value :=
  (.pointer (some ⟨p, 0, none⟩) :: .int .i64 2 :: .int .i64 H :: .int .i64 Va :: .int .i64 Y :: .slice (some ⟨L, 0, none⟩) 6 6 :: (os ++ rs)).toArray
def rcl (x nx h val why : Int) (en q : Bool) (f : Int) : Array Value := #[.int .i64 x, .int .i64 nx, .int .i64 h, .int .i64 val, .int .i64 why, .bool en, .bool q, .int .i64 f]
def lcl (ls : List Int) : Array Value := (ls.map fun x => Value.int .i64 x).toArray
theorem lcl_get (ls : List Int) (j : Nat) (n : Int) (h : ls[j]? = some n) : (lcl ls)[j]? = some (.int .i64 n) := by simp [lcl, h]
theorem lcl_set (ls : List Int) (j : Nat) (n : Int) : (lcl ls).setIfInBounds j (.int .i64 n) = lcl (ls.set j n) := by simp [lcl, List.map_set]
/-- What turns: the struct, the row of links, the operation. -/
abbrev Tri (V L R : Nat) : Nat → Prop := fun k => k = V ∨ k = L ∨ k = R

set_option maxHeartbeats 4000000 in
theorem r_w0y (w : World) (V L R p : Nat) (H Va Y : Int) (os rs : List Value) (ls : List Int) (x : Int) (h val why f : Int) (hV : Blk w V 42 (vcl p H Va Y L os rs)) (hL : Blk w L 2 (lcl ls)) (hR : Blk w R 30 (rcl x 0 h val why false false f)) (hx : 0 < x) (hH : H = -1) :
    Calls Try.prog 19 #[.pointer (some ⟨V, 2, none⟩), .pointer (some ⟨R, 0, none⟩)] w fun e w' => e = .returned (.tuple #[]) ∧ Blk w' V 42 (vcl p H Va Y L os rs) ∧ Blk w' L 2 (lcl ls) ∧ Blk w' R 30 (rcl x 3 H val why false false f) ∧ Fr (Tri V L R) w w' := by
  have hVL : V ≠ L := Blk.ne_ hV hL (by decide)
  have hVR : V ≠ R := Blk.ne_ hV hR (by decide)
  have hLR : L ≠ R := Blk.ne_ hL hR (by decide)
  have v2 : w.cell? ⟨V, 2, none⟩ = some (.int .i64 H) := by rw [hV.cell]; rfl
  have v3 : w.cell? ⟨V, 3, none⟩ = some (.int .i64 Va) := by rw [hV.cell]; rfl
  have v4 : w.cell? ⟨V, 4, none⟩ = some (.int .i64 Y) := by rw [hV.cell]; rfl
  have v5 : w.cell? ⟨V, 5, none⟩ = some (.slice (some ⟨L, 0, none⟩) 6 6) := by rw [hV.cell]; rfl
  have r0 : w.cell? ⟨R, 0, none⟩ = some (.int .i64 x) := by rw [hR.cell]; rfl
  have r1 : w.cell? ⟨R, 1, none⟩ = some (.int .i64 0) := by rw [hR.cell]; rfl
  have r2 : w.cell? ⟨R, 2, none⟩ = some (.int .i64 h) := by rw [hR.cell]; rfl
  have r3 : w.cell? ⟨R, 3, none⟩ = some (.int .i64 val) := by rw [hR.cell]; rfl
  have r4 : w.cell? ⟨R, 4, none⟩ = some (.int .i64 why) := by rw [hR.cell]; rfl
  have r5 : w.cell? ⟨R, 5, none⟩ = some (.bool false) := by rw [hR.cell]; rfl
  have r6 : w.cell? ⟨R, 6, none⟩ = some (.bool false) := by rw [hR.cell]; rfl
  have r7 : w.cell? ⟨R, 7, none⟩ = some (.int .i64 f) := by rw [hR.cell]; rfl
  have fv2 := hV.frozen 2
  have fv3 := hV.frozen 3
  have fv4 := hV.frozen 4
  have fr1 := hR.frozen 1
  have fr2 := hR.frozen 2
  have fr3 := hR.frozen 3
  have fr4 := hR.frozen 4
  have fr5 := hR.frozen 5
  have fr6 := hR.frozen 6
  have fr7 := hR.frozen 7
  have q1 : (H == -1) = true := by simpa using hH
  have HV := Lib.hid hV
  have HL := Lib.hid hL
  have HR := Lib.hid hR
  clear hV hL hR
  clear hH
  go_enter Try.func19, Try.ntmps19
  go_wp2_with fail
  (try simp only [Exit.inBlock, Exit.then])
  refine bodyPost_ret (results_none rfl _ _ _) rfl ?_
  obtain ⟨w2, hw2⟩ : ∃ w2, w2 = (((w.setCell ⟨R, 1, none⟩ (.int .i64 1)).setCell ⟨R, 2, none⟩ (.int .i64 H)).setCell ⟨R, 1, none⟩ (.int .i64 3)) := ⟨_, rfl⟩
  rw [← hw2]
  refine ⟨rfl, ?_, ?_, ?_, by rw [hw2]; exact ((((Fr.refl (Tri V L R) w).setCell (p := ⟨R, 1, none⟩) (.inl (.inr (.inr rfl))) (.int .i64 1)).setCell (p := ⟨R, 2, none⟩) (.inl (.inr (.inr rfl))) (.int .i64 H)).setCell (p := ⟨R, 1, none⟩) (.inl (.inr (.inr rfl))) (.int .i64 3))⟩
  · rw [hw2]
    have := (((HV.out.far (p := ⟨R, 1, none⟩) hVR (.int .i64 1)).far (p := ⟨R, 2, none⟩) hVR (.int .i64 H)).far (p := ⟨R, 1, none⟩) hVR (.int .i64 3))
    simpa [vcl] using this
  · rw [hw2]
    have := (((HL.out.far (p := ⟨R, 1, none⟩) hLR (.int .i64 1)).far (p := ⟨R, 2, none⟩) hLR (.int .i64 H)).far (p := ⟨R, 1, none⟩) hLR (.int .i64 3))
    exact this
  · rw [hw2]
    have := (((HR.out.set_ 1 (.int .i64 1)).set_ 2 (.int .i64 H)).set_ 1 (.int .i64 3))
    simpa [rcl] using this

set_option maxHeartbeats 4000000 in
theorem r_w0n (w : World) (V L R p : Nat) (H Va Y : Int) (os rs : List Value) (ls : List Int) (x : Int) (h val why f : Int) (hV : Blk w V 42 (vcl p H Va Y L os rs)) (hL : Blk w L 2 (lcl ls)) (hR : Blk w R 30 (rcl x 0 h val why false false f)) (hx : 0 < x) (hH : H ≠ -1) :
    Calls Try.prog 19 #[.pointer (some ⟨V, 2, none⟩), .pointer (some ⟨R, 0, none⟩)] w fun e w' => e = .returned (.tuple #[]) ∧ Blk w' V 42 (vcl p H Va Y L os rs) ∧ Blk w' L 2 (lcl ls) ∧ Blk w' R 30 (rcl x 1 H val why false false f) ∧ Fr (Tri V L R) w w' := by
  have hVL : V ≠ L := Blk.ne_ hV hL (by decide)
  have hVR : V ≠ R := Blk.ne_ hV hR (by decide)
  have hLR : L ≠ R := Blk.ne_ hL hR (by decide)
  have v2 : w.cell? ⟨V, 2, none⟩ = some (.int .i64 H) := by rw [hV.cell]; rfl
  have v3 : w.cell? ⟨V, 3, none⟩ = some (.int .i64 Va) := by rw [hV.cell]; rfl
  have v4 : w.cell? ⟨V, 4, none⟩ = some (.int .i64 Y) := by rw [hV.cell]; rfl
  have v5 : w.cell? ⟨V, 5, none⟩ = some (.slice (some ⟨L, 0, none⟩) 6 6) := by rw [hV.cell]; rfl
  have r0 : w.cell? ⟨R, 0, none⟩ = some (.int .i64 x) := by rw [hR.cell]; rfl
  have r1 : w.cell? ⟨R, 1, none⟩ = some (.int .i64 0) := by rw [hR.cell]; rfl
  have r2 : w.cell? ⟨R, 2, none⟩ = some (.int .i64 h) := by rw [hR.cell]; rfl
  have r3 : w.cell? ⟨R, 3, none⟩ = some (.int .i64 val) := by rw [hR.cell]; rfl
  have r4 : w.cell? ⟨R, 4, none⟩ = some (.int .i64 why) := by rw [hR.cell]; rfl
  have r5 : w.cell? ⟨R, 5, none⟩ = some (.bool false) := by rw [hR.cell]; rfl
  have r6 : w.cell? ⟨R, 6, none⟩ = some (.bool false) := by rw [hR.cell]; rfl
  have r7 : w.cell? ⟨R, 7, none⟩ = some (.int .i64 f) := by rw [hR.cell]; rfl
  have fv2 := hV.frozen 2
  have fv3 := hV.frozen 3
  have fv4 := hV.frozen 4
  have fr1 := hR.frozen 1
  have fr2 := hR.frozen 2
  have fr3 := hR.frozen 3
  have fr4 := hR.frozen 4
  have fr5 := hR.frozen 5
  have fr6 := hR.frozen 6
  have fr7 := hR.frozen 7
  have q1 : (H == -1) = false := by simpa using hH
  have HV := Lib.hid hV
  have HL := Lib.hid hL
  have HR := Lib.hid hR
  clear hV hL hR
  clear hH
  go_enter Try.func19, Try.ntmps19
  go_wp2_with fail
  (try simp only [Exit.inBlock, Exit.then])
  refine bodyPost_ret (results_none rfl _ _ _) rfl ?_
  obtain ⟨w2, hw2⟩ : ∃ w2, w2 = ((w.setCell ⟨R, 1, none⟩ (.int .i64 1)).setCell ⟨R, 2, none⟩ (.int .i64 H)) := ⟨_, rfl⟩
  rw [← hw2]
  refine ⟨rfl, ?_, ?_, ?_, by rw [hw2]; exact (((Fr.refl (Tri V L R) w).setCell (p := ⟨R, 1, none⟩) (.inl (.inr (.inr rfl))) (.int .i64 1)).setCell (p := ⟨R, 2, none⟩) (.inl (.inr (.inr rfl))) (.int .i64 H))⟩
  · rw [hw2]
    have := ((HV.out.far (p := ⟨R, 1, none⟩) hVR (.int .i64 1)).far (p := ⟨R, 2, none⟩) hVR (.int .i64 H))
    simpa [vcl] using this
  · rw [hw2]
    have := ((HL.out.far (p := ⟨R, 1, none⟩) hLR (.int .i64 1)).far (p := ⟨R, 2, none⟩) hLR (.int .i64 H))
    exact this
  · rw [hw2]
    have := ((HR.out.set_ 1 (.int .i64 1)).set_ 2 (.int .i64 H))
    simpa [rcl] using this

set_option maxHeartbeats 4000000 in
theorem r_w1 (w : World) (V L R p : Nat) (H Va Y : Int) (os rs : List Value) (ls : List Int) (k : Nat) (h val why f : Int) (hV : Blk w V 42 (vcl p H Va Y L os rs)) (hL : Blk w L 2 (lcl ls)) (hR : Blk w R 30 (rcl (k : Int) 1 h val why false false f)) (hk : 1 ≤ k) (hk5 : k ≤ 5) (n0 : Int) (hn : ls[k]? = some n0) :
    Calls Try.prog 19 #[.pointer (some ⟨V, 2, none⟩), .pointer (some ⟨R, 0, none⟩)] w fun e w' => e = .returned (.tuple #[]) ∧ Blk w' V 42 (vcl p H Va Y L os rs) ∧ Blk w' L 2 (lcl (ls.set k h)) ∧ Blk w' R 30 (rcl k 2 h val why false false f) ∧ Fr (Tri V L R) w w' := by
  have hVL : V ≠ L := Blk.ne_ hV hL (by decide)
  have hVR : V ≠ R := Blk.ne_ hV hR (by decide)
  have hLR : L ≠ R := Blk.ne_ hL hR (by decide)
  have v2 : w.cell? ⟨V, 2, none⟩ = some (.int .i64 H) := by rw [hV.cell]; rfl
  have v3 : w.cell? ⟨V, 3, none⟩ = some (.int .i64 Va) := by rw [hV.cell]; rfl
  have v4 : w.cell? ⟨V, 4, none⟩ = some (.int .i64 Y) := by rw [hV.cell]; rfl
  have v5 : w.cell? ⟨V, 5, none⟩ = some (.slice (some ⟨L, 0, none⟩) 6 6) := by rw [hV.cell]; rfl
  have r0 : w.cell? ⟨R, 0, none⟩ = some (.int .i64 (k : Int)) := by rw [hR.cell]; rfl
  have r1 : w.cell? ⟨R, 1, none⟩ = some (.int .i64 1) := by rw [hR.cell]; rfl
  have r2 : w.cell? ⟨R, 2, none⟩ = some (.int .i64 h) := by rw [hR.cell]; rfl
  have r3 : w.cell? ⟨R, 3, none⟩ = some (.int .i64 val) := by rw [hR.cell]; rfl
  have r4 : w.cell? ⟨R, 4, none⟩ = some (.int .i64 why) := by rw [hR.cell]; rfl
  have r5 : w.cell? ⟨R, 5, none⟩ = some (.bool false) := by rw [hR.cell]; rfl
  have r6 : w.cell? ⟨R, 6, none⟩ = some (.bool false) := by rw [hR.cell]; rfl
  have r7 : w.cell? ⟨R, 7, none⟩ = some (.int .i64 f) := by rw [hR.cell]; rfl
  have fv2 := hV.frozen 2
  have fv3 := hV.frozen 3
  have fv4 := hV.frozen 4
  have fr1 := hR.frozen 1
  have fr2 := hR.frozen 2
  have fr3 := hR.frozen 3
  have fr4 := hR.frozen 4
  have fr5 := hR.frozen 5
  have fr6 := hR.frozen 6
  have fr7 := hR.frozen 7
  have l0 : w.cell? ⟨L, k, none⟩ = some (.int .i64 n0) := by rw [hL.cell]; exact lcl_get ls k n0 hn
  have fl := hL.frozen k
  have hx : 0 < (k : Int) := by omega
  have HV := Lib.hid hV
  have HL := Lib.hid hL
  have HR := Lib.hid hR
  clear hV hL hR
  clear hn
  go_enter Try.func19, Try.ntmps19
  go_wp2_with fail
  go_region
  go_wp2_with fail
  (try simp only [Exit.inBlock, Exit.then])
  refine bodyPost_ret (results_none rfl _ _ _) rfl ?_
  obtain ⟨w2, hw2⟩ : ∃ w2, w2 = ((w.setCell ⟨R, 1, none⟩ (.int .i64 2)).setCell ⟨L, k, none⟩ (.int .i64 h)).drew := ⟨_, rfl⟩
  rw [← hw2]
  refine ⟨rfl, ?_, ?_, ?_, by rw [hw2]; exact ((((Fr.refl (Tri V L R) w).setCell (p := ⟨R, 1, none⟩) (.inl (.inr (.inr rfl))) (.int .i64 2)).setCell (p := ⟨L, k, none⟩) (.inl (.inr (.inl rfl))) (.int .i64 h)).drew)⟩
  · rw [hw2]
    have := ((HV.out.far (p := ⟨R, 1, none⟩) hVR (.int .i64 2)).far (p := ⟨L, k, none⟩) hVL (.int .i64 h)).drew
    simpa [vcl] using this
  · rw [hw2]
    have := ((HL.out.far (p := ⟨R, 1, none⟩) hLR (.int .i64 2)).set_ k (.int .i64 h)).drew
    rw [← lcl_set]; exact this
  · rw [hw2]
    have := ((HR.out.set_ 1 (.int .i64 2)).far (p := ⟨L, k, none⟩) hLR.symm (.int .i64 h)).drew
    simpa [rcl] using this

set_option maxHeartbeats 4000000 in
theorem r_w2y (w : World) (V L R p : Nat) (H Va Y : Int) (os rs : List Value) (ls : List Int) (x : Int) (h val why f : Int) (hV : Blk w V 42 (vcl p H Va Y L os rs)) (hL : Blk w L 2 (lcl ls)) (hR : Blk w R 30 (rcl x 2 h val why false false f)) (hx : 0 < x) (hH : H = h) :
    Calls Try.prog 19 #[.pointer (some ⟨V, 2, none⟩), .pointer (some ⟨R, 0, none⟩)] w fun e w' => e = .returned (.tuple #[]) ∧ Blk w' V 42 (vcl p x Va Y L os rs) ∧ Blk w' L 2 (lcl ls) ∧ Blk w' R 30 (rcl x 3 h val why true true f) ∧ Fr (Tri V L R) w w' := by
  have hVL : V ≠ L := Blk.ne_ hV hL (by decide)
  have hVR : V ≠ R := Blk.ne_ hV hR (by decide)
  have hLR : L ≠ R := Blk.ne_ hL hR (by decide)
  have v2 : w.cell? ⟨V, 2, none⟩ = some (.int .i64 H) := by rw [hV.cell]; rfl
  have v3 : w.cell? ⟨V, 3, none⟩ = some (.int .i64 Va) := by rw [hV.cell]; rfl
  have v4 : w.cell? ⟨V, 4, none⟩ = some (.int .i64 Y) := by rw [hV.cell]; rfl
  have v5 : w.cell? ⟨V, 5, none⟩ = some (.slice (some ⟨L, 0, none⟩) 6 6) := by rw [hV.cell]; rfl
  have r0 : w.cell? ⟨R, 0, none⟩ = some (.int .i64 x) := by rw [hR.cell]; rfl
  have r1 : w.cell? ⟨R, 1, none⟩ = some (.int .i64 2) := by rw [hR.cell]; rfl
  have r2 : w.cell? ⟨R, 2, none⟩ = some (.int .i64 h) := by rw [hR.cell]; rfl
  have r3 : w.cell? ⟨R, 3, none⟩ = some (.int .i64 val) := by rw [hR.cell]; rfl
  have r4 : w.cell? ⟨R, 4, none⟩ = some (.int .i64 why) := by rw [hR.cell]; rfl
  have r5 : w.cell? ⟨R, 5, none⟩ = some (.bool false) := by rw [hR.cell]; rfl
  have r6 : w.cell? ⟨R, 6, none⟩ = some (.bool false) := by rw [hR.cell]; rfl
  have r7 : w.cell? ⟨R, 7, none⟩ = some (.int .i64 f) := by rw [hR.cell]; rfl
  have fv2 := hV.frozen 2
  have fv3 := hV.frozen 3
  have fv4 := hV.frozen 4
  have fr1 := hR.frozen 1
  have fr2 := hR.frozen 2
  have fr3 := hR.frozen 3
  have fr4 := hR.frozen 4
  have fr5 := hR.frozen 5
  have fr6 := hR.frozen 6
  have fr7 := hR.frozen 7
  have q1 : (H == h) = true := by simpa using hH
  have HV := Lib.hid hV
  have HL := Lib.hid hL
  have HR := Lib.hid hR
  clear hV hL hR
  clear hH
  go_enter Try.func19, Try.ntmps19
  go_wp2_with fail
  go_region
  go_wp2_with fail
  (try simp only [Exit.inBlock, Exit.then])
  refine bodyPost_ret (results_none rfl _ _ _) rfl ?_
  obtain ⟨w2, hw2⟩ : ∃ w2, w2 = ((((w.setCell ⟨R, 1, none⟩ (.int .i64 3)).setCell ⟨V, 2, none⟩ (.int .i64 x)).setCell ⟨R, 5, none⟩ (.bool true)).setCell ⟨R, 6, none⟩ (.bool true)).drew := ⟨_, rfl⟩
  rw [← hw2]
  refine ⟨rfl, ?_, ?_, ?_, by rw [hw2]; exact ((((((Fr.refl (Tri V L R) w).setCell (p := ⟨R, 1, none⟩) (.inl (.inr (.inr rfl))) (.int .i64 3)).setCell (p := ⟨V, 2, none⟩) (.inl (.inl rfl)) (.int .i64 x)).setCell (p := ⟨R, 5, none⟩) (.inl (.inr (.inr rfl))) (.bool true)).setCell (p := ⟨R, 6, none⟩) (.inl (.inr (.inr rfl))) (.bool true)).drew)⟩
  · rw [hw2]
    have := ((((HV.out.far (p := ⟨R, 1, none⟩) hVR (.int .i64 3)).set_ 2 (.int .i64 x)).far (p := ⟨R, 5, none⟩) hVR (.bool true)).far (p := ⟨R, 6, none⟩) hVR (.bool true)).drew
    simpa [vcl] using this
  · rw [hw2]
    have := ((((HL.out.far (p := ⟨R, 1, none⟩) hLR (.int .i64 3)).far (p := ⟨V, 2, none⟩) hVL.symm (.int .i64 x)).far (p := ⟨R, 5, none⟩) hLR (.bool true)).far (p := ⟨R, 6, none⟩) hLR (.bool true)).drew
    exact this
  · rw [hw2]
    have := ((((HR.out.set_ 1 (.int .i64 3)).far (p := ⟨V, 2, none⟩) hVR.symm (.int .i64 x)).set_ 5 (.bool true)).set_ 6 (.bool true)).drew
    simpa [rcl] using this

set_option maxHeartbeats 4000000 in
theorem r_w2n (w : World) (V L R p : Nat) (H Va Y : Int) (os rs : List Value) (ls : List Int) (x : Int) (h val why f : Int) (hV : Blk w V 42 (vcl p H Va Y L os rs)) (hL : Blk w L 2 (lcl ls)) (hR : Blk w R 30 (rcl x 2 h val why false false f)) (hx : 0 < x) (hH : H ≠ h) :
    Calls Try.prog 19 #[.pointer (some ⟨V, 2, none⟩), .pointer (some ⟨R, 0, none⟩)] w fun e w' => e = .returned (.tuple #[]) ∧ Blk w' V 42 (vcl p H Va Y L os rs) ∧ Blk w' L 2 (lcl ls) ∧ Blk w' R 30 (rcl x 0 h val why false false f) ∧ Fr (Tri V L R) w w' := by
  have hVL : V ≠ L := Blk.ne_ hV hL (by decide)
  have hVR : V ≠ R := Blk.ne_ hV hR (by decide)
  have hLR : L ≠ R := Blk.ne_ hL hR (by decide)
  have v2 : w.cell? ⟨V, 2, none⟩ = some (.int .i64 H) := by rw [hV.cell]; rfl
  have v3 : w.cell? ⟨V, 3, none⟩ = some (.int .i64 Va) := by rw [hV.cell]; rfl
  have v4 : w.cell? ⟨V, 4, none⟩ = some (.int .i64 Y) := by rw [hV.cell]; rfl
  have v5 : w.cell? ⟨V, 5, none⟩ = some (.slice (some ⟨L, 0, none⟩) 6 6) := by rw [hV.cell]; rfl
  have r0 : w.cell? ⟨R, 0, none⟩ = some (.int .i64 x) := by rw [hR.cell]; rfl
  have r1 : w.cell? ⟨R, 1, none⟩ = some (.int .i64 2) := by rw [hR.cell]; rfl
  have r2 : w.cell? ⟨R, 2, none⟩ = some (.int .i64 h) := by rw [hR.cell]; rfl
  have r3 : w.cell? ⟨R, 3, none⟩ = some (.int .i64 val) := by rw [hR.cell]; rfl
  have r4 : w.cell? ⟨R, 4, none⟩ = some (.int .i64 why) := by rw [hR.cell]; rfl
  have r5 : w.cell? ⟨R, 5, none⟩ = some (.bool false) := by rw [hR.cell]; rfl
  have r6 : w.cell? ⟨R, 6, none⟩ = some (.bool false) := by rw [hR.cell]; rfl
  have r7 : w.cell? ⟨R, 7, none⟩ = some (.int .i64 f) := by rw [hR.cell]; rfl
  have fv2 := hV.frozen 2
  have fv3 := hV.frozen 3
  have fv4 := hV.frozen 4
  have fr1 := hR.frozen 1
  have fr2 := hR.frozen 2
  have fr3 := hR.frozen 3
  have fr4 := hR.frozen 4
  have fr5 := hR.frozen 5
  have fr6 := hR.frozen 6
  have fr7 := hR.frozen 7
  have q1 : (H == h) = false := by simpa using hH
  have HV := Lib.hid hV
  have HL := Lib.hid hL
  have HR := Lib.hid hR
  clear hV hL hR
  clear hH
  go_enter Try.func19, Try.ntmps19
  go_wp2_with fail
  go_region
  go_wp2_with fail
  (try simp only [Exit.inBlock, Exit.then])
  refine bodyPost_ret (results_none rfl _ _ _) rfl ?_
  obtain ⟨w2, hw2⟩ : ∃ w2, w2 = ((w.setCell ⟨R, 1, none⟩ (.int .i64 3)).setCell ⟨R, 1, none⟩ (.int .i64 0)).drew := ⟨_, rfl⟩
  rw [← hw2]
  refine ⟨rfl, ?_, ?_, ?_, by rw [hw2]; exact ((((Fr.refl (Tri V L R) w).setCell (p := ⟨R, 1, none⟩) (.inl (.inr (.inr rfl))) (.int .i64 3)).setCell (p := ⟨R, 1, none⟩) (.inl (.inr (.inr rfl))) (.int .i64 0)).drew)⟩
  · rw [hw2]
    have := ((HV.out.far (p := ⟨R, 1, none⟩) hVR (.int .i64 3)).far (p := ⟨R, 1, none⟩) hVR (.int .i64 0)).drew
    simpa [vcl] using this
  · rw [hw2]
    have := ((HL.out.far (p := ⟨R, 1, none⟩) hLR (.int .i64 3)).far (p := ⟨R, 1, none⟩) hLR (.int .i64 0)).drew
    exact this
  · rw [hw2]
    have := ((HR.out.set_ 1 (.int .i64 3)).set_ 1 (.int .i64 0)).drew
    simpa [rcl] using this

set_option maxHeartbeats 4000000 in
theorem r_w3 (w : World) (V L R p : Nat) (H Va Y : Int) (os rs : List Value) (ls : List Int) (x : Int) (h val why f : Int) (hV : Blk w V 42 (vcl p H Va Y L os rs)) (hL : Blk w L 2 (lcl ls)) (hR : Blk w R 30 (rcl x 3 h val why false false f)) (hx : 0 < x) :
    Calls Try.prog 19 #[.pointer (some ⟨V, 2, none⟩), .pointer (some ⟨R, 0, none⟩)] w fun e w' => e = .returned (.tuple #[]) ∧ Blk w' V 42 (vcl p H Va Y L os rs) ∧ Blk w' L 2 (lcl ls) ∧ Blk w' R 30 (rcl x 4 h Va why false false f) ∧ Fr (Tri V L R) w w' := by
  have hVL : V ≠ L := Blk.ne_ hV hL (by decide)
  have hVR : V ≠ R := Blk.ne_ hV hR (by decide)
  have hLR : L ≠ R := Blk.ne_ hL hR (by decide)
  have v2 : w.cell? ⟨V, 2, none⟩ = some (.int .i64 H) := by rw [hV.cell]; rfl
  have v3 : w.cell? ⟨V, 3, none⟩ = some (.int .i64 Va) := by rw [hV.cell]; rfl
  have v4 : w.cell? ⟨V, 4, none⟩ = some (.int .i64 Y) := by rw [hV.cell]; rfl
  have v5 : w.cell? ⟨V, 5, none⟩ = some (.slice (some ⟨L, 0, none⟩) 6 6) := by rw [hV.cell]; rfl
  have r0 : w.cell? ⟨R, 0, none⟩ = some (.int .i64 x) := by rw [hR.cell]; rfl
  have r1 : w.cell? ⟨R, 1, none⟩ = some (.int .i64 3) := by rw [hR.cell]; rfl
  have r2 : w.cell? ⟨R, 2, none⟩ = some (.int .i64 h) := by rw [hR.cell]; rfl
  have r3 : w.cell? ⟨R, 3, none⟩ = some (.int .i64 val) := by rw [hR.cell]; rfl
  have r4 : w.cell? ⟨R, 4, none⟩ = some (.int .i64 why) := by rw [hR.cell]; rfl
  have r5 : w.cell? ⟨R, 5, none⟩ = some (.bool false) := by rw [hR.cell]; rfl
  have r6 : w.cell? ⟨R, 6, none⟩ = some (.bool false) := by rw [hR.cell]; rfl
  have r7 : w.cell? ⟨R, 7, none⟩ = some (.int .i64 f) := by rw [hR.cell]; rfl
  have fv2 := hV.frozen 2
  have fv3 := hV.frozen 3
  have fv4 := hV.frozen 4
  have fr1 := hR.frozen 1
  have fr2 := hR.frozen 2
  have fr3 := hR.frozen 3
  have fr4 := hR.frozen 4
  have fr5 := hR.frozen 5
  have fr6 := hR.frozen 6
  have fr7 := hR.frozen 7
  have HV := Lib.hid hV
  have HL := Lib.hid hL
  have HR := Lib.hid hR
  clear hV hL hR
  go_enter Try.func19, Try.ntmps19
  go_wp2_with fail
  (try simp only [Exit.inBlock, Exit.then])
  refine bodyPost_ret (results_none rfl _ _ _) rfl ?_
  obtain ⟨w2, hw2⟩ : ∃ w2, w2 = ((w.setCell ⟨R, 1, none⟩ (.int .i64 4)).setCell ⟨R, 3, none⟩ (.int .i64 Va)) := ⟨_, rfl⟩
  rw [← hw2]
  refine ⟨rfl, ?_, ?_, ?_, by rw [hw2]; exact (((Fr.refl (Tri V L R) w).setCell (p := ⟨R, 1, none⟩) (.inl (.inr (.inr rfl))) (.int .i64 4)).setCell (p := ⟨R, 3, none⟩) (.inl (.inr (.inr rfl))) (.int .i64 Va))⟩
  · rw [hw2]
    have := ((HV.out.far (p := ⟨R, 1, none⟩) hVR (.int .i64 4)).far (p := ⟨R, 3, none⟩) hVR (.int .i64 Va))
    simpa [vcl] using this
  · rw [hw2]
    have := ((HL.out.far (p := ⟨R, 1, none⟩) hLR (.int .i64 4)).far (p := ⟨R, 3, none⟩) hLR (.int .i64 Va))
    exact this
  · rw [hw2]
    have := ((HR.out.set_ 1 (.int .i64 4)).set_ 3 (.int .i64 Va))
    simpa [rcl] using this

set_option maxHeartbeats 4000000 in
theorem r_w4 (w : World) (V L R p : Nat) (H Va Y : Int) (os rs : List Value) (ls : List Int) (x : Int) (h val why f : Int) (hV : Blk w V 42 (vcl p H Va Y L os rs)) (hL : Blk w L 2 (lcl ls)) (hR : Blk w R 30 (rcl x 4 h val why false false f)) (hx : 0 < x) :
    Calls Try.prog 19 #[.pointer (some ⟨V, 2, none⟩), .pointer (some ⟨R, 0, none⟩)] w fun e w' => e = .returned (.tuple #[]) ∧ Blk w' V 42 (vcl p H Va Y L os rs) ∧ Blk w' L 2 (lcl ls) ∧ Blk w' R 30 (rcl x 5 h val Y true false f) ∧ Fr (Tri V L R) w w' := by
  have hVL : V ≠ L := Blk.ne_ hV hL (by decide)
  have hVR : V ≠ R := Blk.ne_ hV hR (by decide)
  have hLR : L ≠ R := Blk.ne_ hL hR (by decide)
  have v2 : w.cell? ⟨V, 2, none⟩ = some (.int .i64 H) := by rw [hV.cell]; rfl
  have v3 : w.cell? ⟨V, 3, none⟩ = some (.int .i64 Va) := by rw [hV.cell]; rfl
  have v4 : w.cell? ⟨V, 4, none⟩ = some (.int .i64 Y) := by rw [hV.cell]; rfl
  have v5 : w.cell? ⟨V, 5, none⟩ = some (.slice (some ⟨L, 0, none⟩) 6 6) := by rw [hV.cell]; rfl
  have r0 : w.cell? ⟨R, 0, none⟩ = some (.int .i64 x) := by rw [hR.cell]; rfl
  have r1 : w.cell? ⟨R, 1, none⟩ = some (.int .i64 4) := by rw [hR.cell]; rfl
  have r2 : w.cell? ⟨R, 2, none⟩ = some (.int .i64 h) := by rw [hR.cell]; rfl
  have r3 : w.cell? ⟨R, 3, none⟩ = some (.int .i64 val) := by rw [hR.cell]; rfl
  have r4 : w.cell? ⟨R, 4, none⟩ = some (.int .i64 why) := by rw [hR.cell]; rfl
  have r5 : w.cell? ⟨R, 5, none⟩ = some (.bool false) := by rw [hR.cell]; rfl
  have r6 : w.cell? ⟨R, 6, none⟩ = some (.bool false) := by rw [hR.cell]; rfl
  have r7 : w.cell? ⟨R, 7, none⟩ = some (.int .i64 f) := by rw [hR.cell]; rfl
  have fv2 := hV.frozen 2
  have fv3 := hV.frozen 3
  have fv4 := hV.frozen 4
  have fr1 := hR.frozen 1
  have fr2 := hR.frozen 2
  have fr3 := hR.frozen 3
  have fr4 := hR.frozen 4
  have fr5 := hR.frozen 5
  have fr6 := hR.frozen 6
  have fr7 := hR.frozen 7
  have HV := Lib.hid hV
  have HL := Lib.hid hL
  have HR := Lib.hid hR
  clear hV hL hR
  go_enter Try.func19, Try.ntmps19
  go_wp2_with fail
  (try simp only [Exit.inBlock, Exit.then])
  refine bodyPost_ret (results_none rfl _ _ _) rfl ?_
  obtain ⟨w2, hw2⟩ : ∃ w2, w2 = (((w.setCell ⟨R, 1, none⟩ (.int .i64 5)).setCell ⟨R, 4, none⟩ (.int .i64 Y)).setCell ⟨R, 5, none⟩ (.bool true)) := ⟨_, rfl⟩
  rw [← hw2]
  refine ⟨rfl, ?_, ?_, ?_, by rw [hw2]; exact ((((Fr.refl (Tri V L R) w).setCell (p := ⟨R, 1, none⟩) (.inl (.inr (.inr rfl))) (.int .i64 5)).setCell (p := ⟨R, 4, none⟩) (.inl (.inr (.inr rfl))) (.int .i64 Y)).setCell (p := ⟨R, 5, none⟩) (.inl (.inr (.inr rfl))) (.bool true))⟩
  · rw [hw2]
    have := (((HV.out.far (p := ⟨R, 1, none⟩) hVR (.int .i64 5)).far (p := ⟨R, 4, none⟩) hVR (.int .i64 Y)).far (p := ⟨R, 5, none⟩) hVR (.bool true))
    simpa [vcl] using this
  · rw [hw2]
    have := (((HL.out.far (p := ⟨R, 1, none⟩) hLR (.int .i64 5)).far (p := ⟨R, 4, none⟩) hLR (.int .i64 Y)).far (p := ⟨R, 5, none⟩) hLR (.bool true))
    exact this
  · rw [hw2]
    have := (((HR.out.set_ 1 (.int .i64 5)).set_ 4 (.int .i64 Y)).set_ 5 (.bool true))
    simpa [rcl] using this

set_option maxHeartbeats 4000000 in
theorem r_f0 (w : World) (V L R p : Nat) (H Va Y : Int) (os rs : List Value) (ls : List Int)  (h val why f : Int) (hV : Blk w V 42 (vcl p H Va Y L os rs)) (hL : Blk w L 2 (lcl ls)) (hR : Blk w R 30 (rcl 0 0 h val why false false f))  :
    Calls Try.prog 19 #[.pointer (some ⟨V, 2, none⟩), .pointer (some ⟨R, 0, none⟩)] w fun e w' => e = .returned (.tuple #[]) ∧ Blk w' V 42 (vcl p H val Y L os rs) ∧ Blk w' L 2 (lcl ls) ∧ Blk w' R 30 (rcl 0 1 h val why false false f) ∧ Fr (Tri V L R) w w' := by
  have hVL : V ≠ L := Blk.ne_ hV hL (by decide)
  have hVR : V ≠ R := Blk.ne_ hV hR (by decide)
  have hLR : L ≠ R := Blk.ne_ hL hR (by decide)
  have v2 : w.cell? ⟨V, 2, none⟩ = some (.int .i64 H) := by rw [hV.cell]; rfl
  have v3 : w.cell? ⟨V, 3, none⟩ = some (.int .i64 Va) := by rw [hV.cell]; rfl
  have v4 : w.cell? ⟨V, 4, none⟩ = some (.int .i64 Y) := by rw [hV.cell]; rfl
  have v5 : w.cell? ⟨V, 5, none⟩ = some (.slice (some ⟨L, 0, none⟩) 6 6) := by rw [hV.cell]; rfl
  have r0 : w.cell? ⟨R, 0, none⟩ = some (.int .i64 0) := by rw [hR.cell]; rfl
  have r1 : w.cell? ⟨R, 1, none⟩ = some (.int .i64 0) := by rw [hR.cell]; rfl
  have r2 : w.cell? ⟨R, 2, none⟩ = some (.int .i64 h) := by rw [hR.cell]; rfl
  have r3 : w.cell? ⟨R, 3, none⟩ = some (.int .i64 val) := by rw [hR.cell]; rfl
  have r4 : w.cell? ⟨R, 4, none⟩ = some (.int .i64 why) := by rw [hR.cell]; rfl
  have r5 : w.cell? ⟨R, 5, none⟩ = some (.bool false) := by rw [hR.cell]; rfl
  have r6 : w.cell? ⟨R, 6, none⟩ = some (.bool false) := by rw [hR.cell]; rfl
  have r7 : w.cell? ⟨R, 7, none⟩ = some (.int .i64 f) := by rw [hR.cell]; rfl
  have fv2 := hV.frozen 2
  have fv3 := hV.frozen 3
  have fv4 := hV.frozen 4
  have fr1 := hR.frozen 1
  have fr2 := hR.frozen 2
  have fr3 := hR.frozen 3
  have fr4 := hR.frozen 4
  have fr5 := hR.frozen 5
  have fr6 := hR.frozen 6
  have fr7 := hR.frozen 7
  have HV := Lib.hid hV
  have HL := Lib.hid hL
  have HR := Lib.hid hR
  clear hV hL hR
  go_enter Try.func19, Try.ntmps19
  go_wp2_with fail
  go_end0
  obtain ⟨w2, hw2⟩ : ∃ w2, w2 = ((w.setCell ⟨R, 1, none⟩ (.int .i64 1)).setCell ⟨V, 3, none⟩ (.int .i64 val)) := ⟨_, rfl⟩
  rw [← hw2]
  refine ⟨rfl, ?_, ?_, ?_, by rw [hw2]; exact (((Fr.refl (Tri V L R) w).setCell (p := ⟨R, 1, none⟩) (.inl (.inr (.inr rfl))) (.int .i64 1)).setCell (p := ⟨V, 3, none⟩) (.inl (.inl rfl)) (.int .i64 val))⟩
  · rw [hw2]
    have := ((HV.out.far (p := ⟨R, 1, none⟩) hVR (.int .i64 1)).set_ 3 (.int .i64 val))
    simpa [vcl] using this
  · rw [hw2]
    have := ((HL.out.far (p := ⟨R, 1, none⟩) hLR (.int .i64 1)).far (p := ⟨V, 3, none⟩) hVL.symm (.int .i64 val))
    exact this
  · rw [hw2]
    have := ((HR.out.set_ 1 (.int .i64 1)).far (p := ⟨V, 3, none⟩) hVR.symm (.int .i64 val))
    simpa [rcl] using this

set_option maxHeartbeats 4000000 in
theorem r_f1 (w : World) (V L R p : Nat) (H Va Y : Int) (os rs : List Value) (ls : List Int)  (h val why f : Int) (hV : Blk w V 42 (vcl p H Va Y L os rs)) (hL : Blk w L 2 (lcl ls)) (hR : Blk w R 30 (rcl 0 1 h val why false false f))  :
    Calls Try.prog 19 #[.pointer (some ⟨V, 2, none⟩), .pointer (some ⟨R, 0, none⟩)] w fun e w' => e = .returned (.tuple #[]) ∧ Blk w' V 42 (vcl p H Va why L os rs) ∧ Blk w' L 2 (lcl ls) ∧ Blk w' R 30 (rcl 0 2 h val why false false f) ∧ Fr (Tri V L R) w w' := by
  have hVL : V ≠ L := Blk.ne_ hV hL (by decide)
  have hVR : V ≠ R := Blk.ne_ hV hR (by decide)
  have hLR : L ≠ R := Blk.ne_ hL hR (by decide)
  have v2 : w.cell? ⟨V, 2, none⟩ = some (.int .i64 H) := by rw [hV.cell]; rfl
  have v3 : w.cell? ⟨V, 3, none⟩ = some (.int .i64 Va) := by rw [hV.cell]; rfl
  have v4 : w.cell? ⟨V, 4, none⟩ = some (.int .i64 Y) := by rw [hV.cell]; rfl
  have v5 : w.cell? ⟨V, 5, none⟩ = some (.slice (some ⟨L, 0, none⟩) 6 6) := by rw [hV.cell]; rfl
  have r0 : w.cell? ⟨R, 0, none⟩ = some (.int .i64 0) := by rw [hR.cell]; rfl
  have r1 : w.cell? ⟨R, 1, none⟩ = some (.int .i64 1) := by rw [hR.cell]; rfl
  have r2 : w.cell? ⟨R, 2, none⟩ = some (.int .i64 h) := by rw [hR.cell]; rfl
  have r3 : w.cell? ⟨R, 3, none⟩ = some (.int .i64 val) := by rw [hR.cell]; rfl
  have r4 : w.cell? ⟨R, 4, none⟩ = some (.int .i64 why) := by rw [hR.cell]; rfl
  have r5 : w.cell? ⟨R, 5, none⟩ = some (.bool false) := by rw [hR.cell]; rfl
  have r6 : w.cell? ⟨R, 6, none⟩ = some (.bool false) := by rw [hR.cell]; rfl
  have r7 : w.cell? ⟨R, 7, none⟩ = some (.int .i64 f) := by rw [hR.cell]; rfl
  have fv2 := hV.frozen 2
  have fv3 := hV.frozen 3
  have fv4 := hV.frozen 4
  have fr1 := hR.frozen 1
  have fr2 := hR.frozen 2
  have fr3 := hR.frozen 3
  have fr4 := hR.frozen 4
  have fr5 := hR.frozen 5
  have fr6 := hR.frozen 6
  have fr7 := hR.frozen 7
  have HV := Lib.hid hV
  have HL := Lib.hid hL
  have HR := Lib.hid hR
  clear hV hL hR
  go_enter Try.func19, Try.ntmps19
  go_wp2_with fail
  go_end0
  obtain ⟨w2, hw2⟩ : ∃ w2, w2 = ((w.setCell ⟨R, 1, none⟩ (.int .i64 2)).setCell ⟨V, 4, none⟩ (.int .i64 why)) := ⟨_, rfl⟩
  rw [← hw2]
  refine ⟨rfl, ?_, ?_, ?_, by rw [hw2]; exact (((Fr.refl (Tri V L R) w).setCell (p := ⟨R, 1, none⟩) (.inl (.inr (.inr rfl))) (.int .i64 2)).setCell (p := ⟨V, 4, none⟩) (.inl (.inl rfl)) (.int .i64 why))⟩
  · rw [hw2]
    have := ((HV.out.far (p := ⟨R, 1, none⟩) hVR (.int .i64 2)).set_ 4 (.int .i64 why))
    simpa [vcl] using this
  · rw [hw2]
    have := ((HL.out.far (p := ⟨R, 1, none⟩) hLR (.int .i64 2)).far (p := ⟨V, 4, none⟩) hVL.symm (.int .i64 why))
    exact this
  · rw [hw2]
    have := ((HR.out.set_ 1 (.int .i64 2)).far (p := ⟨V, 4, none⟩) hVR.symm (.int .i64 why))
    simpa [rcl] using this

set_option maxHeartbeats 4000000 in
theorem r_f2 (w : World) (V L R p : Nat) (H Va Y : Int) (os rs : List Value) (ls : List Int)  (h val why f : Int) (hV : Blk w V 42 (vcl p H Va Y L os rs)) (hL : Blk w L 2 (lcl ls)) (hR : Blk w R 30 (rcl 0 2 h val why false false f))  :
    Calls Try.prog 19 #[.pointer (some ⟨V, 2, none⟩), .pointer (some ⟨R, 0, none⟩)] w fun e w' => e = .returned (.tuple #[]) ∧ Blk w' V 42 (vcl p H Va Y L os rs) ∧ Blk w' L 2 (lcl ls) ∧ Blk w' R 30 (rcl 0 3 H val why false false f) ∧ Fr (Tri V L R) w w' := by
  have hVL : V ≠ L := Blk.ne_ hV hL (by decide)
  have hVR : V ≠ R := Blk.ne_ hV hR (by decide)
  have hLR : L ≠ R := Blk.ne_ hL hR (by decide)
  have v2 : w.cell? ⟨V, 2, none⟩ = some (.int .i64 H) := by rw [hV.cell]; rfl
  have v3 : w.cell? ⟨V, 3, none⟩ = some (.int .i64 Va) := by rw [hV.cell]; rfl
  have v4 : w.cell? ⟨V, 4, none⟩ = some (.int .i64 Y) := by rw [hV.cell]; rfl
  have v5 : w.cell? ⟨V, 5, none⟩ = some (.slice (some ⟨L, 0, none⟩) 6 6) := by rw [hV.cell]; rfl
  have r0 : w.cell? ⟨R, 0, none⟩ = some (.int .i64 0) := by rw [hR.cell]; rfl
  have r1 : w.cell? ⟨R, 1, none⟩ = some (.int .i64 2) := by rw [hR.cell]; rfl
  have r2 : w.cell? ⟨R, 2, none⟩ = some (.int .i64 h) := by rw [hR.cell]; rfl
  have r3 : w.cell? ⟨R, 3, none⟩ = some (.int .i64 val) := by rw [hR.cell]; rfl
  have r4 : w.cell? ⟨R, 4, none⟩ = some (.int .i64 why) := by rw [hR.cell]; rfl
  have r5 : w.cell? ⟨R, 5, none⟩ = some (.bool false) := by rw [hR.cell]; rfl
  have r6 : w.cell? ⟨R, 6, none⟩ = some (.bool false) := by rw [hR.cell]; rfl
  have r7 : w.cell? ⟨R, 7, none⟩ = some (.int .i64 f) := by rw [hR.cell]; rfl
  have fv2 := hV.frozen 2
  have fv3 := hV.frozen 3
  have fv4 := hV.frozen 4
  have fr1 := hR.frozen 1
  have fr2 := hR.frozen 2
  have fr3 := hR.frozen 3
  have fr4 := hR.frozen 4
  have fr5 := hR.frozen 5
  have fr6 := hR.frozen 6
  have fr7 := hR.frozen 7
  have HV := Lib.hid hV
  have HL := Lib.hid hL
  have HR := Lib.hid hR
  clear hV hL hR
  go_enter Try.func19, Try.ntmps19
  go_wp2_with fail
  go_end0
  obtain ⟨w2, hw2⟩ : ∃ w2, w2 = ((w.setCell ⟨R, 1, none⟩ (.int .i64 3)).setCell ⟨R, 2, none⟩ (.int .i64 H)) := ⟨_, rfl⟩
  rw [← hw2]
  refine ⟨rfl, ?_, ?_, ?_, by rw [hw2]; exact (((Fr.refl (Tri V L R) w).setCell (p := ⟨R, 1, none⟩) (.inl (.inr (.inr rfl))) (.int .i64 3)).setCell (p := ⟨R, 2, none⟩) (.inl (.inr (.inr rfl))) (.int .i64 H))⟩
  · rw [hw2]
    have := ((HV.out.far (p := ⟨R, 1, none⟩) hVR (.int .i64 3)).far (p := ⟨R, 2, none⟩) hVR (.int .i64 H))
    simpa [vcl] using this
  · rw [hw2]
    have := ((HL.out.far (p := ⟨R, 1, none⟩) hLR (.int .i64 3)).far (p := ⟨R, 2, none⟩) hLR (.int .i64 H))
    exact this
  · rw [hw2]
    have := ((HR.out.set_ 1 (.int .i64 3)).set_ 2 (.int .i64 H))
    simpa [rcl] using this

set_option maxHeartbeats 4000000 in
theorem r_f3y (w : World) (V L R p : Nat) (H Va Y : Int) (os rs : List Value) (ls : List Int)  (h val why f : Int) (hV : Blk w V 42 (vcl p H Va Y L os rs)) (hL : Blk w L 2 (lcl ls)) (hR : Blk w R 30 (rcl 0 3 h val why false false f)) (hH : H = h) :
    Calls Try.prog 19 #[.pointer (some ⟨V, 2, none⟩), .pointer (some ⟨R, 0, none⟩)] w fun e w' => e = .returned (.tuple #[]) ∧ Blk w' V 42 (vcl p (-1) Va Y L os rs) ∧ Blk w' L 2 (lcl ls) ∧ Blk w' R 30 (rcl 0 4 h val why true false h) ∧ Fr (Tri V L R) w w' := by
  have hVL : V ≠ L := Blk.ne_ hV hL (by decide)
  have hVR : V ≠ R := Blk.ne_ hV hR (by decide)
  have hLR : L ≠ R := Blk.ne_ hL hR (by decide)
  have v2 : w.cell? ⟨V, 2, none⟩ = some (.int .i64 H) := by rw [hV.cell]; rfl
  have v3 : w.cell? ⟨V, 3, none⟩ = some (.int .i64 Va) := by rw [hV.cell]; rfl
  have v4 : w.cell? ⟨V, 4, none⟩ = some (.int .i64 Y) := by rw [hV.cell]; rfl
  have v5 : w.cell? ⟨V, 5, none⟩ = some (.slice (some ⟨L, 0, none⟩) 6 6) := by rw [hV.cell]; rfl
  have r0 : w.cell? ⟨R, 0, none⟩ = some (.int .i64 0) := by rw [hR.cell]; rfl
  have r1 : w.cell? ⟨R, 1, none⟩ = some (.int .i64 3) := by rw [hR.cell]; rfl
  have r2 : w.cell? ⟨R, 2, none⟩ = some (.int .i64 h) := by rw [hR.cell]; rfl
  have r3 : w.cell? ⟨R, 3, none⟩ = some (.int .i64 val) := by rw [hR.cell]; rfl
  have r4 : w.cell? ⟨R, 4, none⟩ = some (.int .i64 why) := by rw [hR.cell]; rfl
  have r5 : w.cell? ⟨R, 5, none⟩ = some (.bool false) := by rw [hR.cell]; rfl
  have r6 : w.cell? ⟨R, 6, none⟩ = some (.bool false) := by rw [hR.cell]; rfl
  have r7 : w.cell? ⟨R, 7, none⟩ = some (.int .i64 f) := by rw [hR.cell]; rfl
  have fv2 := hV.frozen 2
  have fv3 := hV.frozen 3
  have fv4 := hV.frozen 4
  have fr1 := hR.frozen 1
  have fr2 := hR.frozen 2
  have fr3 := hR.frozen 3
  have fr4 := hR.frozen 4
  have fr5 := hR.frozen 5
  have fr6 := hR.frozen 6
  have fr7 := hR.frozen 7
  have q1 : (H == h) = true := by simpa using hH
  have HV := Lib.hid hV
  have HL := Lib.hid hL
  have HR := Lib.hid hR
  clear hV hL hR
  clear hH
  go_enter Try.func19, Try.ntmps19
  go_wp2_with fail
  go_region
  go_wp2_with fail
  go_end0
  obtain ⟨w2, hw2⟩ : ∃ w2, w2 = ((((w.setCell ⟨R, 1, none⟩ (.int .i64 4)).setCell ⟨V, 2, none⟩ (.int .i64 (-1))).setCell ⟨R, 5, none⟩ (.bool true)).setCell ⟨R, 7, none⟩ (.int .i64 h)).drew := ⟨_, rfl⟩
  rw [← hw2]
  refine ⟨rfl, ?_, ?_, ?_, by rw [hw2]; exact ((((((Fr.refl (Tri V L R) w).setCell (p := ⟨R, 1, none⟩) (.inl (.inr (.inr rfl))) (.int .i64 4)).setCell (p := ⟨V, 2, none⟩) (.inl (.inl rfl)) (.int .i64 (-1))).setCell (p := ⟨R, 5, none⟩) (.inl (.inr (.inr rfl))) (.bool true)).setCell (p := ⟨R, 7, none⟩) (.inl (.inr (.inr rfl))) (.int .i64 h)).drew)⟩
  · rw [hw2]
    have := ((((HV.out.far (p := ⟨R, 1, none⟩) hVR (.int .i64 4)).set_ 2 (.int .i64 (-1))).far (p := ⟨R, 5, none⟩) hVR (.bool true)).far (p := ⟨R, 7, none⟩) hVR (.int .i64 h)).drew
    simpa [vcl] using this
  · rw [hw2]
    have := ((((HL.out.far (p := ⟨R, 1, none⟩) hLR (.int .i64 4)).far (p := ⟨V, 2, none⟩) hVL.symm (.int .i64 (-1))).far (p := ⟨R, 5, none⟩) hLR (.bool true)).far (p := ⟨R, 7, none⟩) hLR (.int .i64 h)).drew
    exact this
  · rw [hw2]
    have := ((((HR.out.set_ 1 (.int .i64 4)).far (p := ⟨V, 2, none⟩) hVR.symm (.int .i64 (-1))).set_ 5 (.bool true)).set_ 7 (.int .i64 h)).drew
    simpa [rcl] using this

set_option maxHeartbeats 4000000 in
theorem r_f3n (w : World) (V L R p : Nat) (H Va Y : Int) (os rs : List Value) (ls : List Int)  (h val why f : Int) (hV : Blk w V 42 (vcl p H Va Y L os rs)) (hL : Blk w L 2 (lcl ls)) (hR : Blk w R 30 (rcl 0 3 h val why false false f)) (hH : H ≠ h) :
    Calls Try.prog 19 #[.pointer (some ⟨V, 2, none⟩), .pointer (some ⟨R, 0, none⟩)] w fun e w' => e = .returned (.tuple #[]) ∧ Blk w' V 42 (vcl p H Va Y L os rs) ∧ Blk w' L 2 (lcl ls) ∧ Blk w' R 30 (rcl 0 2 h val why false false f) ∧ Fr (Tri V L R) w w' := by
  have hVL : V ≠ L := Blk.ne_ hV hL (by decide)
  have hVR : V ≠ R := Blk.ne_ hV hR (by decide)
  have hLR : L ≠ R := Blk.ne_ hL hR (by decide)
  have v2 : w.cell? ⟨V, 2, none⟩ = some (.int .i64 H) := by rw [hV.cell]; rfl
  have v3 : w.cell? ⟨V, 3, none⟩ = some (.int .i64 Va) := by rw [hV.cell]; rfl
  have v4 : w.cell? ⟨V, 4, none⟩ = some (.int .i64 Y) := by rw [hV.cell]; rfl
  have v5 : w.cell? ⟨V, 5, none⟩ = some (.slice (some ⟨L, 0, none⟩) 6 6) := by rw [hV.cell]; rfl
  have r0 : w.cell? ⟨R, 0, none⟩ = some (.int .i64 0) := by rw [hR.cell]; rfl
  have r1 : w.cell? ⟨R, 1, none⟩ = some (.int .i64 3) := by rw [hR.cell]; rfl
  have r2 : w.cell? ⟨R, 2, none⟩ = some (.int .i64 h) := by rw [hR.cell]; rfl
  have r3 : w.cell? ⟨R, 3, none⟩ = some (.int .i64 val) := by rw [hR.cell]; rfl
  have r4 : w.cell? ⟨R, 4, none⟩ = some (.int .i64 why) := by rw [hR.cell]; rfl
  have r5 : w.cell? ⟨R, 5, none⟩ = some (.bool false) := by rw [hR.cell]; rfl
  have r6 : w.cell? ⟨R, 6, none⟩ = some (.bool false) := by rw [hR.cell]; rfl
  have r7 : w.cell? ⟨R, 7, none⟩ = some (.int .i64 f) := by rw [hR.cell]; rfl
  have fv2 := hV.frozen 2
  have fv3 := hV.frozen 3
  have fv4 := hV.frozen 4
  have fr1 := hR.frozen 1
  have fr2 := hR.frozen 2
  have fr3 := hR.frozen 3
  have fr4 := hR.frozen 4
  have fr5 := hR.frozen 5
  have fr6 := hR.frozen 6
  have fr7 := hR.frozen 7
  have q1 : (H == h) = false := by simpa using hH
  have HV := Lib.hid hV
  have HL := Lib.hid hL
  have HR := Lib.hid hR
  clear hV hL hR
  clear hH
  go_enter Try.func19, Try.ntmps19
  go_wp2_with fail
  go_region
  go_wp2_with fail
  go_end0
  obtain ⟨w2, hw2⟩ : ∃ w2, w2 = ((w.setCell ⟨R, 1, none⟩ (.int .i64 4)).setCell ⟨R, 1, none⟩ (.int .i64 2)).drew := ⟨_, rfl⟩
  rw [← hw2]
  refine ⟨rfl, ?_, ?_, ?_, by rw [hw2]; exact ((((Fr.refl (Tri V L R) w).setCell (p := ⟨R, 1, none⟩) (.inl (.inr (.inr rfl))) (.int .i64 4)).setCell (p := ⟨R, 1, none⟩) (.inl (.inr (.inr rfl))) (.int .i64 2)).drew)⟩
  · rw [hw2]
    have := ((HV.out.far (p := ⟨R, 1, none⟩) hVR (.int .i64 4)).far (p := ⟨R, 1, none⟩) hVR (.int .i64 2)).drew
    simpa [vcl] using this
  · rw [hw2]
    have := ((HL.out.far (p := ⟨R, 1, none⟩) hLR (.int .i64 4)).far (p := ⟨R, 1, none⟩) hLR (.int .i64 2)).drew
    exact this
  · rw [hw2]
    have := ((HR.out.set_ 1 (.int .i64 4)).set_ 1 (.int .i64 2)).drew
    simpa [rcl] using this

theorem r_over (w : World) (C R : Nat) (off : Nat) (c : Array Value) (hR : Blk w R 30 c) (h5 : c[5]? = some (.bool true)) :
    Calls Try.prog 19 #[.pointer (some ⟨C, off, none⟩), .pointer (some ⟨R, 0, none⟩)] w fun e w' => e = .returned (.tuple #[]) ∧ w' = w := by
  have r5 : w.cell? ⟨R, 5, none⟩ = some (.bool true) := by rw [hR.cell]; exact h5
  go_enter Try.func19, Try.ntmps19
  go_wp2_with fail
  (try simp only [Exit.inBlock, Exit.then])
  refine bodyPost_ret (results_none rfl _ _ _) rfl ?_
  exact ⟨rfl, rfl⟩
end Go.Proofs.Ytldcffgjkfocoaa
