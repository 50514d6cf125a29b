/-
  What the reader's calls do: the numbers that they take off the bytes, or the panic with ErrShort.
-/
import Derived.Test.YtahojahplpcbiaaWr5
import Derived.Test.YtahojahplpcbiaaPureR
namespace Go.Proofs.Ytahojahplpcbiaa
open Go.RowKit

/-- The panic with ErrShort. -/
abbrev short : Ending := .panicked [{ v := .iface 25 (.int .i64 2), recovered := false }]

/-- The reader at block p: the bytes bs are left. -/
structure RdIs (w : World) (Q : Nat → Prop) (p : Nat) (bs : List Int) : Prop where
  row : ∃ A c, Blk w p 60 #[.slice A bs.length c] ∧ Rd w Q 1 A bs.length (by8 bs) ∧ bs.length ≤ c ∧ c ≤ maxLen
  fits : AllB bs
  low : ∀ b, Q b → b < p

theorem RdIs.far {w : World} {Q : Nat → Prop} {p : Nat} {bs : List Int} (h : RdIs w Q p bs) : ¬ Q p := fun hq => Nat.lt_irrefl _ (h.low p hq)

theorem RdIs.fr {w w' : World} {Q B : Nat → Prop} {p : Nat} {bs : List Int} (h : RdIs w Q p bs) (hf : Fr B w w') (hp : ¬ B p) (hB : ∀ b, Q b → ¬ B b) : RdIs w' Q p bs := by
  obtain ⟨A, c, h1, h2, h3, h4⟩ := h.row
  exact ⟨⟨A, c, h1.fr hf hp, h2.fr hf hB, h3, h4⟩, h.fits, h.low⟩
theorem RdIs.alloc {w : World} {Q : Nat → Prop} {p : Nat} {bs : List Int} (h : RdIs w Q p bs) (o : Obj) : RdIs (w.alloc o) Q p bs := h.fr (B := fun _ => False) ((Fr.refl _ _).alloc o) (fun h => h) (fun _ _ h => h)

/-- What may turn: the reader, and what is new. -/
abbrev One (p : Nat) : Nat → Prop := fun k => k = p

theorem cut1 (A : Option Addr) (n c : Nat) (W : World) : (Instr.slice 24 (.slice A (n + 1) c) (some (.int .i64 1)) none none).run Try.prog W = .ok (.slice (if c = 1 then A else A.map (·.add 1)) n (c - 1)) W := by
  have hrun := @run_slice_l Try.prog W 24 A (n + 1) c (by rfl) .i64 1 (by omega) (by omega)
  rw [hrun]
  have hs : (sizeOf (Try.prog.elem 24)).run Try.prog W = .ok 1 W := rfl
  rw [hs]
  simp [sliced]

set_option maxHeartbeats 1000000 in
theorem rsmall_ok (w : World) (Q : Nat → Prop) (p : Nat) (x : Int) (r : List Int) (hR : RdIs w Q p (x :: r)) :
    Calls Try.prog 25 #[.pointer (some ⟨p, 0, none⟩)] w fun e w' => e = .returned (.int .i64 x) ∧ RdIs w' Q p r ∧ Fr (One p) w w' := by
  obtain ⟨A, c, h1, h2, h3, h4⟩ := hR.row
  have hx := hR.fits.head
  have htl := h2.tail h3
  have hcut := cut1 A r.length c
  obtain ⟨b, off, rfl, q, hc⟩ := h2.at_ (by simp)
  have c0 : w.cell? ⟨p, 0, none⟩ = some (.slice (some ⟨b, off, none⟩) (r.length + 1) c) := by rw [h1.cell]; rfl
  have d0 : w.cell? ⟨b, off, none⟩ = some (.int .u8 x) := hc 0 _ rfl
  have f0 := h1.frozen 0
  have hbp : b ≠ p := fun h => hR.far (h ▸ q)
  have HT := Lib.hid htl
  clear htl hc
  generalize hA : (if c = 1 then some ⟨b, off, none⟩ else (some (⟨b, off, none⟩ : Addr)).map (·.add 1)) = A' at *
  have HA := Lib.hid hA
  clear hA
  go_enter Try.func25, Try.ntmps25
  go_wp2
  go_ret
  refine ⟨rfl, ⟨⟨A', c - 1, ?_, (HT.out).fr (B := One p) ((Fr.refl (One p) w).setCell (.inl rfl) _) (fun b' hb' h => hR.far (h ▸ hb')), by simp at h3; omega, by omega⟩, hR.fits.tail, hR.low⟩, (Fr.refl (One p) w).setCell (.inl rfl) _⟩
  have := h1.set_ 0 (.slice A' r.length (c - 1))
  simpa using this

set_option maxHeartbeats 1000000 in
theorem rsmall_no (w : World) (Q : Nat → Prop) (p : Nat) (hR : RdIs w Q p []) :
    Calls Try.prog 25 #[.pointer (some ⟨p, 0, none⟩)] w fun e w' => e = short ∧ w = w' := by
  obtain ⟨A, c, h1, h2, h3, h4⟩ := hR.row
  have c0 : w.cell? ⟨p, 0, none⟩ = some (.slice A 0 c) := by rw [h1.cell]; rfl
  go_enter Try.func25, Try.ntmps25
  go_wp2
  exact ⟨rfl, rfl, rfl⟩

theorem bits0 (a : Int) (ha : 0 ≤ a ∧ a ≤ 255) : bits .or .u32 0 a = a := by
  obtain ⟨A, rfl⟩ := Int.eq_ofNat_of_zero_le ha.1
  have := u32_or_nat 0 A (by omega) (by omega)
  simpa using this
theorem bits_k (k : Nat) (n x : Int) (hn : 0 ≤ n) (hn2 : n < (2 : Int) ^ k) (hx0 : 0 ≤ x) (hx2 : x * 2 ^ k < 4294967296) (hk : k ≤ 31) : bits .or .u32 n (x * 2 ^ k) = n + x * 2 ^ k := by
  obtain ⟨N, rfl⟩ := Int.eq_ofNat_of_zero_le hn
  obtain ⟨X, rfl⟩ := Int.eq_ofNat_of_zero_le hx0
  have hp : (2 : Nat) ^ k ≤ 2 ^ 31 := Nat.pow_le_pow_right (by omega) hk
  have h1 : ((X : Int) * 2 ^ k) = ((X * 2 ^ k : Nat) : Int) := by simp
  have hN : N < 2 ^ k := by
    have : (N : Int) < ((2 ^ k : Nat) : Int) := by simpa using hn2
    omega
  rw [h1] at hx2 ⊢
  have hX : X * 2 ^ k < 4294967296 := by omega
  rw [u32_or_nat N (X * 2 ^ k) (by omega) hX, or_join k (X * 2 ^ k) N (Nat.mul_mod_left _ _) hN]
  omega

theorem kval_eq (k0 k1 k2 k3 : Int) (b0 : 0 ≤ k0 ∧ k0 ≤ 255) (b1 : 0 ≤ k1 ∧ k1 ≤ 255) (b2 : 0 ≤ k2 ∧ k2 ≤ 255) (b3 : 0 ≤ k3 ∧ k3 ≤ 255) :
    wrap64 (wrap32 (bits BinOp.or IntKind.u32 (bits BinOp.or IntKind.u32 (bits BinOp.or IntKind.u32 (bits BinOp.or IntKind.u32 0 k0) (k1 * 256)) (k2 * 65536)) (k3 * 16777216))) = kval k0 k1 k2 k3 := by
  have e1 := bits_k 8 k0 k1 (by omega) (by simp; omega) (by omega) (by simp; omega) (by omega)
  have e2 := bits_k 16 (k0 + k1 * 256) k2 (by omega) (by simp; omega) (by omega) (by simp; omega) (by omega)
  have e3 := bits_k 24 (k0 + k1 * 256 + k2 * 65536) k3 (by omega) (by simp; omega) (by omega) (by simp; omega) (by omega)
  simp at e1 e2 e3
  rw [bits0 k0 b0, e1, e2, e3]
  unfold kval uval wrap64 wrap32
  split <;> omega

set_option maxHeartbeats 4000000 in
theorem rwide_ok (w : World) (Q : Nat → Prop) (p : Nat) (k0 k1 k2 k3 : Int) (r : List Int) (hR : RdIs w Q p (k0 :: k1 :: k2 :: k3 :: r)) :
    Calls Try.prog 33 #[.pointer (some ⟨p, 0, none⟩)] w fun e w' => e = .returned (.int .i64 (kval k0 k1 k2 k3)) ∧ RdIs w' Q p r ∧ Fr (One p) w w' := by
  have b0 := hR.fits.head
  have b1 := hR.fits.tail.head
  have b2 := hR.fits.tail.tail.head
  have b3 := hR.fits.tail.tail.tail.head
  go_enter Try.func33, Try.ntmps33
  go_wp2
  refine wp_loop_rounds 5 ?_
  rw [rounds_succ]
  go_wp2_with fail
  refine (rsmall_ok w Q p _ _ hR).mono ?_
  rintro e w1 ⟨rfl, hR1, hF1⟩
  go_wp2_with fail
  rw [rounds_succ]
  go_wp2_with fail
  refine (rsmall_ok w1 Q p _ _ hR1).mono ?_
  rintro e w2 ⟨rfl, hR2, hF2⟩
  go_wp2_with fail
  rw [rounds_succ]
  go_wp2_with fail
  refine (rsmall_ok w2 Q p _ _ hR2).mono ?_
  rintro e w3 ⟨rfl, hR3, hF3⟩
  go_wp2_with fail
  rw [rounds_succ]
  go_wp2_with fail
  refine (rsmall_ok w3 Q p _ _ hR3).mono ?_
  rintro e w4 ⟨rfl, hR4, hF4⟩
  go_wp2_with fail
  rw [rounds_succ]
  go_wp2_with fail
  go_ret
  refine ⟨?_, hR4, ((hF1.trans hF2).trans hF3).trans hF4⟩
  rw [← kval_eq k0 k1 k2 k3 b0 b1 b2 b3]
  rfl

set_option maxHeartbeats 4000000 in
theorem rwide_no (w : World) (Q : Nat → Prop) (p : Nat) (bs : List Int) (hR : RdIs w Q p bs) (hl : bs.length < 4) :
    Calls Try.prog 33 #[.pointer (some ⟨p, 0, none⟩)] w fun e w' => e = short ∧ Fr (One p) w w' := by
  match bs, hl, hR with
  | [], _, hR =>
    go_enter Try.func33, Try.ntmps33
    go_wp2
    refine wp_loop_rounds 5 ?_
    rw [rounds_succ]
    go_wp2_with fail
    refine (rsmall_no w Q p hR).mono ?_
    rintro e w1 ⟨rfl, rfl⟩
    go_wp2_with fail
    exact ⟨rfl, rfl, Fr.refl _ _⟩
  | [k0], _, hR =>
    have b0 := hR.fits.head
    go_enter Try.func33, Try.ntmps33
    go_wp2
    refine wp_loop_rounds 5 ?_
    rw [rounds_succ]
    go_wp2_with fail
    refine (rsmall_ok w Q p _ _ hR).mono ?_
    rintro e w1 ⟨rfl, hR1, hF1⟩
    go_wp2_with fail
    rw [rounds_succ]
    go_wp2_with fail
    refine (rsmall_no w1 Q p hR1).mono ?_
    rintro e w2 ⟨rfl, rfl⟩
    go_wp2_with fail
    exact ⟨rfl, rfl, hF1⟩
  | [k0, k1], _, hR =>
    have b0 := hR.fits.head
    have b1 := hR.fits.tail.head
    go_enter Try.func33, Try.ntmps33
    go_wp2
    refine wp_loop_rounds 5 ?_
    rw [rounds_succ]
    go_wp2_with fail
    refine (rsmall_ok w Q p _ _ hR).mono ?_
    rintro e w1 ⟨rfl, hR1, hF1⟩
    go_wp2_with fail
    rw [rounds_succ]
    go_wp2_with fail
    refine (rsmall_ok w1 Q p _ _ hR1).mono ?_
    rintro e w2 ⟨rfl, hR2, hF2⟩
    go_wp2_with fail
    rw [rounds_succ]
    go_wp2_with fail
    refine (rsmall_no w2 Q p hR2).mono ?_
    rintro e w3 ⟨rfl, rfl⟩
    go_wp2_with fail
    exact ⟨rfl, rfl, hF1.trans hF2⟩
  | [k0, k1, k2], _, hR =>
    have b0 := hR.fits.head
    have b1 := hR.fits.tail.head
    have b2 := hR.fits.tail.tail.head
    go_enter Try.func33, Try.ntmps33
    go_wp2
    refine wp_loop_rounds 5 ?_
    rw [rounds_succ]
    go_wp2_with fail
    refine (rsmall_ok w Q p _ _ hR).mono ?_
    rintro e w1 ⟨rfl, hR1, hF1⟩
    go_wp2_with fail
    rw [rounds_succ]
    go_wp2_with fail
    refine (rsmall_ok w1 Q p _ _ hR1).mono ?_
    rintro e w2 ⟨rfl, hR2, hF2⟩
    go_wp2_with fail
    rw [rounds_succ]
    go_wp2_with fail
    refine (rsmall_ok w2 Q p _ _ hR2).mono ?_
    rintro e w3 ⟨rfl, hR3, hF3⟩
    go_wp2_with fail
    rw [rounds_succ]
    go_wp2_with fail
    refine (rsmall_no w3 Q p hR3).mono ?_
    rintro e w4 ⟨rfl, rfl⟩
    go_wp2_with fail
    exact ⟨rfl, rfl, (hF1.trans hF2).trans hF3⟩
end Go.Proofs.Ytahojahplpcbiaa
