/-
  A new pool beside blocks that the law guards. No condition.
-/
import Derived.Test.YtichhieopnbgpaaP24
namespace Go.Proofs.Ytichhieopnbgpaa
open Go.RowKit

theorem new_plg (G : Nat → Prop) (w0 w : World) (hf : Fr F0 w0 w) (S : Shp) (hS : S.Ok) (hsm : S.many ≤ 50000) (base mp ms : Nat) (hbase : base ≤ 100000) (ws : List (Bool × Int)) (st : Int) (hM : MemIs w mp ms ws st) (hmp : w0.heap.size ≤ mp) (hms : w0.heap.size ≤ ms) (hwl : ws.length ≤ 65536) (hfit : base + S.words ≤ ws.length) (hfree : ∀ j, j < S.words → ∃ m, ws[base + j]? = some (false, m)) (hG : ∀ g, G g → g < w.heap.size ∧ g ≠ mp ∧ g ≠ ms) :
    Calls Try.prog 12 #[.pointer (some ⟨mp, 0, none⟩), .int .i64 (base : Int), .agg S.i.cells] w fun e w' => ∃ P, e = .returned (.tuple #[.pointer (some ⟨P, 0, none⟩), .int .i64 0]) ∧ Pl w0 G w' P mp S base st (initSt S ws) ∧ Fr F0 w w' := by
  have hsz := hf.size
  refine (new_yes2 w w.heap.size (Nat.le_refl _) S hS base mp ms hbase ws st hM hwl hfit).mono ?_
  rintro e w' ⟨P, b, t, vs, rfl, hpr, hf1, hP, hor⟩
  refine ⟨P, rfl, ⟨_, ms, b, t, vs, hpr, fun k hk => ?_, Inv.init hfree hfit, fun g hg => Nat.lt_of_lt_of_le (hG g hg).1 hf1.size, fun e => by have := (hG P e).1; omega, Nat.le_trans hsz hf1.size, hsm, hbase⟩, hf1⟩
  rcases hor k hk with (rfl | rfl) | h1
  · exact ⟨hmp, fun e => (hG _ e).2.1 rfl⟩
  · exact ⟨hms, fun e => (hG _ e).2.2 rfl⟩
  · exact ⟨by omega, fun e => by have := (hG _ e).1; omega⟩
theorem FrG.blk {w0 w w' : World} {G : Nat → Prop} {g : Nat} {t : TypeId} {cs : Array Value} (h : Blk w g t cs) (hf : FrG w0 G w w') (hg : G g) : Blk w' g t cs := h.fr hf (fun e => e.2 hg)
theorem Pl.less {w0 w : World} {G G' : Nat → Prop} {P mp : Nat} {S : Shp} {base : Nat} {st : Int} {σ : St} (h : Pl w0 G w P mp S base st σ) (hG : ∀ k, G' k → G k) : Pl w0 G' w P mp S base st σ := by
  obtain ⟨x, ms, b, t, vs, h⟩ := h
  exact ⟨x, ms, b, t, vs, h.pr, fun k hk => ⟨(h.pb k hk).1, fun e => (h.pb k hk).2 (hG k e)⟩, h.inv, fun g hg => h.gl g (hG g hg), fun e => h.gp (hG _ e), h.sz, h.sm, h.bs⟩
theorem Fr.g2 {w0 w w' : World} {B : Nat → Prop} (h : Fr F0 w0 w) (k : Fr B w w') (hB : ∀ g, B g → w0.heap.size ≤ g) : Fr F0 w0 w' := h.then k (fun _ hi => .inr (hB _ hi))
end Go.Proofs.Ytichhieopnbgpaa
