/-
  Rows of a pool's own, and pool.turn. No condition.
-/
import Derived.Test.YtichhieopnbgpaaP2
import Derived.Test.YtichhieopnbgpaaApp
namespace Go.Proofs.Ytichhieopnbgpaa
open Go.RowKit

def nc (l : List Nat) : List Value := l.map fun (a : Nat) => Value.int .i64 (a : Int)
theorem nc_length (l : List Nat) : (nc l).length = l.length := by simp [nc]
theorem nc_one (l : List Nat) : ∀ u ∈ nc l, u.oneCell' = true := by
  intro u hu
  obtain ⟨a, _, rfl⟩ := List.mem_map.1 hu
  rfl
theorem nc_at {l : List Nat} {i a : Nat} (h : l[i]? = some a) : (nc l)[i]? = some (.int .i64 (a : Int)) := by simp [nc, h]

section
variable {w w' : World} {base base' size size' n n' : Nat} {e e' : TypeId} {v v' : Value} {xs xs' : List Value}
theorem own_fr {B : Nat → Prop} (h : w.ownsRow base e size v n xs) (hf : Fr B w w') (hB : ∀ g, v.ownBlock = some g → ¬ B g) : w'.ownsRow base e size v n xs := by
  refine ⟨h.1, ?_⟩
  rcases h.2 with h2 | ⟨g, cap, cur, hv, hg, hh, r⟩
  · exact .inl h2
  · have hlt : g < w.heap.size := Blk.lt (t := e) hh
    exact .inr ⟨g, cap, cur, hv, hg, (hf.block g hlt (hB g (by rw [hv]; rfl))).trans hh, r⟩
theorem own_lt (h : w.ownsRow base e size v n xs) : ∀ g, v.ownBlock = some g → g < w.heap.size := fun g hg => (h.lt g hg).2
theorem own_slice (h : w.ownsRow base e size v n xs) : ∃ A c, v = .slice A n c := by
  rcases h.2 with ⟨rfl, rfl⟩ | ⟨g1, cap, cur, rfl, hb, h1, _⟩
  · exact ⟨none, 0, rfl⟩
  · exact ⟨_, cap, rfl⟩
theorem own_ne {t : TypeId} {cs : Array Value} {g : Nat} (h : w.ownsRow base e size v n xs) (hg : Blk w g t cs) (hne : e ≠ t) : v.ownBlock ≠ some g := by
  rcases h.2 with ⟨rfl, _⟩ | ⟨g', cap, cur, rfl, _, hh, _⟩
  · simp [Value.ownBlock]
  · intro he
    have : g' = g := by simpa [Value.ownBlock] using he
    subst this
    exact Blk.ne_ (t := e) hh hg hne rfl
/-- The row's beginning. -/
theorem own_cut {A : Option Addr} {c m : Nat} (h : w.ownsRow base e size (.slice A n c) n xs) (hm : m ≤ n) : w.ownsRow base e size (.slice A m c) m (xs.take (m * size)) := by
  have hl := h.1
  have hms : m * size ≤ n * size := Nat.mul_le_mul_right _ hm
  refine ⟨by rw [List.length_take]; omega, ?_⟩
  rcases h.2 with ⟨h0, h1⟩ | ⟨g, cap, cur, hv, hb, hg, hnc, hcm, hcs, htk⟩
  · injection h0 with e1 e2 e3
    subst e1; subst e3
    have : m = 0 := by omega
    subst this
    exact .inl ⟨rfl, rfl⟩
  · injection hv with e1 e2 e3
    subst e1; subst e3
    refine .inr ⟨g, c, cur, rfl, hb, hg, by omega, hcm, hcs, ?_⟩
    rw [← htk, List.take_take, Nat.min_eq_left hms]
theorem own_form {A : Option Addr} {c : Nat} (h : w.ownsRow base e size (.slice A n c) n xs) : (A = none ∧ n = 0 ∧ c = 0) ∨ ∃ g, A = some ⟨g, 0, none⟩ ∧ n ≤ c ∧ c ≤ maxLen := by
  rcases h.2 with ⟨h0, h1⟩ | ⟨g, cap, cur, hv, hb, hg, hnc, hcm, hcs, htk⟩
  · injection h0 with e1 e2 e3
    exact .inl ⟨e1, h1, e3⟩
  · injection hv with e1 e2 e3
    exact .inr ⟨g, e1, by omega, by omega⟩
theorem own_at {A : Option Addr} {c i : Nat} {u : Value} (h : w.ownsRow base e 1 (.slice A n c) n xs) (hi : xs[i]? = some u) : ∃ g, A = some ⟨g, 0, none⟩ ∧ w.cell? ⟨g, i, none⟩ = some u := by
  have hil := lt_of hi
  have hl := h.1
  rcases own_form h with ⟨_, h0, _⟩ | ⟨g, rfl, _, _⟩
  · omega
  · refine ⟨g, rfl, ?_⟩
    have := h.cells (g := g) rfl i u hi
    have hadd : (⟨g, 0, none⟩ : Addr).add i = ⟨g, i, none⟩ := by unfold Addr.add; split <;> simp_all
    rw [← hadd]
    exact this
end

theorem info_parts {P : Program} {t : TypeId} {z : Value} {s b : Nat} (h : (P.info? t).map (fun i => (i.zero, i.size, i.bytes)) = some (some z, s, b)) : ∃ i, P.info? t = some i ∧ i.zero = some z ∧ i.size = s ∧ i.bytes = b := by
  obtain ⟨i, hi, hx⟩ := Option.map_eq_some_iff.1 h
  simp only [Prod.mk.injEq] at hx
  exact ⟨i, hi, hx.1, hx.2.1, hx.2.2⟩
theorem info_int : (Try.prog.info? 3).map (fun i => (i.zero, i.size, i.bytes)) = some (some (.int .i64 0), 1, 8) := by kernel_rfl

set_option maxHeartbeats 4000000 in
set_option maxRecDepth 100000 in
theorem turn_less (w : World) (base : Nat) (A : Option Addr) (c n gone m : Nat) (l : List Nat) (hown : w.ownsRow base 3 1 (.slice A n c) n (nc l)) (hg : n = m + gone) (hn : n ≤ 200000) (hbase : base ≤ w.heap.size) :
    Calls Try.prog 39 #[.slice A n c, .int .i64 (gone : Int), .slice none 0 0] w fun e w' => ∃ A' c', e = .returned (.slice A' m c') ∧ w'.ownsRow base 3 1 (.slice A' m c') m (nc (l.take m)) ∧ Fr (fun k => (Value.slice A n c).ownBlock = some k) w w' ∧ (∀ k, (Value.slice A' m c').ownBlock = some k → (Value.slice A n c).ownBlock = some k ∨ w.heap.size ≤ k) := by
  obtain ⟨i0, hi0, hz0, hz1, hz2⟩ := info_parts info_int
  have hc0 := own_cut hown (m := m) (by omega)
  have hc : w.ownsRow base 3 1 (.slice A m c) m (nc (l.take m)) := by
    have : (nc l).take (m * 1) = nc (l.take m) := by simp [nc, List.map_take]
    rw [this] at hc0
    exact hc0
  have HC := Lib.hid hc
  have e1 : (n : Int) - (gone : Int) = (m : Int) := by omega
  have hform := own_form hown
  have hmn : m ≤ n := by omega
  clear hown hc0 hc
  rcases hform with ⟨rfl, rfl, rfl⟩ | ⟨g, rfl, h1, h2⟩
  · have hm0 : m = 0 := by omega
    have hg0 : gone = 0 := by omega
    subst hm0
    subst hg0
    clear e1 hg hmn
    go_enter Try.func39, Try.ntmps39
    go_wp2_with (at_builtin; refine app_list w rfl (.tmp 12) (.tmp 13) 75 rfl base 3 i0 (.int .i64 0) 1 8 Try.underlying75 hi0 hz0 hz1 hz2 rfl (by decide) _ 0 _ rfl HC.out F0 none 0 0 [] rfl Rd.nil (by simp) (by unfold maxLen; omega) (by omega) hbase ?_)
    intro v' w' h2 h3 h4
    obtain ⟨A', c', rfl⟩ := own_slice h2
    have H2 := Lib.hid h2
    have H3 := Lib.hid h3
    have H4 := Lib.hid h4
    clear h2 h3 h4
    go_wp2_with fail
    go_ret
    refine ⟨A', c', rfl, by simpa using H2.out, (Fr.grown H3.out).mono (fun k hk => hk.symm), fun k hk => ?_⟩
    rcases H4.out with h | h
    · left; rw [h] at hk; exact hk
    · right; rw [h] at hk; injection hk with hk; omega
  · have hmc : m ≤ c := by omega
    have hm2 : m ≤ 200000 := by omega
    clear hg
    go_enter Try.func39, Try.ntmps39
    go_wp2_with (at_builtin; refine app_list w rfl (.tmp 12) (.tmp 13) 75 rfl base 3 i0 (.int .i64 0) 1 8 Try.underlying75 hi0 hz0 hz1 hz2 rfl (by decide) _ m _ rfl HC.out F0 none 0 0 [] rfl Rd.nil (by simp) (by unfold maxLen; omega) (by omega) hbase ?_)
    intro v' w' h2 h3 h4
    obtain ⟨A', c', rfl⟩ := own_slice h2
    have H2 := Lib.hid h2
    have H3 := Lib.hid h3
    have H4 := Lib.hid h4
    clear h2 h3 h4
    go_wp2_with fail
    go_ret
    refine ⟨A', c', rfl, by simpa using H2.out, (Fr.grown H3.out).mono (fun k hk => hk.symm), fun k hk => ?_⟩
    rcases H4.out with h | h
    · left; rw [h] at hk; exact hk
    · right; rw [h] at hk; injection hk with hk; omega

set_option maxHeartbeats 4000000 in
set_option maxRecDepth 100000 in
theorem turn_more (w : World) (base : Nat) (A : Option Addr) (c n x : Nat) (l : List Nat) (hown : w.ownsRow base 3 1 (.slice A n c) n (nc l)) (hn : n ≤ 200000) (hbase : base ≤ w.heap.size) (cb : Nat) (hcb : Blk w cb 3 #[.int .i64 (x : Int)]) :
    Calls Try.prog 39 #[.slice A n c, .int .i64 0, .slice (some ⟨cb, 0, none⟩) 1 1] w fun e w' => ∃ A' c', e = .returned (.slice A' (n + 1) c') ∧ w'.ownsRow base 3 1 (.slice A' (n + 1) c') (n + 1) (nc (l ++ [x])) ∧ Fr (fun k => (Value.slice A n c).ownBlock = some k) w w' ∧ (∀ k, (Value.slice A' (n + 1) c').ownBlock = some k → (Value.slice A n c).ownBlock = some k ∨ w.heap.size ≤ k) := by
  obtain ⟨i0, hi0, hz0, hz1, hz2⟩ := info_parts info_int
  have HC := Lib.hid hown
  have HR : Hid (Rd w (fun _ => True) 1 (some ⟨cb, 0, none⟩) 1 [.int .i64 (x : Int)]) := Rd.of_blk (cs := [.int .i64 (x : Int)]) hcb rfl trivial
  have hform := own_form hown
  have hnc : nc l ++ [.int .i64 (x : Int)] = nc (l ++ [x]) := by simp [nc]
  have HNC := Lib.hid hnc
  clear hown hcb hnc
  rcases hform with ⟨rfl, rfl, rfl⟩ | ⟨g, rfl, h1, h2⟩
  all_goals
    go_enter Try.func39, Try.ntmps39
    go_wp2_with (at_builtin; refine app_list w rfl (.tmp 12) (.tmp 13) 75 rfl base 3 i0 (.int .i64 0) 1 8 Try.underlying75 hi0 hz0 hz1 hz2 rfl (by decide) _ _ _ rfl HC.out (fun _ => True) _ 1 1 _ rfl HR.out (by intro u hu; simp at hu; subst hu; rfl) (by unfold maxLen; omega) (by omega) hbase ?_)
    intro v' w' h2 h3 h4
    obtain ⟨A', c', rfl⟩ := own_slice h2
    have H2 := Lib.hid h2
    have H3 := Lib.hid h3
    have H4 := Lib.hid h4
    clear h2 h3 h4
    go_wp2_with fail
    go_ret
    refine ⟨A', c', rfl, by rw [← HNC.out]; exact H2.out, (Fr.grown H3.out).mono (fun k hk => hk.symm), fun k hk => ?_⟩
    rcases H4.out with h | h
    · left; rw [← h]; exact hk
    · right; rw [h] at hk; injection hk with hk; omega
end Go.Proofs.Ytichhieopnbgpaa
