/-
  evaluate does a task's instructions to its end.
-/
import Derived.Test.YtbhnnnpofindiaaDoorSte
import Derived.Test.YtbhnnnpofindiaaDoorEvlC
namespace Go.Proofs.YtbhnnnpofindiaaDoor
open Go.RowKit

theorem step_any (c : Cx) (i : Ti) (w : World) (t : Tk) (sv tv lv : Value) (sh : Sh) (ll : List LEnt) (hT : TkAt c i w t sv false 0) (hS : ShAt c w sh tv lv ll) (hG : Goes c i t sh) (hF : Fits c i) (hE : EvOK c sh.left.toNat) :
    Calls Tryd.prog 47 #[.pointer (some ⟨i.g, 0, none⟩)] w (StPost c i w tv lv sv (stepR (fns c.L) c.bud c.dep i.code i.path i.me t sh)) := by
  unfold stepR
  by_cases h3 : steps sh i.me = c.bud
  · rw [if_pos h3]
    exact step_bud c i w t sv tv lv sh ll hT hS hG hF h3
  · rw [if_neg h3]
    by_cases h0 : sh.left ≤ 0
    · rw [if_pos h0]
      exact step_long c i w t sv tv lv sh ll hT hS hG hF h3 h0
    · rw [if_neg h0]
      obtain ⟨x, hx⟩ : ∃ x, i.code[t.pc]? = some x := ⟨_, List.getElem?_eq_getElem hG.pc⟩
      have hd : i.code.getD t.pc ⟨0, 0, 0, 0, 0⟩ = x := by rw [List.getD_eq_getElem?_getD, hx]; rfl
      rw [hd]
      exact step_do c i w t sv tv lv sh ll hT hS hG hF h3 h0 hE x hx

theorem steps_tick {sh : Sh} {me : Nat} (h : me < sh.log.length) : steps (tick sh me) me = steps sh me + 1 := by
  unfold steps tick
  rw [List.getElem?_modify]
  simp [List.getElem?_eq_getElem h]

theorem goes_next {c : Cx} {i : Ti} {t t' : Tk} {sh sh' : Sh} (hG : Goes c i t sh) (hF : Fits c i) (hl : lastOk i.code) (h : stepR (fns c.L) c.bud c.dep i.code i.path i.me t sh = .next t' sh') :
    Goes c i t' sh' ∧ sh'.left.toNat < sh.left.toNat := by
  unfold stepR at h
  by_cases h3 : steps sh i.me = c.bud
  · rw [if_pos h3] at h; cases h
  rw [if_neg h3] at h
  by_cases h0 : sh.left ≤ 0
  · rw [if_pos h0] at h; cases h
  rw [if_neg h0] at h
  obtain ⟨x, hx⟩ : ∃ x, i.code[t.pc]? = some x := ⟨_, List.getElem?_eq_getElem hG.pc⟩
  have hd : i.code.getD t.pc ⟨0, 0, 0, 0, 0⟩ = x := by rw [List.getD_eq_getElem?_getD, hx]; rfl
  rw [hd] at h
  obtain ⟨op, a, b, cc, hok⟩ := ins_ok (hF.ins x (List.mem_of_getElem? hx))
  have hlast : t.pc + 1 < i.code.length ∨ x.op = 9 ∨ x.op = 16 ∨ x.op = 17 := by
    by_cases he : t.pc + 1 < i.code.length
    · exact .inl he
    · have hp := hG.pc
      have : t.pc = i.code.length - 1 := by omega
      rw [this] at hx
      have := last_at hx
      unfold lastOk at hl
      rw [this] at hl
      exact .inr hl
  have tk := tick_lt (sh := sh) (me := i.me) h0
  have k0 := keeps_tick (me := i.me) (a := sh) h0
  have st := steps_tick hG.me
  have tl : (tick sh i.me).log.length = sh.log.length := by simp [tick]
  have base : ∀ {t2 : Tk} {sh2 : Sh}, t2.pc < i.code.length → t2.kids + sh2.left.toNat ≤ 1000000 → t2.spw.length + sh2.left.toNat ≤ 1000000 → Keeps i.me sh sh2 → steps sh2 i.me = steps sh i.me + 1 → sh2.left.toNat < sh.left.toNat → Goes c i t2 sh2 ∧ sh2.left.toNat < sh.left.toNat := by
    intro t2 sh2 g1 g2 g3 k g4 g5
    have h1 := hG.s0
    have h2 := hG.s1
    have hlim := hG.lim
    refine ⟨⟨Nat.lt_of_lt_of_le hG.me k.log, g1, by omega, by omega, g2, g3, ?_⟩, g5⟩
    have kt := k.told
    have kl := k.logs
    unfold Lim at hlim ⊢
    omega
  have gk := hG.kids
  have gs := hG.spw
  have lens : ∀ t2, (exec x { t with pc := t.pc + 1 } = .next t2 ∨ ∃ v, exec x { t with pc := t.pc + 1 } = .tell v t2) → t2.kids = t.kids ∧ t2.spw.length ≤ t.spw.length := by
    intro t2 he
    unfold exec at he
    have e1 : x.op.toNat = op := by rw [hok.eop]; rfl
    rw [e1] at he
    have o1 := hok.op1
    have o17 := hok.op17
    have : op = 1 ∨ op = 2 ∨ op = 3 ∨ op = 4 ∨ op = 5 ∨ op = 6 ∨ op = 7 ∨ op = 8 ∨ op = 9 ∨ op = 10 ∨ op = 11 ∨ op = 12 ∨ op = 13 ∨ op = 14 ∨ op = 15 ∨ op = 16 ∨ op = 17 := by omega
    rcases this with rfl | rfl | rfl | rfl | rfl | rfl | rfl | rfl | rfl | rfl | rfl | rfl | rfl | rfl | rfl | rfl | rfl
    all_goals
      simp only at he
      (try split at he)
      all_goals
        rcases he with he | ⟨v, he⟩
        all_goals first
          | (injection he with he; subst he; exact ⟨rfl, by simp [setR, flush]⟩)
          | (injection he with he1 he2; subst he2; exact ⟨rfl, by simp⟩)
          | cases he
  have pcs : ∀ t2, (exec x { t with pc := t.pc + 1 } = .next t2 ∨ ∃ v, exec x { t with pc := t.pc + 1 } = .tell v t2) → t2.pc < i.code.length := by
    intro t2 he
    refine exec_pc hok ?_ he
    rcases hlast with h1 | h1 | h1 | h1
    · exact .inl h1
    · exact .inr (by have := hok.eop; omega)
    · exfalso
      unfold exec at he
      rw [show x.op.toNat = 16 by omega] at he
      rcases he with he | ⟨v, he⟩ <;> cases he
    · exfalso
      unfold exec at he
      rw [show x.op.toNat = 17 by omega] at he
      rcases he with he | ⟨v, he⟩ <;> cases he
  unfold doR at h
  cases hex : exec x { t with pc := t.pc + 1 } with
  | next t2 =>
    rw [hex] at h
    injection h with h1 h2
    subst h1 h2
    obtain ⟨l1, l2⟩ := lens _ (.inl hex)
    exact base (pcs _ (.inl hex)) (by omega) (by omega) k0 st tk
  | tell v t2 =>
    rw [hex] at h
    injection h with h1 h2
    subst h1 h2
    obtain ⟨l1, l2⟩ := lens _ (.inr ⟨v, hex⟩)
    exact base (pcs _ (.inr ⟨v, hex⟩)) (by show _ + (tick sh i.me).left.toNat ≤ _; omega) (by show _ + (tick sh i.me).left.toNat ≤ _; omega) (keeps_tell h0 v) st tk
  | fin v t2 => rw [hex] at h; cases h
  | fail k => rw [hex] at h; cases h
  | call =>
    rw [hex] at h
    simp only at h
    by_cases hdp : (i.path.length : Int) = c.dep
    · rw [if_pos hdp] at h; cases h
    rw [if_neg hdp] at h
    have hkk := runF_keeps (fns c.L) c.bud c.dep (codeAt (fns c.L) x.c.toNat) (i.path ++ [(({ t with pc := t.pc + 1 } : Tk).kids : Int)]) (tick sh i.me).log.length (newTk (argsOf (fns c.L) x { t with pc := t.pc + 1 }) ({ t with pc := t.pc + 1 } : Tk).futs) (enter (tick sh i.me) (i.path ++ [(({ t with pc := t.pc + 1 } : Tk).kids : Int)]))
    have hkid : runF (fns c.L) c.bud c.dep (codeAt (fns c.L) x.c.toNat) (i.path ++ [(({ t with pc := t.pc + 1 } : Tk).kids : Int)]) (tick sh i.me).log.length (newTk (argsOf (fns c.L) x { t with pc := t.pc + 1 }) ({ t with pc := t.pc + 1 } : Tk).futs) (enter (tick sh i.me) (i.path ++ [(({ t with pc := t.pc + 1 } : Tk).kids : Int)])) = kidR (fns c.L) c.bud c.dep i.path x { t with pc := t.pc + 1 } (tick sh i.me) := rfl
    rw [hkid] at hkk
    generalize kidR (fns c.L) c.bud c.dep i.path x { t with pc := t.pc + 1 } (tick sh i.me) = r at h hkk
    obtain ⟨o, sh2⟩ := r
    cases o with
    | fail k => cases h
    | long => cases h
    | ok v =>
      injection h with h1 h2
      subst h1 h2
      have ke := keeps_enter h0 _ hkk
      have hstep : steps sh2 i.me = steps sh i.me + 1 := by
        rw [← st]
        unfold steps
        have := hkk.other i.me (by simp [enter]; have := hG.me; omega) (by have := hG.me; omega)
        rw [this]
        show (((tick sh i.me).log ++ [_])[i.me]?.map _).getD 0 = _
        rw [List.getElem?_append_left (by have := hG.me; omega)]
      have hl2 : sh2.left.toNat < sh.left.toNat := by
        have h4 : sh2.left ≤ (tick sh i.me).left := hkk.left
        omega
      have hpc : t.pc + 1 < i.code.length := by
        rcases hlast with h1 | h1
        · exact h1
        · exfalso
          unfold exec at hex
          rcases h1 with h1 | h1 | h1
          · rw [show x.op.toNat = 9 by omega] at hex; cases hex
          · rw [show x.op.toNat = 16 by omega] at hex; cases hex
          · rw [show x.op.toNat = 17 by omega] at hex; cases hex
      refine base ?_ ?_ ?_ ke hstep hl2
      · unfold took; split <;> exact hpc
      · unfold took; split
        · show t.kids + 1 + _ ≤ _; omega
        · show t.kids + 1 + _ ≤ _; omega
      · unfold took; split
        · show (t.spw ++ [_]).length + _ ≤ _
          simp; omega
        · show t.spw.length + _ ≤ _; omega
end Go.Proofs.YtbhnnnpofindiaaDoor
