/-
  haymowlaw01.MemOwn returns true for every list of acts, and the argument reads as it did. No condition.
-/
import Derived.Test.YtlhhnpbpmjbbaaaEasy
import Derived.Test.YtlhhnpbpmjbbaaaActs
import Derived.StillTailTactics
import Derived.Test.YtlhhnpbpmjbbaaaRows
import Derived.ProofKit
import Derived.OpenShut
import Derived.ShutString
import Derived.ChangeOld
namespace Go.Proofs.Ytlhhnpbpmjbbaaa.memOwn
open Go.ChangeShapes Go.WideShapes Go.ChangeAt Go.RowKit
open Go.ChangeMaps (open_string shut_string)

set_option maxHeartbeats 1000000 in
theorem long (a0 : Option Addr) (len0 cap0 : Nat) (h : 60 < len0) (w : World) :
    Calls Try.prog 5 #[.slice a0 len0 cap0] w fun e w' => e = .returned (.bool true) ∧ Below w.heap.size w w' := by
  have h1 : (60 : Int) < (len0 : Int) := by omega
  go_enter Try.func5, Try.ntmps5
  go_wp2_with fail
  go_ret
  exact ⟨rfl, Below.refl _ _⟩

def AllLive (ws : List (Bool × Int)) : Prop := ws.length = 60 ∧ ∀ k, k < 60 → ∃ m, ws[k]? = some (true, m)

theorem AllLive.set {ws : List (Bool × Int)} (h : AllLive ws) (i : Nat) (n : Int) : AllLive (ws.set i (true, n)) := by
  refine ⟨by rw [List.length_set]; exact h.1, fun k hk => ?_⟩
  rw [List.getElem?_set]
  by_cases e : i = k
  · exact ⟨n, by rw [if_pos e, if_pos (by rw [h.1]; omega)]⟩
  · rw [if_neg e]; exact h.2 k hk
theorem set_other (ws : List (Bool × Int)) (i k : Nat) (x : Bool × Int) (h : k ≠ i) : (ws.set i x)[k]? = ws[k]? := by
  rw [List.getElem?_set, if_neg (fun e => h e.symm)]

theorem mod_pos (x : Int) (n : Int) (hn : 0 < n) (hn2 : n ≤ 1000) : ∃ t : Nat, (wrap64 (x.tmod n + n)).tmod n = t ∧ (t : Int) < n := by
  have h1 := Int.tmod_lt_of_pos x hn
  have h2 := Int.lt_tmod_of_pos x hn
  have hw : wrap64 (x.tmod n + n) = x.tmod n + n := by unfold wrap64; omega
  rw [hw, Int.tmod_eq_emod_of_nonneg (by omega)]
  have h3 := Int.emod_nonneg (x.tmod n + n) (b := n) (by omega)
  have h4 := Int.emod_lt_of_pos (x.tmod n + n) hn
  exact ⟨((x.tmod n + n) % n).toNat, by omega, by omega⟩

/-- The first k cells of the array are the words' numbers. -/
def Seen (cs : List Value) (ws : List (Bool × Int)) (k : Nat) : Prop := cs.length = 60 ∧ ∀ i m, i < k → ws[i]? = some (true, m) → cs[i]? = some (.int .i64 m)
theorem Seen.zero {cs : List Value} {ws : List (Bool × Int)} (h : cs.length = 60) : Seen cs ws 0 := ⟨h, fun _ _ h => absurd h (by omega)⟩
theorem Seen.succ {cs : List Value} {ws : List (Bool × Int)} {k : Nat} {m : Int} (h : Seen cs ws k) (hk : k < 60) (hm : ws[k]? = some (true, m)) : Seen (cs.set k (.int .i64 m)) ws (k + 1) := by
  refine ⟨by rw [List.length_set]; exact h.1, fun i m' hi hm' => ?_⟩
  rw [List.getElem?_set]
  by_cases e : k = i
  · subst e
    rw [hm] at hm'
    injection hm' with hm'
    injection hm' with _ hm'
    rw [if_pos rfl, if_pos (by rw [h.1]; exact hk), hm']
  · rw [if_neg e]; exact h.2 i m' (by omega) hm'

set_option maxRecDepth 100000 in
set_option maxHeartbeats 8000000 in
theorem few (a0 : Option Addr) (len0 cap0 : Nat) (f : Nat → Nat → Int) (w : World) (w0 : IsActs w a0 len0 f) (h : len0 ≤ 60) :
    Calls Try.prog 5 #[.slice a0 len0 cap0] w fun e w' => e = .returned (.bool true) ∧ Below w.heap.size w w' := by
  have h1 : ¬ (60 : Int) < (len0 : Int) := by omega
  have hB : ∀ i, Two (w.heap.size + 1) w.heap.size i → False ∨ w.heap.size ≤ i := by
    rintro i (rfl | rfl)
    · exact .inr (by omega)
    · exact .inr (by omega)
  have HB := Lib.hid hB
  have W0 := Lib.hid w0
  clear w0 hB
  go_enter Try.func5, Try.ntmps5
  go_wp2_with (go_at_call 10; refine (new_yes 60 (by omega) w).mono ?_; rintro e w1 ⟨rfl, hM1, hF1⟩)
  refine (live_ok w1 _ _ _ _ hM1 _ _ 0 60 rfl rfl (by rw [List.length_replicate]; omega) (by rw [List.length_replicate]; omega) (fun j hj => ⟨0, by rw [List.getElem?_replicate, if_pos (by omega)]⟩)).mono ?_
  rintro e w2 ⟨rfl, hM2, hF2⟩
  go_wp2_with fail
  go_loopw [5] (fun i wr => ∃ j : Nat, j ≤ len0 ∧ i = .int .i64 j ∧ ∃ ws st, AllLive ws ∧ 0 ≤ st ∧ st ≤ 200 * (j : Int) ∧ MemIs wr (w.heap.size + 1) w.heap.size ws st ∧ Fr (fun _ => False) w wr) (fun i _ => len0 - (intOf i).toNat)
  case atStart => exact ⟨0, by omega, rfl, _, _, ⟨by rw [setR_length, List.length_replicate], fun k hk => ⟨0, by rw [setR_get _ _ _ _ _ (by rw [List.length_replicate]; omega), if_pos (by omega)]⟩⟩, by omega, by omega, hM2, hF1.then hF2 HB.out⟩
  case round =>
    obtain ⟨j, hj, rfl, ws, st, hws, hst0, hst1, hMr, hFr⟩ := hrel
    by_cases hlt : j < len0
    · obtain ⟨b, off, rfl, hc⟩ := W0.out.2 j hlt
      have hbl : b < w.heap.size := cell_lt (hc 0 (by omega)).1
      have d1 := hFr.held (hc 1 (by omega)).1 (by simp)
      have HC := Lib.hid hc
      clear hc
      have HWS := Lib.hid hws
      clear hws
      obtain ⟨at_, hat, hat60⟩ := mod_pos (f j 1) 60 (by omega) (by omega)
      have HAT := Lib.hid hat
      clear hat
      go_wp2_with fail
      rw [HAT.out]
      have hq : w.heap.size ≤ wr.heap.size := hFr.size
      obtain ⟨q, hqe⟩ : ∃ q, q = wr.heap.size := ⟨_, rfl⟩
      have hQ0 : Blk (wr.alloc (.cells (List.replicate 60 (Value.int .i64 0)).toArray 48)) q 48 (List.replicate 60 (Value.int .i64 0)).toArray := by subst hqe; exact Blk.new _ _ _
      have hqw : w.heap.size ≤ q := by omega
      have HQ0 := Lib.hid hQ0
      clear hQ0
      rw [← hqe]
      clear hqe
      go_loopw [8] (fun i wx => ∃ k : Nat, k ≤ 60 ∧ i = .int .i64 k ∧ ∃ cs st2, Seen cs ws k ∧ 0 ≤ st2 ∧ st2 ≤ st + (k : Int) ∧ MemIs wx (w.heap.size + 1) w.heap.size ws st2 ∧ Blk wx q 48 cs.toArray ∧ Fr (fun _ => False) w wx) (fun i _ => 60 - (intOf i).toNat)
      case atStart => exact ⟨0, by omega, rfl, List.replicate 60 (Value.int .i64 0), st, Seen.zero List.length_replicate, hst0, by omega, hMr.alloc _, HQ0.out, hFr.alloc _⟩
      case round =>
        obtain ⟨k, hk, rfl, cs, st2, hseen, hs0, hs1, hM2, hQ, hF2⟩ := hrel
        clear hMr hFr
        have hqp : q ≠ w.heap.size + 1 := hQ.ne_ hM2.hp (by decide)
        have hqs : q ≠ w.heap.size := hQ.ne_ hM2.hs (by decide)
        have hq2 : ¬ Two (w.heap.size + 1) w.heap.size q := fun h => by rcases h with h | h <;> omega
        have HS := Lib.hid hseen
        clear hseen
        by_cases hkl : k < 60
        · obtain ⟨m, hm⟩ := HWS.out.2 k hkl
          have HM := Lib.hid hm
          clear hm
          go_wp2_with fail
          refine (load_ok _ _ _ _ _ hM2 k m HM.out (by omega) (by omega)).mono ?_
          rintro e w3 ⟨rfl, hM3, hF3⟩
          have hQ3 := hQ.fr hF3 hq2
          obtain ⟨v, hv⟩ : ∃ v, cs[k]? = some v := ⟨_, List.getElem?_eq_getElem (by rw [HS.out.1]; exact hkl)⟩
          have c1 : w3.cell? ⟨q, k, none⟩ = some v := by rw [hQ3.cell, List.getElem?_toArray, hv]
          have g1 := hQ3.frozen k
          have HV := Lib.hid hv
          clear hv
          go_wp2_with fail
          have hset := hQ3.set_ k (.int .i64 m)
          rw [List.setIfInBounds_toArray] at hset
          exact ⟨⟨k + 1, by omega, by go_num, _, _, HS.out.succ hkl HM.out, by omega, by omega, hM3.far hqp.symm hqs.symm _, hset, (hF2.then hF3 HB.out).setCell (.inr hqw) _⟩, by simp [intOf]; omega⟩
        · obtain rfl : k = 60 := by omega
          have d0 : wr.cell? ⟨b, off + j * 5, none⟩ = some (.int .i64 (f j 0)) := hF2.held (HC.out 0 (by omega)).1 (by simp)
          have d3 := hF2.held (HC.out 3 (by omega)).1 (by simp)
          have d4 := hF2.held (HC.out 4 (by omega)).1 (by simp)
          obtain ⟨m, hm⟩ := HWS.out.2 at_ (by omega)
          have HM := Lib.hid hm
          clear hm
          obtain ⟨t, ht, ht3⟩ := mod_pos (f j 0) 3 (by omega) (by omega)
          obtain rfl | rfl | rfl : t = 0 ∨ t = 1 ∨ t = 2 := by omega
          · go_wp2_with fail
            refine (store_ok _ _ _ _ _ hM2 at_ m (f j 4) HM.out (by omega) (by omega)).mono ?_
            rintro e w4 ⟨rfl, hM4, hF4⟩
            clear ht
            have hQ4 := hQ.fr hF4 hq2
            have HL := Lib.hid (HWS.out.set at_ (f j 4))
            have HO : Hid (∀ i, i ≠ at_ → (ws.set at_ (true, f j 4))[i]? = ws[i]?) := fun i hi => set_other _ _ _ _ hi
            have hF24 : Fr (fun _ => False) w w4 := hF2.then hF4 HB.out
            clear hF2 hF4 hQ hM2
            go_wp2_with fail
            go_loopw [11] (fun i wx => ∃ k : Nat, k ≤ 60 ∧ i = .int .i64 k ∧ ∃ st3, 0 ≤ st3 ∧ st3 ≤ st2 + 1 + (k : Int) ∧ MemIs wx (w.heap.size + 1) w.heap.size (ws.set at_ (true, f j 4)) st3 ∧ Blk wx q 48 cs.toArray ∧ Fr (fun _ => False) w wx) (fun i _ => 60 - (intOf i).toNat)
            case atStart => exact ⟨0, by omega, rfl, st2 + 1, by omega, by omega, hM4, hQ4, hF24⟩
            case round =>
              obtain ⟨k, hk, rfl, st3, hs30, hs31, hM5, hQ5, hF5⟩ := hrel
              by_cases hkl : k < 60
              · obtain ⟨m5, hm5⟩ := HL.out.2 k hkl
                have HM5 := Lib.hid hm5
                clear hm5
                go_wp2_with fail
                refine (load_ok _ _ _ _ _ hM5 k m5 HM5.out (by omega) (by omega)).mono ?_
                rintro e w6 ⟨rfl, hM6, hF6⟩
                have hQ6 := hQ5.fr hF6 hq2
                by_cases hka : k = at_
                · subst hka
                  go_wp2_with fail
                  exact ⟨⟨k + 1, by omega, by go_num, _, by omega, by omega, hM6, hQ6, hF5.then hF6 HB.out⟩, by simp [intOf]; omega⟩
                · have hne : ((k : Int) != (at_ : Int)) = true := by simp; omega
                  have c6 : w6.cell? ⟨q, k, none⟩ = some (.int .i64 m5) := by rw [hQ6.cell, List.getElem?_toArray]; exact HS.out.2 k m5 hkl ((HO.out k hka).symm.trans HM5.out)
                  go_wp2_with fail
                  exact ⟨⟨k + 1, by omega, by go_num, _, by omega, by omega, hM6, hQ6, hF5.then hF6 HB.out⟩, by simp [intOf]; omega⟩
              · go_wp2_with fail
                exact ⟨⟨j + 1, by omega, by go_num, _, _, HL.out, hs30, by omega, hM5, hF5⟩, by simp [intOf]; omega⟩
          · go_wp2_with fail
            go_still_tail 12, (by kernel_rfl)
            change wpList _ _ _ _ _ (World.drew _)
            by_cases hmw : m = f j 3
            · subst hmw
              go_wp2_with fail
              refine (swap_yes _ _ _ _ _ hM2.drew at_ (f j 3) (f j 4) HM.out (by omega) (by omega)).mono ?_
              rintro e w4 ⟨rfl, hM4, hF4⟩
              clear ht
              have hQ4 := hQ.drew.fr hF4 hq2
              have HL := Lib.hid (HWS.out.set at_ (f j 4))
              have HO : Hid (∀ i, i ≠ at_ → (ws.set at_ (true, f j 4))[i]? = ws[i]?) := fun i hi => set_other _ _ _ _ hi
              have hF24 : Fr (fun _ => False) w w4 := hF2.drew.then hF4 HB.out
              clear hF2 hF4 hQ hM2
              go_wp2_with fail
              go_loopw [11] (fun i wx => ∃ k : Nat, k ≤ 60 ∧ i = .int .i64 k ∧ ∃ st3, 0 ≤ st3 ∧ st3 ≤ st2 + 1 + (k : Int) ∧ MemIs wx (w.heap.size + 1) w.heap.size (ws.set at_ (true, f j 4)) st3 ∧ Blk wx q 48 cs.toArray ∧ Fr (fun _ => False) w wx) (fun i _ => 60 - (intOf i).toNat)
              case atStart => exact ⟨0, by omega, rfl, st2 + 1, by omega, by omega, hM4, hQ4, hF24⟩
              case round =>
                obtain ⟨k, hk, rfl, st3, hs30, hs31, hM5, hQ5, hF5⟩ := hrel
                by_cases hkl : k < 60
                · obtain ⟨m5, hm5⟩ := HL.out.2 k hkl
                  have HM5 := Lib.hid hm5
                  clear hm5
                  go_wp2_with fail
                  refine (load_ok _ _ _ _ _ hM5 k m5 HM5.out (by omega) (by omega)).mono ?_
                  rintro e w6 ⟨rfl, hM6, hF6⟩
                  have hQ6 := hQ5.fr hF6 hq2
                  by_cases hka : k = at_
                  · subst hka
                    go_wp2_with fail
                    exact ⟨⟨k + 1, by omega, by go_num, _, by omega, by omega, hM6, hQ6, hF5.then hF6 HB.out⟩, by simp [intOf]; omega⟩
                  · have hne : ((k : Int) != (at_ : Int)) = true := by simp; omega
                    have c6 : w6.cell? ⟨q, k, none⟩ = some (.int .i64 m5) := by rw [hQ6.cell, List.getElem?_toArray]; exact HS.out.2 k m5 hkl ((HO.out k hka).symm.trans HM5.out)
                    go_wp2_with fail
                    exact ⟨⟨k + 1, by omega, by go_num, _, by omega, by omega, hM6, hQ6, hF5.then hF6 HB.out⟩, by simp [intOf]; omega⟩
                · go_wp2_with fail
                  exact ⟨⟨j + 1, by omega, by go_num, _, _, HL.out, hs30, by omega, hM5, hF5⟩, by simp [intOf]; omega⟩
            · go_wp2_with fail
              refine (swap_no _ _ _ _ _ hM2.drew at_ m (f j 3) (f j 4) HM.out (by simp [hmw]) (by omega) (by omega)).mono ?_
              rintro e w4 ⟨rfl, hM4, hF4⟩
              clear ht
              have hQ4 := hQ.drew.fr hF4 hq2
              have HL := Lib.hid HWS.out
              have hF24 : Fr (fun _ => False) w w4 := hF2.drew.then hF4 HB.out
              clear hF2 hF4 hQ hM2
              go_wp2_with fail
              go_loopw [11] (fun i wx => ∃ k : Nat, k ≤ 60 ∧ i = .int .i64 k ∧ ∃ st3, 0 ≤ st3 ∧ st3 ≤ st2 + 1 + (k : Int) ∧ MemIs wx (w.heap.size + 1) w.heap.size (ws) st3 ∧ Blk wx q 48 cs.toArray ∧ Fr (fun _ => False) w wx) (fun i _ => 60 - (intOf i).toNat)
              case atStart => exact ⟨0, by omega, rfl, st2 + 1, by omega, by omega, hM4, hQ4, hF24⟩
              case round =>
                obtain ⟨k, hk, rfl, st3, hs30, hs31, hM5, hQ5, hF5⟩ := hrel
                by_cases hkl : k < 60
                · obtain ⟨m5, hm5⟩ := HL.out.2 k hkl
                  have HM5 := Lib.hid hm5
                  clear hm5
                  go_wp2_with fail
                  refine (load_ok _ _ _ _ _ hM5 k m5 HM5.out (by omega) (by omega)).mono ?_
                  rintro e w6 ⟨rfl, hM6, hF6⟩
                  have hQ6 := hQ5.fr hF6 hq2
                  by_cases hka : k = at_
                  · subst hka
                    go_wp2_with fail
                    exact ⟨⟨k + 1, by omega, by go_num, _, by omega, by omega, hM6, hQ6, hF5.then hF6 HB.out⟩, by simp [intOf]; omega⟩
                  · have hne : ((k : Int) != (at_ : Int)) = true := by simp; omega
                    have c6 : w6.cell? ⟨q, k, none⟩ = some (.int .i64 m5) := by rw [hQ6.cell, List.getElem?_toArray]; exact HS.out.2 k m5 hkl HM5.out
                    go_wp2_with fail
                    exact ⟨⟨k + 1, by omega, by go_num, _, by omega, by omega, hM6, hQ6, hF5.then hF6 HB.out⟩, by simp [intOf]; omega⟩
                · go_wp2_with fail
                  exact ⟨⟨j + 1, by omega, by go_num, _, _, HL.out, hs30, by omega, hM5, hF5⟩, by simp [intOf]; omega⟩
          · go_wp2_with fail
            refine (add_ok _ _ _ _ _ hM2 at_ m (f j 4) HM.out (by omega) (by omega)).mono ?_
            rintro e w4 ⟨rfl, hM4, hF4⟩
            clear ht
            have hQ4 := hQ.fr hF4 hq2
            have HL := Lib.hid (HWS.out.set at_ (wrap64 (m + f j 4)))
            have HO : Hid (∀ i, i ≠ at_ → (ws.set at_ (true, wrap64 (m + f j 4)))[i]? = ws[i]?) := fun i hi => set_other _ _ _ _ hi
            have hF24 : Fr (fun _ => False) w w4 := hF2.then hF4 HB.out
            clear hF2 hF4 hQ hM2
            go_wp2_with fail
            go_loopw [11] (fun i wx => ∃ k : Nat, k ≤ 60 ∧ i = .int .i64 k ∧ ∃ st3, 0 ≤ st3 ∧ st3 ≤ st2 + 1 + (k : Int) ∧ MemIs wx (w.heap.size + 1) w.heap.size (ws.set at_ (true, wrap64 (m + f j 4))) st3 ∧ Blk wx q 48 cs.toArray ∧ Fr (fun _ => False) w wx) (fun i _ => 60 - (intOf i).toNat)
            case atStart => exact ⟨0, by omega, rfl, st2 + 1, by omega, by omega, hM4, hQ4, hF24⟩
            case round =>
              obtain ⟨k, hk, rfl, st3, hs30, hs31, hM5, hQ5, hF5⟩ := hrel
              by_cases hkl : k < 60
              · obtain ⟨m5, hm5⟩ := HL.out.2 k hkl
                have HM5 := Lib.hid hm5
                clear hm5
                go_wp2_with fail
                refine (load_ok _ _ _ _ _ hM5 k m5 HM5.out (by omega) (by omega)).mono ?_
                rintro e w6 ⟨rfl, hM6, hF6⟩
                have hQ6 := hQ5.fr hF6 hq2
                by_cases hka : k = at_
                · subst hka
                  go_wp2_with fail
                  exact ⟨⟨k + 1, by omega, by go_num, _, by omega, by omega, hM6, hQ6, hF5.then hF6 HB.out⟩, by simp [intOf]; omega⟩
                · have hne : ((k : Int) != (at_ : Int)) = true := by simp; omega
                  have c6 : w6.cell? ⟨q, k, none⟩ = some (.int .i64 m5) := by rw [hQ6.cell, List.getElem?_toArray]; exact HS.out.2 k m5 hkl ((HO.out k hka).symm.trans HM5.out)
                  go_wp2_with fail
                  exact ⟨⟨k + 1, by omega, by go_num, _, by omega, by omega, hM6, hQ6, hF5.then hF6 HB.out⟩, by simp [intOf]; omega⟩
              · go_wp2_with fail
                exact ⟨⟨j + 1, by omega, by go_num, _, _, HL.out, hs30, by omega, hM5, hF5⟩, by simp [intOf]; omega⟩
    · go_wp2_with fail
      refine (awake_any _).mono ?_
      rintro e w6 ⟨rfl, hF6⟩
      go_wp2_with fail
      go_ret
      exact ⟨rfl, (hFr.trans hF6).below (Nat.le_refl _) (fun _ h => h.elim)⟩

theorem walk (a0 : Option Addr) (len0 cap0 : Nat) (f : Nat → Nat → Int) (w : World) (w0 : IsActs w a0 len0 f) :
    Calls Try.prog 5 #[.slice a0 len0 cap0] w fun e w' => e = .returned (.bool true) ∧ Below w.heap.size w w' := by
  by_cases h : 60 < len0
  · exact long a0 len0 cap0 h w
  · exact few a0 len0 cap0 f w w0 (by omega)

/-! ### The row's step -/
theorem own : ownKnob Try.prog.godebug = none := by kernel_rfl
theorem laidOut : laidOutB Try.prog = true := by kernel_rfl

set_option maxRecDepth 100000 in
theorem lifted (os : Os) (started : os.Started) (H : Type) (enc : TypeId × Value → H) :
    ReturnsInHanded {} Try.checked os 5 .any (Rows.memOwnSpec.pre6 enc Try.prog Try.f5 Rows.memOwnRow.domain false) (Rows.memOwnSpec.post enc Try.prog Try.f5 false true false false) := by
  refine returnsInHanded_of_change (C := Try.checked) own started (by kernel_rfl) Try.func5
    (ChangeSpec.witness6 (enc := enc) (C := Try.checked) false ⟨#[], #[.slice none 0 0], []⟩ 8 (by kernel_rfl) (by kernel_rfl) (by kernel_rfl) (by kernel_rfl)) ?_
  intro W base args ds gs before hval0 hW hcnd _
  have hval : ∀ (j : Nat) t v, Try.f5.params[j]? = some t → args[j]? = some v → Value.okWide Try.prog W .any base t v := hval0
  have hW' := hW
  obtain ⟨p, q, hA0, hV, rfl, hfz, hnd⟩ := hW
  have hA : DataW.TrodAll enc Try.prog W 0 (fun _ => true) true Try.f5.params.toList args.toList ds p := hA0
  rw [Try.params5] at hA hval
  obtain ⟨v0, vs0, d0, ds0, p0, q0, hargs, rfl, rfl, h0, r0⟩ := trodAll_cons hA
  obtain ⟨rfl, rfl, rfl⟩ := trodAll_nil r0
  obtain rfl : args = #[v0] := by cases args; simp_all
  obtain ⟨rfl, rfl⟩ := trodVars_none hV
  obtain ⟨a0, len0, cap0, rfl⟩ := okWide_slice Try.underlying23 (hval 0 23 v0 rfl rfl)
  have k0 := h0
  have lt0 : ∀ x ∈ p0, x.block < W.heap.size := by obtain ⟨m, hm⟩ := k0; exact DataW.trod_lt m _ _ _ hm
  obtain ⟨z0, w0⟩ := open_acts h0
  clear hA0 hval0
  refine (walk a0 len0 cap0 z0 W w0).mono fun e W' ⟨he, bel⟩ => ?_
  subst he
  exact ⟨_, rfl, _, _, _, [], _, [], hW', trodAll_mk1 (shut_bool Try.underlying4 _), (trodAll_cons_mk (Below.trod laidOut (by kernel_rfl) (of_decide_eq_true (by kernel_rfl)) k0 bel lt0) trodAll_mk0), rfl, bel.frame _, fun h => by cases h⟩

theorem over : Rows.memOwnRow.holds Try.pinned (OpenSpec.ofChange Rows.memOwnSpec) :=
  OpenClaim.holds_of_wide 5 Try.f5 rfl rfl rfl rfl rfl rfl rfl ⟨rfl, rfl, rfl, rfl, rfl⟩ rfl rfl rfl rfl rfl (by kernel_rfl) Try.func5 (by kernel_rfl)
    (of_decide_eq_true (by kernel_rfl)) (by unfold Func.isWrapper; first | (rw [if_pos (by decide +kernel)]; kernel_rfl) | (rw [if_neg (by decide +kernel)]; exact ⟨rfl, rfl⟩))
    (fun os started H enc _ => lifted os started H enc)

/-- The statement. -/
theorem proved : Rows.MemOwnSaid := over
#print axioms proved
end Go.Proofs.Ytlhhnpbpmjbbaaa.memOwn
