/-
  The statement GreedyForks holds: steps that wait for nobody take their number by the workers, rounded up; steps in a row as long as they are. No condition.
-/
import Derived.Test.YtdknhiohkicogaaY14
import Derived.Test.YtdknhiohkicogaaGrown
import Derived.Test.YtdknhiohkicogaaRows
import Derived.ProofKit
import Derived.OpenShut
import Derived.ShutString
import Derived.ChangeOld
namespace Go.Proofs.Ytdknhiohkicogaa.greedyForks
open Go.ChangeShapes Go.WideShapes Go.ChangeAt Go.RowKit
open Go.ChangeMaps (open_string shut_string)

set_option maxHeartbeats 16000000 in
set_option maxRecDepth 100000 in
theorem go (w : World) (c d : Nat) (hc : c < 256) (hd : d < 256) :
    Calls Try.prog 8 #[.int .u8 (c : Int), .int .u8 (d : Int)] w fun e w' => e = .returned (.bool true) ∧ Fr F0 w w' := by
  obtain ⟨i0, hi0, hz0, hz1, hz2⟩ := info_parts info_ints
  obtain ⟨n, hn⟩ : ∃ n, n = c % 200 := ⟨_, rfl⟩
  obtain ⟨k, hk⟩ : ∃ k, k = d % 64 + 1 := ⟨_, rfl⟩
  have hn1 : n < 200 := by omega
  have hk1 : 1 ≤ k := by omega
  have hk2 : k ≤ 64 := by omega
  have e1 : (c : Int) % 200 = (n : Int) := by omega
  have e2 : (d : Int) % 64 + 1 = (k : Int) := by omega
  have hmk := make_rows n (by omega) w
  have HBF : Hid (Blk (w.alloc (.cells (Array.replicate n (Value.slice none 0 0)) 24)) w.heap.size 24 (Array.replicate n (Value.slice none 0 0))) := Blk.new _ _ _
  have HF0 : Hid (Fr F0 w (w.alloc (.cells (Array.replicate n (Value.slice none 0 0)) 24))) := (Fr.refl _ _).alloc _
  have HK1 := Lib.hid hk1
  have HK2 := Lib.hid hk2
  clear hn hk hk1
  go_enter Try.func8, Try.ntmps8
  go_wp2_with fail
  rw [e1]
  clear hmk e1 e2
  generalize w.alloc (.cells (Array.replicate n (Value.slice none 0 0)) 24) = w1 at HBF HF0 ⊢
  go_loopw [8, 9] (fun vv i wx => ∃ (j : Nat) (vs : List Value), j ≤ n ∧ i = .int .i64 (j : Int) ∧ Hid (wx.ownsRow w1.heap.size 24 1 vv j vs) ∧ Hid (LineC wx w1.heap.size vs) ∧ Hid (Fr F0 w1 wx)) (fun _ i _ => n - (intOf i).toNat)
  case atStart => exact ⟨0, [], by omega, rfl, Lib.hid (World.ownsRow_nil _ _ _ _), Lib.hid (fun i v h => by simp at h), Lib.hid (Fr.refl _ _)⟩
  case round =>
    obtain ⟨j, vs, hj, rfl, HO, HC, HF⟩ := hrel
    obtain ⟨A, cp, rfl⟩ := own_slice HO.out
    have hvl : vs.length = j := by have := HO.out.1; omega
    have HVL := Lib.hid hvl
    clear hvl
    by_cases hjn : j < n
    · have g1 : (j : Int) < (n : Int) := by omega
      by_cases hj0 : j = 0
      · subst hj0
        have HNB : Hid ((wr.alloc (.cells #[.slice none 0 0] 24)).heap[wr.heap.size]? = some (.cells #[.slice none 0 0] 24)) := heap_alloc_new _ _
        have HOW := Lib.hid (own_fr HO.out ((Fr.refl F0 wr).alloc (.cells #[.slice none 0 0] 24)) (fun _ _ h => h))
        have hbs : w1.heap.size ≤ wr.heap.size := HF.out.size
        go_wp2_with (at_builtin; refine wpList_append_lies _ rfl (.tmp 30) (.tmp 31) 22 rfl w1.heap.size 24 i0 (.slice none 0 0) 1 24 Try.underlying22 hi0 hz0 hz1 hz2 rfl (by decide) _ 0 _ rfl HOW.out ⟨wr.heap.size, 0, none⟩ 1 1 [.slice none 0 0] rfl rfl ?c1 ?c2 (by decide) ?c3 ?c4 ?c5 (wr.heap.size + 1) ?c6 ?_)
        case c1 => intro i u hi; exact World.news_of_block HNB.out i u hi
        case c2 => intro u hu; simp at hu; subst hu; rfl
        case c3 => unfold maxLen; omega
        case c4 => omega
        case c5 => simp; omega
        case c6 => simp
        intro g cap w3 hown3 hg3 hor3 hlt3
        have HF3 : Hid (Fr F0 w1 w3) := Lib.hid ((HF.out.alloc (.cells #[.slice none 0 0] 24)).then (Fr.grown hg3) (fun i hi => .inr (own_low HO.out i hi.symm)))
        have HO3 := Lib.hid hown3
        have HC3 : Hid (LineC w3 w1.heap.size (vs ++ [.slice none 0 0])) := Lib.hid (fun i v hi => by
          have h0 : vs = [] := List.eq_nil_of_length_eq_zero HVL.out
          subst h0
          have : i = 0 := by have := lt_of hi; simp at this; exact this
          subst this
          simp at hi
          exact .inl ⟨rfl, hi.symm⟩)
        clear hown3 hg3 hor3 hlt3
        go_wp2_with fail
        exact ⟨⟨1, _, by omega, by go_num, HO3, HC3, HF3⟩, by simp [intOf]; omega⟩
      · have g2 : ¬ (j : Int) = 0 := by omega
        have g3 : IntKind.i64.wrap ((j : Int) - 1) = (j : Int) - 1 := IntWalk.i64_in _ (by omega)
        obtain ⟨wa, hwa⟩ : ∃ wa, wa = wr.alloc (.cells #[.int .i64 ((j : Int) - 1)] 3) := ⟨_, rfl⟩
        have hsa : wa.heap.size = wr.heap.size + 1 := by rw [hwa]; simp
        have HNB : Hid ((wa.alloc (.cells #[.slice (some ⟨wr.heap.size, 0, none⟩) 1 1] 24)).heap[wa.heap.size]? = some (.cells #[.slice (some ⟨wr.heap.size, 0, none⟩) 1 1] 24)) := heap_alloc_new _ _
        have hfa : Fr F0 wr (wa.alloc (.cells #[.slice (some ⟨wr.heap.size, 0, none⟩) 1 1] 24)) := by rw [hwa]; exact ((Fr.refl _ _).alloc _).alloc _
        have HBN : Hid (Blk (wa.alloc (.cells #[.slice (some ⟨wr.heap.size, 0, none⟩) 1 1] 24)) wr.heap.size 3 #[.int .i64 ((j : Int) - 1)]) := Lib.hid (by rw [hwa]; exact (Blk.new _ _ _).alloc _)
        have HOW := Lib.hid (own_fr HO.out hfa (fun _ _ h => h))
        have HCW := Lib.hid (HC.out.fr hfa (fun _ _ _ h => h))
        have HFW := Lib.hid (HF.out.trans hfa)
        have hbs : w1.heap.size ≤ wr.heap.size := HF.out.size
        have HSA := Lib.hid hsa
        have HWA := Lib.hid hwa
        have HJ0 := Lib.hid hj0
        rw [hwa] at HNB HBN HOW HCW HFW
        rw [show (wr.alloc (.cells #[.int .i64 ((j : Int) - 1)] 3)).heap.size = wr.heap.size + 1 by simp] at HNB
        clear hfa hwa hsa hj0 HWA HSA
        clear wa
        go_wp2_with (at_builtin; refine wpList_append_lies _ rfl (.tmp 33) (.tmp 37) 22 rfl w1.heap.size 24 i0 (.slice none 0 0) 1 24 Try.underlying22 hi0 hz0 hz1 hz2 rfl (by decide) _ j _ rfl HOW.out ⟨wr.heap.size + 1, 0, none⟩ 1 1 [.slice (some ⟨wr.heap.size, 0, none⟩) 1 1] rfl rfl ?c1 ?c2 (by decide) ?c3 ?c4 ?c5 (wr.heap.size + 1 + 1) ?c6 ?_)
        case c1 => intro i u hi; exact World.news_of_block HNB.out i u hi
        case c2 => intro u hu; simp at hu; subst hu; rfl
        case c3 => unfold maxLen; omega
        case c4 => omega
        case c5 => simp; omega
        case c6 => simp
        intro g cap w3 hown3 hg3 hor3 hlt3
        have HF3 : Hid (Fr F0 w1 w3) := Lib.hid (HFW.out.then (Fr.grown hg3) (fun i hi => .inr (own_low HO.out i hi.symm)))
        have HO3 := Lib.hid hown3
        have HC3 : Hid (LineC w3 w1.heap.size (vs ++ [.slice (some ⟨wr.heap.size, 0, none⟩) 1 1])) := Lib.hid (by
          have hB : ∀ b cs, Blk _ b 3 cs → ¬ some b = (Value.slice A j cp).ownBlock := fun b cs hb he => own_ne HOW.out hb (by decide) he.symm
          have h1 := HCW.out.fr (Fr.grown hg3) hB
          have h2 := HBN.out.fr (Fr.grown hg3) (hB _ _ HBN.out)
          intro i v hi
          by_cases hil : i < vs.length
          · rw [List.getElem?_append_left hil] at hi
            exact h1 i v hi
          · have hl := lt_of hi
            have hij : i = j := by simp at hl; have := HVL.out; omega
            subst hij
            rw [List.getElem?_append_right (by have := HVL.out; omega), HVL.out, Nat.sub_self] at hi
            simp at hi
            subst hi
            have := HJ0.out
            exact .inr ⟨by omega, wr.heap.size, rfl, hbs, h2⟩)
        clear hown3 hg3 hor3 hlt3
        go_wp2_with fail
        exact ⟨⟨j + 1, _, by omega, by go_num, HO3, HC3, HF3⟩, by simp [intOf]; omega⟩
    · have hjn2 : j = n := by omega
      subst hjn2
      have HFF := Lib.hid (HF0.out.trans HF.out)
      have HG1 := Lib.hid (rows_free (HBF.out.fr HF.out (fun h => h)))
      have HG2 := Lib.hid (HC.out.gr HO.out)
      have hfew1 : Few (gi (List.replicate j [])) := few_of (by simp; omega) (fun row h => by rw [List.eq_of_mem_replicate h]; simp)
      have hline : ∀ row ∈ lineG j, row.length ≤ 1 := fun row h => by
        obtain ⟨i, hi⟩ := List.getElem?_of_mem h
        rw [lineG_at hi]
        split <;> simp
      have hfew2 : Few (gi (lineG j)) := few_of (by rw [lineG_length]; omega) hline
      have hA1 : Ahead (List.replicate j []) := fun i row hr a ha => by
        rw [List.eq_of_mem_replicate (List.mem_of_getElem? hr)] at ha; cases ha
      have HPL1 := Lib.hid (plan_any wr _ (some ⟨w.heap.size, 0, none⟩) j (List.replicate j []) k j (by simp) HG1.out hfew1 hA1 (right_of (fun row h => by rw [List.eq_of_mem_replicate h]; simp) hA1) HK1.out HK2.out)
      have HFW2 := Lib.hid hfew2
      have HLN := Lib.hid hline
      clear hfew1 hfew2 hA1 hline
      go_wp2_with fail
      refine HPL1.out.mono ?_
      rintro e w2 ⟨g1, W1, rfl, hgl1, hW1, hWl1, hP1, hF1⟩
      have HF1 := Lib.hid (HFF.out.trans hF1)
      have hE1 : W1 = (List.range j).map (· / k) := by
        have h1 := free_plan (k := k) (G := List.replicate j []) HK1.out (fun i row h => List.eq_of_mem_replicate (List.mem_of_getElem? h))
        rw [List.length_replicate] at h1
        exact hP1.one h1 (by simp [hWl1])
      have HT1 : Hid (tim W1 = (j + k - 1) / k) := Lib.hid (by rw [hE1]; exact tim_div HK1.out j)
      have HW1 := Lib.hid hW1
      have HWL1 := Lib.hid hWl1
      have HPL2 := Lib.hid (plan_any w2 _ A cp (lineG j) k j (by rw [lineG_length]) (HG2.out.f0 hF1) HFW2.out (lineG_ahead j) (right_of HLN.out (lineG_ahead j)) HK1.out HK2.out)
      clear hF1 hE1 hW1 hWl1 hP1 hgl1
      go_wp2_with fail
      refine HPL2.out.mono ?_
      rintro e w3 ⟨g2, W2, rfl, hgl2, hW2, hWl2, hP2, hF2⟩
      have HF2 := Lib.hid (HF1.out.trans hF2)
      have hE2 : W2 = List.range j := by
        have h1 := row_plan (k := k) (G := lineG j) HK1.out (fun i row h => lineG_at h)
        rw [lineG_length] at h1
        exact hP2.one h1 (by simp [hWl2])
      have HT2 : Hid (tim W2 = j) := Lib.hid (by rw [hE2]; exact tim_range j)
      have HW2 := Lib.hid hW2
      have HWL2 := Lib.hid hWl2
      have HW12 := Lib.hid (Blk.fr HW1.out hF2 (fun h => h))
      clear hF2 hE2 hW2 hWl2 hP2 hgl2
      obtain ⟨q, hq⟩ : ∃ q, q = (j + k - 1) / k := ⟨_, rfl⟩
      have hq1 : q ≤ 300 := by rw [hq]; exact Nat.le_trans (Nat.div_le_self _ _) (by omega)
      have hsm : ∀ (W : List Nat) (T : Nat), tim W = T → T ≤ 300 → ∀ z ∈ ni W, z ≤ 4611686018427387904 := fun W T hT h300 z hz => by
        obtain ⟨x, hx, rfl⟩ := List.mem_map.1 hz
        obtain ⟨i, hi⟩ := List.getElem?_of_mem hx
        have := tim_lt hi
        omega
      have C1 : Hid (∀ p : Grown w3, Calls Try.prog 17 #[.slice (some ⟨g1, 0, none⟩) j j] p.at_ fun e w'' => e = .returned (.int .i64 (q : Int)) ∧ ∃ q : Grown w3, w'' = q.at_) := Lib.hid fun p =>
        grown_of_same p (by
          have h1 := time_any p.at_ (fun b => b = g1) (some ⟨g1, 0, none⟩) j j (ni W1) (by rw [ni_length]; exact HWL1.out.symm) (by have := Nb.rd (Blk.fr HW12.out p.fr (fun h => h)) (Q := fun b => b = g1) rfl; rw [HWL1.out] at this; exact this) (by omega) (hsm W1 q (by rw [hq]; exact HT1.out) hq1)
          rw [lastI_ni, HT1.out, ← hq] at h1
          exact h1)
      have C2 : Hid (∀ p : Grown w3, Calls Try.prog 17 #[.slice (some ⟨g2, 0, none⟩) j j] p.at_ fun e w'' => e = .returned (.int .i64 (j : Int)) ∧ ∃ q : Grown w3, w'' = q.at_) := Lib.hid fun p =>
        grown_of_same p (by
          have h1 := time_any p.at_ (fun b => b = g2) (some ⟨g2, 0, none⟩) j j (ni W2) (by rw [ni_length]; exact HWL2.out.symm) (by have := Nb.rd (Blk.fr HW2.out p.fr (fun h => h)) (Q := fun b => b = g2) rfl; rw [HWL2.out] at this; exact this) (by omega) (hsm W2 j HT2.out (by omega))
          rw [lastI_ni, HT2.out] at h1
          exact h1)
      have C3 : Hid (∀ p : Grown w3, Calls Try.prog 13 #[] p.at_ fun e w'' => e = .returned (.bool true) ∧ ∃ q : Grown w3, w'' = q.at_) := Lib.hid fun p => grown_of p (awake_any _)
      obtain ⟨s1, hs1⟩ : ∃ s1, s1 = j + k := ⟨_, rfl⟩
      obtain ⟨s2, hs2⟩ : ∃ s2, s2 = j + k - 1 := ⟨_, rfl⟩
      have hkk := HK1.out
      have a1 : (j : Int) + (k : Int) = (s1 : Int) := by omega
      have a3 : (s1 : Int) - 1 = (s2 : Int) := by omega
      have a4 : IntKind.i64.wrap ((s1 : Int) - 1) = (s2 : Int) := (IntWalk.i64_in _ (by omega)).trans a3
      have a2 : IntKind.i64.wrap ((j : Int) + (k : Int)) = (s1 : Int) := (IntWalk.i64_in _ (by omega)).trans a1
      have a5 : (s2 : Int).tdiv (k : Int) = (q : Int) := by rw [hq, ← hs2]; rfl
      have a6 : IntKind.i64.wrap (q : Int) = (q : Int) := IntWalk.i64_in _ (by omega)
      have a7 : ¬ (k : Int) = 0 := by omega
      have a8 : ¬ k = 0 := by omega
      clear hs1 hs2 hq hsm hkk
      go_wp2_with fail
      refine wp_region_grown (by kernel_rfl) (by kernel_rfl) ?_
      repeat (go_big_quiet_step (first | with_reducible exact C1.out _ | with_reducible exact C2.out _ | with_reducible exact C3.out _))
      refine wpQuiet_nil ?_
      intro _ hw'
      obtain ⟨⟨wq, hFq⟩, hw''⟩ := hw'
      subst hw''
      have HFq := Lib.hid (HF2.out.trans hFq)
      clear hFq
      go_wp2_with fail
      go_ret
      exact ⟨rfl, HFq.out⟩

theorem walk (x : Int) (hx : (Lit.int .u8 x).wf = true) (y : Int) (hy : (Lit.int .u8 y).wf = true) (w : World) :
    Calls Try.prog 8 #[.int .u8 x, .int .u8 y] w fun e w' => e = .returned (.bool true) ∧ Below w.heap.size w w' := by
  have hb := bounds_u8 hx
  have hb2 := bounds_u8 hy
  obtain ⟨c, rfl⟩ : ∃ c : Nat, x = c := ⟨x.toNat, by omega⟩
  obtain ⟨d, rfl⟩ : ∃ d : Nat, y = d := ⟨y.toNat, by omega⟩
  exact (go w c d (by omega) (by omega)).mono fun _ _ ⟨he, hF⟩ => ⟨he, hF.below (Nat.le_refl _) (fun _ h => h.elim)⟩

/-! ### The row's step -/
theorem own : ownKnob Try.prog.godebug = none := by kernel_rfl
theorem laidOut : laidOutB Try.prog = true := by kernel_rfl

set_option maxRecDepth 100000 in
theorem lifted (os : Os) (started : os.Started) (H : Type) (enc : TypeId × Value → H) :
    ReturnsInHanded {} Try.checked os 8 .any (Rows.greedyForksSpec.pre6 enc Try.prog Try.f8 Rows.greedyForksRow.domain false) (Rows.greedyForksSpec.post enc Try.prog Try.f8 false true false false) := by
  refine returnsInHanded_of_change (C := Try.checked) own started (by kernel_rfl) Try.func8
    (ChangeSpec.witness6 (enc := enc) (C := Try.checked) false ⟨#[], #[.int .u8 0, .int .u8 0], []⟩ 8 (by kernel_rfl) (by kernel_rfl) (by kernel_rfl) (by kernel_rfl)) ?_
  intro W base args ds gs before hval0 hW hcnd _
  have hval : ∀ (j : Nat) t v, Try.f8.params[j]? = some t → args[j]? = some v → Value.okWide Try.prog W .any base t v := hval0
  have hW' := hW
  obtain ⟨p, q, hA0, hV, rfl, hfz, hnd⟩ := hW
  have hA : DataW.TrodAll enc Try.prog W 0 (fun _ => true) true Try.f8.params.toList args.toList ds p := hA0
  rw [Try.params8] at hA hval
  obtain ⟨v0, vs0, d0, ds0, p0, q0, hargs, rfl, rfl, h0, r0⟩ := trodAll_cons hA
  obtain ⟨v1, vs1, d1, ds1, p1, q1, rfl, rfl, rfl, h1, r1⟩ := trodAll_cons r0
  obtain ⟨rfl, rfl, rfl⟩ := trodAll_nil r1
  obtain rfl : args = #[v0, v1] := by cases args; simp_all
  obtain ⟨rfl, rfl⟩ := trodVars_none hV
  obtain ⟨a0, rfl, rfl, rfl, w0⟩ := open_int Try.underlying5 (hval 0 5 v0 rfl rfl) h0
  obtain ⟨a1, rfl, rfl, rfl, w1⟩ := open_int Try.underlying5 (hval 1 5 v1 rfl rfl) h1
  clear hA0 hval0
  refine (walk a0 w0 a1 w1 W).mono fun e W' ⟨he, bel⟩ => ?_
  subst he
  exact ⟨_, rfl, _, _, _, [], _, [], hW', trodAll_mk1 (shut_bool Try.underlying4 _), (trodAll_cons_mk (shut_int Try.underlying5 w0) (trodAll_cons_mk (shut_int Try.underlying5 w1) trodAll_mk0)), rfl, bel.frame _, fun h => by cases h⟩

theorem over : Rows.greedyForksRow.holds Try.pinned (OpenSpec.ofChange Rows.greedyForksSpec) :=
  OpenClaim.holds_of_wide 8 Try.f8 rfl rfl rfl rfl rfl rfl rfl ⟨rfl, rfl, rfl, rfl, rfl⟩ rfl rfl rfl rfl rfl (by kernel_rfl) Try.func8 (by kernel_rfl)
    (of_decide_eq_true (by kernel_rfl)) (by unfold Func.isWrapper; first | (rw [if_pos (by decide +kernel)]; kernel_rfl) | (rw [if_neg (by decide +kernel)]; exact ⟨rfl, rfl⟩))
    (fun os started H enc _ => lifted os started H enc)

/-- The statement. -/
theorem proved : Rows.GreedyForksSaid := over
#print axioms proved
end Go.Proofs.Ytdknhiohkicogaa.greedyForks
