/-
  What Name and Named come to, with the table of names as it was laid.
-/
import Derived.Test.YtahojahplpcbiaaDoorAwk
import Derived.WideShapes
import Derived.Lib.Strings
namespace Go.Proofs.YtahojahplpcbiaaDoor
open Go.RowKit

def nm : List ByteArray := [⟨#[]⟩, ⟨#[115, 101, 116]⟩, ⟨#[109, 111, 118, 101]⟩, ⟨#[97, 100, 100]⟩, ⟨#[115, 117, 98]⟩, ⟨#[109, 117, 108]⟩, ⟨#[100, 105, 118]⟩, ⟨#[108, 101, 115, 115]⟩, ⟨#[115, 97, 109, 101]⟩, ⟨#[106, 117, 109, 112]⟩, ⟨#[122, 101, 114, 111]⟩, ⟨#[115, 112, 97, 119, 110]⟩, ⟨#[115, 121, 110, 99]⟩, ⟨#[102, 117, 116, 117, 114, 101]⟩, ⟨#[116, 111, 117, 99, 104]⟩, ⟨#[101, 109, 105, 116]⟩, ⟨#[102, 97, 105, 108]⟩, ⟨#[114, 101, 116]⟩]
theorem nm_length : nm.length = 18 := rfl
def nmAt (k : Nat) : ByteArray := nm.getD k ⟨#[]⟩
theorem nm_once : ∀ i, i < 18 → ∀ j, j < 18 → nmAt i = nmAt j → i = j := by decide
theorem nm_some : ∀ i, i < 18 → 1 ≤ i → nmAt i ≠ ⟨#[]⟩ := by decide

theorem str_ne {a b : ByteArray} (h : a ≠ b) : (a.toList == b.toList) = false := by
  rw [Lib.toList_data, Lib.toList_data]
  have : a.data.toList ≠ b.data.toList := fun e => h (WideShapes.bytes_inj e)
  simpa using this
theorem str_eq {a b : ByteArray} (h : a = b) : (a.toList == b.toList) = true := by subst h; simp

/-- The table of names lies as it was laid. -/
def NamesAt (w : World) : Prop := ∀ k, k < 18 → w.cell? ⟨0, k, none⟩ = some (.string (nmAt k))
theorem NamesAt.fr {w w' : World} (h : NamesAt w) (hf : Fr (fun _ => False) w w') : NamesAt w' := fun k hk => hf.held (h k hk) (fun h => h)

/-- Which operation a name names. -/
def IsNamed (s : ByteArray) (r : Nat) : Prop := (r = 0 ∧ ∀ j, 1 ≤ j → j < 18 → nmAt j ≠ s) ∨ (1 ≤ r ∧ r < 18 ∧ nmAt r = s)
theorem IsNamed.once {s : ByteArray} {r r' : Nat} (h : IsNamed s r) (h' : IsNamed s r') : r = r' := by
  rcases h with ⟨rfl, h⟩ | ⟨h1, h2, h3⟩
  · rcases h' with ⟨rfl, _⟩ | ⟨h1, h2, h3⟩
    · rfl
    · exact absurd h3 (h _ h1 h2)
  · rcases h' with ⟨rfl, h⟩ | ⟨h1', h2', h3'⟩
    · exact absurd h3 (h _ h1 h2)
    · exact nm_once _ h2 _ h2' (h3.trans h3'.symm)

theorem known_in (w : World) (op : Int) (h1 : 1 ≤ op) (h2 : op ≤ 17) : Calls Tryd.prog 9 #[.int .i64 op] w fun e w' => e = .returned (.bool true) ∧ w = w' := by
  go_enter Tryd.func9, Tryd.ntmps9
  go_wp2
  go_ret
  exact ⟨rfl, rfl⟩
theorem known_no (w : World) (op : Int) (h : ¬ (1 ≤ op ∧ op ≤ 17)) : Calls Tryd.prog 9 #[.int .i64 op] w fun e w' => e = .returned (.bool false) ∧ w = w' := by
  by_cases h1 : 1 ≤ op
  · have h2 : ¬ op ≤ 17 := fun h2 => h ⟨h1, h2⟩
    clear h
    go_enter Tryd.func9, Tryd.ntmps9
    go_wp2
    go_ret
    exact ⟨rfl, rfl⟩
  · clear h
    go_enter Tryd.func9, Tryd.ntmps9
    go_wp2
    go_ret
    exact ⟨rfl, rfl⟩

set_option maxHeartbeats 1000000 in
theorem name_in (w : World) (hN : NamesAt w) (k : Nat) (h1 : 1 ≤ k) (h2 : k < 18) :
    Calls Tryd.prog 6 #[.int .i64 k] w fun e w' => e = .returned (.string (nmAt k)) ∧ w' = w := by
  have hc := hN k h2
  clear hN
  go_enter Tryd.func6, Tryd.ntmps6
  go_wp2_with fail
  refine (known_in _ k (by omega) (by omega)).mono ?_
  rintro e _ ⟨rfl, rfl⟩
  go_wp2_with fail
  go_ret
  exact ⟨rfl, rfl⟩

set_option maxHeartbeats 1000000 in
theorem name_no (w : World) (op : Int) (h : ¬ (1 ≤ op ∧ op ≤ 17)) :
    Calls Tryd.prog 6 #[.int .i64 op] w fun e w' => e = .returned (.string ⟨#[]⟩) ∧ w' = w := by
  have H := Lib.hid h
  clear h
  go_enter Tryd.func6, Tryd.ntmps6
  go_wp2_with fail
  refine (known_no _ op H.out).mono ?_
  rintro e _ ⟨rfl, rfl⟩
  go_wp2_with fail
  go_ret
  exact ⟨rfl, rfl⟩
theorem name_low (w : World) (op : Int) (h : op < 1) :
    Calls Tryd.prog 6 #[.int .i64 op] w fun e w' => e = .returned (.string ⟨#[]⟩) ∧ w' = w := name_no w op (by omega)
theorem name_high (w : World) (op : Int) (h : 17 < op) :
    Calls Tryd.prog 6 #[.int .i64 op] w fun e w' => e = .returned (.string ⟨#[]⟩) ∧ w' = w := name_no w op (by omega)

set_option maxHeartbeats 4000000 in
theorem named_any (w : World) (hN : NamesAt w) (s : ByteArray) :
    Calls Tryd.prog 7 #[.string s] w fun e w' => ∃ r, IsNamed s r ∧ e = .returned (.int .i64 (r : Nat)) ∧ w' = w := by
  have HN := Lib.hid hN
  clear hN
  go_enter Tryd.func7, Tryd.ntmps7
  go_wp2_with fail
  go_loopw [3] (fun i wx => ∃ k : Nat, 1 ≤ k ∧ k ≤ 18 ∧ i = .int .i64 k ∧ (∀ j, 1 ≤ j → j < k → nmAt j ≠ s) ∧ wx = w) (fun i _ => 18 - (intOf i).toNat)
  case atStart => exact ⟨1, by omega, by omega, rfl, fun j h1 h2 => by omega, rfl⟩
  case round =>
    obtain ⟨k, hk1, hk2, rfl, hno, rfl⟩ := hrel
    have HNO := Lib.hid hno
    clear hno
    by_cases hk : k < 18
    · have hc := HN.out k hk
      have g1 : (k : Int) ≤ 17 := by omega
      by_cases he : nmAt k = s
      · subst he
        go_wp2_with fail
        go_ret
        exact ⟨k, .inr ⟨hk1, hk, rfl⟩, rfl, rfl⟩
      · have hb := str_ne he
        go_wp2_with fail
        refine ⟨⟨k + 1, by omega, by omega, by go_num, fun j h1 h2 => ?_, trivial⟩, by simp [intOf]; omega⟩
        by_cases hj : j = k
        · subst hj; exact he
        · exact HNO.out j h1 (by omega)
    · have g1 : ¬ (k : Int) ≤ 17 := by omega
      go_wp2_with fail
      go_ret
      exact ⟨0, .inl ⟨rfl, fun j h1 h2 => HNO.out j h1 (by omega)⟩, rfl, rfl⟩
end Go.Proofs.YtahojahplpcbiaaDoor
