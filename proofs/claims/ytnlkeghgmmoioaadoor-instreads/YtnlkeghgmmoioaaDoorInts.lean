/-
  Contract of the comparison of two rows of numbers (layer 2), by walks over the translation.
-/
import Derived.Test.YtnlkeghgmmoioaaDoorDecode
namespace Go.Proofs.YtnlkeghgmmoioaaDoor
open Go.ChangeShapes Go.WideShapes Go.ChangeAt Go.RowKit


theorem ints_zero (a1 a2 : Option Addr) (c1 c2 : Nat) (w : World) :
    Calls Tryd.prog 20 #[.slice a1 0 c1, .slice a2 0 c2] w fun e w' => e = .returned (.bool true) ∧ Below w.heap.size w w' := by
  go_enter Tryd.func20, Tryd.ntmps20
  go_wp2
  go_loop [5] (fun i => i = .int .i64 0) (fun _ => 0)
  case atStart => rfl
  case round =>
    subst hrel
    go_wp2
    go_ret
    exact ⟨rfl, Below.refl _ _⟩

theorem ints_some (b1 b2 c1 c2 : Nat) (l : List Int) (hl : l.length < 1000) (w : World)
    (h1 : ∀ j, j < l.length → w.cell? ⟨b1, j, none⟩ = some (.int .i64 (l.getD j 0))) (h2 : ∀ j, j < l.length → w.cell? ⟨b2, j, none⟩ = some (.int .i64 (l.getD j 0))) :
    Calls Tryd.prog 20 #[.slice (some ⟨b1, 0, none⟩) l.length c1, .slice (some ⟨b2, 0, none⟩) l.length c2] w fun e w' => e = .returned (.bool true) ∧ Below w.heap.size w w' := by
  have H1 : Hid (∀ j, j < l.length → w.cell? ⟨b1, j, none⟩ = some (.int .i64 (l.getD j 0))) := h1
  have H2 : Hid (∀ j, j < l.length → w.cell? ⟨b2, j, none⟩ = some (.int .i64 (l.getD j 0))) := h2
  clear h1 h2
  go_enter Tryd.func20, Tryd.ntmps20
  go_wp2
  go_loopw [5] (fun i wr => ∃ k q : Nat, k ≤ l.length ∧ i = .int .i64 k ∧ wr = w.drewN q) (fun i _ => l.length - (intOf i).toNat)
  case atStart => exact ⟨0, 0, Nat.zero_le _, rfl, rfl⟩
  case round =>
    obtain ⟨k, q, hk, rfl, rfl⟩ := hrel
    by_cases hlt : k < l.length
    · have c1 := H1.out k hlt
      have c2 := H2.out k hlt
      generalize l.getD k 0 = x at c1 c2
      have hx : (x != x) = false := by simp
      go_wp2
      go_quiet (fail)
      go_wp2
      go_roundw
      case rel => exact ⟨k + 1, q + nq, by omega, by go_num, rfl⟩
      case measure => simp [intOf]; omega
    · go_wp2
      go_ret
      exact ⟨rfl, below_drewN (Below.refl _ _) q⟩

theorem ints_same {W : World} {n1 n2 : Nat} {v1 v2 : Value} {l : List Int} (hl : l.length < 1000) (h1 : IsInts W n1 v1 l) (h2 : IsInts W n2 v2 l) :
    Calls Tryd.prog 20 #[v1, v2] W fun e w' => e = .returned (.bool true) ∧ Below W.heap.size W w' := by
  rcases h1 with ⟨e1, rfl⟩ | ⟨b1, rfl, _, _, k1⟩ <;> rcases h2 with ⟨e2, rfl⟩ | ⟨b2, rfl, _, _, k2⟩
  · exact ints_zero none none 0 0 W
  · subst e1; exact ints_zero none (some ⟨b2, 0, none⟩) 0 0 W
  · subst e2; exact ints_zero (some ⟨b1, 0, none⟩) none 0 0 W
  · exact ints_some b1 b2 l.length l.length l hl W k1 k2

end Go.Proofs.YtnlkeghgmmoioaaDoor
