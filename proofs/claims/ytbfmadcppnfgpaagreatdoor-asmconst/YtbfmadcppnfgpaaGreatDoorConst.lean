/-
  Const of package asm (layer 5): its contract.
-/
import Derived.Test.YtbfmadcppnfgpaaGreatDoorRow5
namespace Go.Proofs.YtbfmadcppnfgpaaGreatDoor
open Go.ChangeShapes Go.WideShapes Go.ChangeAt Go.RowKit

/-- The instructions by which a register comes to n. -/
def lowOf (n : Int) : Int := if n % 4294967296 < 2147483648 then n % 4294967296 else n % 4294967296 - 4294967296
def constL (r n : Int) : List Ins := if -2147483648 ≤ n ∧ n ≤ 2147483647 then [⟨1, r, 0, 0, n⟩] else [⟨1, r, 0, 0, n / 4294967296⟩, ⟨2, r, 0, 0, lowOf n⟩]

theorem low_is (n : Int) : wrap64 (wrap32 n) = lowOf n := by unfold wrap64 wrap32 lowOf; omega
theorem constL_len (r n : Int) : (constL r n).length ≤ 2 := by unfold constL; split <;> simp

set_option maxRecDepth 100000 in
theorem const_any (r n : Int) (hn : Fits n) (w : World) :
    Calls Tryz.prog 5 #[.int .i64 r, .int .i64 n] w fun e w' => ∃ g, e = .returned (.slice (some ⟨g, 0, none⟩) (constL r n).length (constL r n).length) ∧ IsIns w' (some ⟨g, 0, none⟩) g 0 (constL r n) ∧ w.heap.size ≤ g ∧ Below w.heap.size w w' := by
  obtain ⟨hn1, hn2⟩ := hn
  by_cases h1 : -2147483648 ≤ n
  · by_cases h2 : n ≤ 2147483647
    · have hc : constL r n = [⟨1, r, 0, 0, n⟩] := by unfold constL; rw [if_pos ⟨h1, h2⟩]
      rw [hc]
      go_enter Tryz.func5, Tryz.ntmps5
      go_wp2
      go_ret
      exact ⟨w.heap.size, rfl, new_ins w [⟨1, r, 0, 0, n⟩], Nat.le_refl _, (Below.refl _ w).alloc (Nat.le_refl _) _⟩
    · have hc : constL r n = [⟨1, r, 0, 0, n / 4294967296⟩, ⟨2, r, 0, 0, wrap64 (wrap32 n)⟩] := by unfold constL; rw [if_neg (by omega), low_is]
      rw [hc]
      go_enter Tryz.func5, Tryz.ntmps5
      go_wp2
      go_ret
      exact ⟨w.heap.size, rfl, new_ins w [⟨1, r, 0, 0, n / 4294967296⟩, ⟨2, r, 0, 0, wrap64 (wrap32 n)⟩], Nat.le_refl _, (Below.refl _ w).alloc (Nat.le_refl _) _⟩
  · have hc : constL r n = [⟨1, r, 0, 0, n / 4294967296⟩, ⟨2, r, 0, 0, wrap64 (wrap32 n)⟩] := by unfold constL; rw [if_neg (by omega), low_is]
    rw [hc]
    go_enter Tryz.func5, Tryz.ntmps5
    go_wp2
    go_ret
    exact ⟨w.heap.size, rfl, new_ins w [⟨1, r, 0, 0, n / 4294967296⟩, ⟨2, r, 0, 0, wrap64 (wrap32 n)⟩], Nat.le_refl _, (Below.refl _ w).alloc (Nat.le_refl _) _⟩

end Go.Proofs.YtbfmadcppnfgpaaGreatDoor
