/-
  A row of numbers, sorted (layer 8): the contract of slices.Sort at []int.
-/
import Derived.Test.YtcebidhfgdchlaaUnI
import Derived.Test.YtcebidhfgdchlaaUnC
import Derived.Test.YtcebidhfgdchlaaShelf
import Derived.Sort.OwnSortedInts
namespace Go.Proofs.Ytcebidhfgdchlaa
open Go.ChangeShapes Go.WideShapes Go.ChangeAt Go.RowKit Go.Shelf Go.Sort

theorem sort_is (base : Nat) (v : Value) (zs : List Int) (hl : zs.length ≤ 1000000) (W : World) (h : W.ownsRow base 3 1 v zs.length (intsI zs)) :
    Calls Try.prog 34 #[v] W fun e w' => e = .returned (.tuple #[]) ∧ w'.ownsRow base 3 1 v zs.length (intsI (risenI zs)) ∧ Turns (fun b => v.ownBlock = some b) W w' := by
  rcases h.2 with ⟨rfl, h0⟩ | ⟨g, cap, cur, rfl, h1, h2, h3, h4, h5, h6⟩
  · have hz : zs = [] := List.length_eq_zero_iff.1 h0
    subst hz
    refine (Try.slices_Sort_int_none none 0 W).mono ?_
    rintro e w' ⟨rfl, rfl⟩
    exact ⟨rfl, by simp [risenI]; exact World.ownsRow_nil _ _ _ _, Turns.refl _ _⟩
  · have hH : Holds (Value.int .i64) W g 0 zs.toArray := holds_of_blockI h2 (by rw [Nat.mul_one] at h6; exact h6)
    refine (Try.slices_Sort_int g 0 cap zs W hH (lt_of h2) (by omega)).mono ?_
    rintro e w' ⟨rfl, n, os, rfl⟩
    refine ⟨rfl, ownsRow_sortedI (ts := risenI zs) (risenI_len zs) h1 h2 h3 h4 h5, ?_⟩
    have hg := grownBy_sortedI (w := W) (g := g) (n := n) (os := os) (risenI zs).toArray
    exact ⟨hg.os, hg.tape, hg.output, hg.size, fun b hb hq => hg.block b hb (fun e => hq e.symm)⟩

end Go.Proofs.Ytcebidhfgdchlaa
