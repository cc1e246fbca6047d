/-
  Two rows of tokens that are the same (layer 9): the contract of the document's Same.
-/
import Derived.Test.YtekangigfhhkoaaJn
namespace Go.Proofs.Ytekangigfhhkoaa
open Go.ChangeShapes Go.WideShapes Go.ChangeAt Go.RowKit Go.Shelf

theorem drewN_add (W : World) (a b : Nat) : (W.drewN a).drewN b = W.drewN (a + b) := by simp [World.drewN, Nat.add_assoc]
set_option maxRecDepth 100000 in
set_option maxHeartbeats 1000000 in
theorem same_is {W : World} {v1 v2 : Value} {zs : List Tz} (hl : zs.length ≤ 100000000) (h1 : TokRow W v1 zs) (h2 : TokRow W v2 zs) :
    Calls Try.prog 12 #[v1, v2] W fun e w' => e = .returned (.bool true) ∧ ∃ q, w' = W.drewN q := by
  obtain ⟨av1, c1, b1, o1, rfl, a1, r1⟩ := h1
  obtain ⟨av2, c2, b2, o2, rfl, a2, r2⟩ := h2
  have A1 := hide a1
  have A2 := hide a2
  have R1 := hide r1
  have R2 := hide r2
  clear a1 a2 r1 r2
  generalize zs.length = n at *
  go_enter Try.func12, Try.ntmps12
  go_wp2
  go_loopw [5] (fun i wr => ∃ k q : Nat, k ≤ n ∧ i = .int .i64 k ∧ wr = W.drewN q) (fun i _ => n - (RowKit.intOf i).toNat)
  case atStart => exact ⟨0, 0, Nat.zero_le _, rfl, rfl⟩
  case round =>
    obtain ⟨k, q, hk, rfl, rfl⟩ := hrel
    by_cases hlt : k < n
    · obtain ⟨rfl, _⟩ := A1.out (by omega)
      obtain ⟨rfl, _⟩ := A2.out (by omega)
      have p0 := R1.out k 0 hlt (by decide)
      have p1 := R1.out k 1 hlt (by decide)
      have p2 := R1.out k 2 hlt (by decide)
      have q0 := R2.out k 0 hlt (by decide)
      have q1 := R2.out k 1 hlt (by decide)
      have q2 := R2.out k 2 hlt (by decide)
      generalize zs.getD k z0 = x at *
      simp only [Nat.add_zero, List.getElem?_cons_zero, List.getElem?_cons_succ] at p0 p1 p2 q0 q1 q2
      have e0 : (x.k != x.k) = false := by simp
      have e2 : (x.a != x.a) = false := by simp
      have e1 : ((bs x.t).toList != (bs x.t).toList) = false := by simp
      go_wp2
      go_quiet (fail)
      go_wp2
      go_roundw
      case rel => exact ⟨k + 1, q + nq, by omega, by go_num, rfl⟩
      case measure => simp [RowKit.intOf]; omega
    · go_wp2
      go_ret
      exact ⟨rfl, q, rfl⟩
end Go.Proofs.Ytekangigfhhkoaa
