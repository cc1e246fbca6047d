/-
  Plain facts on remainders, halves and sums of bits for the document's own answers of layer 1: no Go program is named here.
-/
import Derived.Test.YtldhhgikhfkdiaaPlain2
namespace Go.Proofs.Ytldhhgikhfkdiaa
open Go.RowKit

theorem tmod_two (A : Int) : A.tmod 2 = if 0 ≤ A then A % 2 else -(-A % 2) := by
  split
  · exact Int.tmod_eq_emod_of_nonneg ‹_›
  · have e : A = -(-A) := by omega
    rw [e, Int.neg_tmod, Int.tmod_eq_emod_of_nonneg (by omega), Int.neg_neg]
theorem tdiv_two (A : Int) : A.tdiv 2 = if 0 ≤ A then A / 2 else -(-A / 2) := by
  split
  · exact Int.tdiv_eq_ediv_of_nonneg ‹_›
  · have e : A = -(-A) := by omega
    rw [e, Int.neg_tdiv, Int.tdiv_eq_ediv_of_nonneg (by omega), Int.neg_neg]
theorem odd_two (A : Int) : (A.tmod 2 != 0) = decide (A % 2 = 1) := by
  rw [tmod_two, Bool.eq_iff_iff, bne_iff_ne, decide_eq_true_iff]
  split <;> omega
theorem half_odd (A : Int) (h : A.tmod 2 = -1) : A.tdiv 2 - 1 = A / 2 := by
  rw [tmod_two] at h; rw [tdiv_two]; split at h <;> split <;> omega
theorem half_even (A : Int) (h : ¬ A.tmod 2 = -1) : A.tdiv 2 = A / 2 := by
  rw [tmod_two] at h; rw [tdiv_two]; split at h <;> split <;> omega
theorem step_yes (R k : Nat) (h : R.testBit k = true) : wrap64 (wrap64 ((R % 2 ^ k : Nat) : Int) + wrap64 (2 ^ k)) = wrap64 ((R % 2 ^ (k + 1) : Nat) : Int) := by
  rw [sum_step, if_pos h, Int.natCast_add, Int.natCast_pow]
  have e : ((2 : Nat) : Int) = 2 := rfl
  rw [e]
  generalize ((R % 2 ^ k : Nat) : Int) = x
  generalize (2 : Int) ^ k = y
  unfold wrap64; omega
theorem step_no (R k : Nat) (h : R.testBit k = false) : wrap64 ((R % 2 ^ k : Nat) : Int) = wrap64 ((R % 2 ^ (k + 1) : Nat) : Int) := by
  rw [sum_step, if_neg (by simp [h]), Nat.add_zero]
theorem step_two (k : Nat) : wrap64 (2 * wrap64 (2 ^ k)) = wrap64 (2 ^ (k + 1)) := by
  rw [wrap64_two, Int.pow_succ, Int.mul_comm]
theorem shl_step (a : Int) (k : Nat) : wrap64 (2 * wrap64 (a * 2 ^ k)) = wrap64 (a * 2 ^ (k + 1)) := by
  rw [wrap64_two, Int.pow_succ, Int.mul_comm 2, Int.mul_assoc]
theorem half_bd (a : Int) (k : Nat) (h1 : -9223372036854775808 ≤ a) (h2 : a ≤ 9223372036854775807) : -9223372036854775808 ≤ a / 2 ^ k ∧ a / 2 ^ k ≤ 9223372036854775807 := by
  have hp : (0 : Int) < 2 ^ k := Int.pow_pos (by decide)
  have hp1 : (1 : Int) ≤ 2 ^ k := hp
  generalize (2 : Int) ^ k = p at *
  by_cases h : 0 ≤ a
  · have := Int.ediv_nonneg h (Int.le_of_lt hp)
    have := Int.ediv_le_self p h
    omega
  · have h3 : a ≤ a / p := by
      rw [Int.le_ediv_iff_mul_le hp]
      have := Int.mul_le_mul_of_nonpos_left (a := a) (by omega) hp1
      omega
    have h4 : a / p < 0 := Int.ediv_neg_of_neg_of_pos (by omega) hp
    omega
theorem tmod_bd (a b : Int) (h1 : -9223372036854775808 ≤ a) (h2 : a ≤ 9223372036854775807) : -9223372036854775808 ≤ a.tmod b ∧ a.tmod b ≤ 9223372036854775807 := by
  have h := Int.natAbs_tmod a b
  have h3 : a.natAbs % b.natAbs ≤ a.natAbs := Nat.mod_le _ _
  by_cases hs : 0 ≤ a
  · have := Int.tmod_nonneg b hs; omega
  · have := tmod_sign_pos a b (by omega); omega
theorem rem_back (a b : Int) (h1 : -9223372036854775808 ≤ a) (h2 : a ≤ 9223372036854775807) : wrap64 (a - wrap64 (wrap64 (a.tdiv b) * b)) = a.tmod b := by
  rw [wrap64_mul_left]
  have e := Int.tdiv_mul_add_tmod a b
  have hb := tmod_bd a b h1 h2
  generalize a.tdiv b * b = y at *
  generalize a.tmod b = r at *
  have : wrap64 (a - wrap64 y) = wrap64 (a - y) := by unfold wrap64; omega
  rw [this, show a - y = r by omega]
  exact wrap64_id hb.1 hb.2
theorem neg_emod (M m : Int) (hM : 0 < M) (h : 0 < m % M) : -m % M = M - m % M := by
  have hlt := Int.emod_lt_of_pos m hM
  have hdiv := Int.mul_ediv_add_emod m M
  have e : -m = (M - m % M) + M * (-(m / M) - 1) := by
    rw [Int.mul_sub, Int.mul_neg]; omega
  rw [e, Int.add_mul_emod_self_left, Int.emod_eq_of_lt (by omega) (by omega)]
theorem tmod_lo (M n : Int) (hM : 0 < M) (h : n.tmod M < 0) : n.tmod M + M = n % M := by
  have h0 : ¬ 0 ≤ n := fun h0 => by have := Int.tmod_nonneg M h0; omega
  obtain ⟨m, rfl⟩ : ∃ m, n = -m := ⟨-n, by omega⟩
  rw [Int.neg_tmod, Int.tmod_eq_emod_of_nonneg (by omega)] at h ⊢
  rw [neg_emod M m hM (by omega)]; omega
theorem tmod_hi (M n : Int) (h : 0 ≤ n.tmod M) : n.tmod M = n % M := by
  by_cases h0 : 0 ≤ n
  · exact Int.tmod_eq_emod_of_nonneg h0
  · have hs := tmod_sign_pos n M (by omega)
    have hz : n.tmod M = 0 := by omega
    rw [hz]
    exact (Int.emod_eq_zero_of_dvd (Int.dvd_of_tmod_eq_zero hz)).symm
end Go.Proofs.Ytldhhgikhfkdiaa
