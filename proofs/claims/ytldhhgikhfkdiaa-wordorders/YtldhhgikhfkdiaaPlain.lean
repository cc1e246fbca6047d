/-
  Plain facts on numbers for the claims of layer 1 (word): no Go program is named here.
-/
import Derived.WalkKit
namespace Go.Proofs.Ytldhhgikhfkdiaa
open Go.RowKit

/-! wrap64 -/
theorem wrap64_bd (n : Int) : -9223372036854775808 ≤ wrap64 n ∧ wrap64 n ≤ 9223372036854775807 := by unfold wrap64; omega
theorem wrap64_id {n : Int} (h1 : -9223372036854775808 ≤ n) (h2 : n ≤ 9223372036854775807) : wrap64 n = n := by unfold wrap64; omega
theorem wrap64_congr {x y : Int} (h : x % 18446744073709551616 = y % 18446744073709551616) : wrap64 x = wrap64 y := by unfold wrap64; omega
theorem wrap64_emod (x : Int) : wrap64 x % 18446744073709551616 = x % 18446744073709551616 := by unfold wrap64; omega
theorem add_assoc64 (a b c : Int) : wrap64 (wrap64 (a + b) + c) = wrap64 (a + wrap64 (b + c)) := by unfold wrap64; omega
theorem mul_assoc64 (a b c : Int) : wrap64 (wrap64 (a * b) * c) = wrap64 (a * wrap64 (b * c)) := by
  apply wrap64_congr
  rw [Int.mul_emod, wrap64_emod, ← Int.mul_emod, Int.mul_emod a, wrap64_emod, ← Int.mul_emod, Int.mul_assoc]
theorem wrap64_mul_left (a b : Int) : wrap64 (wrap64 a * b) = wrap64 (a * b) := by
  apply wrap64_congr
  rw [Int.mul_emod, wrap64_emod, ← Int.mul_emod]
theorem wrap64_add_left (a b : Int) : wrap64 (wrap64 a + b) = wrap64 (a + b) := by unfold wrap64; omega
theorem wrap64_two (a : Int) : wrap64 (2 * wrap64 a) = wrap64 (2 * a) := by unfold wrap64; omega
theorem divrem64 (a b : Int) (h1 : -9223372036854775808 ≤ a) (h2 : a ≤ 9223372036854775807) : wrap64 (wrap64 (wrap64 (a.tdiv b) * b) + a.tmod b) = a := by
  rw [wrap64_mul_left, wrap64_add_left, Int.tdiv_mul_add_tmod, wrap64_id h1 h2]
theorem tmod_sign_neg (a b : Int) (h : 0 < a) : 0 ≤ a.tmod b := Int.tmod_nonneg _ (by omega)
theorem tmod_sign_pos (a b : Int) (h : a < 0) : a.tmod b ≤ 0 := by
  have h0 : 0 ≤ (-a).tmod b := Int.tmod_nonneg _ (by omega)
  rw [Int.neg_tmod] at h0; omega

/-! numbers of fewer bits -/
def wrapM (m n : Int) (s : Bool) : Int := if s = true ∧ m / 2 ≤ n % m then n % m - m else n % m
theorem wrapM_idem8 (n : Int) (s : Bool) : wrapM 256 (wrapM 256 n s) s = wrapM 256 n s := by
  unfold wrapM; cases s <;> simp <;> (repeat' split) <;> omega
theorem wrapM_idem16 (n : Int) (s : Bool) : wrapM 65536 (wrapM 65536 n s) s = wrapM 65536 n s := by
  unfold wrapM; cases s <;> simp <;> (repeat' split) <;> omega
theorem wrapM_idem32 (n : Int) (s : Bool) : wrapM 4294967296 (wrapM 4294967296 n s) s = wrapM 4294967296 n s := by
  unfold wrapM; cases s <;> simp <;> (repeat' split) <;> omega
theorem wrapM_congr {m x y : Int} (h : x % m = y % m) (s : Bool) : wrapM m x s = wrapM m y s := by unfold wrapM; rw [h]
theorem wrapM_add8 (a b : Int) (s : Bool) : wrapM 256 (wrap64 (wrapM 256 a s + wrapM 256 b s)) s = wrapM 256 (wrap64 (a + b)) s := by
  apply wrapM_congr; unfold wrapM wrap64; (repeat' split) <;> omega
theorem wrapM_add16 (a b : Int) (s : Bool) : wrapM 65536 (wrap64 (wrapM 65536 a s + wrapM 65536 b s)) s = wrapM 65536 (wrap64 (a + b)) s := by
  apply wrapM_congr; unfold wrapM wrap64; (repeat' split) <;> omega
theorem wrapM_add32 (a b : Int) (s : Bool) : wrapM 4294967296 (wrap64 (wrapM 4294967296 a s + wrapM 4294967296 b s)) s = wrapM 4294967296 (wrap64 (a + b)) s := by
  apply wrapM_congr; unfold wrapM wrap64; (repeat' split) <;> omega

/-! bits of numbers -/
def uu (a : Int) : Nat := (a % 18446744073709551616).toNat
theorem uu_lt (a : Int) : uu a < 2 ^ 64 := by unfold uu; omega
theorem uu_cast (a : Int) : ((uu a : Nat) : Int) = a % 18446744073709551616 := by unfold uu; omega
theorem ofInt_uu (a : Int) : (BitVec.ofInt 64 a).toNat = uu a := by rw [BitVec.toNat_ofInt]; rfl
theorem bits_and (a b : Int) : bits .and .i64 a b = wrap64 ((uu a &&& uu b : Nat) : Int) := by
  show IntKind.i64.wrap ((BitVec.ofInt 64 a &&& BitVec.ofInt 64 b).toNat : Nat) = _
  rw [BitVec.toNat_and, ofInt_uu, ofInt_uu, IntKind.wrap_i64]; unfold wrap64; rfl
theorem bits_or (a b : Int) : bits .or .i64 a b = wrap64 ((uu a ||| uu b : Nat) : Int) := by
  show IntKind.i64.wrap ((BitVec.ofInt 64 a ||| BitVec.ofInt 64 b).toNat : Nat) = _
  rw [BitVec.toNat_or, ofInt_uu, ofInt_uu, IntKind.wrap_i64]; unfold wrap64; rfl
theorem bits_xor (a b : Int) : bits .xor .i64 a b = wrap64 ((uu a ^^^ uu b : Nat) : Int) := by
  show IntKind.i64.wrap ((BitVec.ofInt 64 a ^^^ BitVec.ofInt 64 b).toNat : Nat) = _
  rw [BitVec.toNat_xor, ofInt_uu, ofInt_uu, IntKind.wrap_i64]; unfold wrap64; rfl
theorem uu_wrap (n : Nat) (h : n < 2 ^ 64) : uu (wrap64 (n : Int)) = n := by
  unfold uu; rw [wrap64_emod]; omega
theorem wrap_uu (a : Int) (h1 : -9223372036854775808 ≤ a) (h2 : a ≤ 9223372036854775807) : wrap64 ((uu a : Nat) : Int) = a := by
  rw [uu_cast]; unfold wrap64; omega
theorem and_mask (n : Int) (k : Nat) (hk : k < 64) : bits .and .i64 n ((2 ^ k - 1 : Nat) : Int) = wrap64 (((uu n % 2 ^ k : Nat)) : Int) := by
  have hlt : 2 ^ k - 1 < 2 ^ 64 := by
    have := Nat.pow_lt_pow_right (a := 2) (by decide) hk
    omega
  have : uu ((2 ^ k - 1 : Nat) : Int) = 2 ^ k - 1 := by unfold uu; omega
  rw [bits_and, this, Nat.and_two_pow_sub_one_eq_mod]
theorem and_255 (n : Int) : bits .and .i64 n 255 = n % 256 := by
  have h := and_mask n 8 (by decide)
  have e : ((uu n % 2 ^ 8 : Nat) : Int) = n % 256 := by rw [Int.natCast_emod, uu_cast]; simp
  rw [e] at h
  rw [show (255 : Int) = ((2 ^ 8 - 1 : Nat) : Int) by decide, h, wrap64_id (by omega) (by omega)]
theorem and_65535 (n : Int) : bits .and .i64 n 65535 = n % 65536 := by
  have h := and_mask n 16 (by decide)
  have e : ((uu n % 2 ^ 16 : Nat) : Int) = n % 65536 := by rw [Int.natCast_emod, uu_cast]; simp
  rw [e] at h
  rw [show (65535 : Int) = ((2 ^ 16 - 1 : Nat) : Int) by decide, h, wrap64_id (by omega) (by omega)]
theorem and_4294967295 (n : Int) : bits .and .i64 n 4294967295 = n % 4294967296 := by
  have h := and_mask n 32 (by decide)
  have e : ((uu n % 2 ^ 32 : Nat) : Int) = n % 4294967296 := by rw [Int.natCast_emod, uu_cast]; simp
  rw [e] at h
  rw [show (4294967295 : Int) = ((2 ^ 32 - 1 : Nat) : Int) by decide, h, wrap64_id (by omega) (by omega)]

theorem nat_or_eq : ∀ (n x y : Nat), x < n → (x ||| y) = (x ^^^ y) + (x &&& y) ∧ (x ||| y) + (x &&& y) = x + y := by
  intro n
  induction n with
  | zero => intro x y h; omega
  | succ n ih =>
    intro x y h
    by_cases hx : x = 0
    · subst hx; simp
    · have hi := ih (x / 2) (y / 2) (by omega)
      have a1 := @Nat.and_div_two x y
      have a2 := @Nat.or_div_two x y
      have a3 := @Nat.xor_div_two x y
      have b1 := @Nat.and_mod_two_pow x y 1
      have b2 := @Nat.or_mod_two_pow x y 1
      have b3 := @Nat.xor_mod_two_pow x y 1
      simp only [Nat.pow_one] at b1 b2 b3
      have hx2 : x % 2 = 0 ∨ x % 2 = 1 := by omega
      have hy2 : y % 2 = 0 ∨ y % 2 = 1 := by omega
      rcases hx2 with e1 | e1 <;> rcases hy2 with e2 | e2 <;> rw [e1, e2] at b1 b2 b3 <;> simp only [Nat.zero_and, Nat.and_zero, Nat.zero_or, Nat.or_zero, Nat.zero_xor, Nat.xor_zero, Nat.and_self, Nat.or_self, Nat.xor_self] at b1 b2 b3 <;> omega

theorem or_sub_xor (a b : Int) : wrap64 (bits .or .i64 a b - bits .xor .i64 a b) = bits .and .i64 a b := by
  have h := (nat_or_eq _ (uu a) (uu b) (Nat.lt_succ_self _)).1
  rw [bits_or, bits_xor, bits_and, h]
  generalize (uu a ^^^ uu b) = x
  generalize (uu a &&& uu b) = y
  rw [Int.natCast_add]; unfold wrap64; omega
theorem add_or_aux (x y a b : Int) (h : y + x = a % 18446744073709551616 + b % 18446744073709551616) : wrap64 (wrap64 x + wrap64 y) = wrap64 (a + b) := by
  unfold wrap64; omega
theorem and_add_or (a b : Int) : wrap64 (bits .and .i64 a b + bits .or .i64 a b) = wrap64 (a + b) := by
  have h := (nat_or_eq _ (uu a) (uu b) (Nat.lt_succ_self _)).2
  rw [bits_or, bits_and]
  apply add_or_aux
  rw [← uu_cast, ← uu_cast, ← Int.natCast_add, ← Int.natCast_add, h]
theorem xor_xor (a b : Int) (h1 : -9223372036854775808 ≤ a) (h2 : a ≤ 9223372036854775807) : bits .xor .i64 (bits .xor .i64 a b) b = a := by
  rw [bits_xor, bits_xor, uu_wrap _ (Nat.xor_lt_two_pow (uu_lt a) (uu_lt b)), Nat.xor_assoc, Nat.xor_self, Nat.xor_zero, wrap_uu a h1 h2]
theorem and_all (a : Int) (h1 : -9223372036854775808 ≤ a) (h2 : a ≤ 9223372036854775807) : bits .and .i64 a (-1) = a := by
  have e : uu (-1) = 2 ^ 64 - 1 := by decide
  rw [bits_and, e, Nat.and_two_pow_sub_one_eq_mod, Nat.mod_eq_of_lt (uu_lt a), wrap_uu a h1 h2]

/-! bit by bit -/
theorem uu_bit (a : Int) (k : Nat) (hk : k < 64) : (uu a).testBit k = decide (a / 2 ^ k % 2 = 1) := by
  rw [Nat.testBit_eq_decide_div_mod_eq]
  have e : ((uu a / 2 ^ k % 2 : Nat) : Int) = a / 2 ^ k % 2 := by
    rw [Int.natCast_emod, Int.natCast_ediv, uu_cast, Int.natCast_pow]
    have hp : (18446744073709551616 : Int) = 2 ^ k * (2 * 2 ^ (63 - k)) := by
      rw [← Int.mul_assoc, Int.mul_comm (2 ^ k) 2, Int.mul_assoc, ← Int.pow_add, show k + (63 - k) = 63 by omega]; decide
    have hd : a % 18446744073709551616 = a + 2 ^ k * (2 * (2 ^ (63 - k) * -(a / 18446744073709551616))) := by
      have := Int.mul_ediv_add_emod a 18446744073709551616
      have h2 : 2 ^ k * (2 * (2 ^ (63 - k) * -(a / 18446744073709551616))) = -(18446744073709551616 * (a / 18446744073709551616)) := by
        rw [hp]; simp only [Int.mul_neg, Int.mul_assoc]
      omega
    have h2k : ((2 : Nat) : Int) = 2 := rfl
    rw [h2k, hd, Int.add_mul_ediv_left _ _ (Int.ne_of_gt (Int.pow_pos (by decide)))]
    generalize a / 2 ^ k = z
    generalize 2 ^ (63 - k) * -(a / 18446744073709551616) = y
    omega
  rw [Bool.eq_iff_iff, decide_eq_true_iff, decide_eq_true_iff]
  omega
/-- the first k bits of R, and R's bit k: what is summed up in round k. -/
theorem sum_step (R k : Nat) : R % 2 ^ (k + 1) = R % 2 ^ k + if R.testBit k = true then 2 ^ k else 0 := by
  rw [Nat.mod_pow_succ, Nat.testBit_eq_decide_div_mod_eq]
  have h : R / 2 ^ k % 2 = 0 ∨ R / 2 ^ k % 2 = 1 := by omega
  rcases h with h | h <;> simp [h]
theorem half_step (a : Int) (k : Nat) : a / 2 ^ k / 2 = a / 2 ^ (k + 1) := by
  rw [Int.pow_succ, Int.ediv_ediv_of_nonneg (Int.le_of_lt (Int.pow_pos (by decide)))]
end Go.Proofs.Ytldhhgikhfkdiaa
