/-
  Plain facts on numbers and bytes for the claims of layer 2: no Go program is named here.
-/
import Derived.WalkKit
import Derived.ProofKit
import Derived.OpenShut
namespace Go.Proofs.YtnlkeghgmmoioaaDoor
open Go.ChangeShapes Go.WideShapes Go.ChangeAt Go.RowKit

theorem wrap64_id {n : Int} (h1 : -9223372036854775808 ≤ n) (h2 : n ≤ 9223372036854775807) : wrap64 n = n := by unfold wrap64; omega
theorem wrap64_emod (x : Int) : wrap64 x % 18446744073709551616 = x % 18446744073709551616 := by unfold wrap64; omega
def wrapM (m n : Int) (s : Bool) : Int := if s = true ∧ m / 2 ≤ n % m then n % m - m else n % m
def uu (a : Int) : Nat := (a % 18446744073709551616).toNat
theorem uu_lt (a : Int) : uu a < 2 ^ 64 := by unfold uu; omega
theorem uu_cast (a : Int) : ((uu a : Nat) : Int) = a % 18446744073709551616 := by unfold uu; omega
theorem ofInt_uu (a : Int) : (BitVec.ofInt 64 a).toNat = uu a := by rw [BitVec.toNat_ofInt]; rfl
theorem bits_and (a b : Int) : bits .and .i64 a b = wrap64 ((uu a &&& uu b : Nat) : Int) := by
  show IntKind.i64.wrap ((BitVec.ofInt 64 a &&& BitVec.ofInt 64 b).toNat : Nat) = _
  rw [BitVec.toNat_and, ofInt_uu, ofInt_uu, IntKind.wrap_i64]; unfold wrap64; rfl
theorem bits_or (a b : Int) : bits .or .i64 a b = wrap64 ((uu a ||| uu b : Nat) : Int) := by
  show IntKind.i64.wrap ((BitVec.ofInt 64 a ||| BitVec.ofInt 64 b).toNat : Nat) = _
  rw [BitVec.toNat_or, ofInt_uu, ofInt_uu, IntKind.wrap_i64]; unfold wrap64; rfl
theorem and_mask (n : Int) (k : Nat) (hk : k < 64) : bits .and .i64 n ((2 ^ k - 1 : Nat) : Int) = wrap64 (((uu n % 2 ^ k : Nat)) : Int) := by
  have hlt : 2 ^ k - 1 < 2 ^ 64 := by
    have := Nat.pow_lt_pow_right (a := 2) (by decide) hk
    omega
  have : uu ((2 ^ k - 1 : Nat) : Int) = 2 ^ k - 1 := by unfold uu; omega
  rw [bits_and, this, Nat.and_two_pow_sub_one_eq_mod]
theorem and_4294967295 (n : Int) : bits .and .i64 n 4294967295 = n % 4294967296 := by
  have h := and_mask n 32 (by decide)
  have e : ((uu n % 2 ^ 32 : Nat) : Int) = n % 4294967296 := by rw [Int.natCast_emod, uu_cast]; simp
  rw [e] at h
  rw [show (4294967295 : Int) = ((2 ^ 32 - 1 : Nat) : Int) by decide, h, wrap64_id (by omega) (by omega)]


theorem or_shift (x y : Int) (k : Nat) (hx : 0 ≤ x ∧ x < 2 ^ k) (hy : 0 ≤ y) (hb : 2 ^ k * y + x ≤ 9223372036854775807) : bits .or .i64 x (y * 2 ^ k) = y * 2 ^ k + x := by
  obtain ⟨m, rfl⟩ := Int.eq_ofNat_of_zero_le hx.1
  obtain ⟨n, rfl⟩ := Int.eq_ofNat_of_zero_le hy
  have hm : m < 2 ^ k := by have := hx.2; exact_mod_cast this
  have e1 : ((n : Int) * 2 ^ k) = ((2 ^ k * n : Nat) : Int) := by rw [Int.natCast_mul]; simp [Int.mul_comm]
  have e2 : ((2 : Int) ^ k * n + m) = ((2 ^ k * n + m : Nat) : Int) := by simp
  rw [e2] at hb
  rw [e1, bits_or]
  have u1 : uu (m : Int) = m := by unfold uu; omega
  have u2 : uu ((2 ^ k * n : Nat) : Int) = 2 ^ k * n := by unfold uu; omega
  rw [u1, u2, Nat.or_comm, ← Nat.two_pow_add_eq_or_of_lt hm, ← Int.natCast_add]
  exact wrap64_id (by omega) (by omega)
theorem or_low (a b : Int) (ha : 0 ≤ a ∧ a ≤ 15) (hb : 0 ≤ b ∧ b ≤ 15) : bits .or .i64 (a * 16) b = a * 16 + b := by
  have h := or_shift b a 4 ⟨hb.1, by omega⟩ ha.1 (by omega)
  have hc : ∀ x y : Int, bits .or .i64 x y = bits .or .i64 y x := fun x y => by rw [bits_or, bits_or, Nat.or_comm]
  rw [hc]; simpa using h

/-- A number of eight bits, as a byte. -/
def u8 (z : Int) : UInt8 := UInt8.ofNat z.toNat
theorem u8_nat (z : Int) (h : 0 ≤ z ∧ z < 256) : ((u8 z).toNat : Int) = z := by
  unfold u8; rw [UInt8.toNat_ofNat']; omega

end Go.Proofs.YtnlkeghgmmoioaaDoor
