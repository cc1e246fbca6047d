/-
  Contracts of word.Do and word.Wrap (layer 1), by walks over the translation.
-/
import Derived.Test.YtbfmadcppnfgpaaGreatDoorChecked
import Derived.WalkKit
import Derived.ProofKit
import Derived.OpenShut
import Derived.Deep.RegionWith
namespace Go.Proofs.YtbfmadcppnfgpaaGreatDoor.Q
open Go.ChangeShapes Go.WideShapes Go.ChangeAt Go.RowKit

theorem wrap64_id {n : Int} (h1 : -9223372036854775808 ≤ n) (h2 : n ≤ 9223372036854775807) : wrap64 n = n := by unfold wrap64; omega

theorem wrap64_emod (x : Int) : wrap64 x % 18446744073709551616 = x % 18446744073709551616 := by unfold wrap64; omega

def wrapM (m n : Int) (s : Bool) : Int := if s = true ∧ m / 2 ≤ n % m then n % m - m else n % m

def uu (a : Int) : Nat := (a % 18446744073709551616).toNat

theorem uu_lt (a : Int) : uu a < 2 ^ 64 := by unfold uu; omega

theorem uu_cast (a : Int) : ((uu a : Nat) : Int) = a % 18446744073709551616 := by unfold uu; omega

theorem ofInt_uu (a : Int) : (BitVec.ofInt 64 a).toNat = uu a := by rw [BitVec.toNat_ofInt]; rfl

theorem bits_and (a b : Int) : bits .and .i64 a b = wrap64 ((uu a &&& uu b : Nat) : Int) := by
  show IntKind.i64.wrap ((BitVec.ofInt 64 a &&& BitVec.ofInt 64 b).toNat : Nat) = _
  rw [BitVec.toNat_and, ofInt_uu, ofInt_uu, IntKind.wrap_i64]; unfold wrap64; rfl

theorem and_mask (n : Int) (k : Nat) (hk : k < 64) : bits .and .i64 n ((2 ^ k - 1 : Nat) : Int) = wrap64 (((uu n % 2 ^ k : Nat)) : Int) := by
  have hlt : 2 ^ k - 1 < 2 ^ 64 := by
    have := Nat.pow_lt_pow_right (a := 2) (by decide) hk
    omega
  have : uu ((2 ^ k - 1 : Nat) : Int) = 2 ^ k - 1 := by unfold uu; omega
  rw [bits_and, this, Nat.and_two_pow_sub_one_eq_mod]

theorem and_4294967295 (n : Int) : bits .and .i64 n 4294967295 = n % 4294967296 := by
  have h := and_mask n 32 (by decide)
  have e : ((uu n % 2 ^ 32 : Nat) : Int) = n % 4294967296 := by rw [Int.natCast_emod, uu_cast]; simp
  rw [e] at h
  rw [show (4294967295 : Int) = ((2 ^ 32 - 1 : Nat) : Int) by decide, h, wrap64_id (by omega) (by omega)]

def doV (op a b : Int) : Int :=
  if op = 1 then wrap64 (a + b) else if op = 2 then wrap64 (a - b) else if op = 3 then wrap64 (a * b)
  else if op = 4 then (if b = 0 then 0 else wrap64 (a.tdiv b)) else if op = 5 then (if b = 0 then 0 else a.tmod b)
  else if op = 6 then bits .and .i64 a b else if op = 7 then bits .or .i64 a b else if op = 8 then bits .xor .i64 a b
  else if op = 9 then (if b < 0 then 0 else wrap64 (a * 2 ^ min b.toNat 64)) else if op = 10 then (if b < 0 then 0 else a / 2 ^ min b.toNat 64)
  else if op = 11 then (if a < b then 1 else 0) else if op = 12 then (if a ≤ b then 1 else 0)
  else if op = 13 then (if a = b then 1 else 0) else if op = 14 then (if a = b then 0 else 1) else 0

def doE (op b : Int) : Int :=
  if op = 4 ∨ op = 5 then (if b = 0 then 6 else 0) else if op = 9 ∨ op = 10 then (if b < 0 then 6 else 0)
  else if 1 ≤ op ∧ op ≤ 14 then 0 else 1

theorem opw_cases {op : Int} (h : 1 ≤ op ∧ op ≤ 14) : op = 1 ∨ op = 2 ∨ op = 3 ∨ op = 4 ∨ op = 5 ∨ op = 6 ∨ op = 7 ∨ op = 8 ∨ op = 9 ∨ op = 10 ∨ op = 11 ∨ op = 12 ∨ op = 13 ∨ op = 14 := by omega

theorem doV_none {op : Int} (a b : Int) (h : ¬ (1 ≤ op ∧ op ≤ 14)) : doV op a b = 0 := by
  unfold doV
  rw [if_neg (by omega), if_neg (by omega), if_neg (by omega), if_neg (by omega), if_neg (by omega), if_neg (by omega), if_neg (by omega), if_neg (by omega), if_neg (by omega), if_neg (by omega), if_neg (by omega), if_neg (by omega), if_neg (by omega), if_neg (by omega)]

theorem doE_none {op : Int} (b : Int) (h : ¬ (1 ≤ op ∧ op ≤ 14)) : doE op b = 1 := by
  unfold doE
  rw [if_neg (by omega), if_neg (by omega), if_neg h]

theorem do_add (a b : Int) (w : World) :
    Calls Tryz.prog 86 #[.int .i64 1, .int .i64 a, .int .i64 b] w fun e w' => e = .returned (.tuple #[.int .i64 (wrap64 (a + b)), .int .i64 0]) ∧ w' = w := by
  go_enter Tryz.func86, Tryz.ntmps86
  go_wp2
  go_ret2
  exact ⟨rfl, rfl⟩

theorem do_sub (a b : Int) (w : World) :
    Calls Tryz.prog 86 #[.int .i64 2, .int .i64 a, .int .i64 b] w fun e w' => e = .returned (.tuple #[.int .i64 (wrap64 (a - b)), .int .i64 0]) ∧ w' = w := by
  go_enter Tryz.func86, Tryz.ntmps86
  go_wp2
  go_ret2
  exact ⟨rfl, rfl⟩

theorem do_mul (a b : Int) (w : World) :
    Calls Tryz.prog 86 #[.int .i64 3, .int .i64 a, .int .i64 b] w fun e w' => e = .returned (.tuple #[.int .i64 (wrap64 (a * b)), .int .i64 0]) ∧ w' = w := by
  go_enter Tryz.func86, Tryz.ntmps86
  go_wp2
  go_ret2
  exact ⟨rfl, rfl⟩

theorem do_div (a b : Int) (h : ¬ b = 0) (w : World) :
    Calls Tryz.prog 86 #[.int .i64 4, .int .i64 a, .int .i64 b] w fun e w' => e = .returned (.tuple #[.int .i64 (wrap64 (a.tdiv b)), .int .i64 0]) ∧ w' = w := by
  have h' : (b == 0) = false := by simp [h]
  go_enter Tryz.func86, Tryz.ntmps86
  go_wp2
  go_ret2
  exact ⟨rfl, rfl⟩

theorem do_rem (a b : Int) (h : ¬ b = 0) (w : World) :
    Calls Tryz.prog 86 #[.int .i64 5, .int .i64 a, .int .i64 b] w fun e w' => e = .returned (.tuple #[.int .i64 (a.tmod b), .int .i64 0]) ∧ w' = w := by
  have h' : (b == 0) = false := by simp [h]
  go_enter Tryz.func86, Tryz.ntmps86
  go_wp2
  go_ret2
  exact ⟨rfl, rfl⟩

theorem do_div0 (a : Int) (w : World) :
    Calls Tryz.prog 86 #[.int .i64 4, .int .i64 a, .int .i64 0] w fun e w' => e = .returned (.tuple #[.int .i64 0, .int .i64 6]) ∧ w' = w := by
  go_enter Tryz.func86, Tryz.ntmps86
  go_wp2
  go_ret2
  exact ⟨rfl, rfl⟩

theorem do_rem0 (a : Int) (w : World) :
    Calls Tryz.prog 86 #[.int .i64 5, .int .i64 a, .int .i64 0] w fun e w' => e = .returned (.tuple #[.int .i64 0, .int .i64 6]) ∧ w' = w := by
  go_enter Tryz.func86, Tryz.ntmps86
  go_wp2
  go_ret2
  exact ⟨rfl, rfl⟩

theorem do_and (a b : Int) (w : World) :
    Calls Tryz.prog 86 #[.int .i64 6, .int .i64 a, .int .i64 b] w fun e w' => e = .returned (.tuple #[.int .i64 (bits .and .i64 a b), .int .i64 0]) ∧ w' = w := by
  go_enter Tryz.func86, Tryz.ntmps86
  go_wp2
  go_ret2
  exact ⟨rfl, rfl⟩

theorem do_or (a b : Int) (w : World) :
    Calls Tryz.prog 86 #[.int .i64 7, .int .i64 a, .int .i64 b] w fun e w' => e = .returned (.tuple #[.int .i64 (bits .or .i64 a b), .int .i64 0]) ∧ w' = w := by
  go_enter Tryz.func86, Tryz.ntmps86
  go_wp2
  go_ret2
  exact ⟨rfl, rfl⟩

theorem do_xor (a b : Int) (w : World) :
    Calls Tryz.prog 86 #[.int .i64 8, .int .i64 a, .int .i64 b] w fun e w' => e = .returned (.tuple #[.int .i64 (bits .xor .i64 a b), .int .i64 0]) ∧ w' = w := by
  go_enter Tryz.func86, Tryz.ntmps86
  go_wp2
  go_ret2
  exact ⟨rfl, rfl⟩

theorem do_shl (a b : Int) (h : 0 ≤ b) (w : World) :
    Calls Tryz.prog 86 #[.int .i64 9, .int .i64 a, .int .i64 b] w fun e w' => e = .returned (.tuple #[.int .i64 (wrap64 (a * 2 ^ min b.toNat 64)), .int .i64 0]) ∧ w' = w := by
  go_enter Tryz.func86, Tryz.ntmps86
  go_wp2
  go_ret2
  exact ⟨rfl, rfl⟩

theorem do_shr (a b : Int) (h : 0 ≤ b) (w : World) :
    Calls Tryz.prog 86 #[.int .i64 10, .int .i64 a, .int .i64 b] w fun e w' => e = .returned (.tuple #[.int .i64 (a / 2 ^ min b.toNat 64), .int .i64 0]) ∧ w' = w := by
  go_enter Tryz.func86, Tryz.ntmps86
  go_wp2
  go_ret2
  exact ⟨rfl, rfl⟩

theorem do_shl0 (a b : Int) (h : b < 0) (w : World) :
    Calls Tryz.prog 86 #[.int .i64 9, .int .i64 a, .int .i64 b] w fun e w' => e = .returned (.tuple #[.int .i64 (0), .int .i64 6]) ∧ w' = w := by
  go_enter Tryz.func86, Tryz.ntmps86
  go_wp2
  go_ret2
  exact ⟨rfl, rfl⟩

theorem do_shr0 (a b : Int) (h : b < 0) (w : World) :
    Calls Tryz.prog 86 #[.int .i64 10, .int .i64 a, .int .i64 b] w fun e w' => e = .returned (.tuple #[.int .i64 (0), .int .i64 6]) ∧ w' = w := by
  go_enter Tryz.func86, Tryz.ntmps86
  go_wp2
  go_ret2
  exact ⟨rfl, rfl⟩

theorem do_lt1 (a b : Int) (h : a < b) (w : World) :
    Calls Tryz.prog 86 #[.int .i64 11, .int .i64 a, .int .i64 b] w fun e w' => e = .returned (.tuple #[.int .i64 (1), .int .i64 0]) ∧ w' = w := by
  go_enter Tryz.func86, Tryz.ntmps86
  go_wp2
  go_ret2
  exact ⟨rfl, rfl⟩

theorem do_lt0 (a b : Int) (h : b ≤ a) (w : World) :
    Calls Tryz.prog 86 #[.int .i64 11, .int .i64 a, .int .i64 b] w fun e w' => e = .returned (.tuple #[.int .i64 (0), .int .i64 0]) ∧ w' = w := by
  go_enter Tryz.func86, Tryz.ntmps86
  go_wp2
  go_ret2
  exact ⟨rfl, rfl⟩

theorem do_le1 (a b : Int) (h : a ≤ b) (w : World) :
    Calls Tryz.prog 86 #[.int .i64 12, .int .i64 a, .int .i64 b] w fun e w' => e = .returned (.tuple #[.int .i64 (1), .int .i64 0]) ∧ w' = w := by
  go_enter Tryz.func86, Tryz.ntmps86
  go_wp2
  go_ret2
  exact ⟨rfl, rfl⟩

theorem do_le0 (a b : Int) (h : b < a) (w : World) :
    Calls Tryz.prog 86 #[.int .i64 12, .int .i64 a, .int .i64 b] w fun e w' => e = .returned (.tuple #[.int .i64 (0), .int .i64 0]) ∧ w' = w := by
  go_enter Tryz.func86, Tryz.ntmps86
  go_wp2
  go_ret2
  exact ⟨rfl, rfl⟩

theorem do_eq1 (a : Int) (w : World) :
    Calls Tryz.prog 86 #[.int .i64 13, .int .i64 a, .int .i64 a] w fun e w' => e = .returned (.tuple #[.int .i64 1, .int .i64 0]) ∧ w' = w := by
  go_enter Tryz.func86, Tryz.ntmps86
  go_wp2
  go_ret2
  exact ⟨rfl, rfl⟩

theorem do_eq0 (a b : Int) (h : (a == b) = false) (w : World) :
    Calls Tryz.prog 86 #[.int .i64 13, .int .i64 a, .int .i64 b] w fun e w' => e = .returned (.tuple #[.int .i64 (0), .int .i64 0]) ∧ w' = w := by
  have h' : (a != b) = true := by simp [bne, h]
  go_enter Tryz.func86, Tryz.ntmps86
  go_wp2
  go_ret2
  exact ⟨rfl, rfl⟩

theorem do_ne1 (a b : Int) (h : (a == b) = false) (w : World) :
    Calls Tryz.prog 86 #[.int .i64 14, .int .i64 a, .int .i64 b] w fun e w' => e = .returned (.tuple #[.int .i64 (1), .int .i64 0]) ∧ w' = w := by
  have h' : (a != b) = true := by simp [bne, h]
  go_enter Tryz.func86, Tryz.ntmps86
  go_wp2
  go_ret2
  exact ⟨rfl, rfl⟩

theorem do_ne0 (a : Int) (w : World) :
    Calls Tryz.prog 86 #[.int .i64 14, .int .i64 a, .int .i64 a] w fun e w' => e = .returned (.tuple #[.int .i64 0, .int .i64 0]) ∧ w' = w := by
  go_enter Tryz.func86, Tryz.ntmps86
  go_wp2
  go_ret2
  exact ⟨rfl, rfl⟩

theorem ret_int {k : IntKind} {a b : Int} (h : a = b) : Ending.returned (.int k a) = .returned (.int k b) := by rw [h]

set_option maxRecDepth 100000 in
theorem wrap_32 (n : Int) (s : Bool) (w : World) :
    Calls Tryz.prog 85 #[.int .i64 n, .int .i64 32, .bool s] w fun e w' => e = .returned (.int .i64 (wrapM 4294967296 n s)) ∧ w' = w := by
  have hm := and_4294967295 n
  have hlo : 0 ≤ n % 4294967296 := by omega
  have hhi : n % 4294967296 < 4294967296 := by omega
  cases s
  · go_enter Tryz.func85, Tryz.ntmps85
    go_wp2
    go_ret
    exact ⟨ret_int (by simp [wrapM]), rfl⟩
  · by_cases h : 2147483648 ≤ n % 4294967296
    · go_enter Tryz.func85, Tryz.ntmps85
      go_wp2
      go_ret
      exact ⟨ret_int (by unfold wrapM; rw [if_pos ⟨rfl, by omega⟩]), rfl⟩
    · have h' : n % 4294967296 < 2147483648 := by omega
      go_enter Tryz.func85, Tryz.ntmps85
      go_wp2
      go_ret
      exact ⟨ret_int (by unfold wrapM; rw [if_neg (by omega)]), rfl⟩

theorem do_none (op a b : Int) (h : ¬ (1 ≤ op ∧ op ≤ 14)) (w : World) :
    Calls Tryz.prog 86 #[.int .i64 op, .int .i64 a, .int .i64 b] w fun e w' => e = .returned (.tuple #[.int .i64 0, .int .i64 1]) ∧ w' = w := by
  have n1 : (op == 1) = false := beq_eq_false_iff_ne.2 (by omega)
  have n2 : (op == 2) = false := beq_eq_false_iff_ne.2 (by omega)
  have n3 : (op == 3) = false := beq_eq_false_iff_ne.2 (by omega)
  have n4 : (op == 4) = false := beq_eq_false_iff_ne.2 (by omega)
  have n5 : (op == 5) = false := beq_eq_false_iff_ne.2 (by omega)
  have n6 : (op == 6) = false := beq_eq_false_iff_ne.2 (by omega)
  have n7 : (op == 7) = false := beq_eq_false_iff_ne.2 (by omega)
  have n8 : (op == 8) = false := beq_eq_false_iff_ne.2 (by omega)
  have n9 : (op == 9) = false := beq_eq_false_iff_ne.2 (by omega)
  have n10 : (op == 10) = false := beq_eq_false_iff_ne.2 (by omega)
  have n11 : (op == 11) = false := beq_eq_false_iff_ne.2 (by omega)
  have n12 : (op == 12) = false := beq_eq_false_iff_ne.2 (by omega)
  have n13 : (op == 13) = false := beq_eq_false_iff_ne.2 (by omega)
  have n14 : (op == 14) = false := beq_eq_false_iff_ne.2 (by omega)
  clear h
  go_enter Tryz.func86, Tryz.ntmps86
  go_wp2
  go_ret2
  exact ⟨rfl, rfl⟩

theorem do_any (op a b : Int) (w : World) :
    Calls Tryz.prog 86 #[.int .i64 op, .int .i64 a, .int .i64 b] w fun e w' => e = .returned (.tuple #[.int .i64 (doV op a b), .int .i64 (doE op b)]) ∧ w' = w := by
  by_cases h : 1 ≤ op ∧ op ≤ 14
  · rcases opw_cases h with rfl | rfl | rfl | rfl | rfl | rfl | rfl | rfl | rfl | rfl | rfl | rfl | rfl | rfl
    · exact do_add a b w
    · exact do_sub a b w
    · exact do_mul a b w
    · by_cases hb : b = 0
      · subst hb; exact do_div0 a w
      · rw [show doV 4 a b = wrap64 (a.tdiv b) from if_neg hb, show doE 4 b = 0 from if_neg hb]; exact do_div a b hb w
    · by_cases hb : b = 0
      · subst hb; exact do_rem0 a w
      · rw [show doV 5 a b = a.tmod b from if_neg hb, show doE 5 b = 0 from if_neg hb]; exact do_rem a b hb w
    · exact do_and a b w
    · exact do_or a b w
    · exact do_xor a b w
    · by_cases hb : b < 0
      · rw [show doV 9 a b = 0 from if_pos hb, show doE 9 b = 6 from if_pos hb]; exact do_shl0 a b hb w
      · rw [show doV 9 a b = wrap64 (a * 2 ^ min b.toNat 64) from if_neg hb, show doE 9 b = 0 from if_neg hb]; exact do_shl a b (by omega) w
    · by_cases hb : b < 0
      · rw [show doV 10 a b = 0 from if_pos hb, show doE 10 b = 6 from if_pos hb]; exact do_shr0 a b hb w
      · rw [show doV 10 a b = a / 2 ^ min b.toNat 64 from if_neg hb, show doE 10 b = 0 from if_neg hb]; exact do_shr a b (by omega) w
    · by_cases hb : a < b
      · rw [show doV 11 a b = 1 from if_pos hb, show doE 11 b = 0 from rfl]; exact do_lt1 a b hb w
      · rw [show doV 11 a b = 0 from if_neg hb, show doE 11 b = 0 from rfl]; exact do_lt0 a b (by omega) w
    · by_cases hb : a ≤ b
      · rw [show doV 12 a b = 1 from if_pos hb, show doE 12 b = 0 from rfl]; exact do_le1 a b hb w
      · rw [show doV 12 a b = 0 from if_neg hb, show doE 12 b = 0 from rfl]; exact do_le0 a b (by omega) w
    · by_cases hb : a = b
      · subst hb; rw [show doV 13 a a = 1 from if_pos rfl, show doE 13 a = 0 from rfl]; exact do_eq1 a w
      · rw [show doV 13 a b = 0 from if_neg hb, show doE 13 b = 0 from rfl]; exact do_eq0 a b (by simp [hb]) w
    · by_cases hb : a = b
      · subst hb; rw [show doV 14 a a = 0 from if_pos rfl, show doE 14 a = 0 from rfl]; exact do_ne0 a w
      · rw [show doV 14 a b = 1 from if_neg hb, show doE 14 b = 0 from rfl]; exact do_ne1 a b (by simp [hb]) w
  · rw [doV_none a b h, doE_none b h]; exact do_none op a b h w

end Go.Proofs.YtbfmadcppnfgpaaGreatDoor.Q
