/-
  What the operations of layer 1 come to, as plain functions, and plain facts on them: no Go program is named here.
-/
import Derived.Test.YtldhhgikhfkdiaaPlain
namespace Go.Proofs.Ytldhhgikhfkdiaa
open Go.RowKit

/-! what operations come to -/
def doV (op a b : Int) : Int :=
  if op = 1 then wrap64 (a + b) else if op = 2 then wrap64 (a - b) else if op = 3 then wrap64 (a * b)
  else if op = 4 then (if b = 0 then 0 else wrap64 (a.tdiv b)) else if op = 5 then (if b = 0 then 0 else a.tmod b)
  else if op = 6 then bits .and .i64 a b else if op = 7 then bits .or .i64 a b else if op = 8 then bits .xor .i64 a b
  else if op = 9 then (if b < 0 then 0 else wrap64 (a * 2 ^ min b.toNat 64)) else if op = 10 then (if b < 0 then 0 else a / 2 ^ min b.toNat 64)
  else if op = 11 then (if a < b then 1 else 0) else if op = 12 then (if a ≤ b then 1 else 0)
  else if op = 13 then (if a = b then 1 else 0) else if op = 14 then (if a = b then 0 else 1) else 0
def doE (op b : Int) : Int :=
  if op = 4 ∨ op = 5 then (if b = 0 then 6 else 0) else if op = 9 ∨ op = 10 then (if b < 0 then 6 else 0)
  else if 1 ≤ op ∧ op ≤ 14 then 0 else 1
def tB (op : Int) : Bool := decide (op = 1 ∨ op = 3 ∨ op = 6 ∨ op = 7 ∨ op = 8 ∨ op = 13 ∨ op = 14)
def tV (op : Int) : Int := if tB op = true then op else 0
def fB (op : Int) : Bool := decide (op = 2 ∨ op = 8 ∨ op = 11 ∨ op = 14 ∨ op = 12 ∨ op = 13)
def fV (op : Int) : Int := if op = 12 ∨ op = 13 then 1 else 0
theorem op_cases {op : Int} (h : 1 ≤ op ∧ op ≤ 14) : op = 1 ∨ op = 2 ∨ op = 3 ∨ op = 4 ∨ op = 5 ∨ op = 6 ∨ op = 7 ∨ op = 8 ∨ op = 9 ∨ op = 10 ∨ op = 11 ∨ op = 12 ∨ op = 13 ∨ op = 14 := by omega
theorem doV_none {op : Int} (a b : Int) (h : ¬ (1 ≤ op ∧ op ≤ 14)) : doV op a b = 0 := by
  unfold doV
  rw [if_neg (by omega), if_neg (by omega), if_neg (by omega), if_neg (by omega), if_neg (by omega), if_neg (by omega), if_neg (by omega), if_neg (by omega), if_neg (by omega), if_neg (by omega), if_neg (by omega), if_neg (by omega), if_neg (by omega), if_neg (by omega)]
theorem doE_none {op : Int} (b : Int) (h : ¬ (1 ≤ op ∧ op ≤ 14)) : doE op b = 1 := by
  unfold doE
  rw [if_neg (by omega), if_neg (by omega), if_neg h]
theorem turned_same (op a b : Int) (h : tB op = true) : doV op a b = doV op b a ∧ doE op b = doE op a := by
  unfold tB at h
  rw [decide_eq_true_iff] at h
  rcases h with rfl | rfl | rfl | rfl | rfl | rfl | rfl
  · exact ⟨by show wrap64 (a + b) = wrap64 (b + a); rw [Int.add_comm], rfl⟩
  · exact ⟨by show wrap64 (a * b) = wrap64 (b * a); rw [Int.mul_comm], rfl⟩
  · exact ⟨by show bits .and .i64 a b = bits .and .i64 b a; rw [bits_and, bits_and, Nat.and_comm], rfl⟩
  · exact ⟨by show bits .or .i64 a b = bits .or .i64 b a; rw [bits_or, bits_or, Nat.or_comm], rfl⟩
  · exact ⟨by show bits .xor .i64 a b = bits .xor .i64 b a; rw [bits_xor, bits_xor, Nat.xor_comm], rfl⟩
  · refine ⟨?_, rfl⟩
    show (if a = b then 1 else 0) = (if b = a then 1 else 0)
    by_cases e : a = b
    · subst e; rfl
    · rw [if_neg e, if_neg (fun h => e h.symm)]
  · refine ⟨?_, rfl⟩
    show (if a = b then 0 else 1) = (if b = a then 0 else 1)
    by_cases e : a = b
    · subst e; rfl
    · rw [if_neg e, if_neg (fun h => e h.symm)]
theorem folded_same (op a : Int) (h : fB op = true) : fV op = doV op a a ∧ doE op a = 0 := by
  unfold fB at h
  rw [decide_eq_true_iff] at h
  rcases h with rfl | rfl | rfl | rfl | rfl | rfl
  · exact ⟨by show (0 : Int) = wrap64 (a - a); rw [Int.sub_self]; unfold wrap64; decide, rfl⟩
  · exact ⟨by show (0 : Int) = bits .xor .i64 a a; rw [bits_xor, Nat.xor_self]; unfold wrap64; decide, rfl⟩
  · exact ⟨by show (0 : Int) = (if a < a then 1 else 0); rw [if_neg (by omega)], rfl⟩
  · exact ⟨by show (0 : Int) = (if a = a then 0 else 1); rw [if_pos rfl], rfl⟩
  · exact ⟨by show (1 : Int) = (if a ≤ a then 1 else 0); rw [if_pos (by omega)], rfl⟩
  · exact ⟨by show (1 : Int) = (if a = a then 1 else 0); rw [if_pos rfl], rfl⟩
theorem order_sum (a b : Int) : wrap64 (wrap64 (doV 11 a b + doV 11 b a) + doV 13 a b) = 1 ∧ wrap64 (doV 13 a b + doV 14 a b) = 1 ∧ doV 12 a b = wrap64 (doV 11 a b + doV 13 a b) := by
  show wrap64 (wrap64 ((if a < b then 1 else 0) + (if b < a then 1 else 0)) + (if a = b then 1 else 0)) = 1 ∧ wrap64 ((if a = b then 1 else 0) + (if a = b then 0 else 1)) = 1 ∧ (if a ≤ b then 1 else 0) = wrap64 ((if a < b then 1 else 0) + (if a = b then 1 else 0))
  unfold wrap64
  refine ⟨?_, ?_, ?_⟩ <;> (repeat' split) <;> omega
end Go.Proofs.Ytldhhgikhfkdiaa
