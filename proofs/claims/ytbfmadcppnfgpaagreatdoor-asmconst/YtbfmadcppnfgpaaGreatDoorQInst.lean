/-
  Contracts of inst.Right and of what it calls (layer 2), by walks over the translation.
-/
import Derived.Test.YtbfmadcppnfgpaaGreatDoorChecked
import Derived.WalkKit
import Derived.ProofKit
import Derived.OpenShut
import Derived.Deep.RegionWith
import Derived.Deep.QuietTactic
import Derived.BigQuiet
namespace Go.Proofs.YtbfmadcppnfgpaaGreatDoor.Q
open Go.ChangeShapes Go.WideShapes Go.ChangeAt Go.RowKit

theorem ret_bool {a b : Bool} (h : a = b) : Ending.returned (.bool a) = .returned (.bool b) := by rw [h]

def fA (op : Int) : Bool := decide (op = 1 ∨ op = 2 ∨ op = 3 ∨ op = 4 ∨ op = 5 ∨ op = 6 ∨ op = 8 ∨ op = 11 ∨ op = 12 ∨ op = 13 ∨ op = 14)

def fB (op : Int) : Bool := decide (op = 3 ∨ op = 4 ∨ op = 5 ∨ op = 6 ∨ op = 13 ∨ op = 14)

def fC (op : Int) : Bool := decide (op = 4)

def fI (op : Int) : Int := if op = 0 ∨ op = 1 ∨ op = 2 ∨ op = 5 ∨ op = 6 ∨ op = 14 then 1 else if op = 7 ∨ op = 8 ∨ op = 9 then 2 else if op = 4 then 3 else 0

def fK (op : Int) : Bool := decide (0 ≤ op ∧ op ≤ 14)

def regB (n : Int) (named : Bool) : Bool := if named then decide (0 ≤ n ∧ n ≤ 15) else decide (n = 0)

def knB (n : Int) : Bool := decide (1 ≤ n ∧ n ≤ 14)

def immB (n k : Int) : Bool := if k = 3 then knB n else if k = 2 then decide (0 ≤ n ∧ n ≤ 2147483647) else if k = 1 then decide (-2147483648 ≤ n ∧ n ≤ 2147483647) else decide (n = 0)

theorem register_any (n : Int) (b : Bool) (w : World) :
    Calls Tryz.prog 46 #[.int .i64 n, .bool b] w fun e w' => e = .returned (.bool (regB n b)) ∧ w' = w := by
  cases b
  · go_enter Tryz.func46, Tryz.ntmps46
    go_wp2
    go_ret
    exact ⟨ret_bool (by unfold regB; rw [Bool.eq_iff_iff]; simp), rfl⟩
  · by_cases h0 : 0 ≤ n
    · go_enter Tryz.func46, Tryz.ntmps46
      go_wp2
      go_ret
      exact ⟨ret_bool (by unfold regB; rw [Bool.eq_iff_iff]; simp; omega), rfl⟩
    · have h1 : decide (0 ≤ n) = false := by simpa using h0
      go_enter Tryz.func46, Tryz.ntmps46
      go_wp2
      go_ret
      exact ⟨ret_bool (by unfold regB; rw [Bool.eq_iff_iff]; simp; omega), rfl⟩

theorem known_any (n : Int) (w : World) :
    Calls Tryz.prog 56 #[.int .i64 n] w fun e w' => e = .returned (.bool (knB n)) ∧ w' = w := by
  by_cases h0 : 1 ≤ n
  · go_enter Tryz.func56, Tryz.ntmps56
    go_wp2
    go_ret
    exact ⟨ret_bool (by unfold knB; rw [Bool.eq_iff_iff]; simp; omega), rfl⟩
  · have h1 : decide (1 ≤ n) = false := by simpa using h0
    go_enter Tryz.func56, Tryz.ntmps56
    go_wp2
    go_ret
    exact ⟨ret_bool (by unfold knB; rw [Bool.eq_iff_iff]; simp; omega), rfl⟩

theorem immediate_3 (n : Int) (w : World) :
    Calls Tryz.prog 47 #[.int .i64 n, .int .i64 3] w fun e w' => e = .returned (.bool (immB n 3)) ∧ w' = w := by
  go_enter Tryz.func47, Tryz.ntmps47
  go_wp2_with (go_at_call 56; refine (known_any _ _).mono ?_; rintro e w' ⟨rfl, rfl⟩)
  go_ret
  exact ⟨ret_bool rfl, rfl⟩

theorem immediate_2 (n : Int) (w : World) :
    Calls Tryz.prog 47 #[.int .i64 n, .int .i64 2] w fun e w' => e = .returned (.bool (immB n 2)) ∧ w' = w := by
  by_cases h : n < 0
  · go_enter Tryz.func47, Tryz.ntmps47
    go_wp2
    go_ret
    exact ⟨ret_bool (by unfold immB; rw [Bool.eq_iff_iff]; simp; omega), rfl⟩
  · have h1 : -2147483648 ≤ n := by omega
    have h2 : decide (-2147483648 ≤ n) = true := by simpa using h1
    go_enter Tryz.func47, Tryz.ntmps47
    go_wp2
    go_ret
    exact ⟨ret_bool (by unfold immB; rw [Bool.eq_iff_iff]; simp; omega), rfl⟩

theorem immediate_1 (n : Int) (w : World) :
    Calls Tryz.prog 47 #[.int .i64 n, .int .i64 1] w fun e w' => e = .returned (.bool (immB n 1)) ∧ w' = w := by
  by_cases h1 : -2147483648 ≤ n
  · have h2 : decide (-2147483648 ≤ n) = true := by simpa using h1
    go_enter Tryz.func47, Tryz.ntmps47
    go_wp2
    go_ret
    exact ⟨ret_bool (by unfold immB; rw [Bool.eq_iff_iff]; simp; omega), rfl⟩
  · have h2 : decide (-2147483648 ≤ n) = false := by simpa using h1
    go_enter Tryz.func47, Tryz.ntmps47
    go_wp2
    go_ret
    exact ⟨ret_bool (by unfold immB; rw [Bool.eq_iff_iff]; simp; omega), rfl⟩

theorem immediate_0 (n : Int) (w : World) :
    Calls Tryz.prog 47 #[.int .i64 n, .int .i64 0] w fun e w' => e = .returned (.bool (immB n 0)) ∧ w' = w := by
  go_enter Tryz.func47, Tryz.ntmps47
  go_wp2
  go_ret
  exact ⟨ret_bool (by unfold immB; rw [Bool.eq_iff_iff]; simp), rfl⟩

theorem fieldsOf_0 (w : World) :
    Calls Tryz.prog 34 #[.int .i64 0] w fun e w' => e = .returned (.tuple #[.agg #[.bool false, .bool false, .bool false, .int .i64 1], .bool true]) ∧ Below w.heap.size w w' := by
  go_enter Tryz.func34, Tryz.ntmps34
  go_wp2
  exact bodyPost_ret (v := .tuple #[.agg #[.bool false, .bool false, .bool false, .int .i64 1], .bool true]) (by simp [results, Tryz.results34, go_sem]) rfl ⟨rfl, ((Below.refl _ _).alloc (Nat.le_refl _) _).alloc (by simp) _⟩

theorem fieldsOf_1 (w : World) :
    Calls Tryz.prog 34 #[.int .i64 1] w fun e w' => e = .returned (.tuple #[.agg #[.bool true, .bool false, .bool false, .int .i64 1], .bool true]) ∧ Below w.heap.size w w' := by
  go_enter Tryz.func34, Tryz.ntmps34
  go_wp2
  exact bodyPost_ret (v := .tuple #[.agg #[.bool true, .bool false, .bool false, .int .i64 1], .bool true]) (by simp [results, Tryz.results34, go_sem]) rfl ⟨rfl, ((Below.refl _ _).alloc (Nat.le_refl _) _).alloc (by simp) _⟩

theorem fieldsOf_2 (w : World) :
    Calls Tryz.prog 34 #[.int .i64 2] w fun e w' => e = .returned (.tuple #[.agg #[.bool true, .bool false, .bool false, .int .i64 1], .bool true]) ∧ Below w.heap.size w w' := by
  go_enter Tryz.func34, Tryz.ntmps34
  go_wp2
  exact bodyPost_ret (v := .tuple #[.agg #[.bool true, .bool false, .bool false, .int .i64 1], .bool true]) (by simp [results, Tryz.results34, go_sem]) rfl ⟨rfl, ((Below.refl _ _).alloc (Nat.le_refl _) _).alloc (by simp) _⟩

theorem fieldsOf_3 (w : World) :
    Calls Tryz.prog 34 #[.int .i64 3] w fun e w' => e = .returned (.tuple #[.agg #[.bool true, .bool true, .bool false, .int .i64 0], .bool true]) ∧ Below w.heap.size w w' := by
  go_enter Tryz.func34, Tryz.ntmps34
  go_wp2
  exact bodyPost_ret (v := .tuple #[.agg #[.bool true, .bool true, .bool false, .int .i64 0], .bool true]) (by simp [results, Tryz.results34, go_sem]) rfl ⟨rfl, ((Below.refl _ _).alloc (Nat.le_refl _) _).alloc (by simp) _⟩

theorem fieldsOf_4 (w : World) :
    Calls Tryz.prog 34 #[.int .i64 4] w fun e w' => e = .returned (.tuple #[.agg #[.bool true, .bool true, .bool true, .int .i64 3], .bool true]) ∧ Below w.heap.size w w' := by
  go_enter Tryz.func34, Tryz.ntmps34
  go_wp2
  exact bodyPost_ret (v := .tuple #[.agg #[.bool true, .bool true, .bool true, .int .i64 3], .bool true]) (by simp [results, Tryz.results34, go_sem]) rfl ⟨rfl, ((Below.refl _ _).alloc (Nat.le_refl _) _).alloc (by simp) _⟩

theorem fieldsOf_5 (w : World) :
    Calls Tryz.prog 34 #[.int .i64 5] w fun e w' => e = .returned (.tuple #[.agg #[.bool true, .bool true, .bool false, .int .i64 1], .bool true]) ∧ Below w.heap.size w w' := by
  go_enter Tryz.func34, Tryz.ntmps34
  go_wp2
  exact bodyPost_ret (v := .tuple #[.agg #[.bool true, .bool true, .bool false, .int .i64 1], .bool true]) (by simp [results, Tryz.results34, go_sem]) rfl ⟨rfl, ((Below.refl _ _).alloc (Nat.le_refl _) _).alloc (by simp) _⟩

theorem fieldsOf_6 (w : World) :
    Calls Tryz.prog 34 #[.int .i64 6] w fun e w' => e = .returned (.tuple #[.agg #[.bool true, .bool true, .bool false, .int .i64 1], .bool true]) ∧ Below w.heap.size w w' := by
  go_enter Tryz.func34, Tryz.ntmps34
  go_wp2
  exact bodyPost_ret (v := .tuple #[.agg #[.bool true, .bool true, .bool false, .int .i64 1], .bool true]) (by simp [results, Tryz.results34, go_sem]) rfl ⟨rfl, ((Below.refl _ _).alloc (Nat.le_refl _) _).alloc (by simp) _⟩

theorem fieldsOf_7 (w : World) :
    Calls Tryz.prog 34 #[.int .i64 7] w fun e w' => e = .returned (.tuple #[.agg #[.bool false, .bool false, .bool false, .int .i64 2], .bool true]) ∧ Below w.heap.size w w' := by
  go_enter Tryz.func34, Tryz.ntmps34
  go_wp2
  exact bodyPost_ret (v := .tuple #[.agg #[.bool false, .bool false, .bool false, .int .i64 2], .bool true]) (by simp [results, Tryz.results34, go_sem]) rfl ⟨rfl, ((Below.refl _ _).alloc (Nat.le_refl _) _).alloc (by simp) _⟩

theorem fieldsOf_8 (w : World) :
    Calls Tryz.prog 34 #[.int .i64 8] w fun e w' => e = .returned (.tuple #[.agg #[.bool true, .bool false, .bool false, .int .i64 2], .bool true]) ∧ Below w.heap.size w w' := by
  go_enter Tryz.func34, Tryz.ntmps34
  go_wp2
  exact bodyPost_ret (v := .tuple #[.agg #[.bool true, .bool false, .bool false, .int .i64 2], .bool true]) (by simp [results, Tryz.results34, go_sem]) rfl ⟨rfl, ((Below.refl _ _).alloc (Nat.le_refl _) _).alloc (by simp) _⟩

theorem fieldsOf_9 (w : World) :
    Calls Tryz.prog 34 #[.int .i64 9] w fun e w' => e = .returned (.tuple #[.agg #[.bool false, .bool false, .bool false, .int .i64 2], .bool true]) ∧ Below w.heap.size w w' := by
  go_enter Tryz.func34, Tryz.ntmps34
  go_wp2
  exact bodyPost_ret (v := .tuple #[.agg #[.bool false, .bool false, .bool false, .int .i64 2], .bool true]) (by simp [results, Tryz.results34, go_sem]) rfl ⟨rfl, ((Below.refl _ _).alloc (Nat.le_refl _) _).alloc (by simp) _⟩

theorem fieldsOf_10 (w : World) :
    Calls Tryz.prog 34 #[.int .i64 10] w fun e w' => e = .returned (.tuple #[.agg #[.bool false, .bool false, .bool false, .int .i64 0], .bool true]) ∧ Below w.heap.size w w' := by
  go_enter Tryz.func34, Tryz.ntmps34
  go_wp2
  exact bodyPost_ret (v := .tuple #[.agg #[.bool false, .bool false, .bool false, .int .i64 0], .bool true]) (by simp [results, Tryz.results34, go_sem]) rfl ⟨rfl, ((Below.refl _ _).alloc (Nat.le_refl _) _).alloc (by simp) _⟩

theorem fieldsOf_11 (w : World) :
    Calls Tryz.prog 34 #[.int .i64 11] w fun e w' => e = .returned (.tuple #[.agg #[.bool true, .bool false, .bool false, .int .i64 0], .bool true]) ∧ Below w.heap.size w w' := by
  go_enter Tryz.func34, Tryz.ntmps34
  go_wp2
  exact bodyPost_ret (v := .tuple #[.agg #[.bool true, .bool false, .bool false, .int .i64 0], .bool true]) (by simp [results, Tryz.results34, go_sem]) rfl ⟨rfl, ((Below.refl _ _).alloc (Nat.le_refl _) _).alloc (by simp) _⟩

theorem fieldsOf_12 (w : World) :
    Calls Tryz.prog 34 #[.int .i64 12] w fun e w' => e = .returned (.tuple #[.agg #[.bool true, .bool false, .bool false, .int .i64 0], .bool true]) ∧ Below w.heap.size w w' := by
  go_enter Tryz.func34, Tryz.ntmps34
  go_wp2
  exact bodyPost_ret (v := .tuple #[.agg #[.bool true, .bool false, .bool false, .int .i64 0], .bool true]) (by simp [results, Tryz.results34, go_sem]) rfl ⟨rfl, ((Below.refl _ _).alloc (Nat.le_refl _) _).alloc (by simp) _⟩

theorem fieldsOf_13 (w : World) :
    Calls Tryz.prog 34 #[.int .i64 13] w fun e w' => e = .returned (.tuple #[.agg #[.bool true, .bool true, .bool false, .int .i64 0], .bool true]) ∧ Below w.heap.size w w' := by
  go_enter Tryz.func34, Tryz.ntmps34
  go_wp2
  exact bodyPost_ret (v := .tuple #[.agg #[.bool true, .bool true, .bool false, .int .i64 0], .bool true]) (by simp [results, Tryz.results34, go_sem]) rfl ⟨rfl, ((Below.refl _ _).alloc (Nat.le_refl _) _).alloc (by simp) _⟩

theorem fieldsOf_14 (w : World) :
    Calls Tryz.prog 34 #[.int .i64 14] w fun e w' => e = .returned (.tuple #[.agg #[.bool true, .bool true, .bool false, .int .i64 1], .bool true]) ∧ Below w.heap.size w w' := by
  go_enter Tryz.func34, Tryz.ntmps34
  go_wp2
  exact bodyPost_ret (v := .tuple #[.agg #[.bool true, .bool true, .bool false, .int .i64 1], .bool true]) (by simp [results, Tryz.results34, go_sem]) rfl ⟨rfl, ((Below.refl _ _).alloc (Nat.le_refl _) _).alloc (by simp) _⟩

theorem fieldsOf_no (op : Int) (h : ¬ (0 ≤ op ∧ op ≤ 14)) (w : World) :
    Calls Tryz.prog 34 #[.int .i64 op] w fun e w' => e = .returned (.tuple #[.agg #[.bool false, .bool false, .bool false, .int .i64 0], .bool false]) ∧ Below w.heap.size w w' := by
  have n0 : (op == 0) = false := beq_eq_false_iff_ne.2 (by omega)
  have n1 : (op == 1) = false := beq_eq_false_iff_ne.2 (by omega)
  have n2 : (op == 2) = false := beq_eq_false_iff_ne.2 (by omega)
  have n3 : (op == 3) = false := beq_eq_false_iff_ne.2 (by omega)
  have n4 : (op == 4) = false := beq_eq_false_iff_ne.2 (by omega)
  have n5 : (op == 5) = false := beq_eq_false_iff_ne.2 (by omega)
  have n6 : (op == 6) = false := beq_eq_false_iff_ne.2 (by omega)
  have n7 : (op == 7) = false := beq_eq_false_iff_ne.2 (by omega)
  have n8 : (op == 8) = false := beq_eq_false_iff_ne.2 (by omega)
  have n9 : (op == 9) = false := beq_eq_false_iff_ne.2 (by omega)
  have n10 : (op == 10) = false := beq_eq_false_iff_ne.2 (by omega)
  have n11 : (op == 11) = false := beq_eq_false_iff_ne.2 (by omega)
  have n12 : (op == 12) = false := beq_eq_false_iff_ne.2 (by omega)
  have n13 : (op == 13) = false := beq_eq_false_iff_ne.2 (by omega)
  have n14 : (op == 14) = false := beq_eq_false_iff_ne.2 (by omega)
  clear h
  go_enter Tryz.func34, Tryz.ntmps34
  go_wp2
  exact bodyPost_ret (v := .tuple #[.agg #[.bool false, .bool false, .bool false, .int .i64 0], .bool false]) (by simp [results, Tryz.results34, go_sem]) rfl ⟨rfl, ((Below.refl _ _).alloc (Nat.le_refl _) _).alloc (by simp) _⟩

theorem op_cases {op : Int} (h : 0 ≤ op ∧ op ≤ 14) : op = 0 ∨ op = 1 ∨ op = 2 ∨ op = 3 ∨ op = 4 ∨ op = 5 ∨ op = 6 ∨ op = 7 ∨ op = 8 ∨ op = 9 ∨ op = 10 ∨ op = 11 ∨ op = 12 ∨ op = 13 ∨ op = 14 := by omega

theorem fA_no {op : Int} (h : ¬ (0 ≤ op ∧ op ≤ 14)) : fA op = false ∧ fB op = false ∧ fC op = false ∧ fI op = 0 ∧ fK op = false := by
  refine ⟨?_, ?_, ?_, ?_, ?_⟩
  · unfold fA; simp; omega
  · unfold fB; simp; omega
  · unfold fC; simp; omega
  · unfold fI; rw [if_neg (by omega), if_neg (by omega), if_neg (by omega)]
  · unfold fK; simp; omega

theorem fieldsOf_any (op : Int) (w : World) :
    Calls Tryz.prog 34 #[.int .i64 op] w fun e w' => e = .returned (.tuple #[.agg #[.bool (fA op), .bool (fB op), .bool (fC op), .int .i64 (fI op)], .bool (fK op)]) ∧ Below w.heap.size w w' := by
  by_cases h : 0 ≤ op ∧ op ≤ 14
  · rcases op_cases h with rfl | rfl | rfl | rfl | rfl | rfl | rfl | rfl | rfl | rfl | rfl | rfl | rfl | rfl | rfl
    · exact fieldsOf_0 w
    · exact fieldsOf_1 w
    · exact fieldsOf_2 w
    · exact fieldsOf_3 w
    · exact fieldsOf_4 w
    · exact fieldsOf_5 w
    · exact fieldsOf_6 w
    · exact fieldsOf_7 w
    · exact fieldsOf_8 w
    · exact fieldsOf_9 w
    · exact fieldsOf_10 w
    · exact fieldsOf_11 w
    · exact fieldsOf_12 w
    · exact fieldsOf_13 w
    · exact fieldsOf_14 w
  · obtain ⟨h1, h2, h3, h4, h5⟩ := fA_no h
    rw [h1, h2, h3, h4, h5]; exact fieldsOf_no op h w

theorem immediate_any (n k : Int) (hk : k = 0 ∨ k = 1 ∨ k = 2 ∨ k = 3) (w : World) :
    Calls Tryz.prog 47 #[.int .i64 n, .int .i64 k] w fun e w' => e = .returned (.bool (immB n k)) ∧ w' = w := by
  rcases hk with rfl | rfl | rfl | rfl
  · exact immediate_0 n w
  · exact immediate_1 n w
  · exact immediate_2 n w
  · exact immediate_3 n w

theorem fI_range (op : Int) : fI op = 0 ∨ fI op = 1 ∨ fI op = 2 ∨ fI op = 3 := by
  unfold fI; (repeat' split) <;> omega

theorem bcell {W w1 : World} (hb : Below W.heap.size W w1) : (∀ b o, b < W.heap.size → w1.cell? ⟨b, o, none⟩ = W.cell? ⟨b, o, none⟩) ∧ (∀ b o, b < W.heap.size → w1.frozen? ⟨b, o, none⟩ = W.frozen? ⟨b, o, none⟩) :=
  ⟨fun b o h => hb.cell (p := ⟨b, o, none⟩) h, fun b o h => hb.frozen (p := ⟨b, o, none⟩) h⟩

theorem hold_any (fa fb fc : Bool) (fi o a b c i : Int) (hk : fi = 0 ∨ fi = 1 ∨ fi = 2 ∨ fi = 3) (w : World) :
    Calls Tryz.prog 35 #[.agg #[.bool fa, .bool fb, .bool fc, .int .i64 fi], .agg #[.int .i64 o, .int .i64 a, .int .i64 b, .int .i64 c, .int .i64 i]] w fun e w' => e = .returned (.bool (regB a fa && regB b fb && regB c fc && immB i fi)) ∧ Below w.heap.size w w' := by
  have HK : Hid (fi = 0 ∨ fi = 1 ∨ fi = 2 ∨ fi = 3) := hk
  clear hk
  cases h1 : regB a fa
  · go_enter Tryz.func35, Tryz.ntmps35
    go_wp2_with fail
    refine (register_any _ _ _).mono ?_; rintro e w' ⟨rfl, rfl⟩
    go_wp2_with fail
    go_ret
    exact ⟨ret_bool (by simp), ((Below.refl _ _).alloc (Nat.le_refl _) _).alloc (by simp) _⟩
  cases h2 : regB b fb
  · go_enter Tryz.func35, Tryz.ntmps35
    go_wp2_with fail
    refine (register_any _ _ _).mono ?_; rintro e w' ⟨rfl, rfl⟩
    go_wp2_with fail
    refine (register_any _ _ _).mono ?_; rintro e w' ⟨rfl, rfl⟩
    go_wp2_with fail
    go_ret
    exact ⟨ret_bool (by simp), ((Below.refl _ _).alloc (Nat.le_refl _) _).alloc (by simp) _⟩
  cases h3 : regB c fc
  · go_enter Tryz.func35, Tryz.ntmps35
    go_wp2_with fail
    refine (register_any _ _ _).mono ?_; rintro e w' ⟨rfl, rfl⟩
    go_wp2_with fail
    refine (register_any _ _ _).mono ?_; rintro e w' ⟨rfl, rfl⟩
    go_wp2_with fail
    refine (register_any _ _ _).mono ?_; rintro e w' ⟨rfl, rfl⟩
    go_wp2_with fail
    go_ret
    exact ⟨ret_bool (by simp), ((Below.refl _ _).alloc (Nat.le_refl _) _).alloc (by simp) _⟩
  · go_enter Tryz.func35, Tryz.ntmps35
    go_wp2_with fail
    refine (register_any _ _ _).mono ?_; rintro e w' ⟨rfl, rfl⟩
    go_wp2_with fail
    refine (register_any _ _ _).mono ?_; rintro e w' ⟨rfl, rfl⟩
    go_wp2_with fail
    refine (register_any _ _ _).mono ?_; rintro e w' ⟨rfl, rfl⟩
    go_wp2_with fail
    refine (immediate_any _ _ HK.out _).mono ?_; rintro e w' ⟨rfl, rfl⟩
    go_wp2_with fail
    go_ret
    exact ⟨ret_bool (by simp), ((Below.refl _ _).alloc (Nat.le_refl _) _).alloc (by simp) _⟩

/-- What makes an instruction right. -/
def holdB (o a b c i : Int) : Bool := regB a (fA o) && regB b (fB o) && regB c (fC o) && immB i (fI o)

def rightB (o a b c i : Int) : Bool := fK o && holdB o a b c i

theorem hold_of (o a b c i : Int) (w : World) :
    Calls Tryz.prog 35 #[.agg #[.bool (fA o), .bool (fB o), .bool (fC o), .int .i64 (fI o)], .agg #[.int .i64 o, .int .i64 a, .int .i64 b, .int .i64 c, .int .i64 i]] w fun e w' => e = .returned (.bool (holdB o a b c i)) ∧ Below w.heap.size w w' :=
  hold_any _ _ _ _ o a b c i (fI_range o) w

theorem bel_box {w w1 : World} {X : Obj} (h : Below (w.alloc X).heap.size (w.alloc X) w1) : Below w.heap.size w w1 ∧ w.heap.size < w1.heap.size :=
  ⟨((Below.refl _ _).alloc (Nat.le_refl _) _).trans (h.mono (by simp)), by have := h.size; simp at this; omega⟩

theorem bel_next {w w1 w2 : World} {X : Obj} (h1 : Below w.heap.size w w1) (h : Below (w1.alloc X).heap.size (w1.alloc X) w2) : Below w.heap.size w w2 ∧ w1.heap.size < w2.heap.size :=
  ⟨(h1.alloc h1.size _).trans (h.mono (by have := h1.size; simp; omega)), by have := h.size; simp at this; omega⟩

theorem bel_on {w w1 w2 : World} (h1 : Below w.heap.size w w1) (h : Below w1.heap.size w1 w2) : Below w.heap.size w w2 ∧ w1.heap.size ≤ w2.heap.size :=
  ⟨h1.trans (h.mono h1.size), h.size⟩

theorem right_any (o a b c i : Int) (w : World) :
    Calls Tryz.prog 19 #[.agg #[.int .i64 o, .int .i64 a, .int .i64 b, .int .i64 c, .int .i64 i]] w fun e w' => e = .returned (.bool (rightB o a b c i)) ∧ Below w.heap.size w w' := by
  cases hk : fK o
  · go_enter Tryz.func19, Tryz.ntmps19
    go_wp2_with fail
    refine (fieldsOf_any _ _).mono ?_; rintro e w1 ⟨rfl, hb⟩
    obtain ⟨hc, hf⟩ := bcell hb
    obtain ⟨hB, hz⟩ := bel_box hb
    go_wp2_with fail
    go_ret
    exact ⟨ret_bool (by unfold rightB; rw [hk]; rfl), hB.alloc hB.size _⟩
  · go_enter Tryz.func19, Tryz.ntmps19
    go_wp2_with fail
    refine (fieldsOf_any _ _).mono ?_; rintro e w1 ⟨rfl, hb⟩
    obtain ⟨hc, hf⟩ := bcell hb
    obtain ⟨hB, hz⟩ := bel_box hb
    go_wp2_with fail
    refine (hold_of _ _ _ _ _ _).mono ?_; rintro e w2 ⟨rfl, hb2⟩
    go_wp2_with fail
    go_ret
    exact ⟨ret_bool (by unfold rightB; rw [hk]; rfl), (bel_next hB hb2).1⟩

end Go.Proofs.YtbfmadcppnfgpaaGreatDoor.Q
