/-
  Contracts of the document's own fields, reg and known (layers 1 and 2), by walks over the translation.
-/
import Derived.Test.YtbfmadcppnfgpaaDoorRefZ
namespace Go.Proofs.YtbfmadcppnfgpaaDoor
open Go.ChangeShapes Go.WideShapes Go.ChangeAt Go.RowKit



theorem refknown_any (n : Int) (w : World) :
    Calls Tryd.prog 58 #[.int .i64 n] w fun e w' => e = .returned (.bool (knB n)) ∧ w' = w := by
  by_cases h0 : 1 ≤ n
  · go_enter Tryd.func58, Tryd.ntmps58
    go_wp2
    go_ret
    exact ⟨ret_bool (by unfold knB; rw [Bool.eq_iff_iff]; simp; omega), rfl⟩
  · have h1 : decide (1 ≤ n) = false := by simpa using h0
    go_enter Tryd.func58, Tryd.ntmps58
    go_wp2
    go_ret
    exact ⟨ret_bool (by unfold knB; rw [Bool.eq_iff_iff]; simp; omega), rfl⟩
theorem refreg_any (n : Int) (b : Bool) (w : World) :
    Calls Tryd.prog 57 #[.int .i64 n, .bool b] w fun e w' => e = .returned (.bool (regB n b)) ∧ w' = w := by
  by_cases hz : n = 0
  · subst hz
    cases b
    · go_enter Tryd.func57, Tryd.ntmps57
      go_wp2
      go_ret
      exact ⟨ret_bool (by decide), rfl⟩
    · go_enter Tryd.func57, Tryd.ntmps57
      go_wp2
      go_ret
      exact ⟨ret_bool (by decide), rfl⟩
  · have hz' : (n == 0) = false := beq_eq_false_iff_ne.2 hz
    cases b
    · go_enter Tryd.func57, Tryd.ntmps57
      go_wp2
      go_ret
      exact ⟨ret_bool (by unfold regB; simp [hz]), rfl⟩
    · by_cases h0 : 0 ≤ n
      · go_enter Tryd.func57, Tryd.ntmps57
        go_wp2
        go_ret
        exact ⟨ret_bool (by unfold regB; rw [Bool.eq_iff_iff]; simp; omega), rfl⟩
      · have h1 : decide (0 ≤ n) = false := by simpa using h0
        go_enter Tryd.func57, Tryd.ntmps57
        go_wp2
        go_ret
        exact ⟨ret_bool (by unfold regB; rw [Bool.eq_iff_iff]; simp; omega), rfl⟩
/-- Whether an operation names an imm. -/
def fM (op : Int) : Bool := decide (op = 0 ∨ op = 1 ∨ op = 2 ∨ op = 4 ∨ op = 5 ∨ op = 6 ∨ op = 7 ∨ op = 8 ∨ op = 9 ∨ op = 14)
theorem reffields_0 (w : World) :
    Calls Tryd.prog 50 #[.int .i64 0] w fun e w' => e = .returned (.tuple #[.bool false, .bool false, .bool false, .bool true, .bool true]) ∧ w' = w := by
  go_enter Tryd.func50, Tryd.ntmps50
  go_wp2
  exact bodyPost_ret (v := .tuple #[.bool false, .bool false, .bool false, .bool true, .bool true]) (by simp [results, Tryd.results50, go_sem]) rfl ⟨rfl, rfl⟩
theorem reffields_1 (w : World) :
    Calls Tryd.prog 50 #[.int .i64 1] w fun e w' => e = .returned (.tuple #[.bool true, .bool false, .bool false, .bool true, .bool true]) ∧ w' = w := by
  go_enter Tryd.func50, Tryd.ntmps50
  go_wp2
  exact bodyPost_ret (v := .tuple #[.bool true, .bool false, .bool false, .bool true, .bool true]) (by simp [results, Tryd.results50, go_sem]) rfl ⟨rfl, rfl⟩
theorem reffields_2 (w : World) :
    Calls Tryd.prog 50 #[.int .i64 2] w fun e w' => e = .returned (.tuple #[.bool true, .bool false, .bool false, .bool true, .bool true]) ∧ w' = w := by
  go_enter Tryd.func50, Tryd.ntmps50
  go_wp2
  exact bodyPost_ret (v := .tuple #[.bool true, .bool false, .bool false, .bool true, .bool true]) (by simp [results, Tryd.results50, go_sem]) rfl ⟨rfl, rfl⟩
theorem reffields_3 (w : World) :
    Calls Tryd.prog 50 #[.int .i64 3] w fun e w' => e = .returned (.tuple #[.bool true, .bool true, .bool false, .bool false, .bool true]) ∧ w' = w := by
  go_enter Tryd.func50, Tryd.ntmps50
  go_wp2
  exact bodyPost_ret (v := .tuple #[.bool true, .bool true, .bool false, .bool false, .bool true]) (by simp [results, Tryd.results50, go_sem]) rfl ⟨rfl, rfl⟩
theorem reffields_4 (w : World) :
    Calls Tryd.prog 50 #[.int .i64 4] w fun e w' => e = .returned (.tuple #[.bool true, .bool true, .bool true, .bool true, .bool true]) ∧ w' = w := by
  go_enter Tryd.func50, Tryd.ntmps50
  go_wp2
  exact bodyPost_ret (v := .tuple #[.bool true, .bool true, .bool true, .bool true, .bool true]) (by simp [results, Tryd.results50, go_sem]) rfl ⟨rfl, rfl⟩
theorem reffields_5 (w : World) :
    Calls Tryd.prog 50 #[.int .i64 5] w fun e w' => e = .returned (.tuple #[.bool true, .bool true, .bool false, .bool true, .bool true]) ∧ w' = w := by
  go_enter Tryd.func50, Tryd.ntmps50
  go_wp2
  exact bodyPost_ret (v := .tuple #[.bool true, .bool true, .bool false, .bool true, .bool true]) (by simp [results, Tryd.results50, go_sem]) rfl ⟨rfl, rfl⟩
theorem reffields_6 (w : World) :
    Calls Tryd.prog 50 #[.int .i64 6] w fun e w' => e = .returned (.tuple #[.bool true, .bool true, .bool false, .bool true, .bool true]) ∧ w' = w := by
  go_enter Tryd.func50, Tryd.ntmps50
  go_wp2
  exact bodyPost_ret (v := .tuple #[.bool true, .bool true, .bool false, .bool true, .bool true]) (by simp [results, Tryd.results50, go_sem]) rfl ⟨rfl, rfl⟩
theorem reffields_7 (w : World) :
    Calls Tryd.prog 50 #[.int .i64 7] w fun e w' => e = .returned (.tuple #[.bool false, .bool false, .bool false, .bool true, .bool true]) ∧ w' = w := by
  go_enter Tryd.func50, Tryd.ntmps50
  go_wp2
  exact bodyPost_ret (v := .tuple #[.bool false, .bool false, .bool false, .bool true, .bool true]) (by simp [results, Tryd.results50, go_sem]) rfl ⟨rfl, rfl⟩
theorem reffields_8 (w : World) :
    Calls Tryd.prog 50 #[.int .i64 8] w fun e w' => e = .returned (.tuple #[.bool true, .bool false, .bool false, .bool true, .bool true]) ∧ w' = w := by
  go_enter Tryd.func50, Tryd.ntmps50
  go_wp2
  exact bodyPost_ret (v := .tuple #[.bool true, .bool false, .bool false, .bool true, .bool true]) (by simp [results, Tryd.results50, go_sem]) rfl ⟨rfl, rfl⟩
theorem reffields_9 (w : World) :
    Calls Tryd.prog 50 #[.int .i64 9] w fun e w' => e = .returned (.tuple #[.bool false, .bool false, .bool false, .bool true, .bool true]) ∧ w' = w := by
  go_enter Tryd.func50, Tryd.ntmps50
  go_wp2
  exact bodyPost_ret (v := .tuple #[.bool false, .bool false, .bool false, .bool true, .bool true]) (by simp [results, Tryd.results50, go_sem]) rfl ⟨rfl, rfl⟩
theorem reffields_10 (w : World) :
    Calls Tryd.prog 50 #[.int .i64 10] w fun e w' => e = .returned (.tuple #[.bool false, .bool false, .bool false, .bool false, .bool true]) ∧ w' = w := by
  go_enter Tryd.func50, Tryd.ntmps50
  go_wp2
  exact bodyPost_ret (v := .tuple #[.bool false, .bool false, .bool false, .bool false, .bool true]) (by simp [results, Tryd.results50, go_sem]) rfl ⟨rfl, rfl⟩
theorem reffields_11 (w : World) :
    Calls Tryd.prog 50 #[.int .i64 11] w fun e w' => e = .returned (.tuple #[.bool true, .bool false, .bool false, .bool false, .bool true]) ∧ w' = w := by
  go_enter Tryd.func50, Tryd.ntmps50
  go_wp2
  exact bodyPost_ret (v := .tuple #[.bool true, .bool false, .bool false, .bool false, .bool true]) (by simp [results, Tryd.results50, go_sem]) rfl ⟨rfl, rfl⟩
theorem reffields_12 (w : World) :
    Calls Tryd.prog 50 #[.int .i64 12] w fun e w' => e = .returned (.tuple #[.bool true, .bool false, .bool false, .bool false, .bool true]) ∧ w' = w := by
  go_enter Tryd.func50, Tryd.ntmps50
  go_wp2
  exact bodyPost_ret (v := .tuple #[.bool true, .bool false, .bool false, .bool false, .bool true]) (by simp [results, Tryd.results50, go_sem]) rfl ⟨rfl, rfl⟩
theorem reffields_13 (w : World) :
    Calls Tryd.prog 50 #[.int .i64 13] w fun e w' => e = .returned (.tuple #[.bool true, .bool true, .bool false, .bool false, .bool true]) ∧ w' = w := by
  go_enter Tryd.func50, Tryd.ntmps50
  go_wp2
  exact bodyPost_ret (v := .tuple #[.bool true, .bool true, .bool false, .bool false, .bool true]) (by simp [results, Tryd.results50, go_sem]) rfl ⟨rfl, rfl⟩
theorem reffields_14 (w : World) :
    Calls Tryd.prog 50 #[.int .i64 14] w fun e w' => e = .returned (.tuple #[.bool true, .bool true, .bool false, .bool true, .bool true]) ∧ w' = w := by
  go_enter Tryd.func50, Tryd.ntmps50
  go_wp2
  exact bodyPost_ret (v := .tuple #[.bool true, .bool true, .bool false, .bool true, .bool true]) (by simp [results, Tryd.results50, go_sem]) rfl ⟨rfl, rfl⟩
theorem reffields_no (op : Int) (h : ¬ (0 ≤ op ∧ op ≤ 14)) (w : World) :
    Calls Tryd.prog 50 #[.int .i64 op] w fun e w' => e = .returned (.tuple #[.bool false, .bool false, .bool false, .bool false, .bool false]) ∧ w' = w := by
  have n0 : (op == 0) = false := beq_eq_false_iff_ne.2 (by omega)
  have n1 : (op == 1) = false := beq_eq_false_iff_ne.2 (by omega)
  have n2 : (op == 2) = false := beq_eq_false_iff_ne.2 (by omega)
  have n3 : (op == 3) = false := beq_eq_false_iff_ne.2 (by omega)
  have n4 : (op == 4) = false := beq_eq_false_iff_ne.2 (by omega)
  have n5 : (op == 5) = false := beq_eq_false_iff_ne.2 (by omega)
  have n6 : (op == 6) = false := beq_eq_false_iff_ne.2 (by omega)
  have n7 : (op == 7) = false := beq_eq_false_iff_ne.2 (by omega)
  have n8 : (op == 8) = false := beq_eq_false_iff_ne.2 (by omega)
  have n9 : (op == 9) = false := beq_eq_false_iff_ne.2 (by omega)
  have n10 : (op == 10) = false := beq_eq_false_iff_ne.2 (by omega)
  have n11 : (op == 11) = false := beq_eq_false_iff_ne.2 (by omega)
  have n12 : (op == 12) = false := beq_eq_false_iff_ne.2 (by omega)
  have n13 : (op == 13) = false := beq_eq_false_iff_ne.2 (by omega)
  have n14 : (op == 14) = false := beq_eq_false_iff_ne.2 (by omega)
  clear h
  go_enter Tryd.func50, Tryd.ntmps50
  go_wp2
  exact bodyPost_ret (v := .tuple #[.bool false, .bool false, .bool false, .bool false, .bool false]) (by simp [results, Tryd.results50, go_sem]) rfl ⟨rfl, rfl⟩
theorem reffields_any (op : Int) (w : World) :
    Calls Tryd.prog 50 #[.int .i64 op] w fun e w' => e = .returned (.tuple #[.bool (fA op), .bool (fB op), .bool (fC op), .bool (fM op), .bool (fK op)]) ∧ w' = w := by
  by_cases h : 0 ≤ op ∧ op ≤ 14
  · rcases op_cases h with rfl | rfl | rfl | rfl | rfl | rfl | rfl | rfl | rfl | rfl | rfl | rfl | rfl | rfl | rfl
    · exact reffields_0 w
    · exact reffields_1 w
    · exact reffields_2 w
    · exact reffields_3 w
    · exact reffields_4 w
    · exact reffields_5 w
    · exact reffields_6 w
    · exact reffields_7 w
    · exact reffields_8 w
    · exact reffields_9 w
    · exact reffields_10 w
    · exact reffields_11 w
    · exact reffields_12 w
    · exact reffields_13 w
    · exact reffields_14 w
  · obtain ⟨h1, h2, h3, _, h5⟩ := fA_no h
    have h4 : fM op = false := by unfold fM; simp; omega
    rw [h1, h2, h3, h4, h5]; exact reffields_no op h w


end Go.Proofs.YtbfmadcppnfgpaaDoor
