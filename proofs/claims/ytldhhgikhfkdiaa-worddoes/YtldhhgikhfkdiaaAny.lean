/-
  Contracts of word.Do, word.Turned and word.Fold for every operation (layer 1), by walks over the translation.
-/
import Derived.Test.YtldhhgikhfkdiaaSmall
import Derived.Test.YtldhhgikhfkdiaaPlain2
namespace Go.Proofs.Ytldhhgikhfkdiaa
open Go.ChangeShapes Go.WideShapes Go.ChangeAt Go.RowKit

theorem do_none (op a b : Int) (h : ¬ (1 ≤ op ∧ op ≤ 14)) (w : World) :
    Calls Try.prog 10 #[.int .i64 op, .int .i64 a, .int .i64 b] w fun e w' => e = .returned (.tuple #[.int .i64 0, .int .i64 1]) ∧ w' = w := by
  have n1 : (op == 1) = false := beq_eq_false_iff_ne.2 (by omega)
  have n2 : (op == 2) = false := beq_eq_false_iff_ne.2 (by omega)
  have n3 : (op == 3) = false := beq_eq_false_iff_ne.2 (by omega)
  have n4 : (op == 4) = false := beq_eq_false_iff_ne.2 (by omega)
  have n5 : (op == 5) = false := beq_eq_false_iff_ne.2 (by omega)
  have n6 : (op == 6) = false := beq_eq_false_iff_ne.2 (by omega)
  have n7 : (op == 7) = false := beq_eq_false_iff_ne.2 (by omega)
  have n8 : (op == 8) = false := beq_eq_false_iff_ne.2 (by omega)
  have n9 : (op == 9) = false := beq_eq_false_iff_ne.2 (by omega)
  have n10 : (op == 10) = false := beq_eq_false_iff_ne.2 (by omega)
  have n11 : (op == 11) = false := beq_eq_false_iff_ne.2 (by omega)
  have n12 : (op == 12) = false := beq_eq_false_iff_ne.2 (by omega)
  have n13 : (op == 13) = false := beq_eq_false_iff_ne.2 (by omega)
  have n14 : (op == 14) = false := beq_eq_false_iff_ne.2 (by omega)
  clear h
  go_enter Try.func10, Try.ntmps10
  go_wp2
  go_ret2
  exact ⟨rfl, rfl⟩

theorem do_any (op a b : Int) (w : World) :
    Calls Try.prog 10 #[.int .i64 op, .int .i64 a, .int .i64 b] w fun e w' => e = .returned (.tuple #[.int .i64 (doV op a b), .int .i64 (doE op b)]) ∧ w' = w := by
  by_cases h : 1 ≤ op ∧ op ≤ 14
  · rcases op_cases h with rfl | rfl | rfl | rfl | rfl | rfl | rfl | rfl | rfl | rfl | rfl | rfl | rfl | rfl
    · exact do_add a b w
    · exact do_sub a b w
    · exact do_mul a b w
    · by_cases hb : b = 0
      · subst hb; exact do_div0 a w
      · rw [show doV 4 a b = wrap64 (a.tdiv b) from if_neg hb, show doE 4 b = 0 from if_neg hb]; exact do_div a b hb w
    · by_cases hb : b = 0
      · subst hb; exact do_rem0 a w
      · rw [show doV 5 a b = a.tmod b from if_neg hb, show doE 5 b = 0 from if_neg hb]; exact do_rem a b hb w
    · exact do_and a b w
    · exact do_or a b w
    · exact do_xor a b w
    · by_cases hb : b < 0
      · rw [show doV 9 a b = 0 from if_pos hb, show doE 9 b = 6 from if_pos hb]; exact do_shl0 a b hb w
      · rw [show doV 9 a b = wrap64 (a * 2 ^ min b.toNat 64) from if_neg hb, show doE 9 b = 0 from if_neg hb]; exact do_shl a b (by omega) w
    · by_cases hb : b < 0
      · rw [show doV 10 a b = 0 from if_pos hb, show doE 10 b = 6 from if_pos hb]; exact do_shr0 a b hb w
      · rw [show doV 10 a b = a / 2 ^ min b.toNat 64 from if_neg hb, show doE 10 b = 0 from if_neg hb]; exact do_shr a b (by omega) w
    · by_cases hb : a < b
      · rw [show doV 11 a b = 1 from if_pos hb, show doE 11 b = 0 from rfl]; exact do_lt1 a b hb w
      · rw [show doV 11 a b = 0 from if_neg hb, show doE 11 b = 0 from rfl]; exact do_lt0 a b (by omega) w
    · by_cases hb : a ≤ b
      · rw [show doV 12 a b = 1 from if_pos hb, show doE 12 b = 0 from rfl]; exact do_le1 a b hb w
      · rw [show doV 12 a b = 0 from if_neg hb, show doE 12 b = 0 from rfl]; exact do_le0 a b (by omega) w
    · by_cases hb : a = b
      · subst hb; rw [show doV 13 a a = 1 from if_pos rfl, show doE 13 a = 0 from rfl]; exact do_eq1 a w
      · rw [show doV 13 a b = 0 from if_neg hb, show doE 13 b = 0 from rfl]; exact do_eq0 a b (by simp [hb]) w
    · by_cases hb : a = b
      · subst hb; rw [show doV 14 a a = 0 from if_pos rfl, show doE 14 a = 0 from rfl]; exact do_ne0 a w
      · rw [show doV 14 a b = 1 from if_neg hb, show doE 14 b = 0 from rfl]; exact do_ne1 a b (by simp [hb]) w
  · rw [doV_none a b h, doE_none b h]; exact do_none op a b h w

theorem turned_1 (w : World) : Calls Try.prog 14 #[.int .i64 1] w fun e w' => e = .returned (.tuple #[.int .i64 1, .bool true]) ∧ w' = w := by
  go_enter Try.func14, Try.ntmps14
  go_wp2
  go_ret2
  exact ⟨rfl, rfl⟩
theorem turned_3 (w : World) : Calls Try.prog 14 #[.int .i64 3] w fun e w' => e = .returned (.tuple #[.int .i64 3, .bool true]) ∧ w' = w := by
  go_enter Try.func14, Try.ntmps14
  go_wp2
  go_ret2
  exact ⟨rfl, rfl⟩
theorem turned_6 (w : World) : Calls Try.prog 14 #[.int .i64 6] w fun e w' => e = .returned (.tuple #[.int .i64 6, .bool true]) ∧ w' = w := by
  go_enter Try.func14, Try.ntmps14
  go_wp2
  go_ret2
  exact ⟨rfl, rfl⟩
theorem turned_7 (w : World) : Calls Try.prog 14 #[.int .i64 7] w fun e w' => e = .returned (.tuple #[.int .i64 7, .bool true]) ∧ w' = w := by
  go_enter Try.func14, Try.ntmps14
  go_wp2
  go_ret2
  exact ⟨rfl, rfl⟩
theorem turned_8 (w : World) : Calls Try.prog 14 #[.int .i64 8] w fun e w' => e = .returned (.tuple #[.int .i64 8, .bool true]) ∧ w' = w := by
  go_enter Try.func14, Try.ntmps14
  go_wp2
  go_ret2
  exact ⟨rfl, rfl⟩
theorem turned_13 (w : World) : Calls Try.prog 14 #[.int .i64 13] w fun e w' => e = .returned (.tuple #[.int .i64 13, .bool true]) ∧ w' = w := by
  go_enter Try.func14, Try.ntmps14
  go_wp2
  go_ret2
  exact ⟨rfl, rfl⟩
theorem turned_14 (w : World) : Calls Try.prog 14 #[.int .i64 14] w fun e w' => e = .returned (.tuple #[.int .i64 14, .bool true]) ∧ w' = w := by
  go_enter Try.func14, Try.ntmps14
  go_wp2
  go_ret2
  exact ⟨rfl, rfl⟩
theorem turned_none (op : Int) (h : tB op = false) (w : World) : Calls Try.prog 14 #[.int .i64 op] w fun e w' => e = .returned (.tuple #[.int .i64 0, .bool false]) ∧ w' = w := by
  unfold tB at h
  rw [decide_eq_false_iff_not] at h
  have n1 : (op == 1) = false := beq_eq_false_iff_ne.2 (by omega)
  have n3 : (op == 3) = false := beq_eq_false_iff_ne.2 (by omega)
  have n6 : (op == 6) = false := beq_eq_false_iff_ne.2 (by omega)
  have n7 : (op == 7) = false := beq_eq_false_iff_ne.2 (by omega)
  have n8 : (op == 8) = false := beq_eq_false_iff_ne.2 (by omega)
  have n13 : (op == 13) = false := beq_eq_false_iff_ne.2 (by omega)
  have n14 : (op == 14) = false := beq_eq_false_iff_ne.2 (by omega)
  clear h
  go_enter Try.func14, Try.ntmps14
  go_wp2
  go_ret2
  exact ⟨rfl, rfl⟩
theorem turned_any (op : Int) (w : World) : Calls Try.prog 14 #[.int .i64 op] w fun e w' => e = .returned (.tuple #[.int .i64 (tV op), .bool (tB op)]) ∧ w' = w := by
  by_cases h : tB op = true
  · have h' := h
    unfold tB at h'
    rw [decide_eq_true_iff] at h'
    rcases h' with rfl | rfl | rfl | rfl | rfl | rfl | rfl
    · exact turned_1 w
    · exact turned_3 w
    · exact turned_6 w
    · exact turned_7 w
    · exact turned_8 w
    · exact turned_13 w
    · exact turned_14 w
  · have h' : tB op = false := by simpa using h
    have hv : tV op = 0 := by
      unfold tV; rw [if_neg h]
    rw [hv, h']; exact turned_none op h' w

theorem fold_2 (a : Int) (w : World) : Calls Try.prog 16 #[.int .i64 2, .int .i64 a] w fun e w' => e = .returned (.tuple #[.int .i64 0, .bool true]) ∧ w' = w := by
  go_enter Try.func16, Try.ntmps16
  go_wp2
  go_ret2
  exact ⟨rfl, rfl⟩
theorem fold_8 (a : Int) (w : World) : Calls Try.prog 16 #[.int .i64 8, .int .i64 a] w fun e w' => e = .returned (.tuple #[.int .i64 0, .bool true]) ∧ w' = w := by
  go_enter Try.func16, Try.ntmps16
  go_wp2
  go_ret2
  exact ⟨rfl, rfl⟩
theorem fold_11 (a : Int) (w : World) : Calls Try.prog 16 #[.int .i64 11, .int .i64 a] w fun e w' => e = .returned (.tuple #[.int .i64 0, .bool true]) ∧ w' = w := by
  go_enter Try.func16, Try.ntmps16
  go_wp2
  go_ret2
  exact ⟨rfl, rfl⟩
theorem fold_14 (a : Int) (w : World) : Calls Try.prog 16 #[.int .i64 14, .int .i64 a] w fun e w' => e = .returned (.tuple #[.int .i64 0, .bool true]) ∧ w' = w := by
  go_enter Try.func16, Try.ntmps16
  go_wp2
  go_ret2
  exact ⟨rfl, rfl⟩
theorem fold_12 (a : Int) (w : World) : Calls Try.prog 16 #[.int .i64 12, .int .i64 a] w fun e w' => e = .returned (.tuple #[.int .i64 1, .bool true]) ∧ w' = w := by
  go_enter Try.func16, Try.ntmps16
  go_wp2
  go_ret2
  exact ⟨rfl, rfl⟩
theorem fold_13 (a : Int) (w : World) : Calls Try.prog 16 #[.int .i64 13, .int .i64 a] w fun e w' => e = .returned (.tuple #[.int .i64 1, .bool true]) ∧ w' = w := by
  go_enter Try.func16, Try.ntmps16
  go_wp2
  go_ret2
  exact ⟨rfl, rfl⟩
theorem fold_none (op : Int) (a : Int) (h : fB op = false) (w : World) : Calls Try.prog 16 #[.int .i64 op, .int .i64 a] w fun e w' => e = .returned (.tuple #[.int .i64 0, .bool false]) ∧ w' = w := by
  unfold fB at h
  rw [decide_eq_false_iff_not] at h
  have n2 : (op == 2) = false := beq_eq_false_iff_ne.2 (by omega)
  have n8 : (op == 8) = false := beq_eq_false_iff_ne.2 (by omega)
  have n11 : (op == 11) = false := beq_eq_false_iff_ne.2 (by omega)
  have n14 : (op == 14) = false := beq_eq_false_iff_ne.2 (by omega)
  have n12 : (op == 12) = false := beq_eq_false_iff_ne.2 (by omega)
  have n13 : (op == 13) = false := beq_eq_false_iff_ne.2 (by omega)
  clear h
  go_enter Try.func16, Try.ntmps16
  go_wp2
  go_ret2
  exact ⟨rfl, rfl⟩
theorem fold_any (op : Int) (a : Int) (w : World) : Calls Try.prog 16 #[.int .i64 op, .int .i64 a] w fun e w' => e = .returned (.tuple #[.int .i64 (fV op), .bool (fB op)]) ∧ w' = w := by
  by_cases h : fB op = true
  · have h' := h
    unfold fB at h'
    rw [decide_eq_true_iff] at h'
    rcases h' with rfl | rfl | rfl | rfl | rfl | rfl
    · exact fold_2 a w
    · exact fold_8 a w
    · exact fold_11 a w
    · exact fold_14 a w
    · exact fold_12 a w
    · exact fold_13 a w
  · have h' : fB op = false := by simpa using h
    have hv : fV op = 0 := by
      unfold fB at h'
      rw [decide_eq_false_iff_not] at h'
      unfold fV; rw [if_neg (by omega)]
    rw [hv, h']; exact fold_none op a h' w

end Go.Proofs.Ytldhhgikhfkdiaa
