/-
  Whether two instructions are alike, as the model reckons it (layer 2).
-/
import Derived.Test.YtnlkeghgmmoioaaDoorHold
namespace Go.Proofs.YtnlkeghgmmoioaaDoor
open Go.ChangeShapes Go.WideShapes Go.ChangeAt Go.RowKit


theorem eql_same (o a b c i : Int) (w : World) : (binOp .eql 23 (.agg #[.int .i64 o, .int .i64 a, .int .i64 b, .int .i64 c, .int .i64 i]) (.agg #[.int .i64 o, .int .i64 a, .int .i64 b, .int .i64 c, .int .i64 i])).run Tryd.prog w = .ok (.bool true) w := by
  go_simp
theorem eql_0 (o a b c i o' a' b' c' i' : Int) (h : (o == o') = false) (w : World) : (binOp .eql 23 (.agg #[.int .i64 o, .int .i64 a, .int .i64 b, .int .i64 c, .int .i64 i]) (.agg #[.int .i64 o', .int .i64 a', .int .i64 b', .int .i64 c', .int .i64 i'])).run Tryd.prog w = .ok (.bool false) w := by
  go_simp
theorem eql_1 (o a b c i a' b' c' i' : Int) (h : (a == a') = false) (w : World) : (binOp .eql 23 (.agg #[.int .i64 o, .int .i64 a, .int .i64 b, .int .i64 c, .int .i64 i]) (.agg #[.int .i64 o, .int .i64 a', .int .i64 b', .int .i64 c', .int .i64 i'])).run Tryd.prog w = .ok (.bool false) w := by
  go_simp
theorem eql_2 (o a b c i b' c' i' : Int) (h : (b == b') = false) (w : World) : (binOp .eql 23 (.agg #[.int .i64 o, .int .i64 a, .int .i64 b, .int .i64 c, .int .i64 i]) (.agg #[.int .i64 o, .int .i64 a, .int .i64 b', .int .i64 c', .int .i64 i'])).run Tryd.prog w = .ok (.bool false) w := by
  go_simp
theorem eql_3 (o a b c i c' i' : Int) (h : (c == c') = false) (w : World) : (binOp .eql 23 (.agg #[.int .i64 o, .int .i64 a, .int .i64 b, .int .i64 c, .int .i64 i]) (.agg #[.int .i64 o, .int .i64 a, .int .i64 b, .int .i64 c', .int .i64 i'])).run Tryd.prog w = .ok (.bool false) w := by
  go_simp
theorem eql_4 (o a b c i i' : Int) (h : (i == i') = false) (w : World) : (binOp .eql 23 (.agg #[.int .i64 o, .int .i64 a, .int .i64 b, .int .i64 c, .int .i64 i]) (.agg #[.int .i64 o, .int .i64 a, .int .i64 b, .int .i64 c, .int .i64 i'])).run Tryd.prog w = .ok (.bool false) w := by
  go_simp
theorem eql_diff (o a b c i o' a' b' c' i' : Int) (h : ¬ (o = o' ∧ a = a' ∧ b = b' ∧ c = c' ∧ i = i')) (w : World) : (binOp .eql 23 (.agg #[.int .i64 o, .int .i64 a, .int .i64 b, .int .i64 c, .int .i64 i]) (.agg #[.int .i64 o', .int .i64 a', .int .i64 b', .int .i64 c', .int .i64 i'])).run Tryd.prog w = .ok (.bool false) w := by
  by_cases h0 : o = o'
  · subst h0
    by_cases h1 : a = a'
    · subst h1
      by_cases h2 : b = b'
      · subst h2
        by_cases h3 : c = c'
        · subst h3
          exact eql_4 _ _ _ _ _ _ (beq_eq_false_iff_ne.2 fun e => h ⟨rfl, rfl, rfl, rfl, e⟩) w
        · exact eql_3 _ _ _ _ _ _ _ (beq_eq_false_iff_ne.2 h3) w
      · exact eql_2 _ _ _ _ _ _ _ _ (beq_eq_false_iff_ne.2 h2) w
    · exact eql_1 _ _ _ _ _ _ _ _ _ (beq_eq_false_iff_ne.2 h1) w
  · exact eql_0 _ _ _ _ _ _ _ _ _ _ (beq_eq_false_iff_ne.2 h0) w

end Go.Proofs.YtnlkeghgmmoioaaDoor
