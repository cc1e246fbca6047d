/-
  Whether two lines, two instructions or two pairs are alike, as the model reckons it (layer 5).
-/
import Derived.Test.YtbfmadcppnfgpaaGreatDoorInst
namespace Go.Proofs.YtbfmadcppnfgpaaGreatDoor
open Go.ChangeShapes Go.WideShapes Go.ChangeAt Go.RowKit

theorem eqlL_same (l o a b c i t : Int) (w : World) : (binOp .eql 38 (.agg #[.int .i64 l, .int .i64 o, .int .i64 a, .int .i64 b, .int .i64 c, .int .i64 i, .int .i64 t]) (.agg #[.int .i64 l, .int .i64 o, .int .i64 a, .int .i64 b, .int .i64 c, .int .i64 i, .int .i64 t])).run Tryz.prog w = .ok (.bool true) w := by
  go_simp
theorem eqlL_0 (l o a b c i t l' o' a' b' c' i' t' : Int) (h : (l == l') = false) (w : World) : (binOp .eql 38 (.agg #[.int .i64 l, .int .i64 o, .int .i64 a, .int .i64 b, .int .i64 c, .int .i64 i, .int .i64 t]) (.agg #[.int .i64 l', .int .i64 o', .int .i64 a', .int .i64 b', .int .i64 c', .int .i64 i', .int .i64 t'])).run Tryz.prog w = .ok (.bool false) w := by
  go_simp
theorem eqlL_1 (l o a b c i t o' a' b' c' i' t' : Int) (h : (o == o') = false) (w : World) : (binOp .eql 38 (.agg #[.int .i64 l, .int .i64 o, .int .i64 a, .int .i64 b, .int .i64 c, .int .i64 i, .int .i64 t]) (.agg #[.int .i64 l, .int .i64 o', .int .i64 a', .int .i64 b', .int .i64 c', .int .i64 i', .int .i64 t'])).run Tryz.prog w = .ok (.bool false) w := by
  go_simp
theorem eqlL_2 (l o a b c i t a' b' c' i' t' : Int) (h : (a == a') = false) (w : World) : (binOp .eql 38 (.agg #[.int .i64 l, .int .i64 o, .int .i64 a, .int .i64 b, .int .i64 c, .int .i64 i, .int .i64 t]) (.agg #[.int .i64 l, .int .i64 o, .int .i64 a', .int .i64 b', .int .i64 c', .int .i64 i', .int .i64 t'])).run Tryz.prog w = .ok (.bool false) w := by
  go_simp
theorem eqlL_3 (l o a b c i t b' c' i' t' : Int) (h : (b == b') = false) (w : World) : (binOp .eql 38 (.agg #[.int .i64 l, .int .i64 o, .int .i64 a, .int .i64 b, .int .i64 c, .int .i64 i, .int .i64 t]) (.agg #[.int .i64 l, .int .i64 o, .int .i64 a, .int .i64 b', .int .i64 c', .int .i64 i', .int .i64 t'])).run Tryz.prog w = .ok (.bool false) w := by
  go_simp
theorem eqlL_4 (l o a b c i t c' i' t' : Int) (h : (c == c') = false) (w : World) : (binOp .eql 38 (.agg #[.int .i64 l, .int .i64 o, .int .i64 a, .int .i64 b, .int .i64 c, .int .i64 i, .int .i64 t]) (.agg #[.int .i64 l, .int .i64 o, .int .i64 a, .int .i64 b, .int .i64 c', .int .i64 i', .int .i64 t'])).run Tryz.prog w = .ok (.bool false) w := by
  go_simp
theorem eqlL_5 (l o a b c i t i' t' : Int) (h : (i == i') = false) (w : World) : (binOp .eql 38 (.agg #[.int .i64 l, .int .i64 o, .int .i64 a, .int .i64 b, .int .i64 c, .int .i64 i, .int .i64 t]) (.agg #[.int .i64 l, .int .i64 o, .int .i64 a, .int .i64 b, .int .i64 c, .int .i64 i', .int .i64 t'])).run Tryz.prog w = .ok (.bool false) w := by
  go_simp
theorem eqlL_6 (l o a b c i t t' : Int) (h : (t == t') = false) (w : World) : (binOp .eql 38 (.agg #[.int .i64 l, .int .i64 o, .int .i64 a, .int .i64 b, .int .i64 c, .int .i64 i, .int .i64 t]) (.agg #[.int .i64 l, .int .i64 o, .int .i64 a, .int .i64 b, .int .i64 c, .int .i64 i, .int .i64 t'])).run Tryz.prog w = .ok (.bool false) w := by
  go_simp
theorem eqlL_diff (l o a b c i t l' o' a' b' c' i' t' : Int) (h : ¬ (l = l' ∧ o = o' ∧ a = a' ∧ b = b' ∧ c = c' ∧ i = i' ∧ t = t')) (w : World) : (binOp .eql 38 (.agg #[.int .i64 l, .int .i64 o, .int .i64 a, .int .i64 b, .int .i64 c, .int .i64 i, .int .i64 t]) (.agg #[.int .i64 l', .int .i64 o', .int .i64 a', .int .i64 b', .int .i64 c', .int .i64 i', .int .i64 t'])).run Tryz.prog w = .ok (.bool false) w := by
  by_cases h0 : l = l'
  · subst h0
    by_cases h1 : o = o'
    · subst h1
      by_cases h2 : a = a'
      · subst h2
        by_cases h3 : b = b'
        · subst h3
          by_cases h4 : c = c'
          · subst h4
            by_cases h5 : i = i'
            · subst h5
              exact eqlL_6 _ _ _ _ _ _ _ _ (beq_eq_false_iff_ne.2 fun e => h ⟨rfl, rfl, rfl, rfl, rfl, rfl, e⟩) w
            · exact eqlL_5 _ _ _ _ _ _ _ _ _ (beq_eq_false_iff_ne.2 h5) w
          · exact eqlL_4 _ _ _ _ _ _ _ _ _ _ (beq_eq_false_iff_ne.2 h4) w
        · exact eqlL_3 _ _ _ _ _ _ _ _ _ _ _ (beq_eq_false_iff_ne.2 h3) w
      · exact eqlL_2 _ _ _ _ _ _ _ _ _ _ _ _ (beq_eq_false_iff_ne.2 h2) w
    · exact eqlL_1 _ _ _ _ _ _ _ _ _ _ _ _ _ (beq_eq_false_iff_ne.2 h1) w
  · exact eqlL_0 _ _ _ _ _ _ _ _ _ _ _ _ _ _ (beq_eq_false_iff_ne.2 h0) w
theorem neqL_same (l o a b c i t : Int) (w : World) : (binOp .neq 38 (.agg #[.int .i64 l, .int .i64 o, .int .i64 a, .int .i64 b, .int .i64 c, .int .i64 i, .int .i64 t]) (.agg #[.int .i64 l, .int .i64 o, .int .i64 a, .int .i64 b, .int .i64 c, .int .i64 i, .int .i64 t])).run Tryz.prog w = .ok (.bool false) w := by
  go_simp
theorem neqL_0 (l o a b c i t l' o' a' b' c' i' t' : Int) (h : (l == l') = false) (w : World) : (binOp .neq 38 (.agg #[.int .i64 l, .int .i64 o, .int .i64 a, .int .i64 b, .int .i64 c, .int .i64 i, .int .i64 t]) (.agg #[.int .i64 l', .int .i64 o', .int .i64 a', .int .i64 b', .int .i64 c', .int .i64 i', .int .i64 t'])).run Tryz.prog w = .ok (.bool true) w := by
  go_simp
theorem neqL_1 (l o a b c i t o' a' b' c' i' t' : Int) (h : (o == o') = false) (w : World) : (binOp .neq 38 (.agg #[.int .i64 l, .int .i64 o, .int .i64 a, .int .i64 b, .int .i64 c, .int .i64 i, .int .i64 t]) (.agg #[.int .i64 l, .int .i64 o', .int .i64 a', .int .i64 b', .int .i64 c', .int .i64 i', .int .i64 t'])).run Tryz.prog w = .ok (.bool true) w := by
  go_simp
theorem neqL_2 (l o a b c i t a' b' c' i' t' : Int) (h : (a == a') = false) (w : World) : (binOp .neq 38 (.agg #[.int .i64 l, .int .i64 o, .int .i64 a, .int .i64 b, .int .i64 c, .int .i64 i, .int .i64 t]) (.agg #[.int .i64 l, .int .i64 o, .int .i64 a', .int .i64 b', .int .i64 c', .int .i64 i', .int .i64 t'])).run Tryz.prog w = .ok (.bool true) w := by
  go_simp
theorem neqL_3 (l o a b c i t b' c' i' t' : Int) (h : (b == b') = false) (w : World) : (binOp .neq 38 (.agg #[.int .i64 l, .int .i64 o, .int .i64 a, .int .i64 b, .int .i64 c, .int .i64 i, .int .i64 t]) (.agg #[.int .i64 l, .int .i64 o, .int .i64 a, .int .i64 b', .int .i64 c', .int .i64 i', .int .i64 t'])).run Tryz.prog w = .ok (.bool true) w := by
  go_simp
theorem neqL_4 (l o a b c i t c' i' t' : Int) (h : (c == c') = false) (w : World) : (binOp .neq 38 (.agg #[.int .i64 l, .int .i64 o, .int .i64 a, .int .i64 b, .int .i64 c, .int .i64 i, .int .i64 t]) (.agg #[.int .i64 l, .int .i64 o, .int .i64 a, .int .i64 b, .int .i64 c', .int .i64 i', .int .i64 t'])).run Tryz.prog w = .ok (.bool true) w := by
  go_simp
theorem neqL_5 (l o a b c i t i' t' : Int) (h : (i == i') = false) (w : World) : (binOp .neq 38 (.agg #[.int .i64 l, .int .i64 o, .int .i64 a, .int .i64 b, .int .i64 c, .int .i64 i, .int .i64 t]) (.agg #[.int .i64 l, .int .i64 o, .int .i64 a, .int .i64 b, .int .i64 c, .int .i64 i', .int .i64 t'])).run Tryz.prog w = .ok (.bool true) w := by
  go_simp
theorem neqL_6 (l o a b c i t t' : Int) (h : (t == t') = false) (w : World) : (binOp .neq 38 (.agg #[.int .i64 l, .int .i64 o, .int .i64 a, .int .i64 b, .int .i64 c, .int .i64 i, .int .i64 t]) (.agg #[.int .i64 l, .int .i64 o, .int .i64 a, .int .i64 b, .int .i64 c, .int .i64 i, .int .i64 t'])).run Tryz.prog w = .ok (.bool true) w := by
  go_simp
theorem neqL_diff (l o a b c i t l' o' a' b' c' i' t' : Int) (h : ¬ (l = l' ∧ o = o' ∧ a = a' ∧ b = b' ∧ c = c' ∧ i = i' ∧ t = t')) (w : World) : (binOp .neq 38 (.agg #[.int .i64 l, .int .i64 o, .int .i64 a, .int .i64 b, .int .i64 c, .int .i64 i, .int .i64 t]) (.agg #[.int .i64 l', .int .i64 o', .int .i64 a', .int .i64 b', .int .i64 c', .int .i64 i', .int .i64 t'])).run Tryz.prog w = .ok (.bool true) w := by
  by_cases h0 : l = l'
  · subst h0
    by_cases h1 : o = o'
    · subst h1
      by_cases h2 : a = a'
      · subst h2
        by_cases h3 : b = b'
        · subst h3
          by_cases h4 : c = c'
          · subst h4
            by_cases h5 : i = i'
            · subst h5
              exact neqL_6 _ _ _ _ _ _ _ _ (beq_eq_false_iff_ne.2 fun e => h ⟨rfl, rfl, rfl, rfl, rfl, rfl, e⟩) w
            · exact neqL_5 _ _ _ _ _ _ _ _ _ (beq_eq_false_iff_ne.2 h5) w
          · exact neqL_4 _ _ _ _ _ _ _ _ _ _ (beq_eq_false_iff_ne.2 h4) w
        · exact neqL_3 _ _ _ _ _ _ _ _ _ _ _ (beq_eq_false_iff_ne.2 h3) w
      · exact neqL_2 _ _ _ _ _ _ _ _ _ _ _ _ (beq_eq_false_iff_ne.2 h2) w
    · exact neqL_1 _ _ _ _ _ _ _ _ _ _ _ _ _ (beq_eq_false_iff_ne.2 h1) w
  · exact neqL_0 _ _ _ _ _ _ _ _ _ _ _ _ _ _ (beq_eq_false_iff_ne.2 h0) w
theorem neqI_same (o a b c i : Int) (w : World) : (binOp .neq 31 (.agg #[.int .i64 o, .int .i64 a, .int .i64 b, .int .i64 c, .int .i64 i]) (.agg #[.int .i64 o, .int .i64 a, .int .i64 b, .int .i64 c, .int .i64 i])).run Tryz.prog w = .ok (.bool false) w := by
  go_simp
theorem neqI_0 (o a b c i o' a' b' c' i' : Int) (h : (o == o') = false) (w : World) : (binOp .neq 31 (.agg #[.int .i64 o, .int .i64 a, .int .i64 b, .int .i64 c, .int .i64 i]) (.agg #[.int .i64 o', .int .i64 a', .int .i64 b', .int .i64 c', .int .i64 i'])).run Tryz.prog w = .ok (.bool true) w := by
  go_simp
theorem neqI_1 (o a b c i a' b' c' i' : Int) (h : (a == a') = false) (w : World) : (binOp .neq 31 (.agg #[.int .i64 o, .int .i64 a, .int .i64 b, .int .i64 c, .int .i64 i]) (.agg #[.int .i64 o, .int .i64 a', .int .i64 b', .int .i64 c', .int .i64 i'])).run Tryz.prog w = .ok (.bool true) w := by
  go_simp
theorem neqI_2 (o a b c i b' c' i' : Int) (h : (b == b') = false) (w : World) : (binOp .neq 31 (.agg #[.int .i64 o, .int .i64 a, .int .i64 b, .int .i64 c, .int .i64 i]) (.agg #[.int .i64 o, .int .i64 a, .int .i64 b', .int .i64 c', .int .i64 i'])).run Tryz.prog w = .ok (.bool true) w := by
  go_simp
theorem neqI_3 (o a b c i c' i' : Int) (h : (c == c') = false) (w : World) : (binOp .neq 31 (.agg #[.int .i64 o, .int .i64 a, .int .i64 b, .int .i64 c, .int .i64 i]) (.agg #[.int .i64 o, .int .i64 a, .int .i64 b, .int .i64 c', .int .i64 i'])).run Tryz.prog w = .ok (.bool true) w := by
  go_simp
theorem neqI_4 (o a b c i i' : Int) (h : (i == i') = false) (w : World) : (binOp .neq 31 (.agg #[.int .i64 o, .int .i64 a, .int .i64 b, .int .i64 c, .int .i64 i]) (.agg #[.int .i64 o, .int .i64 a, .int .i64 b, .int .i64 c, .int .i64 i'])).run Tryz.prog w = .ok (.bool true) w := by
  go_simp
theorem neqI_diff (o a b c i o' a' b' c' i' : Int) (h : ¬ (o = o' ∧ a = a' ∧ b = b' ∧ c = c' ∧ i = i')) (w : World) : (binOp .neq 31 (.agg #[.int .i64 o, .int .i64 a, .int .i64 b, .int .i64 c, .int .i64 i]) (.agg #[.int .i64 o', .int .i64 a', .int .i64 b', .int .i64 c', .int .i64 i'])).run Tryz.prog w = .ok (.bool true) w := by
  by_cases h0 : o = o'
  · subst h0
    by_cases h1 : a = a'
    · subst h1
      by_cases h2 : b = b'
      · subst h2
        by_cases h3 : c = c'
        · subst h3
          exact neqI_4 _ _ _ _ _ _ (beq_eq_false_iff_ne.2 fun e => h ⟨rfl, rfl, rfl, rfl, e⟩) w
        · exact neqI_3 _ _ _ _ _ _ _ (beq_eq_false_iff_ne.2 h3) w
      · exact neqI_2 _ _ _ _ _ _ _ _ (beq_eq_false_iff_ne.2 h2) w
    · exact neqI_1 _ _ _ _ _ _ _ _ _ (beq_eq_false_iff_ne.2 h1) w
  · exact neqI_0 _ _ _ _ _ _ _ _ _ _ (beq_eq_false_iff_ne.2 h0) w
theorem eqlI_same (o a b c i : Int) (w : World) : (binOp .eql 31 (.agg #[.int .i64 o, .int .i64 a, .int .i64 b, .int .i64 c, .int .i64 i]) (.agg #[.int .i64 o, .int .i64 a, .int .i64 b, .int .i64 c, .int .i64 i])).run Tryz.prog w = .ok (.bool true) w := by
  go_simp
theorem eqlI_0 (o a b c i o' a' b' c' i' : Int) (h : (o == o') = false) (w : World) : (binOp .eql 31 (.agg #[.int .i64 o, .int .i64 a, .int .i64 b, .int .i64 c, .int .i64 i]) (.agg #[.int .i64 o', .int .i64 a', .int .i64 b', .int .i64 c', .int .i64 i'])).run Tryz.prog w = .ok (.bool false) w := by
  go_simp
theorem eqlI_1 (o a b c i a' b' c' i' : Int) (h : (a == a') = false) (w : World) : (binOp .eql 31 (.agg #[.int .i64 o, .int .i64 a, .int .i64 b, .int .i64 c, .int .i64 i]) (.agg #[.int .i64 o, .int .i64 a', .int .i64 b', .int .i64 c', .int .i64 i'])).run Tryz.prog w = .ok (.bool false) w := by
  go_simp
theorem eqlI_2 (o a b c i b' c' i' : Int) (h : (b == b') = false) (w : World) : (binOp .eql 31 (.agg #[.int .i64 o, .int .i64 a, .int .i64 b, .int .i64 c, .int .i64 i]) (.agg #[.int .i64 o, .int .i64 a, .int .i64 b', .int .i64 c', .int .i64 i'])).run Tryz.prog w = .ok (.bool false) w := by
  go_simp
theorem eqlI_3 (o a b c i c' i' : Int) (h : (c == c') = false) (w : World) : (binOp .eql 31 (.agg #[.int .i64 o, .int .i64 a, .int .i64 b, .int .i64 c, .int .i64 i]) (.agg #[.int .i64 o, .int .i64 a, .int .i64 b, .int .i64 c', .int .i64 i'])).run Tryz.prog w = .ok (.bool false) w := by
  go_simp
theorem eqlI_4 (o a b c i i' : Int) (h : (i == i') = false) (w : World) : (binOp .eql 31 (.agg #[.int .i64 o, .int .i64 a, .int .i64 b, .int .i64 c, .int .i64 i]) (.agg #[.int .i64 o, .int .i64 a, .int .i64 b, .int .i64 c, .int .i64 i'])).run Tryz.prog w = .ok (.bool false) w := by
  go_simp
theorem eqlI_diff (o a b c i o' a' b' c' i' : Int) (h : ¬ (o = o' ∧ a = a' ∧ b = b' ∧ c = c' ∧ i = i')) (w : World) : (binOp .eql 31 (.agg #[.int .i64 o, .int .i64 a, .int .i64 b, .int .i64 c, .int .i64 i]) (.agg #[.int .i64 o', .int .i64 a', .int .i64 b', .int .i64 c', .int .i64 i'])).run Tryz.prog w = .ok (.bool false) w := by
  by_cases h0 : o = o'
  · subst h0
    by_cases h1 : a = a'
    · subst h1
      by_cases h2 : b = b'
      · subst h2
        by_cases h3 : c = c'
        · subst h3
          exact eqlI_4 _ _ _ _ _ _ (beq_eq_false_iff_ne.2 fun e => h ⟨rfl, rfl, rfl, rfl, e⟩) w
        · exact eqlI_3 _ _ _ _ _ _ _ (beq_eq_false_iff_ne.2 h3) w
      · exact eqlI_2 _ _ _ _ _ _ _ _ (beq_eq_false_iff_ne.2 h2) w
    · exact eqlI_1 _ _ _ _ _ _ _ _ _ (beq_eq_false_iff_ne.2 h1) w
  · exact eqlI_0 _ _ _ _ _ _ _ _ _ _ (beq_eq_false_iff_ne.2 h0) w

end Go.Proofs.YtbfmadcppnfgpaaGreatDoor
