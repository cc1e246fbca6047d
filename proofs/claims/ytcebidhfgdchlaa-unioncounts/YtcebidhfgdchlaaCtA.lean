/-
  Rows of rows (layer 8): the comparison of two rows by their first numbers; rows each its own.
-/
import Derived.Test.YtcebidhfgdchlaaUnK
import Derived.Lib.Small
namespace Go.Proofs.Ytcebidhfgdchlaa
open Go.ChangeShapes Go.WideShapes Go.ChangeAt Go.RowKit

theorem nan68 (k : Int) (w : World) : Calls Try.prog 68 #[.int .i64 k] w fun e w' => e = .returned (.bool false) ∧ w' = w := by
  have e1 : (k != k) = false := by simp
  go_enter Try.func68, Try.ntmps68
  go_wp2
  go_ret
  exact ⟨rfl, rfl⟩
set_option maxRecDepth 100000 in
theorem compare_is (x y : Int) (w : World) : Calls Try.prog 46 #[.int .i64 x, .int .i64 y] w fun e w' => e = .returned (.int .i64 (Lib.compareInt x y)) ∧ w' = w := by
  have hx := nan68 x w
  have hy := nan68 y w
  by_cases h1 : x < y
  · have hr : Lib.compareInt x y = -1 := by simp [Lib.compareInt, h1]
    rw [hr]
    have e1 : (x < y) = True := eq_true h1
    clear h1 hr
    go_enter Try.func46, Try.ntmps46
    go_wp2_with fail
    refine hx.mono ?_
    rintro e w' ⟨rfl, rfl⟩
    go_wp2_with fail
    refine hy.mono ?_
    rintro e w' ⟨rfl, rfl⟩
    go_wp2
    go_ret
    exact ⟨rfl, rfl⟩
  · by_cases h2 : y < x
    · have hr : Lib.compareInt x y = 1 := by simp [Lib.compareInt, h1, h2]
      rw [hr]
      have e1 : (x < y) = False := eq_false h1
      have e2 : (x > y) = True := eq_true h2
      have e3 : (y < x) = True := eq_true h2
      clear h1 h2 hr
      go_enter Try.func46, Try.ntmps46
      go_wp2_with fail
      refine hx.mono ?_
      rintro e w' ⟨rfl, rfl⟩
      go_wp2_with fail
      refine hy.mono ?_
      rintro e w' ⟨rfl, rfl⟩
      go_wp2
      go_ret
      exact ⟨rfl, rfl⟩
    · have hr : Lib.compareInt x y = 0 := by simp [Lib.compareInt, h1, h2]
      rw [hr]
      have e1 : (x < y) = False := eq_false h1
      have e2 : (x > y) = False := eq_false h2
      have e3 : (y < x) = False := eq_false h2
      clear h1 h2 hr
      go_enter Try.func46, Try.ntmps46
      go_wp2_with fail
      refine hx.mono ?_
      rintro e w' ⟨rfl, rfl⟩
      go_wp2_with fail
      refine hy.mono ?_
      rintro e w' ⟨rfl, rfl⟩
      go_wp2
      go_ret
      exact ⟨rfl, rfl⟩
set_option maxRecDepth 100000 in
theorem less_is (a b na nb ca cb : Nat) (x y : Int) (hna : 0 < na) (hnb : 0 < nb) (w : World) (h1 : w.cell? ⟨a, 0, none⟩ = some (.int .i64 x)) (h2 : w.cell? ⟨b, 0, none⟩ = some (.int .i64 y)) :
    Calls Try.prog 45 #[.slice (some ⟨a, 0, none⟩) na ca, .slice (some ⟨b, 0, none⟩) nb cb] w fun e w' => e = .returned (.int .i64 (Lib.compareInt x y)) ∧ ∃ q, w' = w.drewN q := by
  have hc : ∀ W, Calls Try.prog 46 #[.int .i64 x, .int .i64 y] W fun e w' => e = .returned (.int .i64 (Lib.compareInt x y)) ∧ w' = W := compare_is x y
  have g1 : (0 : Int) < (na : Int) := by omega
  have g2 : (0 : Int) < (nb : Int) := by omega
  generalize Lib.compareInt x y = r at *
  go_enter Try.func45, Try.ntmps45
  go_wp2_with fail
  go_quiet ((go_at_call 46; exact Calls.quiet_of_same (hc _)))
  go_wp2
  go_ret
  exact ⟨rfl, _, rfl⟩
end Go.Proofs.Ytcebidhfgdchlaa
