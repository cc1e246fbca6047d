/-
  Which lines are right (layer 5): the contract of asm's own right.
-/
import Derived.Test.YtbfmadcppnfgpaaGreatDoorEql
import Derived.Test.YtbfmadcppnfgpaaGreatDoorLines
import Derived.Lib.QuietBelow
namespace Go.Proofs.YtbfmadcppnfgpaaGreatDoor
open Go.ChangeShapes Go.WideShapes Go.ChangeAt Go.RowKit

theorem below_drewN {B : Nat} {a w : World} (h : Below B a w) (n : Nat) : Below B a (w.drewN n) := ⟨h.os, h.tape, h.output, h.size, h.block⟩

/-- A label alone. -/
def Ln.bare (x : Ln) : Bool := decide (0 < x.L ∧ x.o = 0 ∧ x.a = 0 ∧ x.b = 0 ∧ x.c = 0 ∧ x.i = 0 ∧ x.t = 0)
def Ln.right (x : Ln) : Bool := if x.L ≠ 0 then x.bare else if x.t = 0 then rightB x.o x.a x.b x.c x.i else jmpB x.o x.a x.b x.c x.i && decide (x.i = 0 ∧ 0 < x.t)

theorem label_any (n : Int) (w : World) : Calls Tryz.prog 14 #[.int .i64 n] w fun e w' => e = .returned (.agg #[.int .i64 n, .int .i64 0, .int .i64 0, .int .i64 0, .int .i64 0, .int .i64 0, .int .i64 0]) ∧ Below w.heap.size w w' := by
  go_enter Tryz.func14, Tryz.ntmps14
  go_wp2
  refine bodyPost_ret (v := .agg #[.int .i64 n, .int .i64 0, .int .i64 0, .int .i64 0, .int .i64 0, .int .i64 0, .int .i64 0]) (by simp [results, Tryz.results14, go_sem]) rfl ?_
  exact ⟨rfl, (Below.refl _ w).alloc (Nat.le_refl _) _⟩

theorem plain_any (o a b c i : Int) (w : World) : Calls Tryz.prog 13 #[.agg #[.int .i64 o, .int .i64 a, .int .i64 b, .int .i64 c, .int .i64 i]] w fun e w' => e = .returned (.agg #[.int .i64 0, .int .i64 o, .int .i64 a, .int .i64 b, .int .i64 c, .int .i64 i, .int .i64 0]) ∧ Below w.heap.size w w' := by
  go_enter Tryz.func13, Tryz.ntmps13
  go_wp2
  refine bodyPost_ret (v := .agg #[.int .i64 0, .int .i64 o, .int .i64 a, .int .i64 b, .int .i64 c, .int .i64 i, .int .i64 0]) (by simp [results, Tryz.results13, go_sem]) rfl ?_
  exact ⟨rfl, ((Below.refl _ w).alloc (Nat.le_refl _) _).alloc (by simp) _⟩

theorem jump_any (o a t : Int) (w : World) : Calls Tryz.prog 12 #[.int .i64 o, .int .i64 a, .int .i64 t] w fun e w' => e = .returned (.agg #[.int .i64 0, .int .i64 o, .int .i64 a, .int .i64 0, .int .i64 0, .int .i64 0, .int .i64 t]) ∧ Below w.heap.size w w' := by
  go_enter Tryz.func12, Tryz.ntmps12
  go_wp2
  refine bodyPost_ret (v := .agg #[.int .i64 0, .int .i64 o, .int .i64 a, .int .i64 0, .int .i64 0, .int .i64 0, .int .i64 t]) (by simp [results, Tryz.results12, go_sem]) rfl ?_
  exact ⟨rfl, (Below.refl _ w).alloc (Nat.le_refl _) _⟩

set_option maxRecDepth 100000 in
set_option maxHeartbeats 1000000 in
theorem rightL_any (x : Ln) (w : World) :
    Calls Tryz.prog 38 #[.agg #[.int .i64 x.L, .int .i64 x.o, .int .i64 x.a, .int .i64 x.b, .int .i64 x.c, .int .i64 x.i, .int .i64 x.t]] w fun e w' => e = .returned (.bool x.right) ∧ Below w.heap.size w w' := by
  by_cases hz : x.L = 0
  · by_cases ht : x.t = 0
    · have hr : x.right = rightB x.o x.a x.b x.c x.i := by simp [Ln.right, hz, ht]
      rw [hr]; clear hr
      go_enter Tryz.func38, Tryz.ntmps38
      go_wp2_with fail
      refine (right_any _ _ _ _ _ _).mono ?_; rintro e w1 ⟨rfl, hb⟩
      go_wp2_with fail
      go_ret
      exact ⟨rfl, (bel_box hb).1⟩
    · have hr : x.right = (jmpB x.o x.a x.b x.c x.i && decide (x.i = 0 ∧ 0 < x.t)) := by simp [Ln.right, hz, ht]
      rw [hr]; clear hr
      go_enter Tryz.func38, Tryz.ntmps38
      go_wp2_with fail
      refine (jumps_any _ _ _ _ _ _).mono ?_; rintro e w1 ⟨rfl, hb⟩
      obtain ⟨hc, hf⟩ := bcell hb
      obtain ⟨hB, hz⟩ := bel_box hb
      go_wp2_with fail
      all_goals go_ret
      all_goals exact ⟨ret_bool (by simp_all [jmpV]), hB⟩
  · have hr : x.right = x.bare := by simp [Ln.right, hz]
    rw [hr]; clear hr
    by_cases hp : 0 < x.L
    · by_cases ha : x.bare = true
      · have ha' := ha
        simp only [Ln.bare, decide_eq_true_eq] at ha'
        obtain ⟨_, z1, z2, z3, z4, z5, z6⟩ := ha'
        rw [ha]; clear ha
        have hx := eqlL_same x.L 0 0 0 0 0 0
        have hp' : decide (0 < x.L) = true := by simpa using hp
        rw [z1, z2, z3, z4, z5, z6]
        go_enter Tryz.func38, Tryz.ntmps38
        go_wp2_with fail
        generalize hW : w.alloc (.cells #[.int .i64 x.L, .int .i64 0, .int .i64 0, .int .i64 0, .int .i64 0, .int .i64 0, .int .i64 0] 38) = W1
        have hB1 : Below w.heap.size w W1 := by rw [← hW]; exact (Below.refl _ w).alloc (Nat.le_refl _) _
        have hat : AtLn W1 w.heap.size 0 ⟨x.L, 0, 0, 0, 0, 0, 0⟩ := BoxLn.at (by rw [← hW]; exact World.alloc_heap_new w _)
        clear hW
        have x0 := fun d os => cell_regrown (show W1.cell? ⟨w.heap.size, 0, none⟩ = some (.int .i64 x.L) from hat.c0) d os
        have x1 := fun d os => cell_regrown (show W1.cell? ⟨w.heap.size, 1, none⟩ = some (.int .i64 0) from hat.c1) d os
        have x2 := fun d os => cell_regrown (show W1.cell? ⟨w.heap.size, 2, none⟩ = some (.int .i64 0) from hat.c2) d os
        have x3 := fun d os => cell_regrown (show W1.cell? ⟨w.heap.size, 3, none⟩ = some (.int .i64 0) from hat.c3) d os
        have x4 := fun d os => cell_regrown (show W1.cell? ⟨w.heap.size, 4, none⟩ = some (.int .i64 0) from hat.c4) d os
        have x5 := fun d os => cell_regrown (show W1.cell? ⟨w.heap.size, 5, none⟩ = some (.int .i64 0) from hat.c5) d os
        have x6 := fun d os => cell_regrown (show W1.cell? ⟨w.heap.size, 6, none⟩ = some (.int .i64 0) from hat.c6) d os
        clear hat
        have CL : Hid (∀ d os, Calls Tryz.prog 14 #[.int .i64 x.L] (Sort.grow (redrawn W1 d) os) fun e w'' => e = .returned (.agg #[.int .i64 x.L, .int .i64 0, .int .i64 0, .int .i64 0, .int .i64 0, .int .i64 0, .int .i64 0]) ∧ ∃ p : Regrown, w'' = Sort.grow (redrawn W1 p.d) p.os) := fun d os => Calls.regrown_of (label_any x.L _)
        refine wp_region_quiet_below (by kernel_rfl) (by kernel_rfl) ?_
        repeat (go_big_quiet_step (first | (go_at_call 14; exact CL.out _ _)))
        refine wpQuiet_nil ?_
        intro w4 hw'
        have hb4 : Below W1.heap.size W1 w4 := by obtain ⟨⟨dq, osq⟩, hw''⟩ := hw'; rw [hw'']; exact below_regrown W1 dq osq
        obtain ⟨hB4, hz4⟩ := bel_on hB1 hb4
        clear hw' hb4
        go_wp2_with fail
        go_ret
        exact ⟨rfl, hB4⟩
      · have hr : x.bare = false := by simpa using ha
        have hx := eqlL_diff x.L x.o x.a x.b x.c x.i x.t x.L 0 0 0 0 0 0 (fun h => ha (by simp only [Ln.bare, decide_eq_true_eq]; exact ⟨hp, h.2⟩))
        rw [hr]; clear ha hr
        have hp' : decide (0 < x.L) = true := by simpa using hp
        go_enter Tryz.func38, Tryz.ntmps38
        go_wp2_with fail
        generalize hW : w.alloc (.cells #[.int .i64 x.L, .int .i64 x.o, .int .i64 x.a, .int .i64 x.b, .int .i64 x.c, .int .i64 x.i, .int .i64 x.t] 38) = W1
        have hB1 : Below w.heap.size w W1 := by rw [← hW]; exact (Below.refl _ w).alloc (Nat.le_refl _) _
        have hat : AtLn W1 w.heap.size 0 x := BoxLn.at (by rw [← hW]; exact World.alloc_heap_new w _)
        clear hW
        have x0 := fun d os => cell_regrown (show W1.cell? ⟨w.heap.size, 0, none⟩ = some (.int .i64 x.L) from hat.c0) d os
        have x1 := fun d os => cell_regrown (show W1.cell? ⟨w.heap.size, 1, none⟩ = some (.int .i64 x.o) from hat.c1) d os
        have x2 := fun d os => cell_regrown (show W1.cell? ⟨w.heap.size, 2, none⟩ = some (.int .i64 x.a) from hat.c2) d os
        have x3 := fun d os => cell_regrown (show W1.cell? ⟨w.heap.size, 3, none⟩ = some (.int .i64 x.b) from hat.c3) d os
        have x4 := fun d os => cell_regrown (show W1.cell? ⟨w.heap.size, 4, none⟩ = some (.int .i64 x.c) from hat.c4) d os
        have x5 := fun d os => cell_regrown (show W1.cell? ⟨w.heap.size, 5, none⟩ = some (.int .i64 x.i) from hat.c5) d os
        have x6 := fun d os => cell_regrown (show W1.cell? ⟨w.heap.size, 6, none⟩ = some (.int .i64 x.t) from hat.c6) d os
        clear hat
        have CL : Hid (∀ d os, Calls Tryz.prog 14 #[.int .i64 x.L] (Sort.grow (redrawn W1 d) os) fun e w'' => e = .returned (.agg #[.int .i64 x.L, .int .i64 0, .int .i64 0, .int .i64 0, .int .i64 0, .int .i64 0, .int .i64 0]) ∧ ∃ p : Regrown, w'' = Sort.grow (redrawn W1 p.d) p.os) := fun d os => Calls.regrown_of (label_any x.L _)
        refine wp_region_quiet_below (by kernel_rfl) (by kernel_rfl) ?_
        repeat (go_big_quiet_step (first | (go_at_call 14; exact CL.out _ _)))
        refine wpQuiet_nil ?_
        intro w4 hw'
        have hb4 : Below W1.heap.size W1 w4 := by obtain ⟨⟨dq, osq⟩, hw''⟩ := hw'; rw [hw'']; exact below_regrown W1 dq osq
        obtain ⟨hB4, hz4⟩ := bel_on hB1 hb4
        clear hw' hb4
        go_wp2_with fail
        go_ret
        exact ⟨rfl, hB4⟩
    · have hr : x.bare = false := by simp [Ln.bare]; omega
      rw [hr]; clear hr
      have hp' : decide (0 < x.L) = false := by simp; omega
      go_enter Tryz.func38, Tryz.ntmps38
      go_wp2_with fail
      go_quiet (fail)
      go_wp2
      go_ret
      exact ⟨rfl, below_drewN ((Below.refl _ _).alloc (Nat.le_refl _) _) nq⟩

end Go.Proofs.YtbfmadcppnfgpaaGreatDoor
