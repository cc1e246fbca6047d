/-
  Contract of the document's own Jumps (layer 2), by walks over the translation.
-/
import Derived.Test.YtbfmadcppnfgpaaDoorRefC
namespace Go.Proofs.YtbfmadcppnfgpaaDoor
open Go.ChangeShapes Go.WideShapes Go.ChangeAt Go.RowKit



theorem refjumps_no (o a b c i : Int) (h : rightB o a b c i = false) (w : World) :
    Calls Tryd.prog 43 #[.agg #[.int .i64 o, .int .i64 a, .int .i64 b, .int .i64 c, .int .i64 i]] w fun e w' => e = .returned (.tuple #[.int .i64 0, .bool false]) ∧ Below w.heap.size w w' := by
    go_enter Tryd.func43, Tryd.ntmps43
    go_wp2_with fail
    refine (refright_any _ _ _ _ _ _).mono ?_; rintro e w1 ⟨rfl, hb⟩
    obtain ⟨hc, hf⟩ := bcell hb
    obtain ⟨hB, hz⟩ := bel_box hb
    go_wp2_with fail
    go_ret2
    exact ⟨rfl, hB⟩
theorem refjumps_0 (a b c i : Int) (h : rightB 0 a b c i = true) (w : World) :
    Calls Tryd.prog 43 #[.agg #[.int .i64 0, .int .i64 a, .int .i64 b, .int .i64 c, .int .i64 i]] w fun e w' => e = .returned (.tuple #[.int .i64 0, .bool false]) ∧ Below w.heap.size w w' := by
    go_enter Tryd.func43, Tryd.ntmps43
    go_wp2_with fail
    refine (refright_any _ _ _ _ _ _).mono ?_; rintro e w1 ⟨rfl, hb⟩
    obtain ⟨hc, hf⟩ := bcell hb
    obtain ⟨hB, hz⟩ := bel_box hb
    go_wp2_with fail
    go_ret2
    exact ⟨rfl, hB⟩
theorem refjumps_1 (a b c i : Int) (h : rightB 1 a b c i = true) (w : World) :
    Calls Tryd.prog 43 #[.agg #[.int .i64 1, .int .i64 a, .int .i64 b, .int .i64 c, .int .i64 i]] w fun e w' => e = .returned (.tuple #[.int .i64 0, .bool false]) ∧ Below w.heap.size w w' := by
    go_enter Tryd.func43, Tryd.ntmps43
    go_wp2_with fail
    refine (refright_any _ _ _ _ _ _).mono ?_; rintro e w1 ⟨rfl, hb⟩
    obtain ⟨hc, hf⟩ := bcell hb
    obtain ⟨hB, hz⟩ := bel_box hb
    go_wp2_with fail
    go_ret2
    exact ⟨rfl, hB⟩
theorem refjumps_2 (a b c i : Int) (h : rightB 2 a b c i = true) (w : World) :
    Calls Tryd.prog 43 #[.agg #[.int .i64 2, .int .i64 a, .int .i64 b, .int .i64 c, .int .i64 i]] w fun e w' => e = .returned (.tuple #[.int .i64 0, .bool false]) ∧ Below w.heap.size w w' := by
    go_enter Tryd.func43, Tryd.ntmps43
    go_wp2_with fail
    refine (refright_any _ _ _ _ _ _).mono ?_; rintro e w1 ⟨rfl, hb⟩
    obtain ⟨hc, hf⟩ := bcell hb
    obtain ⟨hB, hz⟩ := bel_box hb
    go_wp2_with fail
    go_ret2
    exact ⟨rfl, hB⟩
theorem refjumps_3 (a b c i : Int) (h : rightB 3 a b c i = true) (w : World) :
    Calls Tryd.prog 43 #[.agg #[.int .i64 3, .int .i64 a, .int .i64 b, .int .i64 c, .int .i64 i]] w fun e w' => e = .returned (.tuple #[.int .i64 0, .bool false]) ∧ Below w.heap.size w w' := by
    go_enter Tryd.func43, Tryd.ntmps43
    go_wp2_with fail
    refine (refright_any _ _ _ _ _ _).mono ?_; rintro e w1 ⟨rfl, hb⟩
    obtain ⟨hc, hf⟩ := bcell hb
    obtain ⟨hB, hz⟩ := bel_box hb
    go_wp2_with fail
    go_ret2
    exact ⟨rfl, hB⟩
theorem refjumps_4 (a b c i : Int) (h : rightB 4 a b c i = true) (w : World) :
    Calls Tryd.prog 43 #[.agg #[.int .i64 4, .int .i64 a, .int .i64 b, .int .i64 c, .int .i64 i]] w fun e w' => e = .returned (.tuple #[.int .i64 0, .bool false]) ∧ Below w.heap.size w w' := by
    go_enter Tryd.func43, Tryd.ntmps43
    go_wp2_with fail
    refine (refright_any _ _ _ _ _ _).mono ?_; rintro e w1 ⟨rfl, hb⟩
    obtain ⟨hc, hf⟩ := bcell hb
    obtain ⟨hB, hz⟩ := bel_box hb
    go_wp2_with fail
    go_ret2
    exact ⟨rfl, hB⟩
theorem refjumps_5 (a b c i : Int) (h : rightB 5 a b c i = true) (w : World) :
    Calls Tryd.prog 43 #[.agg #[.int .i64 5, .int .i64 a, .int .i64 b, .int .i64 c, .int .i64 i]] w fun e w' => e = .returned (.tuple #[.int .i64 0, .bool false]) ∧ Below w.heap.size w w' := by
    go_enter Tryd.func43, Tryd.ntmps43
    go_wp2_with fail
    refine (refright_any _ _ _ _ _ _).mono ?_; rintro e w1 ⟨rfl, hb⟩
    obtain ⟨hc, hf⟩ := bcell hb
    obtain ⟨hB, hz⟩ := bel_box hb
    go_wp2_with fail
    go_ret2
    exact ⟨rfl, hB⟩
theorem refjumps_6 (a b c i : Int) (h : rightB 6 a b c i = true) (w : World) :
    Calls Tryd.prog 43 #[.agg #[.int .i64 6, .int .i64 a, .int .i64 b, .int .i64 c, .int .i64 i]] w fun e w' => e = .returned (.tuple #[.int .i64 0, .bool false]) ∧ Below w.heap.size w w' := by
    go_enter Tryd.func43, Tryd.ntmps43
    go_wp2_with fail
    refine (refright_any _ _ _ _ _ _).mono ?_; rintro e w1 ⟨rfl, hb⟩
    obtain ⟨hc, hf⟩ := bcell hb
    obtain ⟨hB, hz⟩ := bel_box hb
    go_wp2_with fail
    go_ret2
    exact ⟨rfl, hB⟩
theorem refjumps_7 (a b c i : Int) (h : rightB 7 a b c i = true) (w : World) :
    Calls Tryd.prog 43 #[.agg #[.int .i64 7, .int .i64 a, .int .i64 b, .int .i64 c, .int .i64 i]] w fun e w' => e = .returned (.tuple #[.int .i64 i, .bool true]) ∧ Below w.heap.size w w' := by
    go_enter Tryd.func43, Tryd.ntmps43
    go_wp2_with fail
    refine (refright_any _ _ _ _ _ _).mono ?_; rintro e w1 ⟨rfl, hb⟩
    obtain ⟨hc, hf⟩ := bcell hb
    obtain ⟨hB, hz⟩ := bel_box hb
    go_wp2_with fail
    go_ret2
    exact ⟨rfl, hB⟩
theorem refjumps_8 (a b c i : Int) (h : rightB 8 a b c i = true) (w : World) :
    Calls Tryd.prog 43 #[.agg #[.int .i64 8, .int .i64 a, .int .i64 b, .int .i64 c, .int .i64 i]] w fun e w' => e = .returned (.tuple #[.int .i64 i, .bool true]) ∧ Below w.heap.size w w' := by
    go_enter Tryd.func43, Tryd.ntmps43
    go_wp2_with fail
    refine (refright_any _ _ _ _ _ _).mono ?_; rintro e w1 ⟨rfl, hb⟩
    obtain ⟨hc, hf⟩ := bcell hb
    obtain ⟨hB, hz⟩ := bel_box hb
    go_wp2_with fail
    go_ret2
    exact ⟨rfl, hB⟩
theorem refjumps_9 (a b c i : Int) (h : rightB 9 a b c i = true) (w : World) :
    Calls Tryd.prog 43 #[.agg #[.int .i64 9, .int .i64 a, .int .i64 b, .int .i64 c, .int .i64 i]] w fun e w' => e = .returned (.tuple #[.int .i64 i, .bool true]) ∧ Below w.heap.size w w' := by
    go_enter Tryd.func43, Tryd.ntmps43
    go_wp2_with fail
    refine (refright_any _ _ _ _ _ _).mono ?_; rintro e w1 ⟨rfl, hb⟩
    obtain ⟨hc, hf⟩ := bcell hb
    obtain ⟨hB, hz⟩ := bel_box hb
    go_wp2_with fail
    go_ret2
    exact ⟨rfl, hB⟩
theorem refjumps_10 (a b c i : Int) (h : rightB 10 a b c i = true) (w : World) :
    Calls Tryd.prog 43 #[.agg #[.int .i64 10, .int .i64 a, .int .i64 b, .int .i64 c, .int .i64 i]] w fun e w' => e = .returned (.tuple #[.int .i64 0, .bool false]) ∧ Below w.heap.size w w' := by
    go_enter Tryd.func43, Tryd.ntmps43
    go_wp2_with fail
    refine (refright_any _ _ _ _ _ _).mono ?_; rintro e w1 ⟨rfl, hb⟩
    obtain ⟨hc, hf⟩ := bcell hb
    obtain ⟨hB, hz⟩ := bel_box hb
    go_wp2_with fail
    go_ret2
    exact ⟨rfl, hB⟩
theorem refjumps_11 (a b c i : Int) (h : rightB 11 a b c i = true) (w : World) :
    Calls Tryd.prog 43 #[.agg #[.int .i64 11, .int .i64 a, .int .i64 b, .int .i64 c, .int .i64 i]] w fun e w' => e = .returned (.tuple #[.int .i64 0, .bool false]) ∧ Below w.heap.size w w' := by
    go_enter Tryd.func43, Tryd.ntmps43
    go_wp2_with fail
    refine (refright_any _ _ _ _ _ _).mono ?_; rintro e w1 ⟨rfl, hb⟩
    obtain ⟨hc, hf⟩ := bcell hb
    obtain ⟨hB, hz⟩ := bel_box hb
    go_wp2_with fail
    go_ret2
    exact ⟨rfl, hB⟩
theorem refjumps_12 (a b c i : Int) (h : rightB 12 a b c i = true) (w : World) :
    Calls Tryd.prog 43 #[.agg #[.int .i64 12, .int .i64 a, .int .i64 b, .int .i64 c, .int .i64 i]] w fun e w' => e = .returned (.tuple #[.int .i64 0, .bool false]) ∧ Below w.heap.size w w' := by
    go_enter Tryd.func43, Tryd.ntmps43
    go_wp2_with fail
    refine (refright_any _ _ _ _ _ _).mono ?_; rintro e w1 ⟨rfl, hb⟩
    obtain ⟨hc, hf⟩ := bcell hb
    obtain ⟨hB, hz⟩ := bel_box hb
    go_wp2_with fail
    go_ret2
    exact ⟨rfl, hB⟩
theorem refjumps_13 (a b c i : Int) (h : rightB 13 a b c i = true) (w : World) :
    Calls Tryd.prog 43 #[.agg #[.int .i64 13, .int .i64 a, .int .i64 b, .int .i64 c, .int .i64 i]] w fun e w' => e = .returned (.tuple #[.int .i64 0, .bool false]) ∧ Below w.heap.size w w' := by
    go_enter Tryd.func43, Tryd.ntmps43
    go_wp2_with fail
    refine (refright_any _ _ _ _ _ _).mono ?_; rintro e w1 ⟨rfl, hb⟩
    obtain ⟨hc, hf⟩ := bcell hb
    obtain ⟨hB, hz⟩ := bel_box hb
    go_wp2_with fail
    go_ret2
    exact ⟨rfl, hB⟩
theorem refjumps_14 (a b c i : Int) (h : rightB 14 a b c i = true) (w : World) :
    Calls Tryd.prog 43 #[.agg #[.int .i64 14, .int .i64 a, .int .i64 b, .int .i64 c, .int .i64 i]] w fun e w' => e = .returned (.tuple #[.int .i64 0, .bool false]) ∧ Below w.heap.size w w' := by
    go_enter Tryd.func43, Tryd.ntmps43
    go_wp2_with fail
    refine (refright_any _ _ _ _ _ _).mono ?_; rintro e w1 ⟨rfl, hb⟩
    obtain ⟨hc, hf⟩ := bcell hb
    obtain ⟨hB, hz⟩ := bel_box hb
    go_wp2_with fail
    go_ret2
    exact ⟨rfl, hB⟩
theorem refjumps_any (o a b c i : Int) (w : World) :
    Calls Tryd.prog 43 #[.agg #[.int .i64 o, .int .i64 a, .int .i64 b, .int .i64 c, .int .i64 i]] w fun e w' => e = .returned (.tuple #[.int .i64 (jmpV o a b c i), .bool (jmpB o a b c i)]) ∧ Below w.heap.size w w' := by
  cases h : rightB o a b c i
  · rw [show jmpV o a b c i = 0 by unfold jmpV jmpB; rw [h]; rfl, show jmpB o a b c i = false by unfold jmpB; rw [h]; rfl]
    exact refjumps_no o a b c i h w
  · rcases op_cases (right_op h) with rfl | rfl | rfl | rfl | rfl | rfl | rfl | rfl | rfl | rfl | rfl | rfl | rfl | rfl | rfl
    · rw [show jmpV 0 a b c i = 0 by unfold jmpV jmpB; rw [h]; rfl, show jmpB 0 a b c i = false by unfold jmpB; rw [h]; rfl]
      exact refjumps_0 a b c i h w
    · rw [show jmpV 1 a b c i = 0 by unfold jmpV jmpB; rw [h]; rfl, show jmpB 1 a b c i = false by unfold jmpB; rw [h]; rfl]
      exact refjumps_1 a b c i h w
    · rw [show jmpV 2 a b c i = 0 by unfold jmpV jmpB; rw [h]; rfl, show jmpB 2 a b c i = false by unfold jmpB; rw [h]; rfl]
      exact refjumps_2 a b c i h w
    · rw [show jmpV 3 a b c i = 0 by unfold jmpV jmpB; rw [h]; rfl, show jmpB 3 a b c i = false by unfold jmpB; rw [h]; rfl]
      exact refjumps_3 a b c i h w
    · rw [show jmpV 4 a b c i = 0 by unfold jmpV jmpB; rw [h]; rfl, show jmpB 4 a b c i = false by unfold jmpB; rw [h]; rfl]
      exact refjumps_4 a b c i h w
    · rw [show jmpV 5 a b c i = 0 by unfold jmpV jmpB; rw [h]; rfl, show jmpB 5 a b c i = false by unfold jmpB; rw [h]; rfl]
      exact refjumps_5 a b c i h w
    · rw [show jmpV 6 a b c i = 0 by unfold jmpV jmpB; rw [h]; rfl, show jmpB 6 a b c i = false by unfold jmpB; rw [h]; rfl]
      exact refjumps_6 a b c i h w
    · rw [show jmpV 7 a b c i = i by unfold jmpV jmpB; rw [h]; rfl, show jmpB 7 a b c i = true by unfold jmpB; rw [h]; rfl]
      exact refjumps_7 a b c i h w
    · rw [show jmpV 8 a b c i = i by unfold jmpV jmpB; rw [h]; rfl, show jmpB 8 a b c i = true by unfold jmpB; rw [h]; rfl]
      exact refjumps_8 a b c i h w
    · rw [show jmpV 9 a b c i = i by unfold jmpV jmpB; rw [h]; rfl, show jmpB 9 a b c i = true by unfold jmpB; rw [h]; rfl]
      exact refjumps_9 a b c i h w
    · rw [show jmpV 10 a b c i = 0 by unfold jmpV jmpB; rw [h]; rfl, show jmpB 10 a b c i = false by unfold jmpB; rw [h]; rfl]
      exact refjumps_10 a b c i h w
    · rw [show jmpV 11 a b c i = 0 by unfold jmpV jmpB; rw [h]; rfl, show jmpB 11 a b c i = false by unfold jmpB; rw [h]; rfl]
      exact refjumps_11 a b c i h w
    · rw [show jmpV 12 a b c i = 0 by unfold jmpV jmpB; rw [h]; rfl, show jmpB 12 a b c i = false by unfold jmpB; rw [h]; rfl]
      exact refjumps_12 a b c i h w
    · rw [show jmpV 13 a b c i = 0 by unfold jmpV jmpB; rw [h]; rfl, show jmpB 13 a b c i = false by unfold jmpB; rw [h]; rfl]
      exact refjumps_13 a b c i h w
    · rw [show jmpV 14 a b c i = 0 by unfold jmpV jmpB; rw [h]; rfl, show jmpB 14 a b c i = false by unfold jmpB; rw [h]; rfl]
      exact refjumps_14 a b c i h w


end Go.Proofs.YtbfmadcppnfgpaaDoor
