/-
  Contracts of Sets and Jumps of package inst (layer 2), by walks over the translation.
-/
import Derived.Test.YtnlkeghgmmoioaaDoorHold
namespace Go.Proofs.YtnlkeghgmmoioaaDoor
open Go.ChangeShapes Go.WideShapes Go.ChangeAt Go.RowKit


theorem ret_pair {a b : Int} {x y : Bool} (h : a = b) (h' : x = y) : Ending.returned (.tuple #[.int .i64 a, .bool x]) = .returned (.tuple #[.int .i64 b, .bool y]) := by rw [h, h']

def setA (o : Int) : Bool := decide (o = 1 ∨ o = 2 ∨ o = 3 ∨ o = 4 ∨ o = 5 ∨ o = 11 ∨ o = 13 ∨ o = 14)
def setsV (o a b c i : Int) : Int := if rightB o a b c i = true then (if setA o = true then a else if o = 9 then 15 else 0) else 0
def setsB (o a b c i : Int) : Bool := rightB o a b c i && (setA o || decide (o = 9))
def jmpB (o a b c i : Int) : Bool := rightB o a b c i && decide (o = 7 ∨ o = 8 ∨ o = 9)
def jmpV (o a b c i : Int) : Int := if jmpB o a b c i = true then i else 0

theorem right_op {o a b c i : Int} (h : rightB o a b c i = true) : 0 ≤ o ∧ o ≤ 14 := by
  unfold rightB fK at h; simp at h; exact h.1
theorem fI_two (o : Int) : (fI o = 2) ↔ (o = 7 ∨ o = 8 ∨ o = 9) := by
  unfold fI; (repeat' split) <;> omega

theorem sets_no (o a b c i : Int) (h : rightB o a b c i = false) (w : World) :
    Calls Tryd.prog 12 #[.agg #[.int .i64 o, .int .i64 a, .int .i64 b, .int .i64 c, .int .i64 i]] w fun e w' => e = .returned (.tuple #[.int .i64 0, .bool false]) ∧ Below w.heap.size w w' := by
    go_enter Tryd.func12, Tryd.ntmps12
    go_wp2_with fail
    refine (right_any _ _ _ _ _ _).mono ?_; rintro e w1 ⟨rfl, hb⟩
    obtain ⟨hc, hf⟩ := bcell hb
    obtain ⟨hB, hz⟩ := bel_box hb
    go_wp2_with fail
    go_ret2
    exact ⟨rfl, hB⟩
theorem sets_0 (a b c i : Int) (h : rightB 0 a b c i = true) (w : World) :
    Calls Tryd.prog 12 #[.agg #[.int .i64 0, .int .i64 a, .int .i64 b, .int .i64 c, .int .i64 i]] w fun e w' => e = .returned (.tuple #[.int .i64 0, .bool false]) ∧ Below w.heap.size w w' := by
    go_enter Tryd.func12, Tryd.ntmps12
    go_wp2_with fail
    refine (right_any _ _ _ _ _ _).mono ?_; rintro e w1 ⟨rfl, hb⟩
    obtain ⟨hc, hf⟩ := bcell hb
    obtain ⟨hB, hz⟩ := bel_box hb
    go_wp2_with fail
    go_ret2
    exact ⟨rfl, hB⟩
theorem sets_1 (a b c i : Int) (h : rightB 1 a b c i = true) (w : World) :
    Calls Tryd.prog 12 #[.agg #[.int .i64 1, .int .i64 a, .int .i64 b, .int .i64 c, .int .i64 i]] w fun e w' => e = .returned (.tuple #[.int .i64 a, .bool true]) ∧ Below w.heap.size w w' := by
    go_enter Tryd.func12, Tryd.ntmps12
    go_wp2_with fail
    refine (right_any _ _ _ _ _ _).mono ?_; rintro e w1 ⟨rfl, hb⟩
    obtain ⟨hc, hf⟩ := bcell hb
    obtain ⟨hB, hz⟩ := bel_box hb
    go_wp2_with fail
    go_ret2
    exact ⟨rfl, hB⟩
theorem sets_2 (a b c i : Int) (h : rightB 2 a b c i = true) (w : World) :
    Calls Tryd.prog 12 #[.agg #[.int .i64 2, .int .i64 a, .int .i64 b, .int .i64 c, .int .i64 i]] w fun e w' => e = .returned (.tuple #[.int .i64 a, .bool true]) ∧ Below w.heap.size w w' := by
    go_enter Tryd.func12, Tryd.ntmps12
    go_wp2_with fail
    refine (right_any _ _ _ _ _ _).mono ?_; rintro e w1 ⟨rfl, hb⟩
    obtain ⟨hc, hf⟩ := bcell hb
    obtain ⟨hB, hz⟩ := bel_box hb
    go_wp2_with fail
    go_ret2
    exact ⟨rfl, hB⟩
theorem sets_3 (a b c i : Int) (h : rightB 3 a b c i = true) (w : World) :
    Calls Tryd.prog 12 #[.agg #[.int .i64 3, .int .i64 a, .int .i64 b, .int .i64 c, .int .i64 i]] w fun e w' => e = .returned (.tuple #[.int .i64 a, .bool true]) ∧ Below w.heap.size w w' := by
    go_enter Tryd.func12, Tryd.ntmps12
    go_wp2_with fail
    refine (right_any _ _ _ _ _ _).mono ?_; rintro e w1 ⟨rfl, hb⟩
    obtain ⟨hc, hf⟩ := bcell hb
    obtain ⟨hB, hz⟩ := bel_box hb
    go_wp2_with fail
    go_ret2
    exact ⟨rfl, hB⟩
theorem sets_4 (a b c i : Int) (h : rightB 4 a b c i = true) (w : World) :
    Calls Tryd.prog 12 #[.agg #[.int .i64 4, .int .i64 a, .int .i64 b, .int .i64 c, .int .i64 i]] w fun e w' => e = .returned (.tuple #[.int .i64 a, .bool true]) ∧ Below w.heap.size w w' := by
    go_enter Tryd.func12, Tryd.ntmps12
    go_wp2_with fail
    refine (right_any _ _ _ _ _ _).mono ?_; rintro e w1 ⟨rfl, hb⟩
    obtain ⟨hc, hf⟩ := bcell hb
    obtain ⟨hB, hz⟩ := bel_box hb
    go_wp2_with fail
    go_ret2
    exact ⟨rfl, hB⟩
theorem sets_5 (a b c i : Int) (h : rightB 5 a b c i = true) (w : World) :
    Calls Tryd.prog 12 #[.agg #[.int .i64 5, .int .i64 a, .int .i64 b, .int .i64 c, .int .i64 i]] w fun e w' => e = .returned (.tuple #[.int .i64 a, .bool true]) ∧ Below w.heap.size w w' := by
    go_enter Tryd.func12, Tryd.ntmps12
    go_wp2_with fail
    refine (right_any _ _ _ _ _ _).mono ?_; rintro e w1 ⟨rfl, hb⟩
    obtain ⟨hc, hf⟩ := bcell hb
    obtain ⟨hB, hz⟩ := bel_box hb
    go_wp2_with fail
    go_ret2
    exact ⟨rfl, hB⟩
theorem sets_6 (a b c i : Int) (h : rightB 6 a b c i = true) (w : World) :
    Calls Tryd.prog 12 #[.agg #[.int .i64 6, .int .i64 a, .int .i64 b, .int .i64 c, .int .i64 i]] w fun e w' => e = .returned (.tuple #[.int .i64 0, .bool false]) ∧ Below w.heap.size w w' := by
    go_enter Tryd.func12, Tryd.ntmps12
    go_wp2_with fail
    refine (right_any _ _ _ _ _ _).mono ?_; rintro e w1 ⟨rfl, hb⟩
    obtain ⟨hc, hf⟩ := bcell hb
    obtain ⟨hB, hz⟩ := bel_box hb
    go_wp2_with fail
    go_ret2
    exact ⟨rfl, hB⟩
theorem sets_7 (a b c i : Int) (h : rightB 7 a b c i = true) (w : World) :
    Calls Tryd.prog 12 #[.agg #[.int .i64 7, .int .i64 a, .int .i64 b, .int .i64 c, .int .i64 i]] w fun e w' => e = .returned (.tuple #[.int .i64 0, .bool false]) ∧ Below w.heap.size w w' := by
    go_enter Tryd.func12, Tryd.ntmps12
    go_wp2_with fail
    refine (right_any _ _ _ _ _ _).mono ?_; rintro e w1 ⟨rfl, hb⟩
    obtain ⟨hc, hf⟩ := bcell hb
    obtain ⟨hB, hz⟩ := bel_box hb
    go_wp2_with fail
    go_ret2
    exact ⟨rfl, hB⟩
theorem sets_8 (a b c i : Int) (h : rightB 8 a b c i = true) (w : World) :
    Calls Tryd.prog 12 #[.agg #[.int .i64 8, .int .i64 a, .int .i64 b, .int .i64 c, .int .i64 i]] w fun e w' => e = .returned (.tuple #[.int .i64 0, .bool false]) ∧ Below w.heap.size w w' := by
    go_enter Tryd.func12, Tryd.ntmps12
    go_wp2_with fail
    refine (right_any _ _ _ _ _ _).mono ?_; rintro e w1 ⟨rfl, hb⟩
    obtain ⟨hc, hf⟩ := bcell hb
    obtain ⟨hB, hz⟩ := bel_box hb
    go_wp2_with fail
    go_ret2
    exact ⟨rfl, hB⟩
theorem sets_9 (a b c i : Int) (h : rightB 9 a b c i = true) (w : World) :
    Calls Tryd.prog 12 #[.agg #[.int .i64 9, .int .i64 a, .int .i64 b, .int .i64 c, .int .i64 i]] w fun e w' => e = .returned (.tuple #[.int .i64 15, .bool true]) ∧ Below w.heap.size w w' := by
    go_enter Tryd.func12, Tryd.ntmps12
    go_wp2_with fail
    refine (right_any _ _ _ _ _ _).mono ?_; rintro e w1 ⟨rfl, hb⟩
    obtain ⟨hc, hf⟩ := bcell hb
    obtain ⟨hB, hz⟩ := bel_box hb
    go_wp2_with fail
    go_ret2
    exact ⟨rfl, hB⟩
theorem sets_10 (a b c i : Int) (h : rightB 10 a b c i = true) (w : World) :
    Calls Tryd.prog 12 #[.agg #[.int .i64 10, .int .i64 a, .int .i64 b, .int .i64 c, .int .i64 i]] w fun e w' => e = .returned (.tuple #[.int .i64 0, .bool false]) ∧ Below w.heap.size w w' := by
    go_enter Tryd.func12, Tryd.ntmps12
    go_wp2_with fail
    refine (right_any _ _ _ _ _ _).mono ?_; rintro e w1 ⟨rfl, hb⟩
    obtain ⟨hc, hf⟩ := bcell hb
    obtain ⟨hB, hz⟩ := bel_box hb
    go_wp2_with fail
    go_ret2
    exact ⟨rfl, hB⟩
theorem sets_11 (a b c i : Int) (h : rightB 11 a b c i = true) (w : World) :
    Calls Tryd.prog 12 #[.agg #[.int .i64 11, .int .i64 a, .int .i64 b, .int .i64 c, .int .i64 i]] w fun e w' => e = .returned (.tuple #[.int .i64 a, .bool true]) ∧ Below w.heap.size w w' := by
    go_enter Tryd.func12, Tryd.ntmps12
    go_wp2_with fail
    refine (right_any _ _ _ _ _ _).mono ?_; rintro e w1 ⟨rfl, hb⟩
    obtain ⟨hc, hf⟩ := bcell hb
    obtain ⟨hB, hz⟩ := bel_box hb
    go_wp2_with fail
    go_ret2
    exact ⟨rfl, hB⟩
theorem sets_12 (a b c i : Int) (h : rightB 12 a b c i = true) (w : World) :
    Calls Tryd.prog 12 #[.agg #[.int .i64 12, .int .i64 a, .int .i64 b, .int .i64 c, .int .i64 i]] w fun e w' => e = .returned (.tuple #[.int .i64 0, .bool false]) ∧ Below w.heap.size w w' := by
    go_enter Tryd.func12, Tryd.ntmps12
    go_wp2_with fail
    refine (right_any _ _ _ _ _ _).mono ?_; rintro e w1 ⟨rfl, hb⟩
    obtain ⟨hc, hf⟩ := bcell hb
    obtain ⟨hB, hz⟩ := bel_box hb
    go_wp2_with fail
    go_ret2
    exact ⟨rfl, hB⟩
theorem sets_13 (a b c i : Int) (h : rightB 13 a b c i = true) (w : World) :
    Calls Tryd.prog 12 #[.agg #[.int .i64 13, .int .i64 a, .int .i64 b, .int .i64 c, .int .i64 i]] w fun e w' => e = .returned (.tuple #[.int .i64 a, .bool true]) ∧ Below w.heap.size w w' := by
    go_enter Tryd.func12, Tryd.ntmps12
    go_wp2_with fail
    refine (right_any _ _ _ _ _ _).mono ?_; rintro e w1 ⟨rfl, hb⟩
    obtain ⟨hc, hf⟩ := bcell hb
    obtain ⟨hB, hz⟩ := bel_box hb
    go_wp2_with fail
    go_ret2
    exact ⟨rfl, hB⟩
theorem sets_14 (a b c i : Int) (h : rightB 14 a b c i = true) (w : World) :
    Calls Tryd.prog 12 #[.agg #[.int .i64 14, .int .i64 a, .int .i64 b, .int .i64 c, .int .i64 i]] w fun e w' => e = .returned (.tuple #[.int .i64 a, .bool true]) ∧ Below w.heap.size w w' := by
    go_enter Tryd.func12, Tryd.ntmps12
    go_wp2_with fail
    refine (right_any _ _ _ _ _ _).mono ?_; rintro e w1 ⟨rfl, hb⟩
    obtain ⟨hc, hf⟩ := bcell hb
    obtain ⟨hB, hz⟩ := bel_box hb
    go_wp2_with fail
    go_ret2
    exact ⟨rfl, hB⟩
theorem sets_any (o a b c i : Int) (w : World) :
    Calls Tryd.prog 12 #[.agg #[.int .i64 o, .int .i64 a, .int .i64 b, .int .i64 c, .int .i64 i]] w fun e w' => e = .returned (.tuple #[.int .i64 (setsV o a b c i), .bool (setsB o a b c i)]) ∧ Below w.heap.size w w' := by
  cases h : rightB o a b c i
  · rw [show setsV o a b c i = 0 by unfold setsV; rw [h]; rfl, show setsB o a b c i = false by unfold setsB; rw [h]; rfl]
    exact sets_no o a b c i h w
  · rcases op_cases (right_op h) with rfl | rfl | rfl | rfl | rfl | rfl | rfl | rfl | rfl | rfl | rfl | rfl | rfl | rfl | rfl
    · rw [show setsV 0 a b c i = 0 by unfold setsV; rw [h]; rfl, show setsB 0 a b c i = false by unfold setsB; rw [h]; rfl]
      exact sets_0 a b c i h w
    · rw [show setsV 1 a b c i = a by unfold setsV; rw [h]; rfl, show setsB 1 a b c i = true by unfold setsB; rw [h]; rfl]
      exact sets_1 a b c i h w
    · rw [show setsV 2 a b c i = a by unfold setsV; rw [h]; rfl, show setsB 2 a b c i = true by unfold setsB; rw [h]; rfl]
      exact sets_2 a b c i h w
    · rw [show setsV 3 a b c i = a by unfold setsV; rw [h]; rfl, show setsB 3 a b c i = true by unfold setsB; rw [h]; rfl]
      exact sets_3 a b c i h w
    · rw [show setsV 4 a b c i = a by unfold setsV; rw [h]; rfl, show setsB 4 a b c i = true by unfold setsB; rw [h]; rfl]
      exact sets_4 a b c i h w
    · rw [show setsV 5 a b c i = a by unfold setsV; rw [h]; rfl, show setsB 5 a b c i = true by unfold setsB; rw [h]; rfl]
      exact sets_5 a b c i h w
    · rw [show setsV 6 a b c i = 0 by unfold setsV; rw [h]; rfl, show setsB 6 a b c i = false by unfold setsB; rw [h]; rfl]
      exact sets_6 a b c i h w
    · rw [show setsV 7 a b c i = 0 by unfold setsV; rw [h]; rfl, show setsB 7 a b c i = false by unfold setsB; rw [h]; rfl]
      exact sets_7 a b c i h w
    · rw [show setsV 8 a b c i = 0 by unfold setsV; rw [h]; rfl, show setsB 8 a b c i = false by unfold setsB; rw [h]; rfl]
      exact sets_8 a b c i h w
    · rw [show setsV 9 a b c i = 15 by unfold setsV; rw [h]; rfl, show setsB 9 a b c i = true by unfold setsB; rw [h]; rfl]
      exact sets_9 a b c i h w
    · rw [show setsV 10 a b c i = 0 by unfold setsV; rw [h]; rfl, show setsB 10 a b c i = false by unfold setsB; rw [h]; rfl]
      exact sets_10 a b c i h w
    · rw [show setsV 11 a b c i = a by unfold setsV; rw [h]; rfl, show setsB 11 a b c i = true by unfold setsB; rw [h]; rfl]
      exact sets_11 a b c i h w
    · rw [show setsV 12 a b c i = 0 by unfold setsV; rw [h]; rfl, show setsB 12 a b c i = false by unfold setsB; rw [h]; rfl]
      exact sets_12 a b c i h w
    · rw [show setsV 13 a b c i = a by unfold setsV; rw [h]; rfl, show setsB 13 a b c i = true by unfold setsB; rw [h]; rfl]
      exact sets_13 a b c i h w
    · rw [show setsV 14 a b c i = a by unfold setsV; rw [h]; rfl, show setsB 14 a b c i = true by unfold setsB; rw [h]; rfl]
      exact sets_14 a b c i h w

theorem jumps_any (o a b c i : Int) (w : World) :
    Calls Tryd.prog 14 #[.agg #[.int .i64 o, .int .i64 a, .int .i64 b, .int .i64 c, .int .i64 i]] w fun e w' => e = .returned (.tuple #[.int .i64 (jmpV o a b c i), .bool (jmpB o a b c i)]) ∧ Below w.heap.size w w' := by
  cases hk : fK o
  · have H : jmpB o a b c i = false := by unfold jmpB rightB; rw [hk]; rfl
    have H' : jmpV o a b c i = 0 := by unfold jmpV; rw [H]; rfl
    rw [H, H']; clear H H'
    go_enter Tryd.func14, Tryd.ntmps14
    go_wp2_with fail
    refine (fieldsOf_any _ _).mono ?_; rintro e w1 ⟨rfl, hb⟩
    obtain ⟨hc, hf⟩ := bcell hb
    obtain ⟨hB, hz⟩ := bel_box hb
    go_wp2_with fail
    go_ret2
    exact ⟨rfl, hB.alloc hB.size _⟩
  cases h2 : (fI o == 2)
  · have H : jmpB o a b c i = false := by
      have := fI_two o; unfold jmpB; simp at h2; simp [h2] at this; simp [this]
    have H' : jmpV o a b c i = 0 := by unfold jmpV; rw [H]; rfl
    rw [H, H']; clear H H'
    go_enter Tryd.func14, Tryd.ntmps14
    go_wp2_with fail
    refine (fieldsOf_any _ _).mono ?_; rintro e w1 ⟨rfl, hb⟩
    obtain ⟨hc, hf⟩ := bcell hb
    obtain ⟨hB, hz⟩ := bel_box hb
    go_wp2_with fail
    go_ret2
    exact ⟨rfl, hB.alloc hB.size _⟩
  cases hh : holdB o a b c i
  · have H : jmpB o a b c i = false := by unfold jmpB rightB; rw [hh]; simp
    have H' : jmpV o a b c i = 0 := by unfold jmpV; rw [H]; rfl
    rw [H, H']; clear H H'
    go_enter Tryd.func14, Tryd.ntmps14
    go_wp2_with fail
    refine (fieldsOf_any _ _).mono ?_; rintro e w1 ⟨rfl, hb⟩
    obtain ⟨hc, hf⟩ := bcell hb
    obtain ⟨hB, hz⟩ := bel_box hb
    go_wp2_with fail
    refine (hold_of _ _ _ _ _ _).mono ?_; rintro e w2 ⟨rfl, hb2⟩
    obtain ⟨hB2, hz2⟩ := bel_next hB hb2
    go_wp2_with fail
    go_ret2
    exact ⟨rfl, hB2⟩
  · have H : jmpB o a b c i = true := by
      have := (fI_two o).1 (by simpa using h2); unfold jmpB rightB; rw [hh, hk]; simp [this]
    have H' : jmpV o a b c i = i := by unfold jmpV; rw [H]; rfl
    rw [H, H']; clear H H'
    go_enter Tryd.func14, Tryd.ntmps14
    go_wp2_with fail
    refine (fieldsOf_any _ _).mono ?_; rintro e w1 ⟨rfl, hb⟩
    obtain ⟨hc, hf⟩ := bcell hb
    obtain ⟨hB, hz⟩ := bel_box hb
    go_wp2_with fail
    refine (hold_of _ _ _ _ _ _).mono ?_; rintro e w2 ⟨rfl, hb2⟩
    obtain ⟨hB2, hz2⟩ := bel_next hB hb2
    obtain ⟨hc2, hf2⟩ := bcell hb2
    go_wp2_with fail
    go_ret2
    exact ⟨rfl, hB2⟩

end Go.Proofs.YtnlkeghgmmoioaaDoor
