/-
  Contracts of the document's own Uses (layer 2), by walks over the translation.
-/
import Derived.Test.YtgfkbagkdhfnkaaDoorRefC
namespace Go.Proofs.YtgfkbagkdhfnkaaDoor
open Go.ChangeShapes Go.WideShapes Go.ChangeAt Go.RowKit

theorem refuses_no (o a b c i : Int) (h : rightB o a b c i = false) (w : World) :
    Calls Tryd.prog 22 #[.agg #[.int .i64 o, .int .i64 a, .int .i64 b, .int .i64 c, .int .i64 i]] w fun e w' => ∃ v, e = .returned v ∧ IsInts w' w.heap.size v [] ∧ Below w.heap.size w w' := by
    go_enter Tryd.func22, Tryd.ntmps22
    go_wp2_with fail
    refine (refright_any _ _ _ _ _ _).mono ?_; rintro e w1 ⟨rfl, hb⟩
    obtain ⟨hc, hf⟩ := bcell hb
    obtain ⟨hB, hz⟩ := bel_box hb
    go_wp2_with fail
    go_ret
    exact ⟨_, rfl, isInts_nil _ _, hB⟩
theorem refuses_0 (a b c i : Int) (h : rightB 0 a b c i = true) (w : World) :
    Calls Tryd.prog 22 #[.agg #[.int .i64 0, .int .i64 a, .int .i64 b, .int .i64 c, .int .i64 i]] w fun e w' => ∃ v, e = .returned v ∧ IsInts w' w.heap.size v [] ∧ Below w.heap.size w w' := by
    obtain ⟨_, ha, hb', hc', _⟩ := right_parts h
    obtain ⟨a0, a1⟩ := ha
    obtain ⟨b0, b1⟩ := hb'
    obtain ⟨c0, c1⟩ := hc'
    go_enter Tryd.func22, Tryd.ntmps22
    go_wp2_with fail
    refine (refright_any _ _ _ _ _ _).mono ?_; rintro e w1 ⟨rfl, hb⟩
    obtain ⟨hc, hf⟩ := bcell hb
    obtain ⟨hB, hz⟩ := bel_box hb
    go_wp2_with fail
    go_ret
    exact ⟨_, rfl, isInts_nil _ _, hB⟩
theorem refuses_1 (a b c i : Int) (h : rightB 1 a b c i = true) (w : World) :
    Calls Tryd.prog 22 #[.agg #[.int .i64 1, .int .i64 a, .int .i64 b, .int .i64 c, .int .i64 i]] w fun e w' => ∃ v, e = .returned v ∧ IsInts w' w.heap.size v [] ∧ Below w.heap.size w w' := by
    obtain ⟨_, ha, hb', hc', _⟩ := right_parts h
    obtain ⟨a0, a1⟩ := ha
    obtain ⟨b0, b1⟩ := hb'
    obtain ⟨c0, c1⟩ := hc'
    go_enter Tryd.func22, Tryd.ntmps22
    go_wp2_with fail
    refine (refright_any _ _ _ _ _ _).mono ?_; rintro e w1 ⟨rfl, hb⟩
    obtain ⟨hc, hf⟩ := bcell hb
    obtain ⟨hB, hz⟩ := bel_box hb
    go_wp2_with fail
    go_ret
    exact ⟨_, rfl, isInts_nil _ _, hB⟩
theorem refuses_2 (a b c i : Int) (h : rightB 2 a b c i = true) (w : World) :
    Calls Tryd.prog 22 #[.agg #[.int .i64 2, .int .i64 a, .int .i64 b, .int .i64 c, .int .i64 i]] w fun e w' => ∃ v, e = .returned v ∧ IsInts w' w.heap.size v [a] ∧ Below w.heap.size w w' := by
    obtain ⟨_, ha, hb', hc', _⟩ := right_parts h
    obtain ⟨a0, a1⟩ := ha
    obtain ⟨b0, b1⟩ := hb'
    obtain ⟨c0, c1⟩ := hc'
    go_enter Tryd.func22, Tryd.ntmps22
    go_wp2_with fail
    refine (refright_any _ _ _ _ _ _).mono ?_; rintro e w1 ⟨rfl, hb⟩
    obtain ⟨hc, hf⟩ := bcell hb
    obtain ⟨hB, hz⟩ := bel_box hb
    go_wp2_with fail
    go_ret
    exact ⟨_, rfl, isInts_one w1 _ _ hB.size, hB.alloc hB.size _⟩
theorem refuses_3 (a b c i : Int) (h : rightB 3 a b c i = true) (w : World) :
    Calls Tryd.prog 22 #[.agg #[.int .i64 3, .int .i64 a, .int .i64 b, .int .i64 c, .int .i64 i]] w fun e w' => ∃ v, e = .returned v ∧ IsInts w' w.heap.size v [b] ∧ Below w.heap.size w w' := by
    obtain ⟨_, ha, hb', hc', _⟩ := right_parts h
    obtain ⟨a0, a1⟩ := ha
    obtain ⟨b0, b1⟩ := hb'
    obtain ⟨c0, c1⟩ := hc'
    go_enter Tryd.func22, Tryd.ntmps22
    go_wp2_with fail
    refine (refright_any _ _ _ _ _ _).mono ?_; rintro e w1 ⟨rfl, hb⟩
    obtain ⟨hc, hf⟩ := bcell hb
    obtain ⟨hB, hz⟩ := bel_box hb
    go_wp2_with fail
    go_ret
    exact ⟨_, rfl, isInts_one w1 _ _ hB.size, hB.alloc hB.size _⟩
theorem refuses_4 (a b c i : Int) (h : rightB 4 a b c i = true) (w : World) :
    Calls Tryd.prog 22 #[.agg #[.int .i64 4, .int .i64 a, .int .i64 b, .int .i64 c, .int .i64 i]] w fun e w' => ∃ v, e = .returned v ∧ IsInts w' w.heap.size v (rise b c) ∧ Below w.heap.size w w' := by
    obtain ⟨_, ha, hb', hc', _⟩ := right_parts h
    obtain ⟨a0, a1⟩ := ha
    obtain ⟨b0, b1⟩ := hb'
    obtain ⟨c0, c1⟩ := hc'
    by_cases he : b = c
    · subst he
      rw [show rise b b = [b] from if_pos rfl]
      go_enter Tryd.func22, Tryd.ntmps22
      go_wp2_with fail
      refine (refright_any _ _ _ _ _ _).mono ?_; rintro e w1 ⟨rfl, hb⟩
      obtain ⟨hc, hf⟩ := bcell hb
      obtain ⟨hB, hz⟩ := bel_box hb
      go_wp2_with fail
      go_ret
      exact ⟨_, rfl, isInts_one w1 _ _ hB.size, hB.alloc hB.size _⟩
    by_cases hl : b < c
    · rw [show rise b c = [min b c, max b c] from if_neg he]
      clear he
      go_enter Tryd.func22, Tryd.ntmps22
      go_wp2_with fail
      refine (refright_any _ _ _ _ _ _).mono ?_; rintro e w1 ⟨rfl, hb⟩
      obtain ⟨hc, hf⟩ := bcell hb
      obtain ⟨hB, hz⟩ := bel_box hb
      go_wp2_with fail
      go_ret
      exact ⟨_, rfl, isInts_two w1 _ _ _ hB.size, hB.alloc hB.size _⟩
    · have hg : c < b := by omega
      rw [show rise b c = [min b c, max b c] from if_neg he]
      clear he hl
      go_enter Tryd.func22, Tryd.ntmps22
      go_wp2_with fail
      refine (refright_any _ _ _ _ _ _).mono ?_; rintro e w1 ⟨rfl, hb⟩
      obtain ⟨hc, hf⟩ := bcell hb
      obtain ⟨hB, hz⟩ := bel_box hb
      go_wp2_with fail
      go_ret
      exact ⟨_, rfl, isInts_two w1 _ _ _ hB.size, hB.alloc hB.size _⟩
theorem refuses_5 (a b c i : Int) (h : rightB 5 a b c i = true) (w : World) :
    Calls Tryd.prog 22 #[.agg #[.int .i64 5, .int .i64 a, .int .i64 b, .int .i64 c, .int .i64 i]] w fun e w' => ∃ v, e = .returned v ∧ IsInts w' w.heap.size v [b] ∧ Below w.heap.size w w' := by
    obtain ⟨_, ha, hb', hc', _⟩ := right_parts h
    obtain ⟨a0, a1⟩ := ha
    obtain ⟨b0, b1⟩ := hb'
    obtain ⟨c0, c1⟩ := hc'
    go_enter Tryd.func22, Tryd.ntmps22
    go_wp2_with fail
    refine (refright_any _ _ _ _ _ _).mono ?_; rintro e w1 ⟨rfl, hb⟩
    obtain ⟨hc, hf⟩ := bcell hb
    obtain ⟨hB, hz⟩ := bel_box hb
    go_wp2_with fail
    go_ret
    exact ⟨_, rfl, isInts_one w1 _ _ hB.size, hB.alloc hB.size _⟩
theorem refuses_6 (a b c i : Int) (h : rightB 6 a b c i = true) (w : World) :
    Calls Tryd.prog 22 #[.agg #[.int .i64 6, .int .i64 a, .int .i64 b, .int .i64 c, .int .i64 i]] w fun e w' => ∃ v, e = .returned v ∧ IsInts w' w.heap.size v (rise a b) ∧ Below w.heap.size w w' := by
    obtain ⟨_, ha, hb', hc', _⟩ := right_parts h
    obtain ⟨a0, a1⟩ := ha
    obtain ⟨b0, b1⟩ := hb'
    obtain ⟨c0, c1⟩ := hc'
    by_cases he : a = b
    · subst he
      rw [show rise a a = [a] from if_pos rfl]
      go_enter Tryd.func22, Tryd.ntmps22
      go_wp2_with fail
      refine (refright_any _ _ _ _ _ _).mono ?_; rintro e w1 ⟨rfl, hb⟩
      obtain ⟨hc, hf⟩ := bcell hb
      obtain ⟨hB, hz⟩ := bel_box hb
      go_wp2_with fail
      go_ret
      exact ⟨_, rfl, isInts_one w1 _ _ hB.size, hB.alloc hB.size _⟩
    by_cases hl : a < b
    · rw [show rise a b = [min a b, max a b] from if_neg he]
      clear he
      go_enter Tryd.func22, Tryd.ntmps22
      go_wp2_with fail
      refine (refright_any _ _ _ _ _ _).mono ?_; rintro e w1 ⟨rfl, hb⟩
      obtain ⟨hc, hf⟩ := bcell hb
      obtain ⟨hB, hz⟩ := bel_box hb
      go_wp2_with fail
      go_ret
      exact ⟨_, rfl, isInts_two w1 _ _ _ hB.size, hB.alloc hB.size _⟩
    · have hg : b < a := by omega
      rw [show rise a b = [min a b, max a b] from if_neg he]
      clear he hl
      go_enter Tryd.func22, Tryd.ntmps22
      go_wp2_with fail
      refine (refright_any _ _ _ _ _ _).mono ?_; rintro e w1 ⟨rfl, hb⟩
      obtain ⟨hc, hf⟩ := bcell hb
      obtain ⟨hB, hz⟩ := bel_box hb
      go_wp2_with fail
      go_ret
      exact ⟨_, rfl, isInts_two w1 _ _ _ hB.size, hB.alloc hB.size _⟩
theorem refuses_7 (a b c i : Int) (h : rightB 7 a b c i = true) (w : World) :
    Calls Tryd.prog 22 #[.agg #[.int .i64 7, .int .i64 a, .int .i64 b, .int .i64 c, .int .i64 i]] w fun e w' => ∃ v, e = .returned v ∧ IsInts w' w.heap.size v [] ∧ Below w.heap.size w w' := by
    obtain ⟨_, ha, hb', hc', _⟩ := right_parts h
    obtain ⟨a0, a1⟩ := ha
    obtain ⟨b0, b1⟩ := hb'
    obtain ⟨c0, c1⟩ := hc'
    go_enter Tryd.func22, Tryd.ntmps22
    go_wp2_with fail
    refine (refright_any _ _ _ _ _ _).mono ?_; rintro e w1 ⟨rfl, hb⟩
    obtain ⟨hc, hf⟩ := bcell hb
    obtain ⟨hB, hz⟩ := bel_box hb
    go_wp2_with fail
    go_ret
    exact ⟨_, rfl, isInts_nil _ _, hB⟩
theorem refuses_8 (a b c i : Int) (h : rightB 8 a b c i = true) (w : World) :
    Calls Tryd.prog 22 #[.agg #[.int .i64 8, .int .i64 a, .int .i64 b, .int .i64 c, .int .i64 i]] w fun e w' => ∃ v, e = .returned v ∧ IsInts w' w.heap.size v [a] ∧ Below w.heap.size w w' := by
    obtain ⟨_, ha, hb', hc', _⟩ := right_parts h
    obtain ⟨a0, a1⟩ := ha
    obtain ⟨b0, b1⟩ := hb'
    obtain ⟨c0, c1⟩ := hc'
    go_enter Tryd.func22, Tryd.ntmps22
    go_wp2_with fail
    refine (refright_any _ _ _ _ _ _).mono ?_; rintro e w1 ⟨rfl, hb⟩
    obtain ⟨hc, hf⟩ := bcell hb
    obtain ⟨hB, hz⟩ := bel_box hb
    go_wp2_with fail
    go_ret
    exact ⟨_, rfl, isInts_one w1 _ _ hB.size, hB.alloc hB.size _⟩
theorem refuses_9 (a b c i : Int) (h : rightB 9 a b c i = true) (w : World) :
    Calls Tryd.prog 22 #[.agg #[.int .i64 9, .int .i64 a, .int .i64 b, .int .i64 c, .int .i64 i]] w fun e w' => ∃ v, e = .returned v ∧ IsInts w' w.heap.size v [] ∧ Below w.heap.size w w' := by
    obtain ⟨_, ha, hb', hc', _⟩ := right_parts h
    obtain ⟨a0, a1⟩ := ha
    obtain ⟨b0, b1⟩ := hb'
    obtain ⟨c0, c1⟩ := hc'
    go_enter Tryd.func22, Tryd.ntmps22
    go_wp2_with fail
    refine (refright_any _ _ _ _ _ _).mono ?_; rintro e w1 ⟨rfl, hb⟩
    obtain ⟨hc, hf⟩ := bcell hb
    obtain ⟨hB, hz⟩ := bel_box hb
    go_wp2_with fail
    go_ret
    exact ⟨_, rfl, isInts_nil _ _, hB⟩
theorem refuses_10 (a b c i : Int) (h : rightB 10 a b c i = true) (w : World) :
    Calls Tryd.prog 22 #[.agg #[.int .i64 10, .int .i64 a, .int .i64 b, .int .i64 c, .int .i64 i]] w fun e w' => ∃ v, e = .returned v ∧ IsInts w' w.heap.size v [15] ∧ Below w.heap.size w w' := by
    obtain ⟨_, ha, hb', hc', _⟩ := right_parts h
    obtain ⟨a0, a1⟩ := ha
    obtain ⟨b0, b1⟩ := hb'
    obtain ⟨c0, c1⟩ := hc'
    go_enter Tryd.func22, Tryd.ntmps22
    go_wp2_with fail
    refine (refright_any _ _ _ _ _ _).mono ?_; rintro e w1 ⟨rfl, hb⟩
    obtain ⟨hc, hf⟩ := bcell hb
    obtain ⟨hB, hz⟩ := bel_box hb
    go_wp2_with fail
    go_ret
    exact ⟨_, rfl, isInts_one w1 _ _ hB.size, hB.alloc hB.size _⟩
theorem refuses_11 (a b c i : Int) (h : rightB 11 a b c i = true) (w : World) :
    Calls Tryd.prog 22 #[.agg #[.int .i64 11, .int .i64 a, .int .i64 b, .int .i64 c, .int .i64 i]] w fun e w' => ∃ v, e = .returned v ∧ IsInts w' w.heap.size v [] ∧ Below w.heap.size w w' := by
    obtain ⟨_, ha, hb', hc', _⟩ := right_parts h
    obtain ⟨a0, a1⟩ := ha
    obtain ⟨b0, b1⟩ := hb'
    obtain ⟨c0, c1⟩ := hc'
    go_enter Tryd.func22, Tryd.ntmps22
    go_wp2_with fail
    refine (refright_any _ _ _ _ _ _).mono ?_; rintro e w1 ⟨rfl, hb⟩
    obtain ⟨hc, hf⟩ := bcell hb
    obtain ⟨hB, hz⟩ := bel_box hb
    go_wp2_with fail
    go_ret
    exact ⟨_, rfl, isInts_nil _ _, hB⟩
theorem refuses_12 (a b c i : Int) (h : rightB 12 a b c i = true) (w : World) :
    Calls Tryd.prog 22 #[.agg #[.int .i64 12, .int .i64 a, .int .i64 b, .int .i64 c, .int .i64 i]] w fun e w' => ∃ v, e = .returned v ∧ IsInts w' w.heap.size v [a] ∧ Below w.heap.size w w' := by
    obtain ⟨_, ha, hb', hc', _⟩ := right_parts h
    obtain ⟨a0, a1⟩ := ha
    obtain ⟨b0, b1⟩ := hb'
    obtain ⟨c0, c1⟩ := hc'
    go_enter Tryd.func22, Tryd.ntmps22
    go_wp2_with fail
    refine (refright_any _ _ _ _ _ _).mono ?_; rintro e w1 ⟨rfl, hb⟩
    obtain ⟨hc, hf⟩ := bcell hb
    obtain ⟨hB, hz⟩ := bel_box hb
    go_wp2_with fail
    go_ret
    exact ⟨_, rfl, isInts_one w1 _ _ hB.size, hB.alloc hB.size _⟩
theorem refuses_13 (a b c i : Int) (h : rightB 13 a b c i = true) (w : World) :
    Calls Tryd.prog 22 #[.agg #[.int .i64 13, .int .i64 a, .int .i64 b, .int .i64 c, .int .i64 i]] w fun e w' => ∃ v, e = .returned v ∧ IsInts w' w.heap.size v [b] ∧ Below w.heap.size w w' := by
    obtain ⟨_, ha, hb', hc', _⟩ := right_parts h
    obtain ⟨a0, a1⟩ := ha
    obtain ⟨b0, b1⟩ := hb'
    obtain ⟨c0, c1⟩ := hc'
    go_enter Tryd.func22, Tryd.ntmps22
    go_wp2_with fail
    refine (refright_any _ _ _ _ _ _).mono ?_; rintro e w1 ⟨rfl, hb⟩
    obtain ⟨hc, hf⟩ := bcell hb
    obtain ⟨hB, hz⟩ := bel_box hb
    go_wp2_with fail
    go_ret
    exact ⟨_, rfl, isInts_one w1 _ _ hB.size, hB.alloc hB.size _⟩
theorem refuses_14 (a b c i : Int) (h : rightB 14 a b c i = true) (w : World) :
    Calls Tryd.prog 22 #[.agg #[.int .i64 14, .int .i64 a, .int .i64 b, .int .i64 c, .int .i64 i]] w fun e w' => ∃ v, e = .returned v ∧ IsInts w' w.heap.size v [b] ∧ Below w.heap.size w w' := by
    obtain ⟨_, ha, hb', hc', _⟩ := right_parts h
    obtain ⟨a0, a1⟩ := ha
    obtain ⟨b0, b1⟩ := hb'
    obtain ⟨c0, c1⟩ := hc'
    go_enter Tryd.func22, Tryd.ntmps22
    go_wp2_with fail
    refine (refright_any _ _ _ _ _ _).mono ?_; rintro e w1 ⟨rfl, hb⟩
    obtain ⟨hc, hf⟩ := bcell hb
    obtain ⟨hB, hz⟩ := bel_box hb
    go_wp2_with fail
    go_ret
    exact ⟨_, rfl, isInts_one w1 _ _ hB.size, hB.alloc hB.size _⟩
theorem refuses_any (o a b c i : Int) (w : World) :
    Calls Tryd.prog 22 #[.agg #[.int .i64 o, .int .i64 a, .int .i64 b, .int .i64 c, .int .i64 i]] w fun e w' => ∃ v, e = .returned v ∧ IsInts w' w.heap.size v (usesL o a b c i) ∧ Below w.heap.size w w' := by
  cases h : rightB o a b c i
  · rw [show usesL o a b c i = [] by unfold usesL; rw [h]; rfl]
    exact refuses_no o a b c i h w
  · rcases op_cases (right_op h) with rfl | rfl | rfl | rfl | rfl | rfl | rfl | rfl | rfl | rfl | rfl | rfl | rfl | rfl | rfl
    · rw [show usesL 0 a b c i = [] by unfold usesL; rw [h]; rfl]
      exact refuses_0 a b c i h w
    · rw [show usesL 1 a b c i = [] by unfold usesL; rw [h]; rfl]
      exact refuses_1 a b c i h w
    · rw [show usesL 2 a b c i = [a] by unfold usesL; rw [h]; rfl]
      exact refuses_2 a b c i h w
    · rw [show usesL 3 a b c i = [b] by unfold usesL; rw [h]; rfl]
      exact refuses_3 a b c i h w
    · rw [show usesL 4 a b c i = rise b c by unfold usesL; rw [h]; rfl]
      exact refuses_4 a b c i h w
    · rw [show usesL 5 a b c i = [b] by unfold usesL; rw [h]; rfl]
      exact refuses_5 a b c i h w
    · rw [show usesL 6 a b c i = rise a b by unfold usesL; rw [h]; rfl]
      exact refuses_6 a b c i h w
    · rw [show usesL 7 a b c i = [] by unfold usesL; rw [h]; rfl]
      exact refuses_7 a b c i h w
    · rw [show usesL 8 a b c i = [a] by unfold usesL; rw [h]; rfl]
      exact refuses_8 a b c i h w
    · rw [show usesL 9 a b c i = [] by unfold usesL; rw [h]; rfl]
      exact refuses_9 a b c i h w
    · rw [show usesL 10 a b c i = [15] by unfold usesL; rw [h]; rfl]
      exact refuses_10 a b c i h w
    · rw [show usesL 11 a b c i = [] by unfold usesL; rw [h]; rfl]
      exact refuses_11 a b c i h w
    · rw [show usesL 12 a b c i = [a] by unfold usesL; rw [h]; rfl]
      exact refuses_12 a b c i h w
    · rw [show usesL 13 a b c i = [b] by unfold usesL; rw [h]; rfl]
      exact refuses_13 a b c i h w
    · rw [show usesL 14 a b c i = [b] by unfold usesL; rw [h]; rfl]
      exact refuses_14 a b c i h w

end Go.Proofs.YtgfkbagkdhfnkaaDoor
