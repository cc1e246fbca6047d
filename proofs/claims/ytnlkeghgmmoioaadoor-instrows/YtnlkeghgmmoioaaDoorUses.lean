/-
  Contracts of Uses of package inst (layer 2), by walks over the translation.
-/
import Derived.Test.YtnlkeghgmmoioaaDoorSets
namespace Go.Proofs.YtnlkeghgmmoioaaDoor
open Go.ChangeShapes Go.WideShapes Go.ChangeAt Go.RowKit


/-- A slice of ints, of the call's own memory, that holds just these. -/
def IsInts (W : World) (n : Nat) (v : Value) (l : List Int) : Prop :=
  (l = [] ∧ v = .slice none 0 0) ∨ ∃ blk, v = .slice (some ⟨blk, 0, none⟩) l.length l.length ∧ n ≤ blk ∧ blk < W.heap.size ∧ ∀ j, j < l.length → W.cell? ⟨blk, j, none⟩ = some (.int .i64 (l.getD j 0))

theorem isInts_nil (W : World) (n : Nat) : IsInts W n (.slice none 0 0) [] := .inl ⟨rfl, rfl⟩
theorem isInts_one (W : World) (n : Nat) (x : Int) (h : n ≤ W.heap.size) : IsInts (W.alloc (.cells #[.int .i64 x] 3)) n (.slice (some ⟨W.heap.size, 0, none⟩) 1 1) [x] :=
  .inr ⟨W.heap.size, rfl, h, by simp, fun j hj => by
    have : j = 0 := by simp at hj; omega
    subst this; rw [World.cell?_alloc_new]; rfl⟩
theorem isInts_two (W : World) (n : Nat) (x y : Int) (h : n ≤ W.heap.size) : IsInts (W.alloc (.cells #[.int .i64 x, .int .i64 y] 3)) n (.slice (some ⟨W.heap.size, 0, none⟩) 2 2) [x, y] :=
  .inr ⟨W.heap.size, rfl, h, by simp, fun j hj => by
    have : j = 0 ∨ j = 1 := by simp at hj; omega
    rcases this with rfl | rfl <;> (rw [World.cell?_alloc_new]; rfl)⟩
theorem IsInts.later {W W' : World} {n : Nat} {v : Value} {l : List Int} (h : IsInts W n v l) (hb : Below W.heap.size W W') : IsInts W' n v l := by
  rcases h with ⟨h1, h2⟩ | ⟨blk, h1, h2, h3, h4⟩
  · exact .inl ⟨h1, h2⟩
  · exact .inr ⟨blk, h1, h2, Nat.lt_of_lt_of_le h3 hb.size, fun j hj => (hb.cell (p := ⟨blk, j, none⟩) h3).trans (h4 j hj)⟩
theorem IsInts.down {W : World} {n m : Nat} {v : Value} {l : List Int} (h : IsInts W n v l) (hm : m ≤ n) : IsInts W m v l := by
  rcases h with ⟨h1, h2⟩ | ⟨blk, h1, h2, h3, h4⟩
  · exact .inl ⟨h1, h2⟩
  · exact .inr ⟨blk, h1, by omega, h3, h4⟩

/-- Two numbers, rising, each once. -/
def rise (m n : Int) : List Int := if m = n then [m] else [min m n, max m n]
def useK (o a b c : Int) : List Int :=
  if o = 2 ∨ o = 8 ∨ o = 12 then [a] else if o = 3 ∨ o = 5 ∨ o = 13 ∨ o = 14 then [b] else if o = 4 then rise b c else if o = 6 then rise a b else if o = 10 then [15] else []
def usesL (o a b c i : Int) : List Int := if rightB o a b c i = true then useK o a b c else []

theorem rising_any (m n : Int) (w : World) :
    Calls Tryd.prog 40 #[.int .i64 m, .int .i64 n] w fun e w' => ∃ v, e = .returned v ∧ IsInts w' w.heap.size v (rise m n) ∧ Below w.heap.size w w' := by
  by_cases h : m = n
  · subst h
    rw [show rise m m = [m] from if_pos rfl]
    go_enter Tryd.func40, Tryd.ntmps40
    go_wp2
    go_ret
    exact ⟨_, rfl, isInts_one w _ m (Nat.le_refl _), (Below.refl _ _).alloc (Nat.le_refl _) _⟩
  · have h' : (m == n) = false := beq_eq_false_iff_ne.2 h
    by_cases hl : m < n
    · rw [show rise m n = [m, n] by unfold rise; rw [if_neg h, show min m n = m by omega, show max m n = n by omega]]
      clear h
      go_enter Tryd.func40, Tryd.ntmps40
      go_wp2
      go_ret
      exact ⟨_, rfl, isInts_two w _ _ _ (Nat.le_refl _), (Below.refl _ _).alloc (Nat.le_refl _) _⟩
    · have hg : n < m := by omega
      rw [show rise m n = [n, m] by unfold rise; rw [if_neg h, show min m n = n by omega, show max m n = m by omega]]
      clear h hl
      go_enter Tryd.func40, Tryd.ntmps40
      go_wp2
      go_ret
      exact ⟨_, rfl, isInts_two w _ _ _ (Nat.le_refl _), (Below.refl _ _).alloc (Nat.le_refl _) _⟩

theorem uses_no (o a b c i : Int) (h : rightB o a b c i = false) (w : World) :
    Calls Tryd.prog 21 #[.agg #[.int .i64 o, .int .i64 a, .int .i64 b, .int .i64 c, .int .i64 i]] w fun e w' => ∃ v, e = .returned v ∧ IsInts w' w.heap.size v [] ∧ Below w.heap.size w w' := by
    go_enter Tryd.func21, Tryd.ntmps21
    go_wp2_with fail
    refine (right_any _ _ _ _ _ _).mono ?_; rintro e w1 ⟨rfl, hb⟩
    obtain ⟨hc, hf⟩ := bcell hb
    obtain ⟨hB, hz⟩ := bel_box hb
    go_wp2_with fail
    go_ret
    exact ⟨_, rfl, isInts_nil _ _, hB⟩
theorem uses_0 (a b c i : Int) (h : rightB 0 a b c i = true) (w : World) :
    Calls Tryd.prog 21 #[.agg #[.int .i64 0, .int .i64 a, .int .i64 b, .int .i64 c, .int .i64 i]] w fun e w' => ∃ v, e = .returned v ∧ IsInts w' w.heap.size v [] ∧ Below w.heap.size w w' := by
    go_enter Tryd.func21, Tryd.ntmps21
    go_wp2_with fail
    refine (right_any _ _ _ _ _ _).mono ?_; rintro e w1 ⟨rfl, hb⟩
    obtain ⟨hc, hf⟩ := bcell hb
    obtain ⟨hB, hz⟩ := bel_box hb
    go_wp2_with fail
    go_ret
    exact ⟨_, rfl, isInts_nil _ _, hB⟩
theorem uses_1 (a b c i : Int) (h : rightB 1 a b c i = true) (w : World) :
    Calls Tryd.prog 21 #[.agg #[.int .i64 1, .int .i64 a, .int .i64 b, .int .i64 c, .int .i64 i]] w fun e w' => ∃ v, e = .returned v ∧ IsInts w' w.heap.size v [] ∧ Below w.heap.size w w' := by
    go_enter Tryd.func21, Tryd.ntmps21
    go_wp2_with fail
    refine (right_any _ _ _ _ _ _).mono ?_; rintro e w1 ⟨rfl, hb⟩
    obtain ⟨hc, hf⟩ := bcell hb
    obtain ⟨hB, hz⟩ := bel_box hb
    go_wp2_with fail
    go_ret
    exact ⟨_, rfl, isInts_nil _ _, hB⟩
theorem uses_2 (a b c i : Int) (h : rightB 2 a b c i = true) (w : World) :
    Calls Tryd.prog 21 #[.agg #[.int .i64 2, .int .i64 a, .int .i64 b, .int .i64 c, .int .i64 i]] w fun e w' => ∃ v, e = .returned v ∧ IsInts w' w.heap.size v [a] ∧ Below w.heap.size w w' := by
    go_enter Tryd.func21, Tryd.ntmps21
    go_wp2_with fail
    refine (right_any _ _ _ _ _ _).mono ?_; rintro e w1 ⟨rfl, hb⟩
    obtain ⟨hc, hf⟩ := bcell hb
    obtain ⟨hB, hz⟩ := bel_box hb
    go_wp2_with fail
    go_ret
    exact ⟨_, rfl, isInts_one w1 _ _ hB.size, hB.alloc hB.size _⟩
theorem uses_3 (a b c i : Int) (h : rightB 3 a b c i = true) (w : World) :
    Calls Tryd.prog 21 #[.agg #[.int .i64 3, .int .i64 a, .int .i64 b, .int .i64 c, .int .i64 i]] w fun e w' => ∃ v, e = .returned v ∧ IsInts w' w.heap.size v [b] ∧ Below w.heap.size w w' := by
    go_enter Tryd.func21, Tryd.ntmps21
    go_wp2_with fail
    refine (right_any _ _ _ _ _ _).mono ?_; rintro e w1 ⟨rfl, hb⟩
    obtain ⟨hc, hf⟩ := bcell hb
    obtain ⟨hB, hz⟩ := bel_box hb
    go_wp2_with fail
    go_ret
    exact ⟨_, rfl, isInts_one w1 _ _ hB.size, hB.alloc hB.size _⟩
theorem uses_4 (a b c i : Int) (h : rightB 4 a b c i = true) (w : World) :
    Calls Tryd.prog 21 #[.agg #[.int .i64 4, .int .i64 a, .int .i64 b, .int .i64 c, .int .i64 i]] w fun e w' => ∃ v, e = .returned v ∧ IsInts w' w.heap.size v (rise b c) ∧ Below w.heap.size w w' := by
    go_enter Tryd.func21, Tryd.ntmps21
    go_wp2_with fail
    refine (right_any _ _ _ _ _ _).mono ?_; rintro e w1 ⟨rfl, hb⟩
    obtain ⟨hc, hf⟩ := bcell hb
    obtain ⟨hB, hz⟩ := bel_box hb
    go_wp2_with fail
    refine (rising_any _ _ _).mono ?_; rintro e w2 ⟨v, rfl, hv, hb2⟩
    have hB2 := bel_on hB hb2
    go_wp2_with fail
    go_ret
    exact ⟨_, rfl, hv.down hB.size, hB2.1⟩
theorem uses_5 (a b c i : Int) (h : rightB 5 a b c i = true) (w : World) :
    Calls Tryd.prog 21 #[.agg #[.int .i64 5, .int .i64 a, .int .i64 b, .int .i64 c, .int .i64 i]] w fun e w' => ∃ v, e = .returned v ∧ IsInts w' w.heap.size v [b] ∧ Below w.heap.size w w' := by
    go_enter Tryd.func21, Tryd.ntmps21
    go_wp2_with fail
    refine (right_any _ _ _ _ _ _).mono ?_; rintro e w1 ⟨rfl, hb⟩
    obtain ⟨hc, hf⟩ := bcell hb
    obtain ⟨hB, hz⟩ := bel_box hb
    go_wp2_with fail
    go_ret
    exact ⟨_, rfl, isInts_one w1 _ _ hB.size, hB.alloc hB.size _⟩
theorem uses_6 (a b c i : Int) (h : rightB 6 a b c i = true) (w : World) :
    Calls Tryd.prog 21 #[.agg #[.int .i64 6, .int .i64 a, .int .i64 b, .int .i64 c, .int .i64 i]] w fun e w' => ∃ v, e = .returned v ∧ IsInts w' w.heap.size v (rise a b) ∧ Below w.heap.size w w' := by
    go_enter Tryd.func21, Tryd.ntmps21
    go_wp2_with fail
    refine (right_any _ _ _ _ _ _).mono ?_; rintro e w1 ⟨rfl, hb⟩
    obtain ⟨hc, hf⟩ := bcell hb
    obtain ⟨hB, hz⟩ := bel_box hb
    go_wp2_with fail
    refine (rising_any _ _ _).mono ?_; rintro e w2 ⟨v, rfl, hv, hb2⟩
    have hB2 := bel_on hB hb2
    go_wp2_with fail
    go_ret
    exact ⟨_, rfl, hv.down hB.size, hB2.1⟩
theorem uses_7 (a b c i : Int) (h : rightB 7 a b c i = true) (w : World) :
    Calls Tryd.prog 21 #[.agg #[.int .i64 7, .int .i64 a, .int .i64 b, .int .i64 c, .int .i64 i]] w fun e w' => ∃ v, e = .returned v ∧ IsInts w' w.heap.size v [] ∧ Below w.heap.size w w' := by
    go_enter Tryd.func21, Tryd.ntmps21
    go_wp2_with fail
    refine (right_any _ _ _ _ _ _).mono ?_; rintro e w1 ⟨rfl, hb⟩
    obtain ⟨hc, hf⟩ := bcell hb
    obtain ⟨hB, hz⟩ := bel_box hb
    go_wp2_with fail
    go_ret
    exact ⟨_, rfl, isInts_nil _ _, hB⟩
theorem uses_8 (a b c i : Int) (h : rightB 8 a b c i = true) (w : World) :
    Calls Tryd.prog 21 #[.agg #[.int .i64 8, .int .i64 a, .int .i64 b, .int .i64 c, .int .i64 i]] w fun e w' => ∃ v, e = .returned v ∧ IsInts w' w.heap.size v [a] ∧ Below w.heap.size w w' := by
    go_enter Tryd.func21, Tryd.ntmps21
    go_wp2_with fail
    refine (right_any _ _ _ _ _ _).mono ?_; rintro e w1 ⟨rfl, hb⟩
    obtain ⟨hc, hf⟩ := bcell hb
    obtain ⟨hB, hz⟩ := bel_box hb
    go_wp2_with fail
    go_ret
    exact ⟨_, rfl, isInts_one w1 _ _ hB.size, hB.alloc hB.size _⟩
theorem uses_9 (a b c i : Int) (h : rightB 9 a b c i = true) (w : World) :
    Calls Tryd.prog 21 #[.agg #[.int .i64 9, .int .i64 a, .int .i64 b, .int .i64 c, .int .i64 i]] w fun e w' => ∃ v, e = .returned v ∧ IsInts w' w.heap.size v [] ∧ Below w.heap.size w w' := by
    go_enter Tryd.func21, Tryd.ntmps21
    go_wp2_with fail
    refine (right_any _ _ _ _ _ _).mono ?_; rintro e w1 ⟨rfl, hb⟩
    obtain ⟨hc, hf⟩ := bcell hb
    obtain ⟨hB, hz⟩ := bel_box hb
    go_wp2_with fail
    go_ret
    exact ⟨_, rfl, isInts_nil _ _, hB⟩
theorem uses_10 (a b c i : Int) (h : rightB 10 a b c i = true) (w : World) :
    Calls Tryd.prog 21 #[.agg #[.int .i64 10, .int .i64 a, .int .i64 b, .int .i64 c, .int .i64 i]] w fun e w' => ∃ v, e = .returned v ∧ IsInts w' w.heap.size v [15] ∧ Below w.heap.size w w' := by
    go_enter Tryd.func21, Tryd.ntmps21
    go_wp2_with fail
    refine (right_any _ _ _ _ _ _).mono ?_; rintro e w1 ⟨rfl, hb⟩
    obtain ⟨hc, hf⟩ := bcell hb
    obtain ⟨hB, hz⟩ := bel_box hb
    go_wp2_with fail
    go_ret
    exact ⟨_, rfl, isInts_one w1 _ _ hB.size, hB.alloc hB.size _⟩
theorem uses_11 (a b c i : Int) (h : rightB 11 a b c i = true) (w : World) :
    Calls Tryd.prog 21 #[.agg #[.int .i64 11, .int .i64 a, .int .i64 b, .int .i64 c, .int .i64 i]] w fun e w' => ∃ v, e = .returned v ∧ IsInts w' w.heap.size v [] ∧ Below w.heap.size w w' := by
    go_enter Tryd.func21, Tryd.ntmps21
    go_wp2_with fail
    refine (right_any _ _ _ _ _ _).mono ?_; rintro e w1 ⟨rfl, hb⟩
    obtain ⟨hc, hf⟩ := bcell hb
    obtain ⟨hB, hz⟩ := bel_box hb
    go_wp2_with fail
    go_ret
    exact ⟨_, rfl, isInts_nil _ _, hB⟩
theorem uses_12 (a b c i : Int) (h : rightB 12 a b c i = true) (w : World) :
    Calls Tryd.prog 21 #[.agg #[.int .i64 12, .int .i64 a, .int .i64 b, .int .i64 c, .int .i64 i]] w fun e w' => ∃ v, e = .returned v ∧ IsInts w' w.heap.size v [a] ∧ Below w.heap.size w w' := by
    go_enter Tryd.func21, Tryd.ntmps21
    go_wp2_with fail
    refine (right_any _ _ _ _ _ _).mono ?_; rintro e w1 ⟨rfl, hb⟩
    obtain ⟨hc, hf⟩ := bcell hb
    obtain ⟨hB, hz⟩ := bel_box hb
    go_wp2_with fail
    go_ret
    exact ⟨_, rfl, isInts_one w1 _ _ hB.size, hB.alloc hB.size _⟩
theorem uses_13 (a b c i : Int) (h : rightB 13 a b c i = true) (w : World) :
    Calls Tryd.prog 21 #[.agg #[.int .i64 13, .int .i64 a, .int .i64 b, .int .i64 c, .int .i64 i]] w fun e w' => ∃ v, e = .returned v ∧ IsInts w' w.heap.size v [b] ∧ Below w.heap.size w w' := by
    go_enter Tryd.func21, Tryd.ntmps21
    go_wp2_with fail
    refine (right_any _ _ _ _ _ _).mono ?_; rintro e w1 ⟨rfl, hb⟩
    obtain ⟨hc, hf⟩ := bcell hb
    obtain ⟨hB, hz⟩ := bel_box hb
    go_wp2_with fail
    go_ret
    exact ⟨_, rfl, isInts_one w1 _ _ hB.size, hB.alloc hB.size _⟩
theorem uses_14 (a b c i : Int) (h : rightB 14 a b c i = true) (w : World) :
    Calls Tryd.prog 21 #[.agg #[.int .i64 14, .int .i64 a, .int .i64 b, .int .i64 c, .int .i64 i]] w fun e w' => ∃ v, e = .returned v ∧ IsInts w' w.heap.size v [b] ∧ Below w.heap.size w w' := by
    go_enter Tryd.func21, Tryd.ntmps21
    go_wp2_with fail
    refine (right_any _ _ _ _ _ _).mono ?_; rintro e w1 ⟨rfl, hb⟩
    obtain ⟨hc, hf⟩ := bcell hb
    obtain ⟨hB, hz⟩ := bel_box hb
    go_wp2_with fail
    go_ret
    exact ⟨_, rfl, isInts_one w1 _ _ hB.size, hB.alloc hB.size _⟩
theorem uses_any (o a b c i : Int) (w : World) :
    Calls Tryd.prog 21 #[.agg #[.int .i64 o, .int .i64 a, .int .i64 b, .int .i64 c, .int .i64 i]] w fun e w' => ∃ v, e = .returned v ∧ IsInts w' w.heap.size v (usesL o a b c i) ∧ Below w.heap.size w w' := by
  cases h : rightB o a b c i
  · rw [show usesL o a b c i = [] by unfold usesL; rw [h]; rfl]
    exact uses_no o a b c i h w
  · rcases op_cases (right_op h) with rfl | rfl | rfl | rfl | rfl | rfl | rfl | rfl | rfl | rfl | rfl | rfl | rfl | rfl | rfl
    · rw [show usesL 0 a b c i = [] by unfold usesL; rw [h]; rfl]
      exact uses_0 a b c i h w
    · rw [show usesL 1 a b c i = [] by unfold usesL; rw [h]; rfl]
      exact uses_1 a b c i h w
    · rw [show usesL 2 a b c i = [a] by unfold usesL; rw [h]; rfl]
      exact uses_2 a b c i h w
    · rw [show usesL 3 a b c i = [b] by unfold usesL; rw [h]; rfl]
      exact uses_3 a b c i h w
    · rw [show usesL 4 a b c i = rise b c by unfold usesL; rw [h]; rfl]
      exact uses_4 a b c i h w
    · rw [show usesL 5 a b c i = [b] by unfold usesL; rw [h]; rfl]
      exact uses_5 a b c i h w
    · rw [show usesL 6 a b c i = rise a b by unfold usesL; rw [h]; rfl]
      exact uses_6 a b c i h w
    · rw [show usesL 7 a b c i = [] by unfold usesL; rw [h]; rfl]
      exact uses_7 a b c i h w
    · rw [show usesL 8 a b c i = [a] by unfold usesL; rw [h]; rfl]
      exact uses_8 a b c i h w
    · rw [show usesL 9 a b c i = [] by unfold usesL; rw [h]; rfl]
      exact uses_9 a b c i h w
    · rw [show usesL 10 a b c i = [15] by unfold usesL; rw [h]; rfl]
      exact uses_10 a b c i h w
    · rw [show usesL 11 a b c i = [] by unfold usesL; rw [h]; rfl]
      exact uses_11 a b c i h w
    · rw [show usesL 12 a b c i = [a] by unfold usesL; rw [h]; rfl]
      exact uses_12 a b c i h w
    · rw [show usesL 13 a b c i = [b] by unfold usesL; rw [h]; rfl]
      exact uses_13 a b c i h w
    · rw [show usesL 14 a b c i = [b] by unfold usesL; rw [h]; rfl]
      exact uses_14 a b c i h w

end Go.Proofs.YtnlkeghgmmoioaaDoor
