/-
  The law InstFields at a right instruction (layer 2), by walks over the translation.
-/
import Derived.Test.YtgfkbagkdhfnkaaDoorFieldsA
namespace Go.Proofs.YtgfkbagkdhfnkaaDoor
open Go.ChangeShapes Go.WideShapes Go.ChangeAt Go.RowKit


theorem uses_shape {o a b c i : Int} (h : rightB o a b c i = true) : usesL o a b c i = [] ∨ (∃ x, usesL o a b c i = [x] ∧ 0 ≤ x ∧ x ≤ 15) ∨ ∃ x y, usesL o a b c i = [x, y] ∧ 0 ≤ x ∧ x < y ∧ y ≤ 15 := by
  obtain ⟨_, ha, hb, hc, _⟩ := right_parts h
  have rs : ∀ m n : Int, 0 ≤ m ∧ m ≤ 15 → 0 ≤ n ∧ n ≤ 15 → (∃ x, rise m n = [x] ∧ 0 ≤ x ∧ x ≤ 15) ∨ ∃ x y, rise m n = [x, y] ∧ 0 ≤ x ∧ x < y ∧ y ≤ 15 := by
    intro m n hm hn
    unfold rise
    split
    · exact .inl ⟨m, rfl, hm⟩
    · exact .inr ⟨_, _, rfl, by omega, by omega, by omega⟩
  unfold usesL
  rw [if_pos h]
  unfold useK
  split
  · exact .inr (.inl ⟨a, rfl, ha⟩)
  · split
    · exact .inr (.inl ⟨b, rfl, hb⟩)
    · split
      · exact .inr (rs b c hb hc)
      · split
        · exact .inr (rs a b ha hb)
        · split
          · exact .inr (.inl ⟨15, rfl, by omega⟩)
          · exact .inl rfl
theorem sets_shape {o a b c i : Int} (h : rightB o a b c i = true) : (0 ≤ setsV o a b c i ∧ setsV o a b c i < 16) ∧ (setsB o a b c i = true ∨ (setsB o a b c i = false ∧ setsV o a b c i = 0)) := by
  obtain ⟨_, ha, _, _, _⟩ := right_parts h
  unfold setsV setsB
  rw [h, if_pos rfl]
  cases hs : setA o
  · by_cases h9 : o = 9
    · simp [h9]
    · simp [h9]
  · simp; omega
theorem jumps_shape (o a b c i : Int) : jmpB o a b c i = true ∧ 0 ≤ jmpV o a b c i ∨ jmpB o a b c i = false ∧ jmpV o a b c i = 0 := by
  cases hj : jmpB o a b c i
  · exact .inr ⟨rfl, by unfold jmpV; rw [hj]; rfl⟩
  · refine .inl ⟨rfl, ?_⟩
    have e : jmpV o a b c i = i := by unfold jmpV; rw [hj]; rfl
    rw [e]
    unfold jmpB at hj
    rw [Bool.and_eq_true, decide_eq_true_iff] at hj
    have hh := (right_parts hj.1).1
    unfold holdB at hh
    rw [Bool.and_eq_true] at hh
    have h2 := hh.2
    have hf := (fI_two o).2 hj.2
    rw [hf] at h2
    unfold immB at h2
    simp at h2
    exact h2.1
theorem text_long {o a b c i : Int} (h : rightB o a b c i = true) : 2 ≤ (textL o a b c i).length ∧ (textL o a b c i).length ≤ 100 := by
  obtain ⟨_, ha, hb, hc, hi⟩ := right_parts h
  have la := rt_len a (fA o) ha
  have lb := rt_len b (fB o) hb
  have lc := rt_len c (fC o) hc
  have li := itoa_len i hi.1 hi.2
  have ln : 2 ≤ (namesL.getD o.toNat []).length ∧ (namesL.getD o.toNat []).length ≤ 5 := by
    rcases op_cases (right_op h) with rfl | rfl | rfl | rfl | rfl | rfl | rfl | rfl | rfl | rfl | rfl | rfl | rfl | rfl | rfl <;> decide +kernel
  unfold textL
  rw [if_pos h]
  unfold txt
  simp only [List.length_append]
  constructor
  · omega
  · (repeat' split) <;> simp only [List.length_cons, List.length_nil] <;> omega

set_option maxRecDepth 100000 in
set_option maxHeartbeats 4000000 in
theorem fields_yes (o a b c i : Int) (hr : rightB o a b c i = true) (w : World) (hT : Tabs w) :
    Calls Tryd.prog 7 #[.agg #[.int .i64 o, .int .i64 a, .int .i64 b, .int .i64 c, .int .i64 i]] w fun e w' => e = .returned (.bool true) ∧ Below w.heap.size w w' := by
  have hu := uses_shape hr
  obtain ⟨⟨hs0, hs1⟩, hs⟩ := sets_shape hr
  have hj := jumps_shape o a b c i
  obtain ⟨ht0, ht1⟩ := text_long hr
  rw [← bs_size] at ht0 ht1
  have HU : Hid (usesL o a b c i = [] ∨ (∃ x, usesL o a b c i = [x] ∧ 0 ≤ x ∧ x ≤ 15) ∨ ∃ x y, usesL o a b c i = [x, y] ∧ 0 ≤ x ∧ x < y ∧ y ≤ 15) := hu
  clear hu
  rcases hs with hs | ⟨hs, hs'⟩ <;> rcases hj with ⟨hj, hj'⟩ | ⟨hj, hj'⟩
  all_goals
    go_enter Tryd.func7, Tryd.ntmps7
    go_wp2_with fail
    refine (small_any _ (hT.box _)).mono ?_; rintro e w1 ⟨rfl, hb1⟩
    obtain ⟨hB1, hz1⟩ := bel_box hb1
    have bx1 := (XBox.new w o a b c i).on hb1
    clear hb1
    have x0 := bx1.c0
    have x1 := bx1.c1
    have x2 := bx1.c2
    have x3 := bx1.c3
    have x4 := bx1.c4
    have xl := bx1.lt
    go_wp2_with fail
    clear x0 x1 x2 x3 x4 xl
    refine (uses_any _ _ _ _ _ _).mono ?_; rintro e w2 ⟨v, rfl, hv, hb2⟩
    obtain ⟨hB2, hz2⟩ := bel_on hB1 hb2
    have bx2 := bx1.on hb2
    clear bx1 hb2
    have x0 := bx2.c0
    have x1 := bx2.c1
    have x2 := bx2.c2
    have x3 := bx2.c3
    have x4 := bx2.c4
    have xl := bx2.lt
    go_wp2_with fail
    clear x0 x1 x2 x3 x4 xl
    refine (sets_any _ _ _ _ _ _).mono ?_; rintro e w3 ⟨rfl, hb3⟩
    obtain ⟨hB3, hz3⟩ := bel_on hB2 hb3
    have bx3 := bx2.on hb3
    have hv3 := hv.later hb3
    clear bx2 hb3 hv
    have x0 := bx3.c0
    have x1 := bx3.c1
    have x2 := bx3.c2
    have x3 := bx3.c3
    have x4 := bx3.c4
    have xl := bx3.lt
    go_wp2_with fail
    clear x0 x1 x2 x3 x4 xl
    refine (jumps_any _ _ _ _ _ _).mono ?_; rintro e w4 ⟨rfl, hb4⟩
    obtain ⟨hB4, hz4⟩ := bel_on hB3 hb4
    have bx4 := bx3.on hb4
    have hv4 := hv3.later hb4
    clear bx3 hb4 hv3
    have x0 := bx4.c0
    have x1 := bx4.c1
    have x2 := bx4.c2
    have x3 := bx4.c3
    have x4 := bx4.c4
    have xl := bx4.lt
    go_wp2_with fail
    clear x0 x1 x2 x3 x4 xl
    refine (right_any _ _ _ _ _ _).mono ?_; rintro e w5 ⟨rfl, hb5⟩
    obtain ⟨hB5, hz5⟩ := bel_on hB4 hb5
    have bx5 := bx4.on hb5
    have hv5 := hv4.later hb5
    clear bx4 hb5 hv4
    have x0 := bx5.c0
    have x1 := bx5.c1
    have x2 := bx5.c2
    have x3 := bx5.c3
    have x4 := bx5.c4
    have xl := bx5.lt
    have hu := HU.out
    rcases hu with hu | ⟨x, hu, hx0, hx1⟩ | ⟨x, y, hu, hx0, hxy, hy1⟩
    · rw [hu] at hv5
      clear hu HU
      rcases hv5 with ⟨_, rfl⟩ | ⟨blk, rfl, _, _, _⟩
      all_goals
        go_wp2_with fail
        go_loop [9] (fun k => k = .int .i64 0) (fun _ => 0)
        case atStart => rfl
        case round =>
          subst hrel
          go_wp2_with fail
          refine (text_any _ _ _ _ _ _ (hT.on hB5)).mono ?_; rintro e w6 ⟨rfl, hb6⟩
          obtain ⟨hB6, hz6⟩ := bel_on hB5 hb6
          clear hb6
          go_wp2_with fail
          go_ret
          exact ⟨ret_bool (decide_eq_true (by omega)), hB6⟩
    · rw [hu] at hv5
      clear hu HU
      rcases hv5 with ⟨hn, _⟩ | ⟨blk, rfl, _, _, hcl⟩
      · cases hn
      · have y0 : w5.cell? ⟨blk, 0, none⟩ = some (.int .i64 x) := hcl 0 (by simp)
        clear hcl
        have n0 : decide (x < 0) = false := by simp; omega
        have g0 : decide (16 ≤ x) = false := by simp; omega
        go_wp2_with fail
        go_loopw [9] (fun k wr => ∃ q, wr = w5.drewN q ∧ (k = .int .i64 0 ∨ k = .int .i64 1)) (fun k _ => (1 - intOf k).toNat)
        case atStart => exact ⟨0, rfl, .inl rfl⟩
        case round =>
          obtain ⟨q, rfl, rfl | rfl⟩ := hrel
          · go_wp2
            go_quiet (fail)
            go_wp2
            go_roundw
            case rel => exact ⟨q + nq, rfl, .inr rfl⟩
            case measure => simp [intOf]
          · go_wp2_with fail
            refine (text_any _ _ _ _ _ _ (hT.on (below_drewN hB5 q))).mono ?_; rintro e w6 ⟨rfl, hb6⟩
            obtain ⟨hB6, hz6⟩ := bel_on (below_drewN hB5 q) hb6
            clear hb6
            go_wp2_with fail
            go_ret
            exact ⟨ret_bool (decide_eq_true (by omega)), hB6⟩
    · rw [hu] at hv5
      clear hu HU
      rcases hv5 with ⟨hn, _⟩ | ⟨blk, rfl, _, _, hcl⟩
      · cases hn
      · have y0 : w5.cell? ⟨blk, 0, none⟩ = some (.int .i64 x) := hcl 0 (by simp)
        have y1 : w5.cell? ⟨blk, 1, none⟩ = some (.int .i64 y) := hcl 1 (by simp)
        clear hcl
        have n0 : decide (x < 0) = false := by simp; omega
        have g0 : decide (16 ≤ x) = false := by simp; omega
        have n1 : decide (y < 0) = false := by simp; omega
        have g1 : decide (16 ≤ y) = false := by simp; omega
        have m1 : decide (y ≤ x) = false := by simp; omega
        go_wp2_with fail
        go_loopw [9] (fun k wr => ∃ q, wr = w5.drewN q ∧ (k = .int .i64 0 ∨ k = .int .i64 1 ∨ k = .int .i64 2)) (fun k _ => (2 - intOf k).toNat)
        case atStart => exact ⟨0, rfl, .inl rfl⟩
        case round =>
          obtain ⟨q, rfl, rfl | rfl | rfl⟩ := hrel
          · go_wp2
            go_quiet (fail)
            go_wp2
            go_roundw
            case rel => exact ⟨q + nq, rfl, .inr (.inl rfl)⟩
            case measure => simp [intOf]
          · go_wp2
            go_quiet (fail)
            go_wp2
            go_roundw
            case rel => exact ⟨q + nq, rfl, .inr (.inr rfl)⟩
            case measure => simp [intOf]
          · go_wp2_with fail
            refine (text_any _ _ _ _ _ _ (hT.on (below_drewN hB5 q))).mono ?_; rintro e w6 ⟨rfl, hb6⟩
            obtain ⟨hB6, hz6⟩ := bel_on (below_drewN hB5 q) hb6
            clear hb6
            go_wp2_with fail
            go_ret
            exact ⟨ret_bool (decide_eq_true (by omega)), hB6⟩

end Go.Proofs.YtgfkbagkdhfnkaaDoor
