/-
  The law InstFields at an instruction that is not right (layer 2), by walks over the translation.
-/
import Derived.Test.YtgfkbagkdhfnkaaDoorSmall
namespace Go.Proofs.YtgfkbagkdhfnkaaDoor
open Go.ChangeShapes Go.WideShapes Go.ChangeAt Go.RowKit


set_option maxRecDepth 100000 in
set_option maxHeartbeats 1000000 in
theorem fields_no (o a b c i : Int) (hr : rightB o a b c i = false) (w : World) (hT : Tabs w) :
    Calls Tryd.prog 7 #[.agg #[.int .i64 o, .int .i64 a, .int .i64 b, .int .i64 c, .int .i64 i]] w fun e w' => e = .returned (.bool true) ∧ Below w.heap.size w w' := by
  have hu : usesL o a b c i = [] := by unfold usesL; rw [hr]; rfl
  have hs : setsV o a b c i = 0 := by unfold setsV; rw [hr]; rfl
  have hs' : setsB o a b c i = false := by unfold setsB; rw [hr]; rfl
  have hj' : jmpB o a b c i = false := by unfold jmpB; rw [hr]; rfl
  have hj : jmpV o a b c i = 0 := by unfold jmpV; rw [hj']; rfl
  have ht : textL o a b c i = [63] := by unfold textL; rw [hr]; rfl
  have HU : Hid (usesL o a b c i = []) := hu
  clear hu
  have t1 : (bs [63]).toList = [63] := by decide +kernel
  go_enter Tryd.func7, Tryd.ntmps7
  go_wp2_with fail
  refine (small_any _ (hT.box _)).mono ?_; rintro e w1 ⟨rfl, hb1⟩
  obtain ⟨hB1, hz1⟩ := bel_box hb1
  have bx1 := (XBox.new w o a b c i).on hb1
  clear hb1
  have x0 := bx1.c0
  have x1 := bx1.c1
  have x2 := bx1.c2
  have x3 := bx1.c3
  have x4 := bx1.c4
  have xl := bx1.lt
  go_wp2_with fail
  clear x0 x1 x2 x3 x4 xl
  refine (uses_any _ _ _ _ _ _).mono ?_; rintro e w2 ⟨v, rfl, hv, hb2⟩
  obtain ⟨hB2, hz2⟩ := bel_on hB1 hb2
  have bx2 := bx1.on hb2
  clear bx1 hb2
  have x0 := bx2.c0
  have x1 := bx2.c1
  have x2 := bx2.c2
  have x3 := bx2.c3
  have x4 := bx2.c4
  have xl := bx2.lt
  go_wp2_with fail
  clear x0 x1 x2 x3 x4 xl
  refine (sets_any _ _ _ _ _ _).mono ?_; rintro e w3 ⟨rfl, hb3⟩
  obtain ⟨hB3, hz3⟩ := bel_on hB2 hb3
  have bx3 := bx2.on hb3
  have hv3 := hv.later hb3
  clear bx2 hb3 hv
  have x0 := bx3.c0
  have x1 := bx3.c1
  have x2 := bx3.c2
  have x3 := bx3.c3
  have x4 := bx3.c4
  have xl := bx3.lt
  go_wp2_with fail
  clear x0 x1 x2 x3 x4 xl
  refine (jumps_any _ _ _ _ _ _).mono ?_; rintro e w4 ⟨rfl, hb4⟩
  obtain ⟨hB4, hz4⟩ := bel_on hB3 hb4
  have bx4 := bx3.on hb4
  have hv4 := hv3.later hb4
  clear bx3 hb4 hv3
  have x0 := bx4.c0
  have x1 := bx4.c1
  have x2 := bx4.c2
  have x3 := bx4.c3
  have x4 := bx4.c4
  have xl := bx4.lt
  go_wp2_with fail
  clear x0 x1 x2 x3 x4 xl
  refine (right_any _ _ _ _ _ _).mono ?_; rintro e w5 ⟨rfl, hb5⟩
  obtain ⟨hB5, hz5⟩ := bel_on hB4 hb5
  have bx5 := bx4.on hb5
  have hv5 := hv4.later hb5
  clear bx4 hb5 hv4
  have x0 := bx5.c0
  have x1 := bx5.c1
  have x2 := bx5.c2
  have x3 := bx5.c3
  have x4 := bx5.c4
  have xl := bx5.lt
  rw [HU.out] at hv5
  rcases hv5 with ⟨_, rfl⟩ | ⟨blk, rfl, _, _, _⟩
  all_goals
    go_wp2_with fail
    refine (text_any _ _ _ _ _ _ (hT.on hB5)).mono ?_; rintro e w6 ⟨rfl, hb6⟩
    obtain ⟨hB6, hz6⟩ := bel_on hB5 hb6
    clear hb6
    go_wp2_with fail
    go_ret
    exact ⟨rfl, hB6⟩

end Go.Proofs.YtgfkbagkdhfnkaaDoor
