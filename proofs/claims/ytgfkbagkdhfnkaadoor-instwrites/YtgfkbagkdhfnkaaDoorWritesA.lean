/-
  The law InstWrites at an instruction that is not right (layer 2), by walks over the translation.
-/
import Derived.Test.YtgfkbagkdhfnkaaDoorRefD
import Derived.Test.YtgfkbagkdhfnkaaDoorRefE
import Derived.Test.YtgfkbagkdhfnkaaDoorRefG
import Derived.Test.YtgfkbagkdhfnkaaDoorRefH
namespace Go.Proofs.YtgfkbagkdhfnkaaDoor
open Go.ChangeShapes Go.WideShapes Go.ChangeAt Go.RowKit


theorem uses_len (o a b c i : Int) : (usesL o a b c i).length < 1000 := by
  unfold usesL useK rise
  (repeat' split) <;> simp

theorem refright_is {x : Bool} {o a b c i : Int} (h : rightB o a b c i = x) (w : World) :
    Calls Tryd.prog 17 #[.agg #[.int .i64 o, .int .i64 a, .int .i64 b, .int .i64 c, .int .i64 i]] w fun e w' => e = .returned (.bool x) ∧ Below w.heap.size w w' := by rw [← h]; exact refright_any o a b c i w
/-- What holds of every world that the law's last line passes through. -/
structure SW (w : World) (k : Nat) (o a b c i : Int) (v1 v2 : Value) (l : List UInt8) (W : World) : Prop where
  bx : XBox W k o a b c i
  tabs : Tabs W
  below : Below w.heap.size w W
  b1 : IsBytes W 0 v1 l
  b2 : IsBytes W 0 v2 l
theorem SW.on {w : World} {k : Nat} {o a b c i : Int} {v1 v2 : Value} {l : List UInt8} {W W' : World} (hb : Below W.heap.size W W') (h : SW w k o a b c i v1 v2 l W) : SW w k o a b c i v1 v2 l W' :=
  ⟨h.bx.on hb, h.tabs.on hb, (bel_on h.below hb).1, h.b1.later hb, h.b2.later hb⟩
theorem SW.on2 {w : World} {k : Nat} {o a b c i : Int} {v1 v2 : Value} {l : List UInt8} {n : Nat} {W W' : World} (hb : Below n W W') (hn : n = W.heap.size) (h : SW w k o a b c i v1 v2 l W) : SW w k o a b c i v1 v2 l W' := by subst hn; exact h.on hb
theorem SW.drew {w : World} {k : Nat} {o a b c i : Int} {v1 v2 : Value} {l : List UInt8} {W : World} (h : SW w k o a b c i v1 v2 l W) : SW w k o a b c i v1 v2 l W.drew := h.on (Below.refl _ _).drew
theorem isBytes_nil (W : World) (n : Nat) : IsBytes W n (.slice none 0 0) [] := .inl ⟨rfl, rfl⟩

set_option maxRecDepth 100000 in
set_option maxHeartbeats 4000000 in
theorem writes_no (o a b c i : Int) (hr : rightB o a b c i = false) (w : World) (hT : Tabs w) :
    Calls Tryd.prog 3 #[.agg #[.int .i64 o, .int .i64 a, .int .i64 b, .int .i64 c, .int .i64 i]] w fun e w' => e = .returned (.bool true) ∧ Below w.heap.size w w' := by
  have hu := uses_len o a b c i
  go_enter Tryd.func3, Tryd.ntmps3
  go_wp2_with fail
  refine (small_any _ (hT.box _)).mono ?_; rintro e w1 ⟨rfl, hb1⟩
  obtain ⟨hB1, hz1⟩ := bel_box hb1
  have bx1 := (XBox.new w o a b c i).on hb1
  clear hb1
  have x0 := bx1.c0
  have x1 := bx1.c1
  have x2 := bx1.c2
  have x3 := bx1.c3
  have x4 := bx1.c4
  have xl := bx1.lt
  go_wp2_with fail
  clear x0 x1 x2 x3 x4 xl
  refine (encode_no _ _ _ _ _ hr _).mono ?_; rintro e w2 ⟨rfl, hb2⟩
  obtain ⟨hB2, hz2⟩ := bel_on hB1 hb2
  have bx2 := bx1.on hb2
  clear bx1 hb2
  have x0 := bx2.c0
  have x1 := bx2.c1
  have x2 := bx2.c2
  have x3 := bx2.c3
  have x4 := bx2.c4
  have xl := bx2.lt
  go_wp2_with fail
  clear x0 x1 x2 x3 x4 xl
  refine (refencode_no _ _ _ _ _ hr _).mono ?_; rintro e w3 ⟨rfl, hb3⟩
  obtain ⟨hB3, hz3⟩ := bel_on hB2 hb3
  have bx3 := bx2.on hb3
  clear bx2 hb3
  have x0 := bx3.c0
  have x1 := bx3.c1
  have x2 := bx3.c2
  have x3 := bx3.c3
  have x4 := bx3.c4
  have xl := bx3.lt
  go_wp2_with fail
  clear x0 x1 x2 x3 x4 xl
  refine (sets_any _ _ _ _ _ _).mono ?_; rintro e w4 ⟨rfl, hb4⟩
  obtain ⟨hB4, hz4⟩ := bel_on hB3 hb4
  have bx4 := bx3.on hb4
  clear bx3 hb4
  have x0 := bx4.c0
  have x1 := bx4.c1
  have x2 := bx4.c2
  have x3 := bx4.c3
  have x4 := bx4.c4
  have xl := bx4.lt
  go_wp2_with fail
  clear x0 x1 x2 x3 x4 xl
  refine (refsets_any _ _ _ _ _ _).mono ?_; rintro e w5 ⟨rfl, hb5⟩
  obtain ⟨hB5, hz5⟩ := bel_on hB4 hb5
  have bx5 := bx4.on hb5
  clear bx4 hb5
  have x0 := bx5.c0
  have x1 := bx5.c1
  have x2 := bx5.c2
  have x3 := bx5.c3
  have x4 := bx5.c4
  have xl := bx5.lt
  go_wp2_with fail
  clear x0 x1 x2 x3 x4 xl
  refine (jumps_any _ _ _ _ _ _).mono ?_; rintro e w6 ⟨rfl, hb6⟩
  obtain ⟨hB6, hz6⟩ := bel_on hB5 hb6
  have bx6 := bx5.on hb6
  clear bx5 hb6
  have x0 := bx6.c0
  have x1 := bx6.c1
  have x2 := bx6.c2
  have x3 := bx6.c3
  have x4 := bx6.c4
  have xl := bx6.lt
  go_wp2_with fail
  clear x0 x1 x2 x3 x4 xl
  refine (refjumps_any _ _ _ _ _ _).mono ?_; rintro e w7 ⟨rfl, hb7⟩
  obtain ⟨hB7, hz7⟩ := bel_on hB6 hb7
  have bx7 := bx6.on hb7
  clear bx6 hb7
  have x0 := bx7.c0
  have x1 := bx7.c1
  have x2 := bx7.c2
  have x3 := bx7.c3
  have x4 := bx7.c4
  have xl := bx7.lt
  go_wp2_with fail
  clear x0 x1 x2 x3 x4 xl
  have hS : SW w w.heap.size o a b c i (.slice none 0 0) (.slice none 0 0) [] w7 := ⟨bx7, hT.on hB7, hB7, isBytes_nil _ _, isBytes_nil _ _⟩
  clear bx7
  have r0 : ∀ W, SW w w.heap.size o a b c i (.slice none 0 0) (.slice none 0 0) [] W → W.cell? ⟨w.heap.size, 0, none⟩ = some (.int .i64 o) := fun W h => h.bx.c0
  have r1 : ∀ W, SW w w.heap.size o a b c i (.slice none 0 0) (.slice none 0 0) [] W → W.cell? ⟨w.heap.size, 1, none⟩ = some (.int .i64 a) := fun W h => h.bx.c1
  have r2 : ∀ W, SW w w.heap.size o a b c i (.slice none 0 0) (.slice none 0 0) [] W → W.cell? ⟨w.heap.size, 2, none⟩ = some (.int .i64 b) := fun W h => h.bx.c2
  have r3 : ∀ W, SW w w.heap.size o a b c i (.slice none 0 0) (.slice none 0 0) [] W → W.cell? ⟨w.heap.size, 3, none⟩ = some (.int .i64 c) := fun W h => h.bx.c3
  have r4 : ∀ W, SW w w.heap.size o a b c i (.slice none 0 0) (.slice none 0 0) [] W → W.cell? ⟨w.heap.size, 4, none⟩ = some (.int .i64 i) := fun W h => h.bx.c4
  have q1 : ∀ W, SW w w.heap.size o a b c i (.slice none 0 0) (.slice none 0 0) [] W → (convert 25 9 (.slice none 0 0)).run Tryd.prog W = .ok (.string (bs [])) W := fun W h => h.b1.conv
  clear hB1 hB2 hB3 hB4 hB5 hB6 hB7 hz1 hz2 hz3 hz4 hz5 hz6 hz7
  go_region_held3 (SW w w.heap.size o a b c i (.slice none 0 0) (.slice none 0 0) []) ((first | exact hS.drew | exact SW.on2 hb14 rfl (by assumption) | exact SW.on2 hb13 rfl (by assumption) | exact SW.on2 hb12 rfl (by assumption) | exact SW.on2 hb11 rfl (by assumption) | exact SW.on2 hb10 rfl (by assumption) | exact SW.on2 hb9 rfl (by assumption) | exact SW.on2 hb8 rfl (by assumption))) ((first | (go_at_call 16; refine (right_is hr _).mono ?_; rintro e W8 ⟨rfl, hb8⟩) | (go_at_call 17; refine (refright_is hr _).mono ?_; rintro e W9 ⟨rfl, hb9⟩) | (go_at_call 18; refine (text_any _ _ _ _ _ _ (SW.tabs (by assumption))).mono ?_; rintro e W10 ⟨rfl, hb10⟩) | (go_at_call 19; refine (reftext_any _ _ _ _ _ _).mono ?_; rintro e W11 ⟨rfl, hb11⟩) | (go_at_call 21; refine (uses_any _ _ _ _ _ _).mono ?_; rintro e W12 ⟨v12, rfl, hv12, hb12⟩) | (go_at_call 22; refine (refuses_any _ _ _ _ _ _).mono ?_; rintro e W13 ⟨v13, rfl, hv13, hb13⟩) | (go_at_call 20; refine (ints_same hu (hv12.later hb13) hv13).mono ?_; rintro e W14 ⟨rfl, hb14⟩)))
  all_goals
    go_wp2_with fail
    go_ret
    exact ⟨rfl, SW.below (by assumption)⟩

end Go.Proofs.YtgfkbagkdhfnkaaDoor
