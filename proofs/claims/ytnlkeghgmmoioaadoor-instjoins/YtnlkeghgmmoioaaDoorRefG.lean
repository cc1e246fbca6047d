/-
  Contracts of the document's own Encode (layer 2), by walks over the translation.
-/
import Derived.Test.YtnlkeghgmmoioaaDoorRefC
namespace Go.Proofs.YtnlkeghgmmoioaaDoor
open Go.ChangeShapes Go.WideShapes Go.ChangeAt Go.RowKit


theorem refencode_no (o a b c i : Int) (h : rightB o a b c i = false) (w : World) :
    Calls Tryd.prog 11 #[.agg #[.int .i64 o, .int .i64 a, .int .i64 b, .int .i64 c, .int .i64 i]] w fun e w' => e = .returned (.tuple #[.slice none 0 0, .int .i64 1]) ∧ Below w.heap.size w w' := by
  go_enter Tryd.func11, Tryd.ntmps11
  go_wp2_with fail
  refine (refright_any _ _ _ _ _ _).mono ?_; rintro e w1 ⟨rfl, hb⟩
  obtain ⟨hB, hz⟩ := bel_box hb
  have bx := (XBox.new w o a b c i).on hb
  clear hb
  have x0 := bx.c0
  have x1 := bx.c1
  have x2 := bx.c2
  have x3 := bx.c3
  have x4 := bx.c4
  have xl := bx.lt
  go_wp2_with fail
  go_ret2
  exact ⟨rfl, hB⟩
theorem has_eight (W : World) (zs : List Int) (l : List UInt8) (hz : zs.map (Value.int .u8) = l.map fun x => Value.int .u8 (x.toNat : Int)) : HasBytes (W.alloc (.cells (zs.map (Value.int .u8)).toArray 5)) W.heap.size 0 l := fun j hj => by
  rw [Nat.zero_add, World.cell?_alloc_new, hz]
  simp [hj]
theorem refencode_pos (o a b c i : Int) (h : rightB o a b c i = true) (h0 : 0 ≤ i) (w : World) :
    Calls Tryd.prog 11 #[.agg #[.int .i64 o, .int .i64 a, .int .i64 b, .int .i64 c, .int .i64 i]] w fun e w' => ∃ v, e = .returned (.tuple #[v, .int .i64 0]) ∧ IsBytes w' w.heap.size v (encL o a b c i) ∧ Below w.heap.size w w' := by
  obtain ⟨hh, ⟨ha0, ha1⟩, ⟨hb0, hb1⟩, ⟨hc0, hc1⟩, ⟨hi0, hi1⟩⟩ := right_parts h
  obtain ⟨ho0, ho1⟩ := right_op h
  have hn : decide (i < 0) = false := by simp; omega
  go_enter Tryd.func11, Tryd.ntmps11
  go_wp2_with fail
  refine (refright_any _ _ _ _ _ _).mono ?_; rintro e w1 ⟨rfl, hb⟩
  obtain ⟨hB, hz⟩ := bel_box hb
  have bx := (XBox.new w o a b c i).on hb
  clear hb
  have x0 := bx.c0
  have x1 := bx.c1
  have x2 := bx.c2
  have x3 := bx.c3
  have x4 := bx.c4
  have xl := bx.lt
  go_wp2_with fail
  have hz : ([o, 16 * a + b, c, 0, i % 256, i / 256 % 256, i / 65536 % 256, i / 16777216] : List Int).map (Value.int .u8) = (encL o a b c i).map fun x => Value.int .u8 (x.toNat : Int) := by
    rw [← encL_cells h]
    refine congrArg (List.map (Value.int .u8)) ?_
    unfold encI
    simp only [List.cons.injEq, and_true]
    refine ⟨trivial, by omega, trivial, trivial, ?_, ?_, ?_, ?_⟩ <;> first | trivial | omega
  go_ret2
  exact ⟨_, rfl, .inr ⟨w1.heap.size, 8, rfl, hB.size, by simp, has_eight w1 [o, 16 * a + b, c, 0, i % 256, i / 256 % 256, i / 65536 % 256, i / 16777216] _ hz⟩, hB.alloc hB.size _⟩
theorem refencode_neg (o a b c i : Int) (h : rightB o a b c i = true) (h0 : i < 0) (w : World) :
    Calls Tryd.prog 11 #[.agg #[.int .i64 o, .int .i64 a, .int .i64 b, .int .i64 c, .int .i64 i]] w fun e w' => ∃ v, e = .returned (.tuple #[v, .int .i64 0]) ∧ IsBytes w' w.heap.size v (encL o a b c i) ∧ Below w.heap.size w w' := by
  obtain ⟨hh, ⟨ha0, ha1⟩, ⟨hb0, hb1⟩, ⟨hc0, hc1⟩, ⟨hi0, hi1⟩⟩ := right_parts h
  obtain ⟨ho0, ho1⟩ := right_op h
  go_enter Tryd.func11, Tryd.ntmps11
  go_wp2_with fail
  refine (refright_any _ _ _ _ _ _).mono ?_; rintro e w1 ⟨rfl, hb⟩
  obtain ⟨hB, hz⟩ := bel_box hb
  have bx := (XBox.new w o a b c i).on hb
  clear hb
  have x0 := bx.c0
  have x1 := bx.c1
  have x2 := bx.c2
  have x3 := bx.c3
  have x4 := bx.c4
  have xl := bx.lt
  go_wp2_with fail
  have hz : ([o, 16 * a + b, c, 0, (i + 4294967296) % 256, (i + 4294967296) / 256 % 256, (i + 4294967296) / 65536 % 256, (i + 4294967296) / 16777216] : List Int).map (Value.int .u8) = (encL o a b c i).map fun x => Value.int .u8 (x.toNat : Int) := by
    rw [← encL_cells h]
    refine congrArg (List.map (Value.int .u8)) ?_
    unfold encI
    simp only [List.cons.injEq, and_true]
    refine ⟨trivial, by omega, trivial, trivial, ?_, ?_, ?_, ?_⟩ <;> first | trivial | omega
  go_ret2
  exact ⟨_, rfl, .inr ⟨w1.heap.size, 8, rfl, hB.size, by simp, has_eight w1 [o, 16 * a + b, c, 0, (i + 4294967296) % 256, (i + 4294967296) / 256 % 256, (i + 4294967296) / 65536 % 256, (i + 4294967296) / 16777216] _ hz⟩, hB.alloc hB.size _⟩
theorem refencode_yes (o a b c i : Int) (h : rightB o a b c i = true) (w : World) :
    Calls Tryd.prog 11 #[.agg #[.int .i64 o, .int .i64 a, .int .i64 b, .int .i64 c, .int .i64 i]] w fun e w' => ∃ v, e = .returned (.tuple #[v, .int .i64 0]) ∧ IsBytes w' w.heap.size v (encL o a b c i) ∧ Below w.heap.size w w' := by
  by_cases h0 : 0 ≤ i
  · exact refencode_pos o a b c i h h0 w
  · exact refencode_neg o a b c i h (by omega) w

end Go.Proofs.YtnlkeghgmmoioaaDoor
