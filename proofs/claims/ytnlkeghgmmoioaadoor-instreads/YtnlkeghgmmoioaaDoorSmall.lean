/-
  Contract of the laws' small case (layer 2), by walks over the translation.
-/
import Derived.Test.YtnlkeghgmmoioaaDoorInts
namespace Go.Proofs.YtnlkeghgmmoioaaDoor
open Go.ChangeShapes Go.WideShapes Go.ChangeAt Go.RowKit


/-- An instruction's box: its five cells, and that it is there. -/
structure XBox (W : World) (k : Nat) (o a b c i : Int) : Prop where
  c0 : W.cell? ⟨k, 0, none⟩ = some (.int .i64 o)
  c1 : W.cell? ⟨k, 1, none⟩ = some (.int .i64 a)
  c2 : W.cell? ⟨k, 2, none⟩ = some (.int .i64 b)
  c3 : W.cell? ⟨k, 3, none⟩ = some (.int .i64 c)
  c4 : W.cell? ⟨k, 4, none⟩ = some (.int .i64 i)
  lt : k < W.heap.size
theorem XBox.new (W : World) (o a b c i : Int) : XBox (W.alloc (.cells #[.int .i64 o, .int .i64 a, .int .i64 b, .int .i64 c, .int .i64 i] 23)) W.heap.size o a b c i :=
  ⟨by rw [World.cell?_alloc_new]; rfl, by rw [World.cell?_alloc_new]; rfl, by rw [World.cell?_alloc_new]; rfl, by rw [World.cell?_alloc_new]; rfl, by rw [World.cell?_alloc_new]; rfl, by simp⟩
theorem XBox.on {W W' : World} {k : Nat} {o a b c i : Int} (h : XBox W k o a b c i) (hb : Below W.heap.size W W') : XBox W' k o a b c i :=
  ⟨(hb.cell (p := ⟨k, 0, none⟩) h.lt).trans h.c0, (hb.cell (p := ⟨k, 1, none⟩) h.lt).trans h.c1, (hb.cell (p := ⟨k, 2, none⟩) h.lt).trans h.c2, (hb.cell (p := ⟨k, 3, none⟩) h.lt).trans h.c3, (hb.cell (p := ⟨k, 4, none⟩) h.lt).trans h.c4, Nat.lt_of_lt_of_le h.lt hb.size⟩
theorem XBox.past {W : World} {k : Nat} {o a b c i : Int} (h : XBox W k o a b c i) (X : Obj) : XBox (W.alloc X) k o a b c i := h.on ((Below.refl _ _).alloc (Nat.le_refl _) _)

theorem d1 : decR (encL 1 3 0 0 (-1)) = .tuple #[.agg #[.int .i64 1, .int .i64 3, .int .i64 0, .int .i64 0, .int .i64 (-1)], .int .i64 0] := by kernel_rfl
theorem d2 : decR [10, 0, 0, 1, 0, 0, 0, 0] = .tuple #[.agg #[.int .i64 0, .int .i64 0, .int .i64 0, .int .i64 0, .int .i64 0], .int .i64 2] := by kernel_rfl
theorem d3 : encL 1 3 0 0 (-1) = [1, 48, 0, 0, 255, 255, 255, 255] := by decide +kernel
theorem d4 : textL 1 3 0 0 (-1) = [108, 105, 32, 114, 51, 32, 45, 49] := by decide +kernel
theorem d5 : textL 4 1 2 3 1 = [98, 105, 110, 46, 49, 32, 114, 49, 32, 114, 50, 32, 114, 51] := by decide +kernel
theorem d6 : usesL 10 0 0 0 0 = [15] := by decide +kernel
theorem has_ten (W : World) (k : Nat) (hk : k = W.heap.size) : HasBytes (W.alloc (.cells #[.int .u8 10, .int .u8 0, .int .u8 0, .int .u8 1, .int .u8 0, .int .u8 0, .int .u8 0, .int .u8 0] 5)) k 0 [10, 0, 0, 1, 0, 0, 0, 0] := fun j hj => by
  subst hk
  rw [Nat.zero_add, World.cell?_alloc_new]
  have : j = 0 ∨ j = 1 ∨ j = 2 ∨ j = 3 ∨ j = 4 ∨ j = 5 ∨ j = 6 ∨ j = 7 := by simp at hj; omega
  rcases this with rfl | rfl | rfl | rfl | rfl | rfl | rfl | rfl <;> rfl
theorem bel_next2 {w w1 w2 : World} {X Y : Obj} (h1 : Below w.heap.size w w1) (h : Below ((w1.alloc X).alloc Y).heap.size ((w1.alloc X).alloc Y) w2) : Below w.heap.size w w2 ∧ w1.heap.size + 1 < w2.heap.size :=
  ⟨((h1.alloc h1.size _).alloc (by have := h1.size; simp; omega) _).trans (h.mono (by have := h1.size; simp; omega)), by have := h.size; simp at this; omega⟩
theorem below_one {w1 w2 : World} {X : Obj} (h : Below (w1.alloc X).heap.size (w1.alloc X) w2) : Below w1.heap.size w1 w2 := ((Below.refl _ _).alloc (Nat.le_refl _) _).trans (h.mono (by simp))
theorem below_two {w1 w2 : World} {X Y : Obj} (h : Below ((w1.alloc X).alloc Y).heap.size ((w1.alloc X).alloc Y) w2) : Below w1.heap.size w1 w2 := (((Below.refl _ _).alloc (Nat.le_refl _) _).alloc (by simp) _).trans (h.mono (by simp; omega))

set_option maxRecDepth 100000 in
set_option maxHeartbeats 1000000 in
theorem small_any (w : World) (hT : Tabs w) :
    Calls Tryd.prog 9 #[] w fun e w' => e = .returned (.bool true) ∧ Below w.heap.size w w' := by
  go_enter Tryd.func9, Tryd.ntmps9
  go_wp2_with fail
  refine (encode_yes 1 3 0 0 (-1) (by decide +kernel) _).mono ?_; rintro e w1 ⟨v1, rfl, hv1, hb1⟩
  obtain ⟨hB1, hz1⟩ := bel_box hb1
  have bx := (XBox.new w 1 3 0 0 (-1)).on hb1
  clear hb1
  go_wp2_with fail
  refine (decode_own hv1).mono ?_; rintro e w2 ⟨rfl, hb2⟩
  rw [d1]
  obtain ⟨hB2, hz2⟩ := bel_on hB1 hb2
  have bx2 := bx.on hb2
  have hv2 := hv1.later hb2
  clear bx hb2 hv1
  go_wp2_with fail
  refine (decode_any (w2.heap.size + 1) 0 8 [10, 0, 0, 1, 0, 0, 0, 0] _ (by simp) (has_ten _ _ (by simp))).mono ?_; rintro e w3 ⟨rfl, hb3⟩
  rw [d2]
  obtain ⟨hB3, hz3⟩ := bel_next2 hB2 hb3
  have bx3 := bx2.on (below_two hb3)
  have by3 := ((XBox.new w2 1 3 0 0 (-1)).past _).on hb3
  have hv3 := hv2.later (below_two hb3)
  clear bx2 hb3 hv2
  have x0 := bx3.c0
  have x1 := bx3.c1
  have x2 := bx3.c2
  have x3 := bx3.c3
  have x4 := bx3.c4
  have xl := bx3.lt
  have y0 := by3.c0
  have y1 := by3.c1
  have y2 := by3.c2
  have y3 := by3.c3
  have y4 := by3.c4
  have yl := by3.lt
  go_wp2_with fail
  clear x0 x1 x2 x3 x4 xl
  clear y0 y1 y2 y3 y4 yl
  refine (sets_any 1 3 0 0 (-1) _).mono ?_; rintro e w4 ⟨rfl, hb4⟩
  rw [show setsV 1 3 0 0 (-1) = 3 by decide +kernel, show setsB 1 3 0 0 (-1) = true by decide +kernel]
  obtain ⟨hB4, hz4⟩ := bel_next hB3 hb4
  have bx4 := bx3.on (below_one hb4)
  have by4 := by3.on (below_one hb4)
  have hcv := (hv3.later (below_one hb4)).conv
  clear bx3 by3 hb4 hv3
  rw [d3] at hcv
  have t1 : (bs [1, 48, 0, 0, 255, 255, 255, 255]).toList = [1, 48, 0, 0, 255, 255, 255, 255] := by decide +kernel
  have t2 : (bs [108, 105, 32, 114, 51, 32, 45, 49]).toList = [108, 105, 32, 114, 51, 32, 45, 49] := by decide +kernel
  have t3 : (bs [98, 105, 110, 46, 49, 32, 114, 49, 32, 114, 50, 32, 114, 51]).toList = [98, 105, 110, 46, 49, 32, 114, 49, 32, 114, 50, 32, 114, 51] := by decide +kernel
  have x0 := bx4.c0
  have x1 := bx4.c1
  have x2 := bx4.c2
  have x3 := bx4.c3
  have x4 := bx4.c4
  have xl := bx4.lt
  have y0 := by4.c0
  have y1 := by4.c1
  have y2 := by4.c2
  have y3 := by4.c3
  have y4 := by4.c4
  have yl := by4.lt
  go_wp2_with fail
  clear x0 x1 x2 x3 x4 xl
  clear y0 y1 y2 y3 y4 yl
  refine (text_any 1 3 0 0 (-1) _ (hT.on hB4)).mono ?_; rintro e w5 ⟨rfl, hb5⟩
  rw [d4]
  obtain ⟨hB5, hz5⟩ := bel_on hB4 hb5
  clear hb5 hcv
  go_wp2_with fail
  refine (text_any 4 1 2 3 1 _ (hT.on hB5)).mono ?_; rintro e w6 ⟨rfl, hb6⟩
  rw [d5]
  obtain ⟨hB6, hz6⟩ := bel_on hB5 hb6
  clear hb6
  go_wp2_with fail
  refine (uses_any 10 0 0 0 0 _).mono ?_; rintro e w7 ⟨v7, rfl, hv7, hb7⟩
  rw [d6] at hv7
  obtain ⟨hB7, hz7⟩ := bel_on hB6 hb7
  clear hb7
  go_wp2_with fail
  refine (ints_same (by decide) (hv7.later ((Below.refl _ _).alloc (Nat.le_refl _) _)) (isInts_one w7 0 15 (Nat.zero_le _))).mono ?_; rintro e w8 ⟨rfl, hb8⟩
  obtain ⟨hB8, hz8⟩ := bel_next hB7 hb8
  clear hb8
  go_wp2_with fail
  go_ret
  exact ⟨rfl, hB8⟩

end Go.Proofs.YtnlkeghgmmoioaaDoor
