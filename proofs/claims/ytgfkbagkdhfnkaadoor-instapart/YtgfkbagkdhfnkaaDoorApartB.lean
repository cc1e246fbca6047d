/-
  The law InstApart at two right instructions (layer 2), by walks over the translation.
-/
import Derived.Test.YtgfkbagkdhfnkaaDoorApartA
namespace Go.Proofs.YtgfkbagkdhfnkaaDoor
open Go.ChangeShapes Go.WideShapes Go.ChangeAt Go.RowKit


set_option maxRecDepth 100000 in
set_option maxHeartbeats 2000000 in
theorem apart_same (o a b c i : Int) (hr : rightB o a b c i = true) (av : Option Addr) (cap : Nat) (l : List UInt8) (w : World) (hT : Tabs w) (hb : BArg w (.slice av l.length cap) l) :
    Calls Tryd.prog 6 #[.agg #[.int .i64 o, .int .i64 a, .int .i64 b, .int .i64 c, .int .i64 i], .agg #[.int .i64 o, .int .i64 a, .int .i64 b, .int .i64 c, .int .i64 i], .slice av l.length cap] w fun e w' => e = .returned (.bool true) ∧ Below w.heap.size w w' := by
  go_enter Tryd.func6, Tryd.ntmps6
  go_wp2_with fail
  refine (small_any _ ((hT.box _).box _)).mono ?_; rintro e w1 ⟨rfl, hb1⟩
  have hB1 := below_two hb1
  have bx1 := ((XBox.new w o a b c i).past _).on hb1
  have by1 := (XBox.new (w.alloc _) o a b c i).on hb1
  rw [World.size_alloc] at by1
  clear hb1
  have x0 := bx1.c0
  have x1 := bx1.c1
  have x2 := bx1.c2
  have x3 := bx1.c3
  have x4 := bx1.c4
  have xl := bx1.lt
  go_wp2_with fail
  clear x0 x1 x2 x3 x4 xl
  refine (encode_yes _ _ _ _ _ hr _).mono ?_; rintro e w2 ⟨v1, rfl, hv1, hb2⟩
  obtain ⟨hB2, hz2⟩ := bel_on hB1 hb2
  have bx2 := bx1.on hb2
  have by2 := by1.on hb2
  clear bx1 by1 hb2
  have y0 := by2.c0
  have y1 := by2.c1
  have y2 := by2.c2
  have y3 := by2.c3
  have y4 := by2.c4
  have yl := by2.lt
  go_wp2_with fail
  clear y0 y1 y2 y3 y4 yl
  refine (encode_yes _ _ _ _ _ hr _).mono ?_; rintro e w3 ⟨v2, rfl, hv2, hb3⟩
  obtain ⟨hB3, hz3⟩ := bel_on hB2 hb3
  have bx3 := bx2.on hb3
  have by3 := by2.on hb3
  have cv1 := fun d os => ((hv1.later hb3).later (below_regrown w3 d os)).conv
  have cv2 := fun d os => (hv2.later (below_regrown w3 d os)).conv
  clear bx2 by2 hb3
  have x0 := fun d os => cell_regrown bx3.c0 d os
  have x1 := fun d os => cell_regrown bx3.c1 d os
  have x2 := fun d os => cell_regrown bx3.c2 d os
  have x3 := fun d os => cell_regrown bx3.c3 d os
  have x4 := fun d os => cell_regrown bx3.c4 d os
  have y0 := fun d os => cell_regrown by3.c0 d os
  have y1 := fun d os => cell_regrown by3.c1 d os
  have y2 := fun d os => cell_regrown by3.c2 d os
  have y3 := fun d os => cell_regrown by3.c3 d os
  have y4 := fun d os => cell_regrown by3.c4 d os
  have CR : Hid (∀ d os, Calls Tryd.prog 16 #[.agg #[.int .i64 o, .int .i64 a, .int .i64 b, .int .i64 c, .int .i64 i]] (Sort.grow (redrawn w3 d) os) fun e w'' => e = .returned (.bool true) ∧ ∃ p : Regrown, w'' = Sort.grow (redrawn w3 p.d) p.os) := fun d os => Calls.regrown_of (right_is hr _)
  have CT : Hid (∀ d os, Calls Tryd.prog 18 #[.agg #[.int .i64 o, .int .i64 a, .int .i64 b, .int .i64 c, .int .i64 i]] (Sort.grow (redrawn w3 d) os) fun e w'' => e = .returned (.string (bs (textL o a b c i))) ∧ ∃ p : Regrown, w'' = Sort.grow (redrawn w3 p.d) p.os) := fun d os => Calls.regrown_of (text_any o a b c i _ (hT.on (bel_on hB3 (below_regrown w3 d os)).1))
  have eqd := fun W => eql_same o a b c i W
  go_wp2_with fail
  refine wp_region_quiet_below (by kernel_rfl) (by kernel_rfl) ?_
  repeat (go_big_quiet_step (first | (go_at_call 16; exact CR.out _ _) | (go_at_call_of 18 o; exact CT.out _ _)))
  refine wpQuiet_nil ?_
  intro w4 hw'
  have hb4 : Below w3.heap.size w3 w4 := by obtain ⟨⟨dq, osq⟩, hw''⟩ := hw'; rw [hw'']; exact below_regrown w3 dq osq
  obtain ⟨hB4, hz4⟩ := bel_on hB3 hb4
  clear hw' hb4 bx3 by3
  clear eqd cv1 cv2 y0 y1 y2 y3 y4
  clear x0 x1 x2 x3 x4
  have hba := hb.later hB4
  by_cases hlong : (1024 : Int) < (l.length : Int)
  · go_wp2_with fail
    go_ret
    exact ⟨rfl, hB4⟩
  rcases decR_cases l with hd | ⟨p, q, r, s, t, hz, hl, hd⟩
  · go_wp2_with fail
    refine (hba.decode).mono ?_; rintro e w5 ⟨rfl, hb5⟩
    obtain ⟨hB5, hz5⟩ := bel_on hB4 hb5
    clear hb5
    rw [hd]
    go_wp2_with fail
    go_ret
    exact ⟨rfl, hB5.alloc hB5.size _⟩
  · go_wp2_with fail
    refine (hba.decode).mono ?_; rintro e w5 ⟨rfl, hb5⟩
    obtain ⟨hB5, hz5⟩ := bel_on hB4 hb5
    have hba5 := hba.later hb5
    clear hb5 hba
    rw [hd]
    go_wp2_with fail
    refine (encode_yes _ _ _ _ _ hz _).mono ?_; rintro e w6 ⟨v3, rfl, hv3, hb6⟩
    obtain ⟨hB6, hz6⟩ := bel_next hB5 hb6
    have bz6 := (XBox.new w5 p q r s t).on hb6
    have hba6 := hba5.later (below_one hb6)
    clear hb6 hba5
    have x0 := bz6.c0
    have x1 := bz6.c1
    have x2 := bz6.c2
    have x3 := bz6.c3
    have x4 := bz6.c4
    have xl := bz6.lt
    go_wp2_with fail
    refine (right_is hz _).mono ?_; rintro e w7 ⟨rfl, hb7⟩
    obtain ⟨hB7, hz7⟩ := bel_on hB6 hb7
    have cv1 := (hv3.later hb7).conv
    have cv2 := (hba6.later hb7).conv
    clear hb7 hv3 hba6
    rw [hl] at cv1
    go_wp2_with fail
    go_ret
    exact ⟨rfl, hB7⟩

set_option maxRecDepth 100000 in
set_option maxHeartbeats 2000000 in
theorem apart_diff (o a b c i o' a' b' c' i' : Int) (hr : rightB o a b c i = true) (hr' : rightB o' a' b' c' i' = true) (hne : ¬ (o = o' ∧ a = a' ∧ b = b' ∧ c = c' ∧ i = i')) (av : Option Addr) (cap : Nat) (l : List UInt8) (w : World) (hT : Tabs w) (hb : BArg w (.slice av l.length cap) l) :
    Calls Tryd.prog 6 #[.agg #[.int .i64 o, .int .i64 a, .int .i64 b, .int .i64 c, .int .i64 i], .agg #[.int .i64 o', .int .i64 a', .int .i64 b', .int .i64 c', .int .i64 i'], .slice av l.length cap] w fun e w' => e = .returned (.bool true) ∧ Below w.heap.size w w' := by
  go_enter Tryd.func6, Tryd.ntmps6
  go_wp2_with fail
  refine (small_any _ ((hT.box _).box _)).mono ?_; rintro e w1 ⟨rfl, hb1⟩
  have hB1 := below_two hb1
  have bx1 := ((XBox.new w o a b c i).past _).on hb1
  have by1 := (XBox.new (w.alloc _) o' a' b' c' i').on hb1
  rw [World.size_alloc] at by1
  clear hb1
  have x0 := bx1.c0
  have x1 := bx1.c1
  have x2 := bx1.c2
  have x3 := bx1.c3
  have x4 := bx1.c4
  have xl := bx1.lt
  go_wp2_with fail
  clear x0 x1 x2 x3 x4 xl
  refine (encode_yes _ _ _ _ _ hr _).mono ?_; rintro e w2 ⟨v1, rfl, hv1, hb2⟩
  obtain ⟨hB2, hz2⟩ := bel_on hB1 hb2
  have bx2 := bx1.on hb2
  have by2 := by1.on hb2
  clear bx1 by1 hb2
  have y0 := by2.c0
  have y1 := by2.c1
  have y2 := by2.c2
  have y3 := by2.c3
  have y4 := by2.c4
  have yl := by2.lt
  go_wp2_with fail
  clear y0 y1 y2 y3 y4 yl
  refine (encode_yes _ _ _ _ _ hr' _).mono ?_; rintro e w3 ⟨v2, rfl, hv2, hb3⟩
  obtain ⟨hB3, hz3⟩ := bel_on hB2 hb3
  have bx3 := bx2.on hb3
  have by3 := by2.on hb3
  have cv1 := fun d os => ((hv1.later hb3).later (below_regrown w3 d os)).conv
  have cv2 := fun d os => (hv2.later (below_regrown w3 d os)).conv
  clear bx2 by2 hb3
  have x0 := fun d os => cell_regrown bx3.c0 d os
  have x1 := fun d os => cell_regrown bx3.c1 d os
  have x2 := fun d os => cell_regrown bx3.c2 d os
  have x3 := fun d os => cell_regrown bx3.c3 d os
  have x4 := fun d os => cell_regrown bx3.c4 d os
  have y0 := fun d os => cell_regrown by3.c0 d os
  have y1 := fun d os => cell_regrown by3.c1 d os
  have y2 := fun d os => cell_regrown by3.c2 d os
  have y3 := fun d os => cell_regrown by3.c3 d os
  have y4 := fun d os => cell_regrown by3.c4 d os
  have CR : Hid (∀ d os, Calls Tryd.prog 16 #[.agg #[.int .i64 o, .int .i64 a, .int .i64 b, .int .i64 c, .int .i64 i]] (Sort.grow (redrawn w3 d) os) fun e w'' => e = .returned (.bool true) ∧ ∃ p : Regrown, w'' = Sort.grow (redrawn w3 p.d) p.os) := fun d os => Calls.regrown_of (right_is hr _)
  have CT : Hid (∀ d os, Calls Tryd.prog 18 #[.agg #[.int .i64 o, .int .i64 a, .int .i64 b, .int .i64 c, .int .i64 i]] (Sort.grow (redrawn w3 d) os) fun e w'' => e = .returned (.string (bs (textL o a b c i))) ∧ ∃ p : Regrown, w'' = Sort.grow (redrawn w3 p.d) p.os) := fun d os => Calls.regrown_of (text_any o a b c i _ (hT.on (bel_on hB3 (below_regrown w3 d os)).1))
  have CU : Hid (∀ d os, Calls Tryd.prog 18 #[.agg #[.int .i64 o', .int .i64 a', .int .i64 b', .int .i64 c', .int .i64 i']] (Sort.grow (redrawn w3 d) os) fun e w'' => e = .returned (.string (bs (textL o' a' b' c' i'))) ∧ ∃ p : Regrown, w'' = Sort.grow (redrawn w3 p.d) p.os) := fun d os => Calls.regrown_of (text_any o' a' b' c' i' _ (hT.on (bel_on hB3 (below_regrown w3 d os)).1))
  have n1' : ((bs (encL o a b c i)).toList == (bs (encL o' a' b' c' i')).toList) = false := beq_eq_false_iff_ne.2 fun h => hne (enc_inj hr hr' (by rw [bs_toList, bs_toList] at h; exact h))
  have te : textL o a b c i = txt o a b c i := if_pos hr
  have te' : textL o' a' b' c' i' = txt o' a' b' c' i' := if_pos hr'
  have n2' : ((bs (textL o a b c i)).toList == (bs (textL o' a' b' c' i')).toList) = false := beq_eq_false_iff_ne.2 fun h => hne (text_inj hr hr' (by rw [bs_toList, bs_toList] at h; rw [← te, ← te']; exact h))
  clear te te'
  have eqd := fun W => eql_diff o a b c i o' a' b' c' i' hne W
  go_wp2_with fail
  refine wp_region_quiet_below (by kernel_rfl) (by kernel_rfl) ?_
  repeat (go_big_quiet_step (first | (go_at_call 16; exact CR.out _ _) | (go_at_call_of 18 o; exact CT.out _ _) | (go_at_call_of 18 o'; exact CU.out _ _)))
  refine wpQuiet_nil ?_
  intro w4 hw'
  have hb4 : Below w3.heap.size w3 w4 := by obtain ⟨⟨dq, osq⟩, hw''⟩ := hw'; rw [hw'']; exact below_regrown w3 dq osq
  obtain ⟨hB4, hz4⟩ := bel_on hB3 hb4
  clear hw' hb4 bx3 by3
  clear eqd cv1 cv2 y0 y1 y2 y3 y4
  clear n1' n2'
  clear x0 x1 x2 x3 x4
  have hba := hb.later hB4
  by_cases hlong : (1024 : Int) < (l.length : Int)
  · go_wp2_with fail
    go_ret
    exact ⟨rfl, hB4⟩
  rcases decR_cases l with hd | ⟨p, q, r, s, t, hz, hl, hd⟩
  · go_wp2_with fail
    refine (hba.decode).mono ?_; rintro e w5 ⟨rfl, hb5⟩
    obtain ⟨hB5, hz5⟩ := bel_on hB4 hb5
    clear hb5
    rw [hd]
    go_wp2_with fail
    go_ret
    exact ⟨rfl, hB5.alloc hB5.size _⟩
  · go_wp2_with fail
    refine (hba.decode).mono ?_; rintro e w5 ⟨rfl, hb5⟩
    obtain ⟨hB5, hz5⟩ := bel_on hB4 hb5
    have hba5 := hba.later hb5
    clear hb5 hba
    rw [hd]
    go_wp2_with fail
    refine (encode_yes _ _ _ _ _ hz _).mono ?_; rintro e w6 ⟨v3, rfl, hv3, hb6⟩
    obtain ⟨hB6, hz6⟩ := bel_next hB5 hb6
    have bz6 := (XBox.new w5 p q r s t).on hb6
    have hba6 := hba5.later (below_one hb6)
    clear hb6 hba5
    have x0 := bz6.c0
    have x1 := bz6.c1
    have x2 := bz6.c2
    have x3 := bz6.c3
    have x4 := bz6.c4
    have xl := bz6.lt
    go_wp2_with fail
    refine (right_is hz _).mono ?_; rintro e w7 ⟨rfl, hb7⟩
    obtain ⟨hB7, hz7⟩ := bel_on hB6 hb7
    have cv1 := (hv3.later hb7).conv
    have cv2 := (hba6.later hb7).conv
    clear hb7 hv3 hba6
    rw [hl] at cv1
    go_wp2_with fail
    go_ret
    exact ⟨rfl, hB7⟩

end Go.Proofs.YtgfkbagkdhfnkaaDoor
