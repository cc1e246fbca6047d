/-
  The text of a line (layer 5): the contract of asm's own lineText.
-/
import Derived.Test.YtbfmadcppnfgpaaGreatDoorText
import Derived.Test.YtbfmadcppnfgpaaGreatDoorLines
namespace Go.Proofs.YtbfmadcppnfgpaaGreatDoor
open Go.ChangeShapes Go.WideShapes Go.ChangeAt Go.RowKit

/-- A line's text. -/
def Ln.text (x : Ln) : List UInt8 := if x.L = 0 then [32, 32] ++ textL x.o x.a x.b x.c x.i ++ (if x.t = 0 then [] else [32, 62, 76] ++ Lib.itoa x.t) else [76] ++ Lib.itoa x.L ++ [58]

theorem names_len (k : Nat) : (namesL.getD k []).length ≤ 5 := by
  by_cases h : k < 15
  · have : k = 0 ∨ k = 1 ∨ k = 2 ∨ k = 3 ∨ k = 4 ∨ k = 5 ∨ k = 6 ∨ k = 7 ∨ k = 8 ∨ k = 9 ∨ k = 10 ∨ k = 11 ∨ k = 12 ∨ k = 13 ∨ k = 14 := by omega
    rcases this with rfl | rfl | rfl | rfl | rfl | rfl | rfl | rfl | rfl | rfl | rfl | rfl | rfl | rfl | rfl <;> simp [namesL]
  · rw [List.getD_eq_getElem?_getD, List.getElem?_eq_none (by simp [namesL]; omega)]; simp
theorem textL_len (o a b c i : Int) : (textL o a b c i).length ≤ 100 := by
  unfold textL
  split
  · rename_i h
    obtain ⟨_, ha, hb, hc, hi⟩ := right_parts h
    have l1 := names_len o.toNat
    have l2 := rt_len a (fA o) ha
    have l3 := rt_len b (fB o) hb
    have l4 := rt_len c (fC o) hc
    have l5 := itoa_len i hi.1 hi.2
    unfold txt
    simp only [List.length_append]
    have l6 : (if o = 4 then 46 :: Lib.itoa i else []).length ≤ 22 := by split <;> simp; omega
    have l7 : (if fI o = 1 ∨ fI o = 2 then 32 :: Lib.itoa i else []).length ≤ 22 := by split <;> simp; omega
    omega
  · simp
theorem itoa_len' {n : Int} (h : -9223372036854775808 ≤ n ∧ n ≤ 9223372036854775807) : (Lib.itoa n).length ≤ 21 := Lib.itoa_length_le n (by omega) (by omega)
theorem lnText_len (x : Ln) (hL : -9223372036854775808 ≤ x.L ∧ x.L ≤ 9223372036854775807) (ht : -9223372036854775808 ≤ x.t ∧ x.t ≤ 9223372036854775807) : x.text.length ≤ 200 := by
  have l1 := itoa_len' hL
  have l2 := itoa_len' ht
  have l3 := textL_len x.o x.a x.b x.c x.i
  unfold Ln.text
  split
  · simp only [List.length_append]
    have : (if x.t = 0 then [] else [32, 62, 76] ++ Lib.itoa x.t).length ≤ 30 := by split <;> simp; omega
    simp only [List.length_cons, List.length_nil]; omega
  · simp; omega

set_option maxHeartbeats 1000000 in
theorem lineText_any (x : Ln) (hL : -9223372036854775808 ≤ x.L ∧ x.L ≤ 9223372036854775807) (ht : -9223372036854775808 ≤ x.t ∧ x.t ≤ 9223372036854775807) (w : World) (hT : Tabs w) :
    Calls Tryz.prog 31 #[.agg #[.int .i64 x.L, .int .i64 x.o, .int .i64 x.a, .int .i64 x.b, .int .i64 x.c, .int .i64 x.i, .int .i64 x.t]] w fun e w' => e = .returned (.string (bs x.text)) ∧ Below w.heap.size w w' := by
  by_cases hz : x.L = 0
  · have lt := textL_len x.o x.a x.b x.c x.i
    rw [← bs_size] at lt
    have s1 : ¬ 9223372036854775807 < 2 + (bs (textL x.o x.a x.b x.c x.i)).size := by omega
    by_cases hz2 : x.t = 0
    · go_enter Tryz.func31, Tryz.ntmps31
      go_wp2_with fail
      refine (text_any _ _ _ _ _ _ (hT.box _)).mono ?_; rintro e w1 ⟨rfl, hb⟩
      obtain ⟨hc, hf⟩ := bcell hb
      obtain ⟨hB, hz'⟩ := bel_box hb
      go_wp2_with fail
      go_ret
      exact ⟨ret_str (by simp only [ba_app, bs_data]; simp [Ln.text, hz, hz2]), hB⟩
    · have li := itoa_len' ht
      rw [← bs_size] at li
      have s2 : ¬ 9223372036854775807 < 3 + (bs (Lib.itoa x.t)).size := by omega
      have s3 : ¬ 9223372036854775807 < 2 + (bs (textL x.o x.a x.b x.c x.i)).size + (3 + (bs (Lib.itoa x.t)).size) := by omega
      go_enter Tryz.func31, Tryz.ntmps31
      go_wp2_with fail
      refine (text_any _ _ _ _ _ _ (hT.box _)).mono ?_; rintro e w1 ⟨rfl, hb⟩
      obtain ⟨hc, hf⟩ := bcell hb
      obtain ⟨hB, hz'⟩ := bel_box hb
      go_wp2_with fail
      refine (itoa_any _ ht.1 ht.2 _ (hT.on hB)).mono ?_; rintro e w2 ⟨rfl, hb2⟩
      obtain ⟨hB2, hz2'⟩ := bel_on hB hb2
      go_wp2_with fail
      go_ret
      exact ⟨ret_str (by simp only [ba_app, bs_data]; simp [Ln.text, hz, hz2]), hB2⟩
  · have li := itoa_len' hL
    rw [← bs_size] at li
    have s2 : ¬ 9223372036854775807 < 1 + (bs (Lib.itoa x.L)).size := by omega
    have s3 : ¬ 9223372036854775807 < 1 + (bs (Lib.itoa x.L)).size + 1 := by omega
    go_enter Tryz.func31, Tryz.ntmps31
    go_wp2_with fail
    refine (itoa_any _ hL.1 hL.2 _ (hT.box _)).mono ?_; rintro e w1 ⟨rfl, hb⟩
    obtain ⟨hB, hz'⟩ := bel_box hb
    go_wp2_with fail
    go_ret
    exact ⟨ret_str (by simp only [ba_app, bs_data]; simp [Ln.text, hz]), hB⟩

end Go.Proofs.YtbfmadcppnfgpaaGreatDoor
