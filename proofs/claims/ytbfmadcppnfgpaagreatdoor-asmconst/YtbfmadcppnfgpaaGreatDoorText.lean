/-
  Contracts of Text of package inst (layer 2), by walks over the translation.
-/
import Derived.Test.YtbfmadcppnfgpaaGreatDoorItoa
namespace Go.Proofs.YtbfmadcppnfgpaaGreatDoor
open Go.ChangeShapes Go.WideShapes Go.ChangeAt Go.RowKit

theorem regB_true {n : Int} {b : Bool} (h : regB n b = true) : 0 ≤ n ∧ n ≤ 15 := by
  unfold regB at h; cases b <;> simp at h <;> omega

theorem immB_true {n k : Int} (h : immB n k = true) : -2147483648 ≤ n ∧ n ≤ 2147483647 := by
  unfold immB knB at h; (repeat' split at h) <;> simp at h <;> omega

theorem right_parts {o a b c i : Int} (h : rightB o a b c i = true) : holdB o a b c i = true ∧ (0 ≤ a ∧ a ≤ 15) ∧ (0 ≤ b ∧ b ≤ 15) ∧ (0 ≤ c ∧ c ≤ 15) ∧ (-2147483648 ≤ i ∧ i ≤ 2147483647) := by
  unfold rightB at h
  rw [Bool.and_eq_true] at h
  have h2 := h.2
  unfold holdB at h2
  rw [Bool.and_eq_true, Bool.and_eq_true, Bool.and_eq_true] at h2
  obtain ⟨⟨⟨ha, hb⟩, hc⟩, hi⟩ := h2
  exact ⟨h.2, regB_true ha, regB_true hb, regB_true hc, immB_true hi⟩

theorem itoa_len (i : Int) (h1 : -2147483648 ≤ i) (h2 : i ≤ 2147483647) : (Lib.itoa i).length ≤ 21 := Lib.itoa_length_le i (by omega) (by omega)

theorem rt_len (n : Int) (b : Bool) (h : 0 ≤ n ∧ n ≤ 15) : (rt n b).length ≤ 4 := by
  unfold rt; split
  · have := dec_len n.toNat (by omega); simp; omega
  · simp

theorem below_drewN {B : Nat} {a w : World} (h : Below B a w) (n : Nat) : Below B a (w.drewN n) := ⟨h.os, h.tape, h.output, h.size, h.block⟩

def txt (o a b c i : Int) : List UInt8 := namesL.getD o.toNat [] ++ (if o = 4 then 46 :: Lib.itoa i else []) ++ (rt a (fA o) ++ rt b (fB o) ++ rt c (fC o)) ++ (if fI o = 1 ∨ fI o = 2 then 32 :: Lib.itoa i else [])

def textL (o a b c i : Int) : List UInt8 := if rightB o a b c i = true then txt o a b c i else [63]

theorem text_no1 (o a b c i : Int) (hk : fK o = false) (w : World) :
    Calls Tryz.prog 45 #[.agg #[.int .i64 o, .int .i64 a, .int .i64 b, .int .i64 c, .int .i64 i]] w fun e w' => e = .returned (.string (bs [63])) ∧ Below w.heap.size w w' := by
  go_enter Tryz.func45, Tryz.ntmps45
  go_wp2_with fail
  refine (fieldsOf_any _ _).mono ?_; rintro e w1 ⟨rfl, hb⟩
  obtain ⟨hc, hf⟩ := bcell hb
  obtain ⟨hB, hz⟩ := bel_box hb
  go_wp2_with fail
  go_ret
  exact ⟨rfl, hB.alloc hB.size _⟩

theorem text_no2 (o a b c i : Int) (hk : fK o = true) (hh : holdB o a b c i = false) (w : World) :
    Calls Tryz.prog 45 #[.agg #[.int .i64 o, .int .i64 a, .int .i64 b, .int .i64 c, .int .i64 i]] w fun e w' => e = .returned (.string (bs [63])) ∧ Below w.heap.size w w' := by
  go_enter Tryz.func45, Tryz.ntmps45
  go_wp2_with fail
  refine (fieldsOf_any _ _).mono ?_; rintro e w1 ⟨rfl, hb⟩
  obtain ⟨hc, hf⟩ := bcell hb
  obtain ⟨hB, hz⟩ := bel_box hb
  go_wp2_with fail
  refine (hold_of _ _ _ _ _ _).mono ?_; rintro e w2 ⟨rfl, hb2⟩
  obtain ⟨hB2, hz2⟩ := bel_next hB hb2
  go_wp2_with fail
  go_ret
  exact ⟨rfl, hB2⟩

theorem hold_0 (a b c i : Int) (w : World) :
    Calls Tryz.prog 35 #[.agg #[.bool false, .bool false, .bool false, .int .i64 1], .agg #[.int .i64 0, .int .i64 a, .int .i64 b, .int .i64 c, .int .i64 i]] w fun e w' => e = .returned (.bool (holdB 0 a b c i)) ∧ Below w.heap.size w w' := hold_of 0 a b c i w

theorem text_0 (a b c i : Int) (h : rightB 0 a b c i = true) (w : World) (hT : Tabs w) :
    Calls Tryz.prog 45 #[.agg #[.int .i64 0, .int .i64 a, .int .i64 b, .int .i64 c, .int .i64 i]] w fun e w' => e = .returned (.string (bs (txt 0 a b c i))) ∧ Below w.heap.size w w' := by
  obtain ⟨hh, ha, hb', hc', hi⟩ := right_parts h
  have la := rt_len a false ha
  have lb := rt_len b false hb'
  have lc := rt_len c false hc'
  have li := itoa_len i hi.1 hi.2
  rw [← bs_size] at la lb lc li
  have ln : (bs [104, 97, 108, 116]).size ≤ 5 := by rw [bs_size]; decide
  have s1 : ¬ 9223372036854775807 < (bs (rt a false)).size + (bs (rt b false)).size := by omega
  have s2 : ¬ 9223372036854775807 < (bs (rt a false)).size + (bs (rt b false)).size + (bs (rt c false)).size := by omega
  have s3 : ¬ 9223372036854775807 < (bs [104, 97, 108, 116]).size + ((bs (rt a false)).size + (bs (rt b false)).size + (bs (rt c false)).size) := by omega
  have s4 : ¬ 9223372036854775807 < 1 + (bs (Lib.itoa i)).size := by omega
  have s5 : ¬ 9223372036854775807 < (bs [104, 97, 108, 116]).size + ((bs (rt a false)).size + (bs (rt b false)).size + (bs (rt c false)).size) + (1 + (bs (Lib.itoa i)).size) := by omega
  have h0 := hT.pos
  have hn : w.cell? ⟨0, 0, none⟩ = some (.string (bs [104, 97, 108, 116])) := hT.name 0
  clear h
  go_enter Tryz.func45, Tryz.ntmps45
  go_wp2_with fail
  refine (fieldsOf_0 _).mono ?_; rintro e w1 ⟨rfl, hb⟩
  obtain ⟨hc, hf⟩ := bcell hb
  obtain ⟨hB, hz⟩ := bel_box hb
  go_wp2_with fail
  refine (hold_0 _ _ _ _ _).mono ?_; rintro e w2 ⟨rfl, hb2⟩
  obtain ⟨hB2, hz2⟩ := bel_next hB hb2
  obtain ⟨hc2, hf2⟩ := bcell hb2
  have p1 : 0 < w1.heap.size := by omega
  have p2 : 0 < w2.heap.size := by omega
  have q2 : w.heap.size < w2.heap.size := by omega
  go_wp2_with fail
  refine (itoa_any _ (by omega) (by omega) _ (hT.on hB2)).mono ?_; rintro e w3 ⟨rfl, hb3⟩
  obtain ⟨hB3, hz3⟩ := bel_on hB2 hb3
  obtain ⟨hc3, hf3⟩ := bcell hb3
  go_wp2_with fail
  go_quiet ((go_at_call 55; exact Calls.quiet_of_same (rt_any _ _ (fun _ => by assumption) _)))
  go_wp2
  go_ret
  exact ⟨ret_str (by simp only [ba_app, bs_data]; simp [txt, namesL, fA, fB, fC, fI]), below_drewN hB3 nq⟩

theorem hold_1 (a b c i : Int) (w : World) :
    Calls Tryz.prog 35 #[.agg #[.bool true, .bool false, .bool false, .int .i64 1], .agg #[.int .i64 1, .int .i64 a, .int .i64 b, .int .i64 c, .int .i64 i]] w fun e w' => e = .returned (.bool (holdB 1 a b c i)) ∧ Below w.heap.size w w' := hold_of 1 a b c i w

theorem text_1 (a b c i : Int) (h : rightB 1 a b c i = true) (w : World) (hT : Tabs w) :
    Calls Tryz.prog 45 #[.agg #[.int .i64 1, .int .i64 a, .int .i64 b, .int .i64 c, .int .i64 i]] w fun e w' => e = .returned (.string (bs (txt 1 a b c i))) ∧ Below w.heap.size w w' := by
  obtain ⟨hh, ha, hb', hc', hi⟩ := right_parts h
  have la := rt_len a true ha
  have lb := rt_len b false hb'
  have lc := rt_len c false hc'
  have li := itoa_len i hi.1 hi.2
  rw [← bs_size] at la lb lc li
  have ln : (bs [108, 105]).size ≤ 5 := by rw [bs_size]; decide
  have s1 : ¬ 9223372036854775807 < (bs (rt a true)).size + (bs (rt b false)).size := by omega
  have s2 : ¬ 9223372036854775807 < (bs (rt a true)).size + (bs (rt b false)).size + (bs (rt c false)).size := by omega
  have s3 : ¬ 9223372036854775807 < (bs [108, 105]).size + ((bs (rt a true)).size + (bs (rt b false)).size + (bs (rt c false)).size) := by omega
  have s4 : ¬ 9223372036854775807 < 1 + (bs (Lib.itoa i)).size := by omega
  have s5 : ¬ 9223372036854775807 < (bs [108, 105]).size + ((bs (rt a true)).size + (bs (rt b false)).size + (bs (rt c false)).size) + (1 + (bs (Lib.itoa i)).size) := by omega
  have h0 := hT.pos
  have hn : w.cell? ⟨0, 1, none⟩ = some (.string (bs [108, 105])) := hT.name 1
  clear h
  go_enter Tryz.func45, Tryz.ntmps45
  go_wp2_with fail
  refine (fieldsOf_1 _).mono ?_; rintro e w1 ⟨rfl, hb⟩
  obtain ⟨hc, hf⟩ := bcell hb
  obtain ⟨hB, hz⟩ := bel_box hb
  go_wp2_with fail
  refine (hold_1 _ _ _ _ _).mono ?_; rintro e w2 ⟨rfl, hb2⟩
  obtain ⟨hB2, hz2⟩ := bel_next hB hb2
  obtain ⟨hc2, hf2⟩ := bcell hb2
  have p1 : 0 < w1.heap.size := by omega
  have p2 : 0 < w2.heap.size := by omega
  have q2 : w.heap.size < w2.heap.size := by omega
  go_wp2_with fail
  refine (itoa_any _ (by omega) (by omega) _ (hT.on hB2)).mono ?_; rintro e w3 ⟨rfl, hb3⟩
  obtain ⟨hB3, hz3⟩ := bel_on hB2 hb3
  obtain ⟨hc3, hf3⟩ := bcell hb3
  go_wp2_with fail
  go_quiet ((go_at_call 55; exact Calls.quiet_of_same (rt_any _ _ (fun _ => by assumption) _)))
  go_wp2
  go_ret
  exact ⟨ret_str (by simp only [ba_app, bs_data]; simp [txt, namesL, fA, fB, fC, fI]), below_drewN hB3 nq⟩

theorem hold_2 (a b c i : Int) (w : World) :
    Calls Tryz.prog 35 #[.agg #[.bool true, .bool false, .bool false, .int .i64 1], .agg #[.int .i64 2, .int .i64 a, .int .i64 b, .int .i64 c, .int .i64 i]] w fun e w' => e = .returned (.bool (holdB 2 a b c i)) ∧ Below w.heap.size w w' := hold_of 2 a b c i w

theorem text_2 (a b c i : Int) (h : rightB 2 a b c i = true) (w : World) (hT : Tabs w) :
    Calls Tryz.prog 45 #[.agg #[.int .i64 2, .int .i64 a, .int .i64 b, .int .i64 c, .int .i64 i]] w fun e w' => e = .returned (.string (bs (txt 2 a b c i))) ∧ Below w.heap.size w w' := by
  obtain ⟨hh, ha, hb', hc', hi⟩ := right_parts h
  have la := rt_len a true ha
  have lb := rt_len b false hb'
  have lc := rt_len c false hc'
  have li := itoa_len i hi.1 hi.2
  rw [← bs_size] at la lb lc li
  have ln : (bs [108, 105, 104]).size ≤ 5 := by rw [bs_size]; decide
  have s1 : ¬ 9223372036854775807 < (bs (rt a true)).size + (bs (rt b false)).size := by omega
  have s2 : ¬ 9223372036854775807 < (bs (rt a true)).size + (bs (rt b false)).size + (bs (rt c false)).size := by omega
  have s3 : ¬ 9223372036854775807 < (bs [108, 105, 104]).size + ((bs (rt a true)).size + (bs (rt b false)).size + (bs (rt c false)).size) := by omega
  have s4 : ¬ 9223372036854775807 < 1 + (bs (Lib.itoa i)).size := by omega
  have s5 : ¬ 9223372036854775807 < (bs [108, 105, 104]).size + ((bs (rt a true)).size + (bs (rt b false)).size + (bs (rt c false)).size) + (1 + (bs (Lib.itoa i)).size) := by omega
  have h0 := hT.pos
  have hn : w.cell? ⟨0, 2, none⟩ = some (.string (bs [108, 105, 104])) := hT.name 2
  clear h
  go_enter Tryz.func45, Tryz.ntmps45
  go_wp2_with fail
  refine (fieldsOf_2 _).mono ?_; rintro e w1 ⟨rfl, hb⟩
  obtain ⟨hc, hf⟩ := bcell hb
  obtain ⟨hB, hz⟩ := bel_box hb
  go_wp2_with fail
  refine (hold_2 _ _ _ _ _).mono ?_; rintro e w2 ⟨rfl, hb2⟩
  obtain ⟨hB2, hz2⟩ := bel_next hB hb2
  obtain ⟨hc2, hf2⟩ := bcell hb2
  have p1 : 0 < w1.heap.size := by omega
  have p2 : 0 < w2.heap.size := by omega
  have q2 : w.heap.size < w2.heap.size := by omega
  go_wp2_with fail
  refine (itoa_any _ (by omega) (by omega) _ (hT.on hB2)).mono ?_; rintro e w3 ⟨rfl, hb3⟩
  obtain ⟨hB3, hz3⟩ := bel_on hB2 hb3
  obtain ⟨hc3, hf3⟩ := bcell hb3
  go_wp2_with fail
  go_quiet ((go_at_call 55; exact Calls.quiet_of_same (rt_any _ _ (fun _ => by assumption) _)))
  go_wp2
  go_ret
  exact ⟨ret_str (by simp only [ba_app, bs_data]; simp [txt, namesL, fA, fB, fC, fI]), below_drewN hB3 nq⟩

theorem hold_3 (a b c i : Int) (w : World) :
    Calls Tryz.prog 35 #[.agg #[.bool true, .bool true, .bool false, .int .i64 0], .agg #[.int .i64 3, .int .i64 a, .int .i64 b, .int .i64 c, .int .i64 i]] w fun e w' => e = .returned (.bool (holdB 3 a b c i)) ∧ Below w.heap.size w w' := hold_of 3 a b c i w

theorem text_3 (a b c i : Int) (h : rightB 3 a b c i = true) (w : World) (hT : Tabs w) :
    Calls Tryz.prog 45 #[.agg #[.int .i64 3, .int .i64 a, .int .i64 b, .int .i64 c, .int .i64 i]] w fun e w' => e = .returned (.string (bs (txt 3 a b c i))) ∧ Below w.heap.size w w' := by
  obtain ⟨hh, ha, hb', hc', hi⟩ := right_parts h
  have la := rt_len a true ha
  have lb := rt_len b true hb'
  have lc := rt_len c false hc'
  have li := itoa_len i hi.1 hi.2
  rw [← bs_size] at la lb lc li
  have ln : (bs [109, 111, 118]).size ≤ 5 := by rw [bs_size]; decide
  have s1 : ¬ 9223372036854775807 < (bs (rt a true)).size + (bs (rt b true)).size := by omega
  have s2 : ¬ 9223372036854775807 < (bs (rt a true)).size + (bs (rt b true)).size + (bs (rt c false)).size := by omega
  have s3 : ¬ 9223372036854775807 < (bs [109, 111, 118]).size + ((bs (rt a true)).size + (bs (rt b true)).size + (bs (rt c false)).size) := by omega
  have s4 : ¬ 9223372036854775807 < 1 + (bs (Lib.itoa i)).size := by omega
  have h0 := hT.pos
  have hn : w.cell? ⟨0, 3, none⟩ = some (.string (bs [109, 111, 118])) := hT.name 3
  clear h
  go_enter Tryz.func45, Tryz.ntmps45
  go_wp2_with fail
  refine (fieldsOf_3 _).mono ?_; rintro e w1 ⟨rfl, hb⟩
  obtain ⟨hc, hf⟩ := bcell hb
  obtain ⟨hB, hz⟩ := bel_box hb
  go_wp2_with fail
  refine (hold_3 _ _ _ _ _).mono ?_; rintro e w2 ⟨rfl, hb2⟩
  obtain ⟨hB2, hz2⟩ := bel_next hB hb2
  obtain ⟨hc2, hf2⟩ := bcell hb2
  have p1 : 0 < w1.heap.size := by omega
  have p2 : 0 < w2.heap.size := by omega
  have q2 : w.heap.size < w2.heap.size := by omega
  go_wp2_with fail
  refine (itoa_any _ (by omega) (by omega) _ (hT.on hB2)).mono ?_; rintro e w3 ⟨rfl, hb3⟩
  obtain ⟨hB3, hz3⟩ := bel_on hB2 hb3
  obtain ⟨hc3, hf3⟩ := bcell hb3
  go_wp2_with fail
  go_quiet ((go_at_call 55; exact Calls.quiet_of_same (rt_any _ _ (fun _ => by assumption) _)))
  go_wp2
  go_ret
  exact ⟨ret_str (by simp only [ba_app, bs_data]; simp [txt, namesL, fA, fB, fC, fI]), below_drewN hB3 nq⟩

theorem hold_4 (a b c i : Int) (w : World) :
    Calls Tryz.prog 35 #[.agg #[.bool true, .bool true, .bool true, .int .i64 3], .agg #[.int .i64 4, .int .i64 a, .int .i64 b, .int .i64 c, .int .i64 i]] w fun e w' => e = .returned (.bool (holdB 4 a b c i)) ∧ Below w.heap.size w w' := hold_of 4 a b c i w

theorem text_4 (a b c i : Int) (h : rightB 4 a b c i = true) (w : World) (hT : Tabs w) :
    Calls Tryz.prog 45 #[.agg #[.int .i64 4, .int .i64 a, .int .i64 b, .int .i64 c, .int .i64 i]] w fun e w' => e = .returned (.string (bs (txt 4 a b c i))) ∧ Below w.heap.size w w' := by
  obtain ⟨hh, ha, hb', hc', hi⟩ := right_parts h
  have la := rt_len a true ha
  have lb := rt_len b true hb'
  have lc := rt_len c true hc'
  have li := itoa_len i hi.1 hi.2
  rw [← bs_size] at la lb lc li
  have ln : (bs [98, 105, 110]).size ≤ 5 := by rw [bs_size]; decide
  have s1 : ¬ 9223372036854775807 < (bs (rt a true)).size + (bs (rt b true)).size := by omega
  have s2 : ¬ 9223372036854775807 < (bs (rt a true)).size + (bs (rt b true)).size + (bs (rt c true)).size := by omega
  have s3 : ¬ 9223372036854775807 < (bs [98, 105, 110]).size + (1 + (bs (Lib.itoa i)).size) + ((bs (rt a true)).size + (bs (rt b true)).size + (bs (rt c true)).size) := by omega
  have s4 : ¬ 9223372036854775807 < 1 + (bs (Lib.itoa i)).size := by omega
  have s5 : ¬ 9223372036854775807 < (bs [98, 105, 110]).size + (1 + (bs (Lib.itoa i)).size) := by omega
  have h0 := hT.pos
  have hn : w.cell? ⟨0, 4, none⟩ = some (.string (bs [98, 105, 110])) := hT.name 4
  clear h
  go_enter Tryz.func45, Tryz.ntmps45
  go_wp2_with fail
  refine (fieldsOf_4 _).mono ?_; rintro e w1 ⟨rfl, hb⟩
  obtain ⟨hc, hf⟩ := bcell hb
  obtain ⟨hB, hz⟩ := bel_box hb
  go_wp2_with fail
  refine (hold_4 _ _ _ _ _).mono ?_; rintro e w2 ⟨rfl, hb2⟩
  obtain ⟨hB2, hz2⟩ := bel_next hB hb2
  obtain ⟨hc2, hf2⟩ := bcell hb2
  have p1 : 0 < w1.heap.size := by omega
  have p2 : 0 < w2.heap.size := by omega
  have q2 : w.heap.size < w2.heap.size := by omega
  go_wp2_with fail
  refine (itoa_any _ (by omega) (by omega) _ (hT.on hB2)).mono ?_; rintro e w3 ⟨rfl, hb3⟩
  obtain ⟨hB3, hz3⟩ := bel_on hB2 hb3
  obtain ⟨hc3, hf3⟩ := bcell hb3
  go_wp2_with fail
  go_quiet ((go_at_call 55; exact Calls.quiet_of_same (rt_any _ _ (fun _ => by assumption) _)))
  go_wp2
  go_ret
  exact ⟨ret_str (by simp only [ba_app, bs_data]; simp [txt, namesL, fA, fB, fC, fI]), below_drewN hB3 nq⟩

theorem hold_5 (a b c i : Int) (w : World) :
    Calls Tryz.prog 35 #[.agg #[.bool true, .bool true, .bool false, .int .i64 1], .agg #[.int .i64 5, .int .i64 a, .int .i64 b, .int .i64 c, .int .i64 i]] w fun e w' => e = .returned (.bool (holdB 5 a b c i)) ∧ Below w.heap.size w w' := hold_of 5 a b c i w

theorem text_5 (a b c i : Int) (h : rightB 5 a b c i = true) (w : World) (hT : Tabs w) :
    Calls Tryz.prog 45 #[.agg #[.int .i64 5, .int .i64 a, .int .i64 b, .int .i64 c, .int .i64 i]] w fun e w' => e = .returned (.string (bs (txt 5 a b c i))) ∧ Below w.heap.size w w' := by
  obtain ⟨hh, ha, hb', hc', hi⟩ := right_parts h
  have la := rt_len a true ha
  have lb := rt_len b true hb'
  have lc := rt_len c false hc'
  have li := itoa_len i hi.1 hi.2
  rw [← bs_size] at la lb lc li
  have ln : (bs [108, 100]).size ≤ 5 := by rw [bs_size]; decide
  have s1 : ¬ 9223372036854775807 < (bs (rt a true)).size + (bs (rt b true)).size := by omega
  have s2 : ¬ 9223372036854775807 < (bs (rt a true)).size + (bs (rt b true)).size + (bs (rt c false)).size := by omega
  have s3 : ¬ 9223372036854775807 < (bs [108, 100]).size + ((bs (rt a true)).size + (bs (rt b true)).size + (bs (rt c false)).size) := by omega
  have s4 : ¬ 9223372036854775807 < 1 + (bs (Lib.itoa i)).size := by omega
  have s5 : ¬ 9223372036854775807 < (bs [108, 100]).size + ((bs (rt a true)).size + (bs (rt b true)).size + (bs (rt c false)).size) + (1 + (bs (Lib.itoa i)).size) := by omega
  have h0 := hT.pos
  have hn : w.cell? ⟨0, 5, none⟩ = some (.string (bs [108, 100])) := hT.name 5
  clear h
  go_enter Tryz.func45, Tryz.ntmps45
  go_wp2_with fail
  refine (fieldsOf_5 _).mono ?_; rintro e w1 ⟨rfl, hb⟩
  obtain ⟨hc, hf⟩ := bcell hb
  obtain ⟨hB, hz⟩ := bel_box hb
  go_wp2_with fail
  refine (hold_5 _ _ _ _ _).mono ?_; rintro e w2 ⟨rfl, hb2⟩
  obtain ⟨hB2, hz2⟩ := bel_next hB hb2
  obtain ⟨hc2, hf2⟩ := bcell hb2
  have p1 : 0 < w1.heap.size := by omega
  have p2 : 0 < w2.heap.size := by omega
  have q2 : w.heap.size < w2.heap.size := by omega
  go_wp2_with fail
  refine (itoa_any _ (by omega) (by omega) _ (hT.on hB2)).mono ?_; rintro e w3 ⟨rfl, hb3⟩
  obtain ⟨hB3, hz3⟩ := bel_on hB2 hb3
  obtain ⟨hc3, hf3⟩ := bcell hb3
  go_wp2_with fail
  go_quiet ((go_at_call 55; exact Calls.quiet_of_same (rt_any _ _ (fun _ => by assumption) _)))
  go_wp2
  go_ret
  exact ⟨ret_str (by simp only [ba_app, bs_data]; simp [txt, namesL, fA, fB, fC, fI]), below_drewN hB3 nq⟩

theorem hold_6 (a b c i : Int) (w : World) :
    Calls Tryz.prog 35 #[.agg #[.bool true, .bool true, .bool false, .int .i64 1], .agg #[.int .i64 6, .int .i64 a, .int .i64 b, .int .i64 c, .int .i64 i]] w fun e w' => e = .returned (.bool (holdB 6 a b c i)) ∧ Below w.heap.size w w' := hold_of 6 a b c i w

theorem text_6 (a b c i : Int) (h : rightB 6 a b c i = true) (w : World) (hT : Tabs w) :
    Calls Tryz.prog 45 #[.agg #[.int .i64 6, .int .i64 a, .int .i64 b, .int .i64 c, .int .i64 i]] w fun e w' => e = .returned (.string (bs (txt 6 a b c i))) ∧ Below w.heap.size w w' := by
  obtain ⟨hh, ha, hb', hc', hi⟩ := right_parts h
  have la := rt_len a true ha
  have lb := rt_len b true hb'
  have lc := rt_len c false hc'
  have li := itoa_len i hi.1 hi.2
  rw [← bs_size] at la lb lc li
  have ln : (bs [115, 116]).size ≤ 5 := by rw [bs_size]; decide
  have s1 : ¬ 9223372036854775807 < (bs (rt a true)).size + (bs (rt b true)).size := by omega
  have s2 : ¬ 9223372036854775807 < (bs (rt a true)).size + (bs (rt b true)).size + (bs (rt c false)).size := by omega
  have s3 : ¬ 9223372036854775807 < (bs [115, 116]).size + ((bs (rt a true)).size + (bs (rt b true)).size + (bs (rt c false)).size) := by omega
  have s4 : ¬ 9223372036854775807 < 1 + (bs (Lib.itoa i)).size := by omega
  have s5 : ¬ 9223372036854775807 < (bs [115, 116]).size + ((bs (rt a true)).size + (bs (rt b true)).size + (bs (rt c false)).size) + (1 + (bs (Lib.itoa i)).size) := by omega
  have h0 := hT.pos
  have hn : w.cell? ⟨0, 6, none⟩ = some (.string (bs [115, 116])) := hT.name 6
  clear h
  go_enter Tryz.func45, Tryz.ntmps45
  go_wp2_with fail
  refine (fieldsOf_6 _).mono ?_; rintro e w1 ⟨rfl, hb⟩
  obtain ⟨hc, hf⟩ := bcell hb
  obtain ⟨hB, hz⟩ := bel_box hb
  go_wp2_with fail
  refine (hold_6 _ _ _ _ _).mono ?_; rintro e w2 ⟨rfl, hb2⟩
  obtain ⟨hB2, hz2⟩ := bel_next hB hb2
  obtain ⟨hc2, hf2⟩ := bcell hb2
  have p1 : 0 < w1.heap.size := by omega
  have p2 : 0 < w2.heap.size := by omega
  have q2 : w.heap.size < w2.heap.size := by omega
  go_wp2_with fail
  refine (itoa_any _ (by omega) (by omega) _ (hT.on hB2)).mono ?_; rintro e w3 ⟨rfl, hb3⟩
  obtain ⟨hB3, hz3⟩ := bel_on hB2 hb3
  obtain ⟨hc3, hf3⟩ := bcell hb3
  go_wp2_with fail
  go_quiet ((go_at_call 55; exact Calls.quiet_of_same (rt_any _ _ (fun _ => by assumption) _)))
  go_wp2
  go_ret
  exact ⟨ret_str (by simp only [ba_app, bs_data]; simp [txt, namesL, fA, fB, fC, fI]), below_drewN hB3 nq⟩

theorem hold_7 (a b c i : Int) (w : World) :
    Calls Tryz.prog 35 #[.agg #[.bool false, .bool false, .bool false, .int .i64 2], .agg #[.int .i64 7, .int .i64 a, .int .i64 b, .int .i64 c, .int .i64 i]] w fun e w' => e = .returned (.bool (holdB 7 a b c i)) ∧ Below w.heap.size w w' := hold_of 7 a b c i w

theorem text_7 (a b c i : Int) (h : rightB 7 a b c i = true) (w : World) (hT : Tabs w) :
    Calls Tryz.prog 45 #[.agg #[.int .i64 7, .int .i64 a, .int .i64 b, .int .i64 c, .int .i64 i]] w fun e w' => e = .returned (.string (bs (txt 7 a b c i))) ∧ Below w.heap.size w w' := by
  obtain ⟨hh, ha, hb', hc', hi⟩ := right_parts h
  have la := rt_len a false ha
  have lb := rt_len b false hb'
  have lc := rt_len c false hc'
  have li := itoa_len i hi.1 hi.2
  rw [← bs_size] at la lb lc li
  have ln : (bs [106, 109, 112]).size ≤ 5 := by rw [bs_size]; decide
  have s1 : ¬ 9223372036854775807 < (bs (rt a false)).size + (bs (rt b false)).size := by omega
  have s2 : ¬ 9223372036854775807 < (bs (rt a false)).size + (bs (rt b false)).size + (bs (rt c false)).size := by omega
  have s3 : ¬ 9223372036854775807 < (bs [106, 109, 112]).size + ((bs (rt a false)).size + (bs (rt b false)).size + (bs (rt c false)).size) := by omega
  have s4 : ¬ 9223372036854775807 < 1 + (bs (Lib.itoa i)).size := by omega
  have s5 : ¬ 9223372036854775807 < (bs [106, 109, 112]).size + ((bs (rt a false)).size + (bs (rt b false)).size + (bs (rt c false)).size) + (1 + (bs (Lib.itoa i)).size) := by omega
  have h0 := hT.pos
  have hn : w.cell? ⟨0, 7, none⟩ = some (.string (bs [106, 109, 112])) := hT.name 7
  clear h
  go_enter Tryz.func45, Tryz.ntmps45
  go_wp2_with fail
  refine (fieldsOf_7 _).mono ?_; rintro e w1 ⟨rfl, hb⟩
  obtain ⟨hc, hf⟩ := bcell hb
  obtain ⟨hB, hz⟩ := bel_box hb
  go_wp2_with fail
  refine (hold_7 _ _ _ _ _).mono ?_; rintro e w2 ⟨rfl, hb2⟩
  obtain ⟨hB2, hz2⟩ := bel_next hB hb2
  obtain ⟨hc2, hf2⟩ := bcell hb2
  have p1 : 0 < w1.heap.size := by omega
  have p2 : 0 < w2.heap.size := by omega
  have q2 : w.heap.size < w2.heap.size := by omega
  go_wp2_with fail
  refine (itoa_any _ (by omega) (by omega) _ (hT.on hB2)).mono ?_; rintro e w3 ⟨rfl, hb3⟩
  obtain ⟨hB3, hz3⟩ := bel_on hB2 hb3
  obtain ⟨hc3, hf3⟩ := bcell hb3
  go_wp2_with fail
  go_quiet ((go_at_call 55; exact Calls.quiet_of_same (rt_any _ _ (fun _ => by assumption) _)))
  go_wp2
  go_ret
  exact ⟨ret_str (by simp only [ba_app, bs_data]; simp [txt, namesL, fA, fB, fC, fI]), below_drewN hB3 nq⟩

theorem hold_8 (a b c i : Int) (w : World) :
    Calls Tryz.prog 35 #[.agg #[.bool true, .bool false, .bool false, .int .i64 2], .agg #[.int .i64 8, .int .i64 a, .int .i64 b, .int .i64 c, .int .i64 i]] w fun e w' => e = .returned (.bool (holdB 8 a b c i)) ∧ Below w.heap.size w w' := hold_of 8 a b c i w

theorem text_8 (a b c i : Int) (h : rightB 8 a b c i = true) (w : World) (hT : Tabs w) :
    Calls Tryz.prog 45 #[.agg #[.int .i64 8, .int .i64 a, .int .i64 b, .int .i64 c, .int .i64 i]] w fun e w' => e = .returned (.string (bs (txt 8 a b c i))) ∧ Below w.heap.size w w' := by
  obtain ⟨hh, ha, hb', hc', hi⟩ := right_parts h
  have la := rt_len a true ha
  have lb := rt_len b false hb'
  have lc := rt_len c false hc'
  have li := itoa_len i hi.1 hi.2
  rw [← bs_size] at la lb lc li
  have ln : (bs [106, 122]).size ≤ 5 := by rw [bs_size]; decide
  have s1 : ¬ 9223372036854775807 < (bs (rt a true)).size + (bs (rt b false)).size := by omega
  have s2 : ¬ 9223372036854775807 < (bs (rt a true)).size + (bs (rt b false)).size + (bs (rt c false)).size := by omega
  have s3 : ¬ 9223372036854775807 < (bs [106, 122]).size + ((bs (rt a true)).size + (bs (rt b false)).size + (bs (rt c false)).size) := by omega
  have s4 : ¬ 9223372036854775807 < 1 + (bs (Lib.itoa i)).size := by omega
  have s5 : ¬ 9223372036854775807 < (bs [106, 122]).size + ((bs (rt a true)).size + (bs (rt b false)).size + (bs (rt c false)).size) + (1 + (bs (Lib.itoa i)).size) := by omega
  have h0 := hT.pos
  have hn : w.cell? ⟨0, 8, none⟩ = some (.string (bs [106, 122])) := hT.name 8
  clear h
  go_enter Tryz.func45, Tryz.ntmps45
  go_wp2_with fail
  refine (fieldsOf_8 _).mono ?_; rintro e w1 ⟨rfl, hb⟩
  obtain ⟨hc, hf⟩ := bcell hb
  obtain ⟨hB, hz⟩ := bel_box hb
  go_wp2_with fail
  refine (hold_8 _ _ _ _ _).mono ?_; rintro e w2 ⟨rfl, hb2⟩
  obtain ⟨hB2, hz2⟩ := bel_next hB hb2
  obtain ⟨hc2, hf2⟩ := bcell hb2
  have p1 : 0 < w1.heap.size := by omega
  have p2 : 0 < w2.heap.size := by omega
  have q2 : w.heap.size < w2.heap.size := by omega
  go_wp2_with fail
  refine (itoa_any _ (by omega) (by omega) _ (hT.on hB2)).mono ?_; rintro e w3 ⟨rfl, hb3⟩
  obtain ⟨hB3, hz3⟩ := bel_on hB2 hb3
  obtain ⟨hc3, hf3⟩ := bcell hb3
  go_wp2_with fail
  go_quiet ((go_at_call 55; exact Calls.quiet_of_same (rt_any _ _ (fun _ => by assumption) _)))
  go_wp2
  go_ret
  exact ⟨ret_str (by simp only [ba_app, bs_data]; simp [txt, namesL, fA, fB, fC, fI]), below_drewN hB3 nq⟩

theorem hold_9 (a b c i : Int) (w : World) :
    Calls Tryz.prog 35 #[.agg #[.bool false, .bool false, .bool false, .int .i64 2], .agg #[.int .i64 9, .int .i64 a, .int .i64 b, .int .i64 c, .int .i64 i]] w fun e w' => e = .returned (.bool (holdB 9 a b c i)) ∧ Below w.heap.size w w' := hold_of 9 a b c i w

theorem text_9 (a b c i : Int) (h : rightB 9 a b c i = true) (w : World) (hT : Tabs w) :
    Calls Tryz.prog 45 #[.agg #[.int .i64 9, .int .i64 a, .int .i64 b, .int .i64 c, .int .i64 i]] w fun e w' => e = .returned (.string (bs (txt 9 a b c i))) ∧ Below w.heap.size w w' := by
  obtain ⟨hh, ha, hb', hc', hi⟩ := right_parts h
  have la := rt_len a false ha
  have lb := rt_len b false hb'
  have lc := rt_len c false hc'
  have li := itoa_len i hi.1 hi.2
  rw [← bs_size] at la lb lc li
  have ln : (bs [99, 97, 108, 108]).size ≤ 5 := by rw [bs_size]; decide
  have s1 : ¬ 9223372036854775807 < (bs (rt a false)).size + (bs (rt b false)).size := by omega
  have s2 : ¬ 9223372036854775807 < (bs (rt a false)).size + (bs (rt b false)).size + (bs (rt c false)).size := by omega
  have s3 : ¬ 9223372036854775807 < (bs [99, 97, 108, 108]).size + ((bs (rt a false)).size + (bs (rt b false)).size + (bs (rt c false)).size) := by omega
  have s4 : ¬ 9223372036854775807 < 1 + (bs (Lib.itoa i)).size := by omega
  have s5 : ¬ 9223372036854775807 < (bs [99, 97, 108, 108]).size + ((bs (rt a false)).size + (bs (rt b false)).size + (bs (rt c false)).size) + (1 + (bs (Lib.itoa i)).size) := by omega
  have h0 := hT.pos
  have hn : w.cell? ⟨0, 9, none⟩ = some (.string (bs [99, 97, 108, 108])) := hT.name 9
  clear h
  go_enter Tryz.func45, Tryz.ntmps45
  go_wp2_with fail
  refine (fieldsOf_9 _).mono ?_; rintro e w1 ⟨rfl, hb⟩
  obtain ⟨hc, hf⟩ := bcell hb
  obtain ⟨hB, hz⟩ := bel_box hb
  go_wp2_with fail
  refine (hold_9 _ _ _ _ _).mono ?_; rintro e w2 ⟨rfl, hb2⟩
  obtain ⟨hB2, hz2⟩ := bel_next hB hb2
  obtain ⟨hc2, hf2⟩ := bcell hb2
  have p1 : 0 < w1.heap.size := by omega
  have p2 : 0 < w2.heap.size := by omega
  have q2 : w.heap.size < w2.heap.size := by omega
  go_wp2_with fail
  refine (itoa_any _ (by omega) (by omega) _ (hT.on hB2)).mono ?_; rintro e w3 ⟨rfl, hb3⟩
  obtain ⟨hB3, hz3⟩ := bel_on hB2 hb3
  obtain ⟨hc3, hf3⟩ := bcell hb3
  go_wp2_with fail
  go_quiet ((go_at_call 55; exact Calls.quiet_of_same (rt_any _ _ (fun _ => by assumption) _)))
  go_wp2
  go_ret
  exact ⟨ret_str (by simp only [ba_app, bs_data]; simp [txt, namesL, fA, fB, fC, fI]), below_drewN hB3 nq⟩

theorem hold_10 (a b c i : Int) (w : World) :
    Calls Tryz.prog 35 #[.agg #[.bool false, .bool false, .bool false, .int .i64 0], .agg #[.int .i64 10, .int .i64 a, .int .i64 b, .int .i64 c, .int .i64 i]] w fun e w' => e = .returned (.bool (holdB 10 a b c i)) ∧ Below w.heap.size w w' := hold_of 10 a b c i w

theorem text_10 (a b c i : Int) (h : rightB 10 a b c i = true) (w : World) (hT : Tabs w) :
    Calls Tryz.prog 45 #[.agg #[.int .i64 10, .int .i64 a, .int .i64 b, .int .i64 c, .int .i64 i]] w fun e w' => e = .returned (.string (bs (txt 10 a b c i))) ∧ Below w.heap.size w w' := by
  obtain ⟨hh, ha, hb', hc', hi⟩ := right_parts h
  have la := rt_len a false ha
  have lb := rt_len b false hb'
  have lc := rt_len c false hc'
  have li := itoa_len i hi.1 hi.2
  rw [← bs_size] at la lb lc li
  have ln : (bs [114, 101, 116]).size ≤ 5 := by rw [bs_size]; decide
  have s1 : ¬ 9223372036854775807 < (bs (rt a false)).size + (bs (rt b false)).size := by omega
  have s2 : ¬ 9223372036854775807 < (bs (rt a false)).size + (bs (rt b false)).size + (bs (rt c false)).size := by omega
  have s3 : ¬ 9223372036854775807 < (bs [114, 101, 116]).size + ((bs (rt a false)).size + (bs (rt b false)).size + (bs (rt c false)).size) := by omega
  have s4 : ¬ 9223372036854775807 < 1 + (bs (Lib.itoa i)).size := by omega
  have h0 := hT.pos
  have hn : w.cell? ⟨0, 10, none⟩ = some (.string (bs [114, 101, 116])) := hT.name 10
  clear h
  go_enter Tryz.func45, Tryz.ntmps45
  go_wp2_with fail
  refine (fieldsOf_10 _).mono ?_; rintro e w1 ⟨rfl, hb⟩
  obtain ⟨hc, hf⟩ := bcell hb
  obtain ⟨hB, hz⟩ := bel_box hb
  go_wp2_with fail
  refine (hold_10 _ _ _ _ _).mono ?_; rintro e w2 ⟨rfl, hb2⟩
  obtain ⟨hB2, hz2⟩ := bel_next hB hb2
  obtain ⟨hc2, hf2⟩ := bcell hb2
  have p1 : 0 < w1.heap.size := by omega
  have p2 : 0 < w2.heap.size := by omega
  have q2 : w.heap.size < w2.heap.size := by omega
  go_wp2_with fail
  refine (itoa_any _ (by omega) (by omega) _ (hT.on hB2)).mono ?_; rintro e w3 ⟨rfl, hb3⟩
  obtain ⟨hB3, hz3⟩ := bel_on hB2 hb3
  obtain ⟨hc3, hf3⟩ := bcell hb3
  go_wp2_with fail
  go_quiet ((go_at_call 55; exact Calls.quiet_of_same (rt_any _ _ (fun _ => by assumption) _)))
  go_wp2
  go_ret
  exact ⟨ret_str (by simp only [ba_app, bs_data]; simp [txt, namesL, fA, fB, fC, fI]), below_drewN hB3 nq⟩

theorem hold_11 (a b c i : Int) (w : World) :
    Calls Tryz.prog 35 #[.agg #[.bool true, .bool false, .bool false, .int .i64 0], .agg #[.int .i64 11, .int .i64 a, .int .i64 b, .int .i64 c, .int .i64 i]] w fun e w' => e = .returned (.bool (holdB 11 a b c i)) ∧ Below w.heap.size w w' := hold_of 11 a b c i w

theorem text_11 (a b c i : Int) (h : rightB 11 a b c i = true) (w : World) (hT : Tabs w) :
    Calls Tryz.prog 45 #[.agg #[.int .i64 11, .int .i64 a, .int .i64 b, .int .i64 c, .int .i64 i]] w fun e w' => e = .returned (.string (bs (txt 11 a b c i))) ∧ Below w.heap.size w w' := by
  obtain ⟨hh, ha, hb', hc', hi⟩ := right_parts h
  have la := rt_len a true ha
  have lb := rt_len b false hb'
  have lc := rt_len c false hc'
  have li := itoa_len i hi.1 hi.2
  rw [← bs_size] at la lb lc li
  have ln : (bs [105, 110]).size ≤ 5 := by rw [bs_size]; decide
  have s1 : ¬ 9223372036854775807 < (bs (rt a true)).size + (bs (rt b false)).size := by omega
  have s2 : ¬ 9223372036854775807 < (bs (rt a true)).size + (bs (rt b false)).size + (bs (rt c false)).size := by omega
  have s3 : ¬ 9223372036854775807 < (bs [105, 110]).size + ((bs (rt a true)).size + (bs (rt b false)).size + (bs (rt c false)).size) := by omega
  have s4 : ¬ 9223372036854775807 < 1 + (bs (Lib.itoa i)).size := by omega
  have h0 := hT.pos
  have hn : w.cell? ⟨0, 11, none⟩ = some (.string (bs [105, 110])) := hT.name 11
  clear h
  go_enter Tryz.func45, Tryz.ntmps45
  go_wp2_with fail
  refine (fieldsOf_11 _).mono ?_; rintro e w1 ⟨rfl, hb⟩
  obtain ⟨hc, hf⟩ := bcell hb
  obtain ⟨hB, hz⟩ := bel_box hb
  go_wp2_with fail
  refine (hold_11 _ _ _ _ _).mono ?_; rintro e w2 ⟨rfl, hb2⟩
  obtain ⟨hB2, hz2⟩ := bel_next hB hb2
  obtain ⟨hc2, hf2⟩ := bcell hb2
  have p1 : 0 < w1.heap.size := by omega
  have p2 : 0 < w2.heap.size := by omega
  have q2 : w.heap.size < w2.heap.size := by omega
  go_wp2_with fail
  refine (itoa_any _ (by omega) (by omega) _ (hT.on hB2)).mono ?_; rintro e w3 ⟨rfl, hb3⟩
  obtain ⟨hB3, hz3⟩ := bel_on hB2 hb3
  obtain ⟨hc3, hf3⟩ := bcell hb3
  go_wp2_with fail
  go_quiet ((go_at_call 55; exact Calls.quiet_of_same (rt_any _ _ (fun _ => by assumption) _)))
  go_wp2
  go_ret
  exact ⟨ret_str (by simp only [ba_app, bs_data]; simp [txt, namesL, fA, fB, fC, fI]), below_drewN hB3 nq⟩

theorem hold_12 (a b c i : Int) (w : World) :
    Calls Tryz.prog 35 #[.agg #[.bool true, .bool false, .bool false, .int .i64 0], .agg #[.int .i64 12, .int .i64 a, .int .i64 b, .int .i64 c, .int .i64 i]] w fun e w' => e = .returned (.bool (holdB 12 a b c i)) ∧ Below w.heap.size w w' := hold_of 12 a b c i w

theorem text_12 (a b c i : Int) (h : rightB 12 a b c i = true) (w : World) (hT : Tabs w) :
    Calls Tryz.prog 45 #[.agg #[.int .i64 12, .int .i64 a, .int .i64 b, .int .i64 c, .int .i64 i]] w fun e w' => e = .returned (.string (bs (txt 12 a b c i))) ∧ Below w.heap.size w w' := by
  obtain ⟨hh, ha, hb', hc', hi⟩ := right_parts h
  have la := rt_len a true ha
  have lb := rt_len b false hb'
  have lc := rt_len c false hc'
  have li := itoa_len i hi.1 hi.2
  rw [← bs_size] at la lb lc li
  have ln : (bs [111, 117, 116]).size ≤ 5 := by rw [bs_size]; decide
  have s1 : ¬ 9223372036854775807 < (bs (rt a true)).size + (bs (rt b false)).size := by omega
  have s2 : ¬ 9223372036854775807 < (bs (rt a true)).size + (bs (rt b false)).size + (bs (rt c false)).size := by omega
  have s3 : ¬ 9223372036854775807 < (bs [111, 117, 116]).size + ((bs (rt a true)).size + (bs (rt b false)).size + (bs (rt c false)).size) := by omega
  have s4 : ¬ 9223372036854775807 < 1 + (bs (Lib.itoa i)).size := by omega
  have h0 := hT.pos
  have hn : w.cell? ⟨0, 12, none⟩ = some (.string (bs [111, 117, 116])) := hT.name 12
  clear h
  go_enter Tryz.func45, Tryz.ntmps45
  go_wp2_with fail
  refine (fieldsOf_12 _).mono ?_; rintro e w1 ⟨rfl, hb⟩
  obtain ⟨hc, hf⟩ := bcell hb
  obtain ⟨hB, hz⟩ := bel_box hb
  go_wp2_with fail
  refine (hold_12 _ _ _ _ _).mono ?_; rintro e w2 ⟨rfl, hb2⟩
  obtain ⟨hB2, hz2⟩ := bel_next hB hb2
  obtain ⟨hc2, hf2⟩ := bcell hb2
  have p1 : 0 < w1.heap.size := by omega
  have p2 : 0 < w2.heap.size := by omega
  have q2 : w.heap.size < w2.heap.size := by omega
  go_wp2_with fail
  refine (itoa_any _ (by omega) (by omega) _ (hT.on hB2)).mono ?_; rintro e w3 ⟨rfl, hb3⟩
  obtain ⟨hB3, hz3⟩ := bel_on hB2 hb3
  obtain ⟨hc3, hf3⟩ := bcell hb3
  go_wp2_with fail
  go_quiet ((go_at_call 55; exact Calls.quiet_of_same (rt_any _ _ (fun _ => by assumption) _)))
  go_wp2
  go_ret
  exact ⟨ret_str (by simp only [ba_app, bs_data]; simp [txt, namesL, fA, fB, fC, fI]), below_drewN hB3 nq⟩

theorem hold_13 (a b c i : Int) (w : World) :
    Calls Tryz.prog 35 #[.agg #[.bool true, .bool true, .bool false, .int .i64 0], .agg #[.int .i64 13, .int .i64 a, .int .i64 b, .int .i64 c, .int .i64 i]] w fun e w' => e = .returned (.bool (holdB 13 a b c i)) ∧ Below w.heap.size w w' := hold_of 13 a b c i w

theorem text_13 (a b c i : Int) (h : rightB 13 a b c i = true) (w : World) (hT : Tabs w) :
    Calls Tryz.prog 45 #[.agg #[.int .i64 13, .int .i64 a, .int .i64 b, .int .i64 c, .int .i64 i]] w fun e w' => e = .returned (.string (bs (txt 13 a b c i))) ∧ Below w.heap.size w w' := by
  obtain ⟨hh, ha, hb', hc', hi⟩ := right_parts h
  have la := rt_len a true ha
  have lb := rt_len b true hb'
  have lc := rt_len c false hc'
  have li := itoa_len i hi.1 hi.2
  rw [← bs_size] at la lb lc li
  have ln : (bs [97, 108, 108, 111, 99]).size ≤ 5 := by rw [bs_size]; decide
  have s1 : ¬ 9223372036854775807 < (bs (rt a true)).size + (bs (rt b true)).size := by omega
  have s2 : ¬ 9223372036854775807 < (bs (rt a true)).size + (bs (rt b true)).size + (bs (rt c false)).size := by omega
  have s3 : ¬ 9223372036854775807 < (bs [97, 108, 108, 111, 99]).size + ((bs (rt a true)).size + (bs (rt b true)).size + (bs (rt c false)).size) := by omega
  have s4 : ¬ 9223372036854775807 < 1 + (bs (Lib.itoa i)).size := by omega
  have h0 := hT.pos
  have hn : w.cell? ⟨0, 13, none⟩ = some (.string (bs [97, 108, 108, 111, 99])) := hT.name 13
  clear h
  go_enter Tryz.func45, Tryz.ntmps45
  go_wp2_with fail
  refine (fieldsOf_13 _).mono ?_; rintro e w1 ⟨rfl, hb⟩
  obtain ⟨hc, hf⟩ := bcell hb
  obtain ⟨hB, hz⟩ := bel_box hb
  go_wp2_with fail
  refine (hold_13 _ _ _ _ _).mono ?_; rintro e w2 ⟨rfl, hb2⟩
  obtain ⟨hB2, hz2⟩ := bel_next hB hb2
  obtain ⟨hc2, hf2⟩ := bcell hb2
  have p1 : 0 < w1.heap.size := by omega
  have p2 : 0 < w2.heap.size := by omega
  have q2 : w.heap.size < w2.heap.size := by omega
  go_wp2_with fail
  refine (itoa_any _ (by omega) (by omega) _ (hT.on hB2)).mono ?_; rintro e w3 ⟨rfl, hb3⟩
  obtain ⟨hB3, hz3⟩ := bel_on hB2 hb3
  obtain ⟨hc3, hf3⟩ := bcell hb3
  go_wp2_with fail
  go_quiet ((go_at_call 55; exact Calls.quiet_of_same (rt_any _ _ (fun _ => by assumption) _)))
  go_wp2
  go_ret
  exact ⟨ret_str (by simp only [ba_app, bs_data]; simp [txt, namesL, fA, fB, fC, fI]), below_drewN hB3 nq⟩

theorem hold_14 (a b c i : Int) (w : World) :
    Calls Tryz.prog 35 #[.agg #[.bool true, .bool true, .bool false, .int .i64 1], .agg #[.int .i64 14, .int .i64 a, .int .i64 b, .int .i64 c, .int .i64 i]] w fun e w' => e = .returned (.bool (holdB 14 a b c i)) ∧ Below w.heap.size w w' := hold_of 14 a b c i w

theorem text_14 (a b c i : Int) (h : rightB 14 a b c i = true) (w : World) (hT : Tabs w) :
    Calls Tryz.prog 45 #[.agg #[.int .i64 14, .int .i64 a, .int .i64 b, .int .i64 c, .int .i64 i]] w fun e w' => e = .returned (.string (bs (txt 14 a b c i))) ∧ Below w.heap.size w w' := by
  obtain ⟨hh, ha, hb', hc', hi⟩ := right_parts h
  have la := rt_len a true ha
  have lb := rt_len b true hb'
  have lc := rt_len c false hc'
  have li := itoa_len i hi.1 hi.2
  rw [← bs_size] at la lb lc li
  have ln : (bs [97, 100, 100, 105]).size ≤ 5 := by rw [bs_size]; decide
  have s1 : ¬ 9223372036854775807 < (bs (rt a true)).size + (bs (rt b true)).size := by omega
  have s2 : ¬ 9223372036854775807 < (bs (rt a true)).size + (bs (rt b true)).size + (bs (rt c false)).size := by omega
  have s3 : ¬ 9223372036854775807 < (bs [97, 100, 100, 105]).size + ((bs (rt a true)).size + (bs (rt b true)).size + (bs (rt c false)).size) := by omega
  have s4 : ¬ 9223372036854775807 < 1 + (bs (Lib.itoa i)).size := by omega
  have s5 : ¬ 9223372036854775807 < (bs [97, 100, 100, 105]).size + ((bs (rt a true)).size + (bs (rt b true)).size + (bs (rt c false)).size) + (1 + (bs (Lib.itoa i)).size) := by omega
  have h0 := hT.pos
  have hn : w.cell? ⟨0, 14, none⟩ = some (.string (bs [97, 100, 100, 105])) := hT.name 14
  clear h
  go_enter Tryz.func45, Tryz.ntmps45
  go_wp2_with fail
  refine (fieldsOf_14 _).mono ?_; rintro e w1 ⟨rfl, hb⟩
  obtain ⟨hc, hf⟩ := bcell hb
  obtain ⟨hB, hz⟩ := bel_box hb
  go_wp2_with fail
  refine (hold_14 _ _ _ _ _).mono ?_; rintro e w2 ⟨rfl, hb2⟩
  obtain ⟨hB2, hz2⟩ := bel_next hB hb2
  obtain ⟨hc2, hf2⟩ := bcell hb2
  have p1 : 0 < w1.heap.size := by omega
  have p2 : 0 < w2.heap.size := by omega
  have q2 : w.heap.size < w2.heap.size := by omega
  go_wp2_with fail
  refine (itoa_any _ (by omega) (by omega) _ (hT.on hB2)).mono ?_; rintro e w3 ⟨rfl, hb3⟩
  obtain ⟨hB3, hz3⟩ := bel_on hB2 hb3
  obtain ⟨hc3, hf3⟩ := bcell hb3
  go_wp2_with fail
  go_quiet ((go_at_call 55; exact Calls.quiet_of_same (rt_any _ _ (fun _ => by assumption) _)))
  go_wp2
  go_ret
  exact ⟨ret_str (by simp only [ba_app, bs_data]; simp [txt, namesL, fA, fB, fC, fI]), below_drewN hB3 nq⟩

theorem text_any (o a b c i : Int) (w : World) (hT : Tabs w) :
    Calls Tryz.prog 45 #[.agg #[.int .i64 o, .int .i64 a, .int .i64 b, .int .i64 c, .int .i64 i]] w fun e w' => e = .returned (.string (bs (textL o a b c i))) ∧ Below w.heap.size w w' := by
  cases h : rightB o a b c i
  · rw [show textL o a b c i = [63] by unfold textL; rw [h]; rfl]
    unfold rightB at h
    cases hk : fK o
    · exact text_no1 o a b c i hk w
    · rw [hk] at h; exact text_no2 o a b c i hk h w
  · rcases op_cases (right_op h) with rfl | rfl | rfl | rfl | rfl | rfl | rfl | rfl | rfl | rfl | rfl | rfl | rfl | rfl | rfl
    · rw [show textL 0 a b c i = txt 0 a b c i by unfold textL; rw [h]; rfl]
      exact text_0 a b c i h w hT
    · rw [show textL 1 a b c i = txt 1 a b c i by unfold textL; rw [h]; rfl]
      exact text_1 a b c i h w hT
    · rw [show textL 2 a b c i = txt 2 a b c i by unfold textL; rw [h]; rfl]
      exact text_2 a b c i h w hT
    · rw [show textL 3 a b c i = txt 3 a b c i by unfold textL; rw [h]; rfl]
      exact text_3 a b c i h w hT
    · rw [show textL 4 a b c i = txt 4 a b c i by unfold textL; rw [h]; rfl]
      exact text_4 a b c i h w hT
    · rw [show textL 5 a b c i = txt 5 a b c i by unfold textL; rw [h]; rfl]
      exact text_5 a b c i h w hT
    · rw [show textL 6 a b c i = txt 6 a b c i by unfold textL; rw [h]; rfl]
      exact text_6 a b c i h w hT
    · rw [show textL 7 a b c i = txt 7 a b c i by unfold textL; rw [h]; rfl]
      exact text_7 a b c i h w hT
    · rw [show textL 8 a b c i = txt 8 a b c i by unfold textL; rw [h]; rfl]
      exact text_8 a b c i h w hT
    · rw [show textL 9 a b c i = txt 9 a b c i by unfold textL; rw [h]; rfl]
      exact text_9 a b c i h w hT
    · rw [show textL 10 a b c i = txt 10 a b c i by unfold textL; rw [h]; rfl]
      exact text_10 a b c i h w hT
    · rw [show textL 11 a b c i = txt 11 a b c i by unfold textL; rw [h]; rfl]
      exact text_11 a b c i h w hT
    · rw [show textL 12 a b c i = txt 12 a b c i by unfold textL; rw [h]; rfl]
      exact text_12 a b c i h w hT
    · rw [show textL 13 a b c i = txt 13 a b c i by unfold textL; rw [h]; rfl]
      exact text_13 a b c i h w hT
    · rw [show textL 14 a b c i = txt 14 a b c i by unfold textL; rw [h]; rfl]
      exact text_14 a b c i h w hT

end Go.Proofs.YtbfmadcppnfgpaaGreatDoor
