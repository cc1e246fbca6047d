/-
  Contract of the document's own Text (layer 2), by walks over the translation.
-/
import Derived.Test.YtbfmadcppnfgpaaDoorRefF
import Derived.Lib.QuietBelow
namespace Go.Proofs.YtbfmadcppnfgpaaDoor
open Go.ChangeShapes Go.WideShapes Go.ChangeAt Go.RowKit



theorem itoa_nn (n : Int) (h : 0 ≤ n ∧ n ≤ 15) : Lib.itoa n = Lib.decDigits n.toNat := by unfold Lib.itoa; rw [if_neg (by omega)]
theorem reftext_no (o a b c i : Int) (h : rightB o a b c i = false) (w : World) :
    Calls Tryd.prog 34 #[.agg #[.int .i64 o, .int .i64 a, .int .i64 b, .int .i64 c, .int .i64 i]] w fun e w' => e = .returned (.string (bs [63])) ∧ Below w.heap.size w w' := by
  go_enter Tryd.func34, Tryd.ntmps34
  go_wp2_with fail
  refine (refright_any _ _ _ _ _ _).mono ?_; rintro e w1 ⟨rfl, hb⟩
  obtain ⟨hB, hz⟩ := bel_box hb
  have bx := (XBox.new w o a b c i).on hb
  clear hb
  have x0 := bx.c0
  have x1 := bx.c1
  have x2 := bx.c2
  have x3 := bx.c3
  have x4 := bx.c4
  have xl := bx.lt
  go_wp2_with fail
  go_ret
  exact ⟨rfl, hB⟩

theorem reftext_0 (a b c i : Int) (h : rightB 0 a b c i = true) (w : World) :
    Calls Tryd.prog 34 #[.agg #[.int .i64 0, .int .i64 a, .int .i64 b, .int .i64 c, .int .i64 i]] w fun e w' => e = .returned (.string (bs (txt 0 a b c i))) ∧ Below w.heap.size w w' := by
  obtain ⟨hh, ha, hb', hc', hi⟩ := right_parts h
  have la := itoa_len a (by omega) (by omega)
  have lb := itoa_len b (by omega) (by omega)
  have lc := itoa_len c (by omega) (by omega)
  have li := itoa_len i hi.1 hi.2
  have ln : (bs [104, 97, 108, 116]).size ≤ 5 := by rw [bs_size]; decide
  rw [← bs_size] at la lb lc li
  have s0 : ¬ 9223372036854775807 < (bs [104, 97, 108, 116]).size + 1 := by omega
  have s1 : ¬ 9223372036854775807 < (bs [104, 97, 108, 116]).size + 1 + (bs (Lib.itoa i)).size := by omega
  have Ha := itoa_nn a ha
  have Hb := itoa_nn b hb'
  have Hc := itoa_nn c hc'
  have HA : Hid (Lib.itoa a = Lib.decDigits a.toNat) := Ha
  have HB : Hid (Lib.itoa b = Lib.decDigits b.toNat) := Hb
  have HC : Hid (Lib.itoa c = Lib.decDigits c.toNat) := Hc
  clear Ha Hb Hc
  go_enter Tryd.func34, Tryd.ntmps34
  go_wp2_with fail
  refine (refright_any _ _ _ _ _ _).mono ?_; rintro e w1 ⟨rfl, hb⟩
  obtain ⟨hB, hz⟩ := bel_box hb
  have bx := (XBox.new w 0 a b c i).on hb
  clear hb
  have x0 := bx.c0
  have x1 := bx.c1
  have x2 := bx.c2
  have x3 := bx.c3
  have x4 := bx.c4
  have xl := bx.lt
  go_wp2_with fail
  refine (refname_0 _).mono ?_; rintro e w2 ⟨rfl, hw2⟩
  subst hw2
  go_wp2_with fail
  refine (reffields_0 _).mono ?_; rintro e w3 ⟨rfl, hw3⟩
  subst hw3
  go_wp2_with fail
  clear x0 x1 x2 x3 x4 xl
  refine (refnumber_any i hi.1 hi.2 _).mono ?_; rintro e w4 ⟨rfl, hb4⟩
  obtain ⟨hB4, hz4⟩ := bel_on hB hb4
  have bx4 := bx.on hb4
  clear hb4 bx
  have x0 := bx4.c0
  have x1 := bx4.c1
  have x2 := bx4.c2
  have x3 := bx4.c3
  have x4 := bx4.c4
  have xl := bx4.lt
  go_wp2_with fail
  go_ret
  exact ⟨ret_str (by simp only [ba_app, bs_data]; simp [txt, namesL, fA, fB, fC, fI, rt]), hB4⟩

theorem reftext_1 (a b c i : Int) (h : rightB 1 a b c i = true) (w : World) :
    Calls Tryd.prog 34 #[.agg #[.int .i64 1, .int .i64 a, .int .i64 b, .int .i64 c, .int .i64 i]] w fun e w' => e = .returned (.string (bs (txt 1 a b c i))) ∧ Below w.heap.size w w' := by
  obtain ⟨hh, ha, hb', hc', hi⟩ := right_parts h
  have la := itoa_len a (by omega) (by omega)
  have lb := itoa_len b (by omega) (by omega)
  have lc := itoa_len c (by omega) (by omega)
  have li := itoa_len i hi.1 hi.2
  have ln : (bs [108, 105]).size ≤ 5 := by rw [bs_size]; decide
  rw [← bs_size] at la lb lc li
  have s0 : ¬ 9223372036854775807 < (bs [108, 105]).size + 2 := by omega
  have s1 : ¬ 9223372036854775807 < (bs [108, 105]).size + 2 + (bs (Lib.itoa a)).size := by omega
  have s2 : ¬ 9223372036854775807 < (bs [108, 105]).size + 2 + (bs (Lib.itoa a)).size + 1 := by omega
  have s3 : ¬ 9223372036854775807 < (bs [108, 105]).size + 2 + (bs (Lib.itoa a)).size + 1 + (bs (Lib.itoa i)).size := by omega
  have Ha := itoa_nn a ha
  have Hb := itoa_nn b hb'
  have Hc := itoa_nn c hc'
  have HA : Hid (Lib.itoa a = Lib.decDigits a.toNat) := Ha
  have HB : Hid (Lib.itoa b = Lib.decDigits b.toNat) := Hb
  have HC : Hid (Lib.itoa c = Lib.decDigits c.toNat) := Hc
  clear Ha Hb Hc
  go_enter Tryd.func34, Tryd.ntmps34
  go_wp2_with fail
  refine (refright_any _ _ _ _ _ _).mono ?_; rintro e w1 ⟨rfl, hb⟩
  obtain ⟨hB, hz⟩ := bel_box hb
  have bx := (XBox.new w 1 a b c i).on hb
  clear hb
  have x0 := bx.c0
  have x1 := bx.c1
  have x2 := bx.c2
  have x3 := bx.c3
  have x4 := bx.c4
  have xl := bx.lt
  go_wp2_with fail
  refine (refname_1 _).mono ?_; rintro e w2 ⟨rfl, hw2⟩
  subst hw2
  go_wp2_with fail
  refine (reffields_1 _).mono ?_; rintro e w3 ⟨rfl, hw3⟩
  subst hw3
  go_wp2_with fail
  clear x0 x1 x2 x3 x4 xl
  refine (refnumber_any a (by omega) (by omega) _).mono ?_; rintro e w4 ⟨rfl, hb4⟩
  obtain ⟨hB4, hz4⟩ := bel_on hB hb4
  have bx4 := bx.on hb4
  clear hb4 bx
  have x0 := bx4.c0
  have x1 := bx4.c1
  have x2 := bx4.c2
  have x3 := bx4.c3
  have x4 := bx4.c4
  have xl := bx4.lt
  go_wp2_with fail
  clear x0 x1 x2 x3 x4 xl
  refine (refnumber_any i hi.1 hi.2 _).mono ?_; rintro e w5 ⟨rfl, hb5⟩
  obtain ⟨hB5, hz5⟩ := bel_on hB4 hb5
  have bx5 := bx4.on hb5
  clear hb5 bx4
  have x0 := bx5.c0
  have x1 := bx5.c1
  have x2 := bx5.c2
  have x3 := bx5.c3
  have x4 := bx5.c4
  have xl := bx5.lt
  go_wp2_with fail
  go_ret
  exact ⟨ret_str (by simp only [ba_app, bs_data]; simp [txt, namesL, fA, fB, fC, fI, rt, HA.out]), hB5⟩

theorem reftext_2 (a b c i : Int) (h : rightB 2 a b c i = true) (w : World) :
    Calls Tryd.prog 34 #[.agg #[.int .i64 2, .int .i64 a, .int .i64 b, .int .i64 c, .int .i64 i]] w fun e w' => e = .returned (.string (bs (txt 2 a b c i))) ∧ Below w.heap.size w w' := by
  obtain ⟨hh, ha, hb', hc', hi⟩ := right_parts h
  have la := itoa_len a (by omega) (by omega)
  have lb := itoa_len b (by omega) (by omega)
  have lc := itoa_len c (by omega) (by omega)
  have li := itoa_len i hi.1 hi.2
  have ln : (bs [108, 105, 104]).size ≤ 5 := by rw [bs_size]; decide
  rw [← bs_size] at la lb lc li
  have s0 : ¬ 9223372036854775807 < (bs [108, 105, 104]).size + 2 := by omega
  have s1 : ¬ 9223372036854775807 < (bs [108, 105, 104]).size + 2 + (bs (Lib.itoa a)).size := by omega
  have s2 : ¬ 9223372036854775807 < (bs [108, 105, 104]).size + 2 + (bs (Lib.itoa a)).size + 1 := by omega
  have s3 : ¬ 9223372036854775807 < (bs [108, 105, 104]).size + 2 + (bs (Lib.itoa a)).size + 1 + (bs (Lib.itoa i)).size := by omega
  have Ha := itoa_nn a ha
  have Hb := itoa_nn b hb'
  have Hc := itoa_nn c hc'
  have HA : Hid (Lib.itoa a = Lib.decDigits a.toNat) := Ha
  have HB : Hid (Lib.itoa b = Lib.decDigits b.toNat) := Hb
  have HC : Hid (Lib.itoa c = Lib.decDigits c.toNat) := Hc
  clear Ha Hb Hc
  go_enter Tryd.func34, Tryd.ntmps34
  go_wp2_with fail
  refine (refright_any _ _ _ _ _ _).mono ?_; rintro e w1 ⟨rfl, hb⟩
  obtain ⟨hB, hz⟩ := bel_box hb
  have bx := (XBox.new w 2 a b c i).on hb
  clear hb
  have x0 := bx.c0
  have x1 := bx.c1
  have x2 := bx.c2
  have x3 := bx.c3
  have x4 := bx.c4
  have xl := bx.lt
  go_wp2_with fail
  refine (refname_2 _).mono ?_; rintro e w2 ⟨rfl, hw2⟩
  subst hw2
  go_wp2_with fail
  refine (reffields_2 _).mono ?_; rintro e w3 ⟨rfl, hw3⟩
  subst hw3
  go_wp2_with fail
  clear x0 x1 x2 x3 x4 xl
  refine (refnumber_any a (by omega) (by omega) _).mono ?_; rintro e w4 ⟨rfl, hb4⟩
  obtain ⟨hB4, hz4⟩ := bel_on hB hb4
  have bx4 := bx.on hb4
  clear hb4 bx
  have x0 := bx4.c0
  have x1 := bx4.c1
  have x2 := bx4.c2
  have x3 := bx4.c3
  have x4 := bx4.c4
  have xl := bx4.lt
  go_wp2_with fail
  clear x0 x1 x2 x3 x4 xl
  refine (refnumber_any i hi.1 hi.2 _).mono ?_; rintro e w5 ⟨rfl, hb5⟩
  obtain ⟨hB5, hz5⟩ := bel_on hB4 hb5
  have bx5 := bx4.on hb5
  clear hb5 bx4
  have x0 := bx5.c0
  have x1 := bx5.c1
  have x2 := bx5.c2
  have x3 := bx5.c3
  have x4 := bx5.c4
  have xl := bx5.lt
  go_wp2_with fail
  go_ret
  exact ⟨ret_str (by simp only [ba_app, bs_data]; simp [txt, namesL, fA, fB, fC, fI, rt, HA.out]), hB5⟩

theorem reftext_3 (a b c i : Int) (h : rightB 3 a b c i = true) (w : World) :
    Calls Tryd.prog 34 #[.agg #[.int .i64 3, .int .i64 a, .int .i64 b, .int .i64 c, .int .i64 i]] w fun e w' => e = .returned (.string (bs (txt 3 a b c i))) ∧ Below w.heap.size w w' := by
  obtain ⟨hh, ha, hb', hc', hi⟩ := right_parts h
  have la := itoa_len a (by omega) (by omega)
  have lb := itoa_len b (by omega) (by omega)
  have lc := itoa_len c (by omega) (by omega)
  have li := itoa_len i hi.1 hi.2
  have ln : (bs [109, 111, 118]).size ≤ 5 := by rw [bs_size]; decide
  rw [← bs_size] at la lb lc li
  have s0 : ¬ 9223372036854775807 < (bs [109, 111, 118]).size + 2 := by omega
  have s1 : ¬ 9223372036854775807 < (bs [109, 111, 118]).size + 2 + (bs (Lib.itoa a)).size := by omega
  have s2 : ¬ 9223372036854775807 < (bs [109, 111, 118]).size + 2 + (bs (Lib.itoa a)).size + 2 := by omega
  have s3 : ¬ 9223372036854775807 < (bs [109, 111, 118]).size + 2 + (bs (Lib.itoa a)).size + 2 + (bs (Lib.itoa b)).size := by omega
  have Ha := itoa_nn a ha
  have Hb := itoa_nn b hb'
  have Hc := itoa_nn c hc'
  have HA : Hid (Lib.itoa a = Lib.decDigits a.toNat) := Ha
  have HB : Hid (Lib.itoa b = Lib.decDigits b.toNat) := Hb
  have HC : Hid (Lib.itoa c = Lib.decDigits c.toNat) := Hc
  clear Ha Hb Hc
  go_enter Tryd.func34, Tryd.ntmps34
  go_wp2_with fail
  refine (refright_any _ _ _ _ _ _).mono ?_; rintro e w1 ⟨rfl, hb⟩
  obtain ⟨hB, hz⟩ := bel_box hb
  have bx := (XBox.new w 3 a b c i).on hb
  clear hb
  have x0 := bx.c0
  have x1 := bx.c1
  have x2 := bx.c2
  have x3 := bx.c3
  have x4 := bx.c4
  have xl := bx.lt
  go_wp2_with fail
  refine (refname_3 _).mono ?_; rintro e w2 ⟨rfl, hw2⟩
  subst hw2
  go_wp2_with fail
  refine (reffields_3 _).mono ?_; rintro e w3 ⟨rfl, hw3⟩
  subst hw3
  go_wp2_with fail
  clear x0 x1 x2 x3 x4 xl
  refine (refnumber_any a (by omega) (by omega) _).mono ?_; rintro e w4 ⟨rfl, hb4⟩
  obtain ⟨hB4, hz4⟩ := bel_on hB hb4
  have bx4 := bx.on hb4
  clear hb4 bx
  have x0 := bx4.c0
  have x1 := bx4.c1
  have x2 := bx4.c2
  have x3 := bx4.c3
  have x4 := bx4.c4
  have xl := bx4.lt
  go_wp2_with fail
  clear x0 x1 x2 x3 x4 xl
  refine (refnumber_any b (by omega) (by omega) _).mono ?_; rintro e w5 ⟨rfl, hb5⟩
  obtain ⟨hB5, hz5⟩ := bel_on hB4 hb5
  have bx5 := bx4.on hb5
  clear hb5 bx4
  have x0 := bx5.c0
  have x1 := bx5.c1
  have x2 := bx5.c2
  have x3 := bx5.c3
  have x4 := bx5.c4
  have xl := bx5.lt
  go_wp2_with fail
  go_ret
  exact ⟨ret_str (by simp only [ba_app, bs_data]; simp [txt, namesL, fA, fB, fC, fI, rt, HA.out, HB.out]), hB5⟩

theorem reftext_4 (a b c i : Int) (h : rightB 4 a b c i = true) (w : World) :
    Calls Tryd.prog 34 #[.agg #[.int .i64 4, .int .i64 a, .int .i64 b, .int .i64 c, .int .i64 i]] w fun e w' => e = .returned (.string (bs (txt 4 a b c i))) ∧ Below w.heap.size w w' := by
  obtain ⟨hh, ha, hb', hc', hi⟩ := right_parts h
  have la := itoa_len a (by omega) (by omega)
  have lb := itoa_len b (by omega) (by omega)
  have lc := itoa_len c (by omega) (by omega)
  have li := itoa_len i hi.1 hi.2
  have ln : (bs [98, 105, 110]).size ≤ 5 := by rw [bs_size]; decide
  rw [← bs_size] at la lb lc li
  have s0 : ¬ 9223372036854775807 < (bs [98, 105, 110]).size + 1 := by omega
  have s1 : ¬ 9223372036854775807 < (bs [98, 105, 110]).size + 1 + (bs (Lib.itoa i)).size := by omega
  have s2 : ¬ 9223372036854775807 < (bs [98, 105, 110]).size + 1 + (bs (Lib.itoa i)).size + 2 := by omega
  have s3 : ¬ 9223372036854775807 < (bs [98, 105, 110]).size + 1 + (bs (Lib.itoa i)).size + 2 + (bs (Lib.itoa a)).size := by omega
  have s4 : ¬ 9223372036854775807 < (bs [98, 105, 110]).size + 1 + (bs (Lib.itoa i)).size + 2 + (bs (Lib.itoa a)).size + 2 := by omega
  have s5 : ¬ 9223372036854775807 < (bs [98, 105, 110]).size + 1 + (bs (Lib.itoa i)).size + 2 + (bs (Lib.itoa a)).size + 2 + (bs (Lib.itoa b)).size := by omega
  have s6 : ¬ 9223372036854775807 < (bs [98, 105, 110]).size + 1 + (bs (Lib.itoa i)).size + 2 + (bs (Lib.itoa a)).size + 2 + (bs (Lib.itoa b)).size + 2 := by omega
  have s7 : ¬ 9223372036854775807 < (bs [98, 105, 110]).size + 1 + (bs (Lib.itoa i)).size + 2 + (bs (Lib.itoa a)).size + 2 + (bs (Lib.itoa b)).size + 2 + (bs (Lib.itoa c)).size := by omega
  have Ha := itoa_nn a ha
  have Hb := itoa_nn b hb'
  have Hc := itoa_nn c hc'
  have HA : Hid (Lib.itoa a = Lib.decDigits a.toNat) := Ha
  have HB : Hid (Lib.itoa b = Lib.decDigits b.toNat) := Hb
  have HC : Hid (Lib.itoa c = Lib.decDigits c.toNat) := Hc
  clear Ha Hb Hc
  go_enter Tryd.func34, Tryd.ntmps34
  go_wp2_with fail
  refine (refright_any _ _ _ _ _ _).mono ?_; rintro e w1 ⟨rfl, hb⟩
  obtain ⟨hB, hz⟩ := bel_box hb
  have bx := (XBox.new w 4 a b c i).on hb
  clear hb
  have x0 := bx.c0
  have x1 := bx.c1
  have x2 := bx.c2
  have x3 := bx.c3
  have x4 := bx.c4
  have xl := bx.lt
  go_wp2_with fail
  refine (refname_4 _).mono ?_; rintro e w2 ⟨rfl, hw2⟩
  subst hw2
  go_wp2_with fail
  clear x0 x1 x2 x3 x4 xl
  have x0 := fun d os => cell_regrown bx.c0 d os
  have x1 := fun d os => cell_regrown bx.c1 d os
  have x2 := fun d os => cell_regrown bx.c2 d os
  have x3 := fun d os => cell_regrown bx.c3 d os
  have x4 := fun d os => cell_regrown bx.c4 d os
  have CI : Hid (∀ d os, Calls Tryd.prog 49 #[.int .i64 i] (Sort.grow (redrawn w2 d) os) fun e w'' => e = .returned (.string (bs (Lib.itoa i))) ∧ ∃ p : Regrown, w'' = Sort.grow (redrawn w2 p.d) p.os) := fun d os => Calls.regrown_of (refnumber_any i hi.1 hi.2 _)
  have CA : Hid (∀ d os, Calls Tryd.prog 49 #[.int .i64 a] (Sort.grow (redrawn w2 d) os) fun e w'' => e = .returned (.string (bs (Lib.itoa a))) ∧ ∃ p : Regrown, w'' = Sort.grow (redrawn w2 p.d) p.os) := fun d os => Calls.regrown_of (refnumber_any a (by omega) (by omega) _)
  have CB : Hid (∀ d os, Calls Tryd.prog 49 #[.int .i64 b] (Sort.grow (redrawn w2 d) os) fun e w'' => e = .returned (.string (bs (Lib.itoa b))) ∧ ∃ p : Regrown, w'' = Sort.grow (redrawn w2 p.d) p.os) := fun d os => Calls.regrown_of (refnumber_any b (by omega) (by omega) _)
  have CC : Hid (∀ d os, Calls Tryd.prog 49 #[.int .i64 c] (Sort.grow (redrawn w2 d) os) fun e w'' => e = .returned (.string (bs (Lib.itoa c))) ∧ ∃ p : Regrown, w'' = Sort.grow (redrawn w2 p.d) p.os) := fun d os => Calls.regrown_of (refnumber_any c (by omega) (by omega) _)
  refine wp_region_quiet_below (by kernel_rfl) (by kernel_rfl) ?_
  repeat (go_big_quiet_step (first | (go_at_call_of 49 i; exact CI.out _ _) | (go_at_call_of 49 a; exact CA.out _ _) | (go_at_call_of 49 b; exact CB.out _ _) | (go_at_call_of 49 c; exact CC.out _ _)))
  refine wpQuiet_nil ?_
  intro w4 hw'
  have hb4 : Below w2.heap.size w2 w4 := by obtain ⟨⟨dq, osq⟩, hw''⟩ := hw'; rw [hw'']; exact below_regrown w2 dq osq
  obtain ⟨hB4, hz4⟩ := bel_on hB hb4
  clear hw' hb4
  go_wp2_with fail
  go_ret
  exact ⟨ret_str (by simp only [ba_app, bs_data]; simp [txt, namesL, fA, fB, fC, fI, rt, HA.out, HB.out, HC.out]), hB4⟩

theorem reftext_5 (a b c i : Int) (h : rightB 5 a b c i = true) (w : World) :
    Calls Tryd.prog 34 #[.agg #[.int .i64 5, .int .i64 a, .int .i64 b, .int .i64 c, .int .i64 i]] w fun e w' => e = .returned (.string (bs (txt 5 a b c i))) ∧ Below w.heap.size w w' := by
  obtain ⟨hh, ha, hb', hc', hi⟩ := right_parts h
  have la := itoa_len a (by omega) (by omega)
  have lb := itoa_len b (by omega) (by omega)
  have lc := itoa_len c (by omega) (by omega)
  have li := itoa_len i hi.1 hi.2
  have ln : (bs [108, 100]).size ≤ 5 := by rw [bs_size]; decide
  rw [← bs_size] at la lb lc li
  have s0 : ¬ 9223372036854775807 < (bs [108, 100]).size + 2 := by omega
  have s1 : ¬ 9223372036854775807 < (bs [108, 100]).size + 2 + (bs (Lib.itoa a)).size := by omega
  have s2 : ¬ 9223372036854775807 < (bs [108, 100]).size + 2 + (bs (Lib.itoa a)).size + 2 := by omega
  have s3 : ¬ 9223372036854775807 < (bs [108, 100]).size + 2 + (bs (Lib.itoa a)).size + 2 + (bs (Lib.itoa b)).size := by omega
  have s4 : ¬ 9223372036854775807 < (bs [108, 100]).size + 2 + (bs (Lib.itoa a)).size + 2 + (bs (Lib.itoa b)).size + 1 := by omega
  have s5 : ¬ 9223372036854775807 < (bs [108, 100]).size + 2 + (bs (Lib.itoa a)).size + 2 + (bs (Lib.itoa b)).size + 1 + (bs (Lib.itoa i)).size := by omega
  have Ha := itoa_nn a ha
  have Hb := itoa_nn b hb'
  have Hc := itoa_nn c hc'
  have HA : Hid (Lib.itoa a = Lib.decDigits a.toNat) := Ha
  have HB : Hid (Lib.itoa b = Lib.decDigits b.toNat) := Hb
  have HC : Hid (Lib.itoa c = Lib.decDigits c.toNat) := Hc
  clear Ha Hb Hc
  go_enter Tryd.func34, Tryd.ntmps34
  go_wp2_with fail
  refine (refright_any _ _ _ _ _ _).mono ?_; rintro e w1 ⟨rfl, hb⟩
  obtain ⟨hB, hz⟩ := bel_box hb
  have bx := (XBox.new w 5 a b c i).on hb
  clear hb
  have x0 := bx.c0
  have x1 := bx.c1
  have x2 := bx.c2
  have x3 := bx.c3
  have x4 := bx.c4
  have xl := bx.lt
  go_wp2_with fail
  refine (refname_5 _).mono ?_; rintro e w2 ⟨rfl, hw2⟩
  subst hw2
  go_wp2_with fail
  refine (reffields_5 _).mono ?_; rintro e w3 ⟨rfl, hw3⟩
  subst hw3
  go_wp2_with fail
  clear x0 x1 x2 x3 x4 xl
  refine (refnumber_any a (by omega) (by omega) _).mono ?_; rintro e w4 ⟨rfl, hb4⟩
  obtain ⟨hB4, hz4⟩ := bel_on hB hb4
  have bx4 := bx.on hb4
  clear hb4 bx
  have x0 := bx4.c0
  have x1 := bx4.c1
  have x2 := bx4.c2
  have x3 := bx4.c3
  have x4 := bx4.c4
  have xl := bx4.lt
  go_wp2_with fail
  clear x0 x1 x2 x3 x4 xl
  refine (refnumber_any b (by omega) (by omega) _).mono ?_; rintro e w5 ⟨rfl, hb5⟩
  obtain ⟨hB5, hz5⟩ := bel_on hB4 hb5
  have bx5 := bx4.on hb5
  clear hb5 bx4
  have x0 := bx5.c0
  have x1 := bx5.c1
  have x2 := bx5.c2
  have x3 := bx5.c3
  have x4 := bx5.c4
  have xl := bx5.lt
  go_wp2_with fail
  clear x0 x1 x2 x3 x4 xl
  refine (refnumber_any i hi.1 hi.2 _).mono ?_; rintro e w6 ⟨rfl, hb6⟩
  obtain ⟨hB6, hz6⟩ := bel_on hB5 hb6
  have bx6 := bx5.on hb6
  clear hb6 bx5
  have x0 := bx6.c0
  have x1 := bx6.c1
  have x2 := bx6.c2
  have x3 := bx6.c3
  have x4 := bx6.c4
  have xl := bx6.lt
  go_wp2_with fail
  go_ret
  exact ⟨ret_str (by simp only [ba_app, bs_data]; simp [txt, namesL, fA, fB, fC, fI, rt, HA.out, HB.out]), hB6⟩

theorem reftext_6 (a b c i : Int) (h : rightB 6 a b c i = true) (w : World) :
    Calls Tryd.prog 34 #[.agg #[.int .i64 6, .int .i64 a, .int .i64 b, .int .i64 c, .int .i64 i]] w fun e w' => e = .returned (.string (bs (txt 6 a b c i))) ∧ Below w.heap.size w w' := by
  obtain ⟨hh, ha, hb', hc', hi⟩ := right_parts h
  have la := itoa_len a (by omega) (by omega)
  have lb := itoa_len b (by omega) (by omega)
  have lc := itoa_len c (by omega) (by omega)
  have li := itoa_len i hi.1 hi.2
  have ln : (bs [115, 116]).size ≤ 5 := by rw [bs_size]; decide
  rw [← bs_size] at la lb lc li
  have s0 : ¬ 9223372036854775807 < (bs [115, 116]).size + 2 := by omega
  have s1 : ¬ 9223372036854775807 < (bs [115, 116]).size + 2 + (bs (Lib.itoa a)).size := by omega
  have s2 : ¬ 9223372036854775807 < (bs [115, 116]).size + 2 + (bs (Lib.itoa a)).size + 2 := by omega
  have s3 : ¬ 9223372036854775807 < (bs [115, 116]).size + 2 + (bs (Lib.itoa a)).size + 2 + (bs (Lib.itoa b)).size := by omega
  have s4 : ¬ 9223372036854775807 < (bs [115, 116]).size + 2 + (bs (Lib.itoa a)).size + 2 + (bs (Lib.itoa b)).size + 1 := by omega
  have s5 : ¬ 9223372036854775807 < (bs [115, 116]).size + 2 + (bs (Lib.itoa a)).size + 2 + (bs (Lib.itoa b)).size + 1 + (bs (Lib.itoa i)).size := by omega
  have Ha := itoa_nn a ha
  have Hb := itoa_nn b hb'
  have Hc := itoa_nn c hc'
  have HA : Hid (Lib.itoa a = Lib.decDigits a.toNat) := Ha
  have HB : Hid (Lib.itoa b = Lib.decDigits b.toNat) := Hb
  have HC : Hid (Lib.itoa c = Lib.decDigits c.toNat) := Hc
  clear Ha Hb Hc
  go_enter Tryd.func34, Tryd.ntmps34
  go_wp2_with fail
  refine (refright_any _ _ _ _ _ _).mono ?_; rintro e w1 ⟨rfl, hb⟩
  obtain ⟨hB, hz⟩ := bel_box hb
  have bx := (XBox.new w 6 a b c i).on hb
  clear hb
  have x0 := bx.c0
  have x1 := bx.c1
  have x2 := bx.c2
  have x3 := bx.c3
  have x4 := bx.c4
  have xl := bx.lt
  go_wp2_with fail
  refine (refname_6 _).mono ?_; rintro e w2 ⟨rfl, hw2⟩
  subst hw2
  go_wp2_with fail
  refine (reffields_6 _).mono ?_; rintro e w3 ⟨rfl, hw3⟩
  subst hw3
  go_wp2_with fail
  clear x0 x1 x2 x3 x4 xl
  refine (refnumber_any a (by omega) (by omega) _).mono ?_; rintro e w4 ⟨rfl, hb4⟩
  obtain ⟨hB4, hz4⟩ := bel_on hB hb4
  have bx4 := bx.on hb4
  clear hb4 bx
  have x0 := bx4.c0
  have x1 := bx4.c1
  have x2 := bx4.c2
  have x3 := bx4.c3
  have x4 := bx4.c4
  have xl := bx4.lt
  go_wp2_with fail
  clear x0 x1 x2 x3 x4 xl
  refine (refnumber_any b (by omega) (by omega) _).mono ?_; rintro e w5 ⟨rfl, hb5⟩
  obtain ⟨hB5, hz5⟩ := bel_on hB4 hb5
  have bx5 := bx4.on hb5
  clear hb5 bx4
  have x0 := bx5.c0
  have x1 := bx5.c1
  have x2 := bx5.c2
  have x3 := bx5.c3
  have x4 := bx5.c4
  have xl := bx5.lt
  go_wp2_with fail
  clear x0 x1 x2 x3 x4 xl
  refine (refnumber_any i hi.1 hi.2 _).mono ?_; rintro e w6 ⟨rfl, hb6⟩
  obtain ⟨hB6, hz6⟩ := bel_on hB5 hb6
  have bx6 := bx5.on hb6
  clear hb6 bx5
  have x0 := bx6.c0
  have x1 := bx6.c1
  have x2 := bx6.c2
  have x3 := bx6.c3
  have x4 := bx6.c4
  have xl := bx6.lt
  go_wp2_with fail
  go_ret
  exact ⟨ret_str (by simp only [ba_app, bs_data]; simp [txt, namesL, fA, fB, fC, fI, rt, HA.out, HB.out]), hB6⟩

theorem reftext_7 (a b c i : Int) (h : rightB 7 a b c i = true) (w : World) :
    Calls Tryd.prog 34 #[.agg #[.int .i64 7, .int .i64 a, .int .i64 b, .int .i64 c, .int .i64 i]] w fun e w' => e = .returned (.string (bs (txt 7 a b c i))) ∧ Below w.heap.size w w' := by
  obtain ⟨hh, ha, hb', hc', hi⟩ := right_parts h
  have la := itoa_len a (by omega) (by omega)
  have lb := itoa_len b (by omega) (by omega)
  have lc := itoa_len c (by omega) (by omega)
  have li := itoa_len i hi.1 hi.2
  have ln : (bs [106, 109, 112]).size ≤ 5 := by rw [bs_size]; decide
  rw [← bs_size] at la lb lc li
  have s0 : ¬ 9223372036854775807 < (bs [106, 109, 112]).size + 1 := by omega
  have s1 : ¬ 9223372036854775807 < (bs [106, 109, 112]).size + 1 + (bs (Lib.itoa i)).size := by omega
  have Ha := itoa_nn a ha
  have Hb := itoa_nn b hb'
  have Hc := itoa_nn c hc'
  have HA : Hid (Lib.itoa a = Lib.decDigits a.toNat) := Ha
  have HB : Hid (Lib.itoa b = Lib.decDigits b.toNat) := Hb
  have HC : Hid (Lib.itoa c = Lib.decDigits c.toNat) := Hc
  clear Ha Hb Hc
  go_enter Tryd.func34, Tryd.ntmps34
  go_wp2_with fail
  refine (refright_any _ _ _ _ _ _).mono ?_; rintro e w1 ⟨rfl, hb⟩
  obtain ⟨hB, hz⟩ := bel_box hb
  have bx := (XBox.new w 7 a b c i).on hb
  clear hb
  have x0 := bx.c0
  have x1 := bx.c1
  have x2 := bx.c2
  have x3 := bx.c3
  have x4 := bx.c4
  have xl := bx.lt
  go_wp2_with fail
  refine (refname_7 _).mono ?_; rintro e w2 ⟨rfl, hw2⟩
  subst hw2
  go_wp2_with fail
  refine (reffields_7 _).mono ?_; rintro e w3 ⟨rfl, hw3⟩
  subst hw3
  go_wp2_with fail
  clear x0 x1 x2 x3 x4 xl
  refine (refnumber_any i hi.1 hi.2 _).mono ?_; rintro e w4 ⟨rfl, hb4⟩
  obtain ⟨hB4, hz4⟩ := bel_on hB hb4
  have bx4 := bx.on hb4
  clear hb4 bx
  have x0 := bx4.c0
  have x1 := bx4.c1
  have x2 := bx4.c2
  have x3 := bx4.c3
  have x4 := bx4.c4
  have xl := bx4.lt
  go_wp2_with fail
  go_ret
  exact ⟨ret_str (by simp only [ba_app, bs_data]; simp [txt, namesL, fA, fB, fC, fI, rt]), hB4⟩

theorem reftext_8 (a b c i : Int) (h : rightB 8 a b c i = true) (w : World) :
    Calls Tryd.prog 34 #[.agg #[.int .i64 8, .int .i64 a, .int .i64 b, .int .i64 c, .int .i64 i]] w fun e w' => e = .returned (.string (bs (txt 8 a b c i))) ∧ Below w.heap.size w w' := by
  obtain ⟨hh, ha, hb', hc', hi⟩ := right_parts h
  have la := itoa_len a (by omega) (by omega)
  have lb := itoa_len b (by omega) (by omega)
  have lc := itoa_len c (by omega) (by omega)
  have li := itoa_len i hi.1 hi.2
  have ln : (bs [106, 122]).size ≤ 5 := by rw [bs_size]; decide
  rw [← bs_size] at la lb lc li
  have s0 : ¬ 9223372036854775807 < (bs [106, 122]).size + 2 := by omega
  have s1 : ¬ 9223372036854775807 < (bs [106, 122]).size + 2 + (bs (Lib.itoa a)).size := by omega
  have s2 : ¬ 9223372036854775807 < (bs [106, 122]).size + 2 + (bs (Lib.itoa a)).size + 1 := by omega
  have s3 : ¬ 9223372036854775807 < (bs [106, 122]).size + 2 + (bs (Lib.itoa a)).size + 1 + (bs (Lib.itoa i)).size := by omega
  have Ha := itoa_nn a ha
  have Hb := itoa_nn b hb'
  have Hc := itoa_nn c hc'
  have HA : Hid (Lib.itoa a = Lib.decDigits a.toNat) := Ha
  have HB : Hid (Lib.itoa b = Lib.decDigits b.toNat) := Hb
  have HC : Hid (Lib.itoa c = Lib.decDigits c.toNat) := Hc
  clear Ha Hb Hc
  go_enter Tryd.func34, Tryd.ntmps34
  go_wp2_with fail
  refine (refright_any _ _ _ _ _ _).mono ?_; rintro e w1 ⟨rfl, hb⟩
  obtain ⟨hB, hz⟩ := bel_box hb
  have bx := (XBox.new w 8 a b c i).on hb
  clear hb
  have x0 := bx.c0
  have x1 := bx.c1
  have x2 := bx.c2
  have x3 := bx.c3
  have x4 := bx.c4
  have xl := bx.lt
  go_wp2_with fail
  refine (refname_8 _).mono ?_; rintro e w2 ⟨rfl, hw2⟩
  subst hw2
  go_wp2_with fail
  refine (reffields_8 _).mono ?_; rintro e w3 ⟨rfl, hw3⟩
  subst hw3
  go_wp2_with fail
  clear x0 x1 x2 x3 x4 xl
  refine (refnumber_any a (by omega) (by omega) _).mono ?_; rintro e w4 ⟨rfl, hb4⟩
  obtain ⟨hB4, hz4⟩ := bel_on hB hb4
  have bx4 := bx.on hb4
  clear hb4 bx
  have x0 := bx4.c0
  have x1 := bx4.c1
  have x2 := bx4.c2
  have x3 := bx4.c3
  have x4 := bx4.c4
  have xl := bx4.lt
  go_wp2_with fail
  clear x0 x1 x2 x3 x4 xl
  refine (refnumber_any i hi.1 hi.2 _).mono ?_; rintro e w5 ⟨rfl, hb5⟩
  obtain ⟨hB5, hz5⟩ := bel_on hB4 hb5
  have bx5 := bx4.on hb5
  clear hb5 bx4
  have x0 := bx5.c0
  have x1 := bx5.c1
  have x2 := bx5.c2
  have x3 := bx5.c3
  have x4 := bx5.c4
  have xl := bx5.lt
  go_wp2_with fail
  go_ret
  exact ⟨ret_str (by simp only [ba_app, bs_data]; simp [txt, namesL, fA, fB, fC, fI, rt, HA.out]), hB5⟩

theorem reftext_9 (a b c i : Int) (h : rightB 9 a b c i = true) (w : World) :
    Calls Tryd.prog 34 #[.agg #[.int .i64 9, .int .i64 a, .int .i64 b, .int .i64 c, .int .i64 i]] w fun e w' => e = .returned (.string (bs (txt 9 a b c i))) ∧ Below w.heap.size w w' := by
  obtain ⟨hh, ha, hb', hc', hi⟩ := right_parts h
  have la := itoa_len a (by omega) (by omega)
  have lb := itoa_len b (by omega) (by omega)
  have lc := itoa_len c (by omega) (by omega)
  have li := itoa_len i hi.1 hi.2
  have ln : (bs [99, 97, 108, 108]).size ≤ 5 := by rw [bs_size]; decide
  rw [← bs_size] at la lb lc li
  have s0 : ¬ 9223372036854775807 < (bs [99, 97, 108, 108]).size + 1 := by omega
  have s1 : ¬ 9223372036854775807 < (bs [99, 97, 108, 108]).size + 1 + (bs (Lib.itoa i)).size := by omega
  have Ha := itoa_nn a ha
  have Hb := itoa_nn b hb'
  have Hc := itoa_nn c hc'
  have HA : Hid (Lib.itoa a = Lib.decDigits a.toNat) := Ha
  have HB : Hid (Lib.itoa b = Lib.decDigits b.toNat) := Hb
  have HC : Hid (Lib.itoa c = Lib.decDigits c.toNat) := Hc
  clear Ha Hb Hc
  go_enter Tryd.func34, Tryd.ntmps34
  go_wp2_with fail
  refine (refright_any _ _ _ _ _ _).mono ?_; rintro e w1 ⟨rfl, hb⟩
  obtain ⟨hB, hz⟩ := bel_box hb
  have bx := (XBox.new w 9 a b c i).on hb
  clear hb
  have x0 := bx.c0
  have x1 := bx.c1
  have x2 := bx.c2
  have x3 := bx.c3
  have x4 := bx.c4
  have xl := bx.lt
  go_wp2_with fail
  refine (refname_9 _).mono ?_; rintro e w2 ⟨rfl, hw2⟩
  subst hw2
  go_wp2_with fail
  refine (reffields_9 _).mono ?_; rintro e w3 ⟨rfl, hw3⟩
  subst hw3
  go_wp2_with fail
  clear x0 x1 x2 x3 x4 xl
  refine (refnumber_any i hi.1 hi.2 _).mono ?_; rintro e w4 ⟨rfl, hb4⟩
  obtain ⟨hB4, hz4⟩ := bel_on hB hb4
  have bx4 := bx.on hb4
  clear hb4 bx
  have x0 := bx4.c0
  have x1 := bx4.c1
  have x2 := bx4.c2
  have x3 := bx4.c3
  have x4 := bx4.c4
  have xl := bx4.lt
  go_wp2_with fail
  go_ret
  exact ⟨ret_str (by simp only [ba_app, bs_data]; simp [txt, namesL, fA, fB, fC, fI, rt]), hB4⟩

theorem reftext_10 (a b c i : Int) (h : rightB 10 a b c i = true) (w : World) :
    Calls Tryd.prog 34 #[.agg #[.int .i64 10, .int .i64 a, .int .i64 b, .int .i64 c, .int .i64 i]] w fun e w' => e = .returned (.string (bs (txt 10 a b c i))) ∧ Below w.heap.size w w' := by
  obtain ⟨hh, ha, hb', hc', hi⟩ := right_parts h
  have la := itoa_len a (by omega) (by omega)
  have lb := itoa_len b (by omega) (by omega)
  have lc := itoa_len c (by omega) (by omega)
  have li := itoa_len i hi.1 hi.2
  have ln : (bs [114, 101, 116]).size ≤ 5 := by rw [bs_size]; decide
  rw [← bs_size] at la lb lc li
  have Ha := itoa_nn a ha
  have Hb := itoa_nn b hb'
  have Hc := itoa_nn c hc'
  have HA : Hid (Lib.itoa a = Lib.decDigits a.toNat) := Ha
  have HB : Hid (Lib.itoa b = Lib.decDigits b.toNat) := Hb
  have HC : Hid (Lib.itoa c = Lib.decDigits c.toNat) := Hc
  clear Ha Hb Hc
  go_enter Tryd.func34, Tryd.ntmps34
  go_wp2_with fail
  refine (refright_any _ _ _ _ _ _).mono ?_; rintro e w1 ⟨rfl, hb⟩
  obtain ⟨hB, hz⟩ := bel_box hb
  have bx := (XBox.new w 10 a b c i).on hb
  clear hb
  have x0 := bx.c0
  have x1 := bx.c1
  have x2 := bx.c2
  have x3 := bx.c3
  have x4 := bx.c4
  have xl := bx.lt
  go_wp2_with fail
  refine (refname_10 _).mono ?_; rintro e w2 ⟨rfl, hw2⟩
  subst hw2
  go_wp2_with fail
  refine (reffields_10 _).mono ?_; rintro e w3 ⟨rfl, hw3⟩
  subst hw3
  go_wp2_with fail
  go_ret
  exact ⟨ret_str (by simp only [bs_data]; simp [txt, namesL, fA, fB, fC, fI, rt]), hB⟩

theorem reftext_11 (a b c i : Int) (h : rightB 11 a b c i = true) (w : World) :
    Calls Tryd.prog 34 #[.agg #[.int .i64 11, .int .i64 a, .int .i64 b, .int .i64 c, .int .i64 i]] w fun e w' => e = .returned (.string (bs (txt 11 a b c i))) ∧ Below w.heap.size w w' := by
  obtain ⟨hh, ha, hb', hc', hi⟩ := right_parts h
  have la := itoa_len a (by omega) (by omega)
  have lb := itoa_len b (by omega) (by omega)
  have lc := itoa_len c (by omega) (by omega)
  have li := itoa_len i hi.1 hi.2
  have ln : (bs [105, 110]).size ≤ 5 := by rw [bs_size]; decide
  rw [← bs_size] at la lb lc li
  have s0 : ¬ 9223372036854775807 < (bs [105, 110]).size + 2 := by omega
  have s1 : ¬ 9223372036854775807 < (bs [105, 110]).size + 2 + (bs (Lib.itoa a)).size := by omega
  have Ha := itoa_nn a ha
  have Hb := itoa_nn b hb'
  have Hc := itoa_nn c hc'
  have HA : Hid (Lib.itoa a = Lib.decDigits a.toNat) := Ha
  have HB : Hid (Lib.itoa b = Lib.decDigits b.toNat) := Hb
  have HC : Hid (Lib.itoa c = Lib.decDigits c.toNat) := Hc
  clear Ha Hb Hc
  go_enter Tryd.func34, Tryd.ntmps34
  go_wp2_with fail
  refine (refright_any _ _ _ _ _ _).mono ?_; rintro e w1 ⟨rfl, hb⟩
  obtain ⟨hB, hz⟩ := bel_box hb
  have bx := (XBox.new w 11 a b c i).on hb
  clear hb
  have x0 := bx.c0
  have x1 := bx.c1
  have x2 := bx.c2
  have x3 := bx.c3
  have x4 := bx.c4
  have xl := bx.lt
  go_wp2_with fail
  refine (refname_11 _).mono ?_; rintro e w2 ⟨rfl, hw2⟩
  subst hw2
  go_wp2_with fail
  refine (reffields_11 _).mono ?_; rintro e w3 ⟨rfl, hw3⟩
  subst hw3
  go_wp2_with fail
  clear x0 x1 x2 x3 x4 xl
  refine (refnumber_any a (by omega) (by omega) _).mono ?_; rintro e w4 ⟨rfl, hb4⟩
  obtain ⟨hB4, hz4⟩ := bel_on hB hb4
  have bx4 := bx.on hb4
  clear hb4 bx
  have x0 := bx4.c0
  have x1 := bx4.c1
  have x2 := bx4.c2
  have x3 := bx4.c3
  have x4 := bx4.c4
  have xl := bx4.lt
  go_wp2_with fail
  go_ret
  exact ⟨ret_str (by simp only [ba_app, bs_data]; simp [txt, namesL, fA, fB, fC, fI, rt, HA.out]), hB4⟩

theorem reftext_12 (a b c i : Int) (h : rightB 12 a b c i = true) (w : World) :
    Calls Tryd.prog 34 #[.agg #[.int .i64 12, .int .i64 a, .int .i64 b, .int .i64 c, .int .i64 i]] w fun e w' => e = .returned (.string (bs (txt 12 a b c i))) ∧ Below w.heap.size w w' := by
  obtain ⟨hh, ha, hb', hc', hi⟩ := right_parts h
  have la := itoa_len a (by omega) (by omega)
  have lb := itoa_len b (by omega) (by omega)
  have lc := itoa_len c (by omega) (by omega)
  have li := itoa_len i hi.1 hi.2
  have ln : (bs [111, 117, 116]).size ≤ 5 := by rw [bs_size]; decide
  rw [← bs_size] at la lb lc li
  have s0 : ¬ 9223372036854775807 < (bs [111, 117, 116]).size + 2 := by omega
  have s1 : ¬ 9223372036854775807 < (bs [111, 117, 116]).size + 2 + (bs (Lib.itoa a)).size := by omega
  have Ha := itoa_nn a ha
  have Hb := itoa_nn b hb'
  have Hc := itoa_nn c hc'
  have HA : Hid (Lib.itoa a = Lib.decDigits a.toNat) := Ha
  have HB : Hid (Lib.itoa b = Lib.decDigits b.toNat) := Hb
  have HC : Hid (Lib.itoa c = Lib.decDigits c.toNat) := Hc
  clear Ha Hb Hc
  go_enter Tryd.func34, Tryd.ntmps34
  go_wp2_with fail
  refine (refright_any _ _ _ _ _ _).mono ?_; rintro e w1 ⟨rfl, hb⟩
  obtain ⟨hB, hz⟩ := bel_box hb
  have bx := (XBox.new w 12 a b c i).on hb
  clear hb
  have x0 := bx.c0
  have x1 := bx.c1
  have x2 := bx.c2
  have x3 := bx.c3
  have x4 := bx.c4
  have xl := bx.lt
  go_wp2_with fail
  refine (refname_12 _).mono ?_; rintro e w2 ⟨rfl, hw2⟩
  subst hw2
  go_wp2_with fail
  refine (reffields_12 _).mono ?_; rintro e w3 ⟨rfl, hw3⟩
  subst hw3
  go_wp2_with fail
  clear x0 x1 x2 x3 x4 xl
  refine (refnumber_any a (by omega) (by omega) _).mono ?_; rintro e w4 ⟨rfl, hb4⟩
  obtain ⟨hB4, hz4⟩ := bel_on hB hb4
  have bx4 := bx.on hb4
  clear hb4 bx
  have x0 := bx4.c0
  have x1 := bx4.c1
  have x2 := bx4.c2
  have x3 := bx4.c3
  have x4 := bx4.c4
  have xl := bx4.lt
  go_wp2_with fail
  go_ret
  exact ⟨ret_str (by simp only [ba_app, bs_data]; simp [txt, namesL, fA, fB, fC, fI, rt, HA.out]), hB4⟩

theorem reftext_13 (a b c i : Int) (h : rightB 13 a b c i = true) (w : World) :
    Calls Tryd.prog 34 #[.agg #[.int .i64 13, .int .i64 a, .int .i64 b, .int .i64 c, .int .i64 i]] w fun e w' => e = .returned (.string (bs (txt 13 a b c i))) ∧ Below w.heap.size w w' := by
  obtain ⟨hh, ha, hb', hc', hi⟩ := right_parts h
  have la := itoa_len a (by omega) (by omega)
  have lb := itoa_len b (by omega) (by omega)
  have lc := itoa_len c (by omega) (by omega)
  have li := itoa_len i hi.1 hi.2
  have ln : (bs [97, 108, 108, 111, 99]).size ≤ 5 := by rw [bs_size]; decide
  rw [← bs_size] at la lb lc li
  have s0 : ¬ 9223372036854775807 < (bs [97, 108, 108, 111, 99]).size + 2 := by omega
  have s1 : ¬ 9223372036854775807 < (bs [97, 108, 108, 111, 99]).size + 2 + (bs (Lib.itoa a)).size := by omega
  have s2 : ¬ 9223372036854775807 < (bs [97, 108, 108, 111, 99]).size + 2 + (bs (Lib.itoa a)).size + 2 := by omega
  have s3 : ¬ 9223372036854775807 < (bs [97, 108, 108, 111, 99]).size + 2 + (bs (Lib.itoa a)).size + 2 + (bs (Lib.itoa b)).size := by omega
  have Ha := itoa_nn a ha
  have Hb := itoa_nn b hb'
  have Hc := itoa_nn c hc'
  have HA : Hid (Lib.itoa a = Lib.decDigits a.toNat) := Ha
  have HB : Hid (Lib.itoa b = Lib.decDigits b.toNat) := Hb
  have HC : Hid (Lib.itoa c = Lib.decDigits c.toNat) := Hc
  clear Ha Hb Hc
  go_enter Tryd.func34, Tryd.ntmps34
  go_wp2_with fail
  refine (refright_any _ _ _ _ _ _).mono ?_; rintro e w1 ⟨rfl, hb⟩
  obtain ⟨hB, hz⟩ := bel_box hb
  have bx := (XBox.new w 13 a b c i).on hb
  clear hb
  have x0 := bx.c0
  have x1 := bx.c1
  have x2 := bx.c2
  have x3 := bx.c3
  have x4 := bx.c4
  have xl := bx.lt
  go_wp2_with fail
  refine (refname_13 _).mono ?_; rintro e w2 ⟨rfl, hw2⟩
  subst hw2
  go_wp2_with fail
  refine (reffields_13 _).mono ?_; rintro e w3 ⟨rfl, hw3⟩
  subst hw3
  go_wp2_with fail
  clear x0 x1 x2 x3 x4 xl
  refine (refnumber_any a (by omega) (by omega) _).mono ?_; rintro e w4 ⟨rfl, hb4⟩
  obtain ⟨hB4, hz4⟩ := bel_on hB hb4
  have bx4 := bx.on hb4
  clear hb4 bx
  have x0 := bx4.c0
  have x1 := bx4.c1
  have x2 := bx4.c2
  have x3 := bx4.c3
  have x4 := bx4.c4
  have xl := bx4.lt
  go_wp2_with fail
  clear x0 x1 x2 x3 x4 xl
  refine (refnumber_any b (by omega) (by omega) _).mono ?_; rintro e w5 ⟨rfl, hb5⟩
  obtain ⟨hB5, hz5⟩ := bel_on hB4 hb5
  have bx5 := bx4.on hb5
  clear hb5 bx4
  have x0 := bx5.c0
  have x1 := bx5.c1
  have x2 := bx5.c2
  have x3 := bx5.c3
  have x4 := bx5.c4
  have xl := bx5.lt
  go_wp2_with fail
  go_ret
  exact ⟨ret_str (by simp only [ba_app, bs_data]; simp [txt, namesL, fA, fB, fC, fI, rt, HA.out, HB.out]), hB5⟩

theorem reftext_14 (a b c i : Int) (h : rightB 14 a b c i = true) (w : World) :
    Calls Tryd.prog 34 #[.agg #[.int .i64 14, .int .i64 a, .int .i64 b, .int .i64 c, .int .i64 i]] w fun e w' => e = .returned (.string (bs (txt 14 a b c i))) ∧ Below w.heap.size w w' := by
  obtain ⟨hh, ha, hb', hc', hi⟩ := right_parts h
  have la := itoa_len a (by omega) (by omega)
  have lb := itoa_len b (by omega) (by omega)
  have lc := itoa_len c (by omega) (by omega)
  have li := itoa_len i hi.1 hi.2
  have ln : (bs [97, 100, 100, 105]).size ≤ 5 := by rw [bs_size]; decide
  rw [← bs_size] at la lb lc li
  have s0 : ¬ 9223372036854775807 < (bs [97, 100, 100, 105]).size + 2 := by omega
  have s1 : ¬ 9223372036854775807 < (bs [97, 100, 100, 105]).size + 2 + (bs (Lib.itoa a)).size := by omega
  have s2 : ¬ 9223372036854775807 < (bs [97, 100, 100, 105]).size + 2 + (bs (Lib.itoa a)).size + 2 := by omega
  have s3 : ¬ 9223372036854775807 < (bs [97, 100, 100, 105]).size + 2 + (bs (Lib.itoa a)).size + 2 + (bs (Lib.itoa b)).size := by omega
  have s4 : ¬ 9223372036854775807 < (bs [97, 100, 100, 105]).size + 2 + (bs (Lib.itoa a)).size + 2 + (bs (Lib.itoa b)).size + 1 := by omega
  have s5 : ¬ 9223372036854775807 < (bs [97, 100, 100, 105]).size + 2 + (bs (Lib.itoa a)).size + 2 + (bs (Lib.itoa b)).size + 1 + (bs (Lib.itoa i)).size := by omega
  have Ha := itoa_nn a ha
  have Hb := itoa_nn b hb'
  have Hc := itoa_nn c hc'
  have HA : Hid (Lib.itoa a = Lib.decDigits a.toNat) := Ha
  have HB : Hid (Lib.itoa b = Lib.decDigits b.toNat) := Hb
  have HC : Hid (Lib.itoa c = Lib.decDigits c.toNat) := Hc
  clear Ha Hb Hc
  go_enter Tryd.func34, Tryd.ntmps34
  go_wp2_with fail
  refine (refright_any _ _ _ _ _ _).mono ?_; rintro e w1 ⟨rfl, hb⟩
  obtain ⟨hB, hz⟩ := bel_box hb
  have bx := (XBox.new w 14 a b c i).on hb
  clear hb
  have x0 := bx.c0
  have x1 := bx.c1
  have x2 := bx.c2
  have x3 := bx.c3
  have x4 := bx.c4
  have xl := bx.lt
  go_wp2_with fail
  refine (refname_14 _).mono ?_; rintro e w2 ⟨rfl, hw2⟩
  subst hw2
  go_wp2_with fail
  refine (reffields_14 _).mono ?_; rintro e w3 ⟨rfl, hw3⟩
  subst hw3
  go_wp2_with fail
  clear x0 x1 x2 x3 x4 xl
  refine (refnumber_any a (by omega) (by omega) _).mono ?_; rintro e w4 ⟨rfl, hb4⟩
  obtain ⟨hB4, hz4⟩ := bel_on hB hb4
  have bx4 := bx.on hb4
  clear hb4 bx
  have x0 := bx4.c0
  have x1 := bx4.c1
  have x2 := bx4.c2
  have x3 := bx4.c3
  have x4 := bx4.c4
  have xl := bx4.lt
  go_wp2_with fail
  clear x0 x1 x2 x3 x4 xl
  refine (refnumber_any b (by omega) (by omega) _).mono ?_; rintro e w5 ⟨rfl, hb5⟩
  obtain ⟨hB5, hz5⟩ := bel_on hB4 hb5
  have bx5 := bx4.on hb5
  clear hb5 bx4
  have x0 := bx5.c0
  have x1 := bx5.c1
  have x2 := bx5.c2
  have x3 := bx5.c3
  have x4 := bx5.c4
  have xl := bx5.lt
  go_wp2_with fail
  clear x0 x1 x2 x3 x4 xl
  refine (refnumber_any i hi.1 hi.2 _).mono ?_; rintro e w6 ⟨rfl, hb6⟩
  obtain ⟨hB6, hz6⟩ := bel_on hB5 hb6
  have bx6 := bx5.on hb6
  clear hb6 bx5
  have x0 := bx6.c0
  have x1 := bx6.c1
  have x2 := bx6.c2
  have x3 := bx6.c3
  have x4 := bx6.c4
  have xl := bx6.lt
  go_wp2_with fail
  go_ret
  exact ⟨ret_str (by simp only [ba_app, bs_data]; simp [txt, namesL, fA, fB, fC, fI, rt, HA.out, HB.out]), hB6⟩

theorem reftext_any (o a b c i : Int) (w : World) :
    Calls Tryd.prog 34 #[.agg #[.int .i64 o, .int .i64 a, .int .i64 b, .int .i64 c, .int .i64 i]] w fun e w' => e = .returned (.string (bs (textL o a b c i))) ∧ Below w.heap.size w w' := by
  cases h : rightB o a b c i
  · rw [show textL o a b c i = [63] by unfold textL; rw [h]; rfl]
    exact reftext_no o a b c i h w
  · rcases op_cases (right_op h) with rfl | rfl | rfl | rfl | rfl | rfl | rfl | rfl | rfl | rfl | rfl | rfl | rfl | rfl | rfl
    · rw [show textL 0 a b c i = txt 0 a b c i by unfold textL; rw [h]; rfl]
      exact reftext_0 a b c i h w
    · rw [show textL 1 a b c i = txt 1 a b c i by unfold textL; rw [h]; rfl]
      exact reftext_1 a b c i h w
    · rw [show textL 2 a b c i = txt 2 a b c i by unfold textL; rw [h]; rfl]
      exact reftext_2 a b c i h w
    · rw [show textL 3 a b c i = txt 3 a b c i by unfold textL; rw [h]; rfl]
      exact reftext_3 a b c i h w
    · rw [show textL 4 a b c i = txt 4 a b c i by unfold textL; rw [h]; rfl]
      exact reftext_4 a b c i h w
    · rw [show textL 5 a b c i = txt 5 a b c i by unfold textL; rw [h]; rfl]
      exact reftext_5 a b c i h w
    · rw [show textL 6 a b c i = txt 6 a b c i by unfold textL; rw [h]; rfl]
      exact reftext_6 a b c i h w
    · rw [show textL 7 a b c i = txt 7 a b c i by unfold textL; rw [h]; rfl]
      exact reftext_7 a b c i h w
    · rw [show textL 8 a b c i = txt 8 a b c i by unfold textL; rw [h]; rfl]
      exact reftext_8 a b c i h w
    · rw [show textL 9 a b c i = txt 9 a b c i by unfold textL; rw [h]; rfl]
      exact reftext_9 a b c i h w
    · rw [show textL 10 a b c i = txt 10 a b c i by unfold textL; rw [h]; rfl]
      exact reftext_10 a b c i h w
    · rw [show textL 11 a b c i = txt 11 a b c i by unfold textL; rw [h]; rfl]
      exact reftext_11 a b c i h w
    · rw [show textL 12 a b c i = txt 12 a b c i by unfold textL; rw [h]; rfl]
      exact reftext_12 a b c i h w
    · rw [show textL 13 a b c i = txt 13 a b c i by unfold textL; rw [h]; rfl]
      exact reftext_13 a b c i h w
    · rw [show textL 14 a b c i = txt 14 a b c i by unfold textL; rw [h]; rfl]
      exact reftext_14 a b c i h w


end Go.Proofs.YtbfmadcppnfgpaaDoor
