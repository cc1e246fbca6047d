/-
  The law MachineReckons (layer 4), by walks over the translation.
-/
import Derived.Test.YthokpdalojfmiaaSmall
namespace Go.Proofs.Ythokpdalojfmiaa
open Go.ChangeShapes Go.WideShapes Go.ChangeAt Go.RowKit

def reckL (op : Int) : List Ins := [⟨11, 1, 0, 0, 0⟩, ⟨11, 2, 0, 0, 0⟩, ⟨4, 3, 1, 2, op⟩, ⟨12, 3, 0, 0, 0⟩, ⟨0, 0, 0, 0, 0⟩]
theorem reck_new (op : Int) (h : knB op = true) : newE (reckL op) 3 = 0 := by
  have : allRight (reckL op) = true := by
    have e : rightB 4 3 1 2 op = true := by
      show (true && (true && true && true && immB op 3)) = true
      simpa [immB] using h
    unfold allRight reckL
    simp only [List.all_cons, List.all_nil, Ins.right, e, Bool.and_true]
    decide
  unfold newE
  rw [if_neg (by simp [this]), if_neg (by decide)]

theorem reck_ok (op a b : Int) (h : doE op b = 0) : (runM (reckL op) 9 (MS.init 3 [a, b])).2 = 5 ∧ (runM (reckL op) 9 (MS.init 3 [a, b])).1.err = 0 ∧ (runM (reckL op) 9 (MS.init 3 [a, b])).1.code = 0 ∧
    (runM (reckL op) 9 (MS.init 3 [a, b])).1.over = true ∧ (runM (reckL op) 9 (MS.init 3 [a, b])).1.out = [doV op a b] := by
  have e2 : runM (reckL op) 9 (MS.init 3 [a, b]) = ((runM (reckL op) 7 ⟨fresh 3, [0, a, b, 0, 0, 0, 0, 0, 0, 0, 0, 0, 0, 0, 3, 0], 2, [], [], 0, 0, false⟩).1, (runM (reckL op) 7 ⟨fresh 3, [0, a, b, 0, 0, 0, 0, 0, 0, 0, 0, 0, 0, 0, 3, 0], 2, [], [], 0, 0, false⟩).2 + 1 + 1) := rfl
  have e3 : stepM (reckL op) ⟨fresh 3, [0, a, b, 0, 0, 0, 0, 0, 0, 0, 0, 0, 0, 0, 3, 0], 2, [], [], 0, 0, false⟩ = ⟨fresh 3, [0, a, b, doV op a b, 0, 0, 0, 0, 0, 0, 0, 0, 0, 0, 3, 0], 3, [], [], 0, 0, false⟩ := by
    have ed : doR (reckL op) ⟨fresh 3, [0, a, b, 0, 0, 0, 0, 0, 0, 0, 0, 0, 0, 0, 3, 0], 2, [], [], 0, 0, false⟩ = (if doE op b = 0 then (⟨fresh 3, [0, a, b, doV op a b, 0, 0, 0, 0, 0, 0, 0, 0, 0, 0, 3, 0], 2, [], [], 0, 0, false⟩, 3, 0) else (⟨fresh 3, [0, a, b, 0, 0, 0, 0, 0, 0, 0, 0, 0, 0, 0, 3, 0], 2, [], [], 0, 0, false⟩, 0, doE op b)) := rfl
    rw [if_pos h] at ed
    unfold stepM
    rw [if_neg (by simp), ed]
    rfl
  have e4 : runM (reckL op) 7 ⟨fresh 3, [0, a, b, 0, 0, 0, 0, 0, 0, 0, 0, 0, 0, 0, 3, 0], 2, [], [], 0, 0, false⟩ = ((runM (reckL op) 6 (stepM (reckL op) ⟨fresh 3, [0, a, b, 0, 0, 0, 0, 0, 0, 0, 0, 0, 0, 0, 3, 0], 2, [], [], 0, 0, false⟩)).1, (runM (reckL op) 6 (stepM (reckL op) ⟨fresh 3, [0, a, b, 0, 0, 0, 0, 0, 0, 0, 0, 0, 0, 0, 3, 0], 2, [], [], 0, 0, false⟩)).2 + 1) := rfl
  rw [e3] at e4
  rw [e2, e4]
  exact ⟨rfl, rfl, rfl, rfl, rfl⟩
theorem reck_err (op a b : Int) (h : ¬ doE op b = 0) : (runM (reckL op) 9 (MS.init 3 [a, b])).2 = 3 ∧ (runM (reckL op) 9 (MS.init 3 [a, b])).1.err = doE op b ∧ (runM (reckL op) 9 (MS.init 3 [a, b])).1.code = 0 ∧
    (runM (reckL op) 9 (MS.init 3 [a, b])).1.over = true ∧ (runM (reckL op) 9 (MS.init 3 [a, b])).1.out = [] := by
  have e2 : runM (reckL op) 9 (MS.init 3 [a, b]) = ((runM (reckL op) 7 ⟨fresh 3, [0, a, b, 0, 0, 0, 0, 0, 0, 0, 0, 0, 0, 0, 3, 0], 2, [], [], 0, 0, false⟩).1, (runM (reckL op) 7 ⟨fresh 3, [0, a, b, 0, 0, 0, 0, 0, 0, 0, 0, 0, 0, 0, 3, 0], 2, [], [], 0, 0, false⟩).2 + 1 + 1) := rfl
  have e3 : stepM (reckL op) ⟨fresh 3, [0, a, b, 0, 0, 0, 0, 0, 0, 0, 0, 0, 0, 0, 3, 0], 2, [], [], 0, 0, false⟩ = ⟨fresh 3, [0, a, b, 0, 0, 0, 0, 0, 0, 0, 0, 0, 0, 0, 3, 0], 2, [], [], doE op b, 0, true⟩ := by
    have ed : doR (reckL op) ⟨fresh 3, [0, a, b, 0, 0, 0, 0, 0, 0, 0, 0, 0, 0, 0, 3, 0], 2, [], [], 0, 0, false⟩ = (if doE op b = 0 then (⟨fresh 3, [0, a, b, doV op a b, 0, 0, 0, 0, 0, 0, 0, 0, 0, 0, 3, 0], 2, [], [], 0, 0, false⟩, 3, 0) else (⟨fresh 3, [0, a, b, 0, 0, 0, 0, 0, 0, 0, 0, 0, 0, 0, 3, 0], 2, [], [], 0, 0, false⟩, 0, doE op b)) := rfl
    rw [if_neg h] at ed
    unfold stepM
    rw [if_neg (by simp), ed]
    simp only
    rw [if_neg h]
    rfl
  have e4 : runM (reckL op) 7 ⟨fresh 3, [0, a, b, 0, 0, 0, 0, 0, 0, 0, 0, 0, 0, 0, 3, 0], 2, [], [], 0, 0, false⟩ = ((runM (reckL op) 6 (stepM (reckL op) ⟨fresh 3, [0, a, b, 0, 0, 0, 0, 0, 0, 0, 0, 0, 0, 0, 3, 0], 2, [], [], 0, 0, false⟩)).1, (runM (reckL op) 6 (stepM (reckL op) ⟨fresh 3, [0, a, b, 0, 0, 0, 0, 0, 0, 0, 0, 0, 0, 0, 3, 0], 2, [], [], 0, 0, false⟩)).2 + 1) := rfl
  rw [e3] at e4
  rw [e2, e4]
  exact ⟨rfl, rfl, rfl, rfl, rfl⟩

set_option maxRecDepth 100000 in
set_option maxHeartbeats 2000000 in
theorem reckons_walk (op a b : Int) (w : World) : Calls Try.prog 5 #[iv op, iv a, iv b] w fun e w' => e = .returned (.bool true) ∧ Below w.heap.size w w' := by
  cases hk : knB op with
  | false =>
    go_enter Try.func5, Try.ntmps5
    go_wp2_with fail
    refine (small_any w).mono ?_; rintro e w1 ⟨rfl, hb1⟩
    have hkn := known_any op w1
    rw [hk] at hkn
    go_wp2_with fail
    refine hkn.mono ?_; rintro e w2 ⟨rfl, rfl⟩
    go_wp2_with fail
    go_ret
    exact ⟨rfl, hb1⟩
  | true =>
    have hnE := reck_new op hk
    have HNE : Hid (newE (reckL op) 3 = 0) := hnE
    clear hnE
    go_enter Try.func5, Try.ntmps5
    go_wp2_with fail
    refine (small_any w).mono ?_; rintro e w1 ⟨rfl, hb1⟩
    have hkn := known_any op w1
    rw [hk] at hkn
    have hz1 := hb1.size
    go_wp2_with fail
    refine hkn.mono ?_; rintro e w2 ⟨rfl, rfl⟩
    have hb2 : Below w2.heap.size w2 ((w2.alloc (.cells #[iv 11, iv 1, iv 0, iv 0, iv 0, iv 11, iv 2, iv 0, iv 0, iv 0, iv 4, iv 3, iv 1, iv 2, iv op, iv 12, iv 3, iv 0, iv 0, iv 0, iv 0, iv 0, iv 0, iv 0, iv 0] 44)).alloc (.cells #[iv a, iv b] 3)) := ((Below.refl _ w2).alloc (Nat.le_refl _) _).alloc (by simp) _
    have hn1 := new_mac (w := (w2.alloc (.cells #[iv 11, iv 1, iv 0, iv 0, iv 0, iv 11, iv 2, iv 0, iv 0, iv 0, iv 4, iv 3, iv 1, iv 2, iv op, iv 12, iv 3, iv 0, iv 0, iv 0, iv 0, iv 0, iv 0, iv 0, iv 0] 44)).alloc (.cells #[iv a, iv b] 3)) (cv := .slice (some ⟨w2.heap.size, 0, none⟩) 5 5) (nv := .slice (some ⟨w2.heap.size + 1, 0, none⟩) 2 2) (row_lit (reckL op) (by rw [Below.heap_alloc _ _ _ (by simp)]; exact heap_new _ _ rfl)) (ints_lit [a, b] (by simp) (heap_new _ _ (by simp))) (by simp [reckL]) (by simp) 3
    unfold NewAns at hn1
    rw [HNE.out] at hn1
    go_wp2_with fail
    refine hn1.mono ?_
    rintro e w3 ⟨hb3, (⟨hne, _⟩ | ⟨_, B, F, rfl, hF, mx⟩)⟩
    · exact absurd rfl hne
    have hz2 := hb2.size
    have hB3 := hb1.trans ((hb2.trans (hb3.mono hz2)).mono hz1)
    have hz3 := hB3.size
    have ox : Own w.heap.size w3 F B (reckL op) (MS.init 3 [a, b]) := ⟨mx, fun k hk => by have := hF k hk; omega⟩
    clear hn1 hb3 hb2 hF mx hkn hk
    go_wp2_with fail
    refine (do_any op a b w3).mono ?_; rintro e w4 ⟨rfl, rfl⟩
    have hr := run_mac ox.1 9 (by simp [MS.init])
    by_cases hE : doE op b = 0
    · obtain ⟨q1, q2, q3, q4, q5⟩ := reck_ok op a b hE
      rw [q1] at hr
      rw [hE]
      generalize (runM (reckL op) 9 (MS.init 3 [a, b])).1 = t at *
      generalize doV op a b = v at *
      go_wp2_with fail
      refine hr.mono ?_; rintro e w5 ⟨rfl, hans⟩
      obtain ⟨hb5, F5, o5⟩ := hans.own ox hz3
      have hB5 := hB3.trans hb5
      have hz5 := hB5.size
      have he := end_mac o5.1
      rw [q2, q3, q4] at he
      clear hr hans ox hb5
      go_wp2_with fail
      refine he.mono ?_; rintro e w6 ⟨rfl, hb6⟩
      have hB6 := hB5.trans (hb6.mono hz5)
      have hz6 := hB6.size
      have hb7 : Below w6.heap.size w6 (w6.alloc (.cells #[iv 0, iv 0] 32)) := (Below.refl _ w6).alloc (Nat.le_refl _) _
      have hB7 := hB6.trans (hb7.mono hz6)
      have hz7 := hB7.size
      have ho := output_mac ((o5.1.below hb6).below hb7) (by rw [q5]; simp)
      rw [q5] at ho
      go_wp2_with fail
      refine ho.mono ?_; rintro e w8 ⟨v8, rfl, hb8, hi8⟩
      have hB8 := hB7.trans (hb8.mono hz7)
      have hz8 := hB8.size
      have hb9 : Below w8.heap.size w8 (w8.alloc (.cells #[iv v] 3)) := (Below.refl _ w8).alloc (Nat.le_refl _) _
      have hr6 := ints_same (by simp) (hi8.keep (W' := w8.alloc (.cells #[iv v] 3)) (fun k hk => hb9.block k hk.2)) (ints_lit (g := w8.heap.size) [v] (by simp) (heap_new _ _ rfl))
      clear ho he
      go_wp2_with fail
      refine hr6.mono ?_; rintro e w9 ⟨rfl, hb10⟩
      have hB9 := hB8.trans ((hb9.trans (hb10.mono hb9.size)).mono hz8)
      go_wp2_with fail
      go_ret
      exact ⟨rfl, hB9⟩
    · obtain ⟨q1, q2, q3, q4, q5⟩ := reck_err op a b hE
      rw [q1] at hr
      generalize (runM (reckL op) 9 (MS.init 3 [a, b])).1 = t at *
      generalize doV op a b = v at *
      generalize doE op b = y at *
      have e0 : (y == 0) = false := by simp [hE]
      have e1 : (y == y) = true := by simp
      clear hE
      go_wp2_with fail
      refine hr.mono ?_; rintro e w5 ⟨rfl, hans⟩
      obtain ⟨hb5, F5, o5⟩ := hans.own ox hz3
      have hB5 := hB3.trans hb5
      have hz5 := hB5.size
      have he := end_mac o5.1
      rw [q2, q3, q4] at he
      clear hr hans ox hb5
      go_wp2_with fail
      refine he.mono ?_; rintro e w6 ⟨rfl, hb6⟩
      have hB6 := hB5.trans (hb6.mono hz5)
      have hz6 := hB6.size
      have hb7 : Below w6.heap.size w6 (w6.alloc (.cells #[iv y, iv 0] 32)) := (Below.refl _ w6).alloc (Nat.le_refl _) _
      have hB7 := hB6.trans (hb7.mono hz6)
      have hz7 := hB7.size
      have ho := output_mac ((o5.1.below hb6).below hb7) (by rw [q5]; simp)
      rw [q5] at ho
      clear he
      go_wp2_with fail
      refine ho.mono ?_; rintro e w8 ⟨v8, rfl, hb8, hi8⟩
      have hB8 := hB7.trans (hb8.mono hz7)
      obtain ⟨sp, cp, rfl, _⟩ := hi8
      simp only [List.length_nil]
      go_wp2_with fail
      go_ret
      exact ⟨rfl, hB8⟩

end Go.Proofs.Ythokpdalojfmiaa
