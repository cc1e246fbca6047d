/-
  The first token of a text (layer 9): contracts of signSize, numberSize, first, Name, strings.Clone.
-/
import Derived.Test.YtekangigfhhkoaaSgn
namespace Go.Proofs.Ytekangigfhhkoaa
open Go.ChangeShapes Go.WideShapes Go.ChangeAt Go.RowKit Go.Shelf

theorem s_take (s : ByteArray) (k : Nat) : (s.extract 0 k).data.toList = s.data.toList.take k := by
  rw [s_cut, List.drop_zero, Nat.sub_zero]
theorem signSize_at (l : List UInt8) (k m : Nat) (hm : m = min l.length 2) (hk : k ≤ m) (hk0 : 0 < k) (h1 : sign (l.take k) = true) (h2 : ∀ j, k < j → j ≤ m → sign (l.take j) = false) : signSize l = k := by
  unfold signSize
  have : k = 1 ∨ k = 2 := by omega
  rcases this with rfl | rfl
  · rw [if_neg, if_pos ⟨by omega, h1⟩]
    rintro ⟨h3, h4⟩
    rw [h2 2 (by omega) (by omega)] at h4; cases h4
  · rw [if_pos ⟨by omega, h1⟩]
theorem signSize_none (l : List UInt8) (m : Nat) (hm : m = min l.length 2) (h2 : ∀ j, 0 < j → j ≤ m → sign (l.take j) = false) : signSize l = 0 := by
  unfold signSize
  rw [if_neg, if_neg]
  · rintro ⟨h3, h4⟩
    rw [h2 1 (by omega) (by omega)] at h4; cases h4
  · rintro ⟨h3, h4⟩
    rw [h2 2 (by omega) (by omega)] at h4; cases h4
set_option maxRecDepth 100000 in
set_option maxHeartbeats 1000000 in
theorem signSize_s (s : ByteArray) (hl : s.size ≤ 100000000) (w : World) :
    Calls Try.prog 43 #[.string s] w fun e w' => e = .returned (.int .i64 (signSize s.data.toList : Int)) ∧ w' = w := by
  obtain ⟨m, hm⟩ : ∃ m, m = min s.data.toList.length 2 := ⟨_, rfl⟩
  have hms : m = min s.size 2 := by rw [hm, s_size]
  have e0 : min (s.size : Int) 2 = (m : Int) := by omega
  have HM := hide hm
  have hm2 : m ≤ s.size := by omega
  have hm3 : m ≤ 2 := by omega
  clear hm hms
  go_enter Try.func43, Try.ntmps43
  go_wp2
  go_loopw [3] (fun i wr => ∃ k : Nat, i = .int .i64 (k : Int) ∧ k ≤ m ∧ (∀ j, k < j → j ≤ m → sign (s.data.toList.take j) = false) ∧ wr = w) (fun i _ => (RowKit.intOf i).toNat)
  case atStart => exact ⟨m, by simp, Nat.le_refl _, fun j h1 h2 => by omega, rfl⟩
  case round =>
    obtain ⟨k, rfl, hk, hno, rfl⟩ := hrel
    have HNO := hide hno
    clear hno
    by_cases hk0 : 0 < k
    · have e1 : ((0 : Int) < (k : Int)) = True := eq_true (by omega)
      have H := sign_s (s.extract 0 k) wr
      rw [s_take] at H
      by_cases hs : sign (s.data.toList.take k) = true
      · rw [hs] at H
        have HR := hide (signSize_at _ k m HM.out hk hk0 hs HNO.out)
        clear hs
        go_wp2_with fail
        refine H.mono ?_
        rintro e w' ⟨rfl, rfl⟩
        go_wp2
        go_ret
        exact ⟨by rw [HR.out]; rfl, rfl⟩
      · have hs' : sign (s.data.toList.take k) = false := by simpa using hs
        rw [hs'] at H
        have HR : Hid (∀ j, k - 1 < j → j ≤ m → sign (s.data.toList.take j) = false) := fun j h1 h2 => by
          by_cases e : j = k
          · rw [e]; exact hs'
          · exact HNO.out j (by omega) h2
        clear hs hs'
        go_wp2_with fail
        refine H.mono ?_
        rintro e w' ⟨rfl, rfl⟩
        go_wp2
        go_roundw
        case rel => exact ⟨k - 1, by rw [show ((k - 1 : Nat) : Int) = (k : Int) - 1 by omega], by omega, HR.out, by first | rfl | trivial⟩
        case measure => simp [RowKit.intOf]; omega
    · have hk1 : k = 0 := by omega
      subst hk1
      have HR := hide (signSize_none _ m HM.out HNO.out)
      go_wp2
      go_ret
      exact ⟨by rw [HR.out]; rfl, rfl⟩

theorem headLetter_at (s : ByteArray) (k : Nat) (h : k < s.size) : headLetter (s.data.toList.drop k) = letter (s[k]'h) := by
  rw [drop_at s k h]; rfl
set_option maxRecDepth 100000 in
set_option maxHeartbeats 1000000 in
theorem numberSize_s (s : ByteArray) (hl : s.size ≤ 100000000) (w : World) :
    Calls Try.prog 42 #[.string s] w fun e w' => e = .returned (.int .i64 (numSize s.data.toList : Int)) ∧ w' = w := by
  have H1 := count_s s 26 digit tells26 hl w
  have hle := cnt_le digit s.data.toList
  rw [s_size] at hle
  have HZ : Hid (numSize s.data.toList = if (num (s.data.toList.take (cnt digit s.data.toList))).isNone = true then 0 else if headLetter (s.data.toList.drop (cnt digit s.data.toList)) = true then 0 else cnt digit s.data.toList) := rfl
  generalize cnt digit s.data.toList = n at *
  have H2 := number_s (s.extract 0 n) (by rw [← s_size, s_take, List.length_take, s_size]; omega) w
  rw [s_take] at H2
  generalize num (s.data.toList.take n) = o at *
  cases o with
  | none =>
    have HR : Hid (numSize s.data.toList = 0) := HZ.out
    clear HZ
    rw [numV_none] at H2
    go_enter Try.func42, Try.ntmps42
    go_wp2_with fail
    refine H1.mono ?_
    rintro e w' ⟨rfl, rfl⟩
    go_wp2_with fail
    refine H2.mono ?_
    rintro e w' ⟨rfl, rfl⟩
    go_wp2
    go_ret
    exact ⟨by rw [HR.out]; rfl, rfl⟩
  | some m =>
    have HZ' : Hid (numSize s.data.toList = if headLetter (s.data.toList.drop n) = true then 0 else n) := HZ.out
    clear HZ
    rw [numV_some] at H2
    by_cases hn : n < s.size
    · have e1 : ((n : Int) < (s.size : Int)) = True := eq_true (by omega)
      have H3 := letter_is (s[n]'hn) w
      rw [headLetter_at s n hn] at HZ'
      by_cases hlt : letter (s[n]'hn) = true
      · rw [hlt] at H3
        have HR : Hid (numSize s.data.toList = 0) := by have := HZ'.out; rw [if_pos hlt] at this; exact this
        clear HZ' hlt
        go_enter Try.func42, Try.ntmps42
        go_wp2_with fail
        refine H1.mono ?_
        rintro e w' ⟨rfl, rfl⟩
        go_wp2_with fail
        refine H2.mono ?_
        rintro e w' ⟨rfl, rfl⟩
        go_wp2_with fail
        refine H3.mono ?_
        rintro e w' ⟨rfl, rfl⟩
        go_wp2
        go_ret
        exact ⟨by rw [HR.out]; rfl, rfl⟩
      · have hlt' : letter (s[n]'hn) = false := by simpa using hlt
        rw [hlt'] at H3
        have HR : Hid (numSize s.data.toList = n) := by have := HZ'.out; rw [if_neg hlt] at this; exact this
        clear HZ' hlt hlt'
        go_enter Try.func42, Try.ntmps42
        go_wp2_with fail
        refine H1.mono ?_
        rintro e w' ⟨rfl, rfl⟩
        go_wp2_with fail
        refine H2.mono ?_
        rintro e w' ⟨rfl, rfl⟩
        go_wp2_with fail
        refine H3.mono ?_
        rintro e w' ⟨rfl, rfl⟩
        go_wp2
        go_ret
        exact ⟨by rw [HR.out]; rfl, rfl⟩
    · have e1 : ((n : Int) < (s.size : Int)) = False := eq_false (by omega)
      have HR : Hid (numSize s.data.toList = n) := by
        have := HZ'.out
        rw [List.drop_of_length_le (by rw [s_size]; omega)] at this
        exact this
      clear HZ'
      go_enter Try.func42, Try.ntmps42
      go_wp2_with fail
      refine H1.mono ?_
      rintro e w' ⟨rfl, rfl⟩
      go_wp2_with fail
      refine H2.mono ?_
      rintro e w' ⟨rfl, rfl⟩
      go_wp2
      go_ret
      exact ⟨by rw [HR.out]; rfl, rfl⟩

set_option maxRecDepth 100000 in
set_option maxHeartbeats 1000000 in
theorem first_s (s : ByteArray) (h0 : 0 < s.size) (hl : s.size ≤ 100000000) (w : World) :
    Calls Try.prog 36 #[.string s] w fun e w' => e = .returned (.tuple #[.int .i64 ((first s.data.toList).1 : Int), .int .i64 ((first s.data.toList).2 : Int)]) ∧ w' = w := by
  have HF : Hid (first s.data.toList = if letter (s[0]'h0) = true then (1, cnt ofName s.data.toList) else if digit (s[0]'h0) = true then (2, numSize s.data.toList) else (3, signSize s.data.toList)) := by
    have e := drop_at s 0 h0
    rw [List.drop_zero] at e
    rw [Hid, e]; rfl
  have H1 := letter_is (s[0]'h0) w
  have H2 := digit_is (s[0]'h0) w
  by_cases h1 : letter (s[0]'h0) = true
  · rw [h1] at H1
    have HR : Hid (first s.data.toList = (1, cnt ofName s.data.toList)) := by have := HF.out; rw [if_pos h1] at this; exact this
    have H3 := count_s s 29 ofName tells29 hl w
    clear HF h1 H2
    go_enter Try.func36, Try.ntmps36
    go_wp2_with fail
    refine H1.mono ?_
    rintro e w' ⟨rfl, rfl⟩
    go_wp2_with fail
    refine H3.mono ?_
    rintro e w' ⟨rfl, rfl⟩
    go_wp2
    go_ret2
    exact ⟨by rw [HR.out]; rfl, rfl⟩
  · have h1' : letter (s[0]'h0) = false := by simpa using h1
    rw [h1'] at H1
    have HF' : Hid (first s.data.toList = if digit (s[0]'h0) = true then (2, numSize s.data.toList) else (3, signSize s.data.toList)) := by have := HF.out; rw [if_neg h1] at this; exact this
    clear HF h1 h1'
    by_cases h2 : digit (s[0]'h0) = true
    · rw [h2] at H2
      have HR : Hid (first s.data.toList = (2, numSize s.data.toList)) := by have := HF'.out; rw [if_pos h2] at this; exact this
      have H3 := numberSize_s s hl w
      clear HF' h2
      go_enter Try.func36, Try.ntmps36
      go_wp2_with fail
      refine H1.mono ?_
      rintro e w' ⟨rfl, rfl⟩
      go_wp2_with fail
      refine H2.mono ?_
      rintro e w' ⟨rfl, rfl⟩
      go_wp2_with fail
      refine H3.mono ?_
      rintro e w' ⟨rfl, rfl⟩
      go_wp2
      go_ret2
      exact ⟨by rw [HR.out]; rfl, rfl⟩
    · have h2' : digit (s[0]'h0) = false := by simpa using h2
      rw [h2'] at H2
      have HR : Hid (first s.data.toList = (3, signSize s.data.toList)) := by have := HF'.out; rw [if_neg h2] at this; exact this
      have H3 := signSize_s s hl w
      clear HF' h2 h2'
      go_enter Try.func36, Try.ntmps36
      go_wp2_with fail
      refine H1.mono ?_
      rintro e w' ⟨rfl, rfl⟩
      go_wp2_with fail
      refine H2.mono ?_
      rintro e w' ⟨rfl, rfl⟩
      go_wp2_with fail
      refine H3.mono ?_
      rintro e w' ⟨rfl, rfl⟩
      go_wp2
      go_ret2
      exact ⟨by rw [HR.out]; rfl, rfl⟩

set_option maxRecDepth 100000 in
theorem clone_s (s : ByteArray) (hl : s.size ≤ 100000000) (w : World) :
    Calls Try.prog 37 #[.string s] w fun e w' => e = .returned (.string s) ∧ Below w.heap.size w w' := by
  have H := Try.stringslite_Clone s w (by omega)
  go_enter Try.func37, Try.ntmps37
  go_wp2_with fail
  refine H.mono ?_
  rintro e w' ⟨rfl, hb⟩
  have HB := hide hb
  clear hb
  go_wp2
  go_ret
  exact ⟨rfl, HB.out⟩

set_option maxRecDepth 100000 in
set_option maxHeartbeats 1000000 in
theorem name_s (s : ByteArray) (hl : s.size ≤ 100000000) (w : World) :
    Calls Try.prog 15 #[.string s] w fun e w' => e = .returned (.bool (nameB s.data.toList)) ∧ w' = w := by
  by_cases h0 : s.size = 0
  · have hn : s.data.toList = [] := List.length_eq_zero_iff.1 (by rw [s_size]; exact h0)
    rw [hn]
    have q0 : (s.toList = []) = True := eq_true (by rw [ByteArray.toList_eq]; exact hn)
    have q1 : s.toList.isEmpty = true := by rw [ByteArray.toList_eq, hn]; rfl
    have q3 : (s.toList == []) = true := by rw [ByteArray.toList_eq, hn]; rfl
    clear hn h0
    go_enter Try.func15, Try.ntmps15
    go_wp2
    go_ret
    exact ⟨rfl, rfl⟩
  · have h1 : 0 < s.size := by omega
    have hne : s.data.toList ≠ [] := fun h => h0 (by rw [← s_size, h]; rfl)
    have q0 : (s.toList = []) = False := eq_false (by rw [ByteArray.toList_eq]; exact hne)
    have q1 : s.toList.isEmpty = false := by rw [ByteArray.toList_eq]; simpa using hne
    have HB : Hid (nameB s.data.toList = (letter (s[0]'h1) && decide (cnt ofName s.data.toList = s.size))) := by
      rw [Hid, nameB, s_size, ← headLetter_at s 0 h1, List.drop_zero]
    have H1 := letter_is (s[0]'h1) w
    have H2 := count_s s 29 ofName tells29 hl w
    clear h0 hne
    by_cases hlt : letter (s[0]'h1) = true
    · rw [hlt] at H1 HB
      generalize cnt ofName s.data.toList = n at *
      by_cases hn : n = s.size
      · have e1 : ((n : Int) == (s.size : Int)) = true := beq_iff_eq.2 (by omega)
        have HR : Hid (nameB s.data.toList = true) := by have := HB.out; rw [decide_eq_true hn] at this; exact this
        clear HB hn hlt
        go_enter Try.func15, Try.ntmps15
        go_wp2_with fail
        refine H1.mono ?_
        rintro e w' ⟨rfl, rfl⟩
        go_wp2_with fail
        refine H2.mono ?_
        rintro e w' ⟨rfl, rfl⟩
        go_wp2
        go_ret
        exact ⟨by rw [HR.out]; rfl, rfl⟩
      · have e1 : ((n : Int) == (s.size : Int)) = false := beq_eq_false_iff_ne.2 (by omega)
        have HR : Hid (nameB s.data.toList = false) := by have := HB.out; rw [decide_eq_false hn] at this; exact this
        clear HB hn hlt
        go_enter Try.func15, Try.ntmps15
        go_wp2_with fail
        refine H1.mono ?_
        rintro e w' ⟨rfl, rfl⟩
        go_wp2_with fail
        refine H2.mono ?_
        rintro e w' ⟨rfl, rfl⟩
        go_wp2
        go_ret
        exact ⟨by rw [HR.out]; rfl, rfl⟩
    · have hlt' : letter (s[0]'h1) = false := by simpa using hlt
      rw [hlt'] at H1 HB
      have HR : Hid (nameB s.data.toList = false) := by have := HB.out; simpa [Hid] using this
      clear HB hlt hlt'
      go_enter Try.func15, Try.ntmps15
      go_wp2_with fail
      refine H1.mono ?_
      rintro e w' ⟨rfl, rfl⟩
      go_wp2
      go_ret
      exact ⟨by rw [HR.out]; rfl, rfl⟩

end Go.Proofs.Ytekangigfhhkoaa
