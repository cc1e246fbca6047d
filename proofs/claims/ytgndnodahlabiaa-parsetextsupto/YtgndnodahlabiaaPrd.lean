/-
  What bytes are (layer 9): contracts of isLetter, isDigit, isOfName, isBlank, isOfRow, and the document's own.
-/
import Derived.Test.YtgndnodahlabiaaByt
import Derived.Test.YtgndnodahlabiaaBas
namespace Go.Proofs.Ytgndnodahlabiaa
open Go.ChangeShapes Go.WideShapes Go.ChangeAt Go.RowKit Go.Shelf

set_option maxRecDepth 100000 in
theorem letter_is (c : UInt8) (w : World) : Calls Try.prog 50 #[.int .u8 (c.toNat : Int)] w fun e w' => e = .returned (.bool (letter c)) ∧ w' = w := by
  have hlt := c.toNat_lt
  generalize hn : c.toNat = n at *
  by_cases h1 : 97 ≤ n
  · by_cases h2 : n ≤ 122
    · have e0 : ((97 : Int) ≤ (n : Int)) = True := eq_true (by omega)
      have e1 : ((n : Int) ≤ (122 : Int)) = True := eq_true (by omega)
      have HL : Hid (letter c = true) := by rw [Hid, letter, hn]; simp; omega
      clear hn hlt h1 h2
      go_enter Try.func50, Try.ntmps50
      go_wp2
      go_ret
      exact ⟨by rw [HL.out]; rfl, rfl⟩
    · have e0 : ((97 : Int) ≤ (n : Int)) = True := eq_true (by omega)
      have e1 : ((n : Int) ≤ (122 : Int)) = False := eq_false (by omega)
      have e2 : ((65 : Int) ≤ (n : Int)) = True := eq_true (by omega)
      have e3 : ((n : Int) ≤ (90 : Int)) = False := eq_false (by omega)
      have e4 : ((n : Int) == (95 : Int)) = false := beq_eq_false_iff_ne.2 (by omega)
      have d4 : ((n : Int) = (95 : Int)) = False := eq_false (by omega)
      have HL : Hid (letter c = false) := by rw [Hid, letter, hn]; simp; omega
      clear hn hlt h1 h2
      go_enter Try.func50, Try.ntmps50
      go_wp2
      go_ret
      exact ⟨by rw [HL.out]; rfl, rfl⟩
  · by_cases h2 : 65 ≤ n
    · by_cases h3 : n ≤ 90
      · have e0 : ((97 : Int) ≤ (n : Int)) = False := eq_false (by omega)
        have e1 : ((65 : Int) ≤ (n : Int)) = True := eq_true (by omega)
        have e2 : ((n : Int) ≤ (90 : Int)) = True := eq_true (by omega)
        have HL : Hid (letter c = true) := by rw [Hid, letter, hn]; simp; omega
        clear hn hlt h1 h2 h3
        go_enter Try.func50, Try.ntmps50
        go_wp2
        go_ret
        exact ⟨by rw [HL.out]; rfl, rfl⟩
      · by_cases h4 : n = 95
        · have e0 : ((97 : Int) ≤ (n : Int)) = False := eq_false (by omega)
          have e1 : ((65 : Int) ≤ (n : Int)) = True := eq_true (by omega)
          have e2 : ((n : Int) ≤ (90 : Int)) = False := eq_false (by omega)
          have e3 : ((n : Int) == (95 : Int)) = true := beq_iff_eq.2 (by omega)
          have d3 : ((n : Int) = (95 : Int)) = True := eq_true (by omega)
          have HL : Hid (letter c = true) := by rw [Hid, letter, hn]; simp; omega
          clear hn hlt h1 h2 h3 h4
          go_enter Try.func50, Try.ntmps50
          go_wp2
          go_ret
          exact ⟨by rw [HL.out]; rfl, rfl⟩
        · have e0 : ((97 : Int) ≤ (n : Int)) = False := eq_false (by omega)
          have e1 : ((65 : Int) ≤ (n : Int)) = True := eq_true (by omega)
          have e2 : ((n : Int) ≤ (90 : Int)) = False := eq_false (by omega)
          have e3 : ((n : Int) == (95 : Int)) = false := beq_eq_false_iff_ne.2 (by omega)
          have d3 : ((n : Int) = (95 : Int)) = False := eq_false (by omega)
          have HL : Hid (letter c = false) := by rw [Hid, letter, hn]; simp; omega
          clear hn hlt h1 h2 h3 h4
          go_enter Try.func50, Try.ntmps50
          go_wp2
          go_ret
          exact ⟨by rw [HL.out]; rfl, rfl⟩
    · have e0 : ((97 : Int) ≤ (n : Int)) = False := eq_false (by omega)
      have e1 : ((65 : Int) ≤ (n : Int)) = False := eq_false (by omega)
      have e2 : ((n : Int) == (95 : Int)) = false := beq_eq_false_iff_ne.2 (by omega)
      have d2 : ((n : Int) = (95 : Int)) = False := eq_false (by omega)
      have HL : Hid (letter c = false) := by rw [Hid, letter, hn]; simp; omega
      clear hn hlt h1 h2
      go_enter Try.func50, Try.ntmps50
      go_wp2
      go_ret
      exact ⟨by rw [HL.out]; rfl, rfl⟩

set_option maxRecDepth 100000 in
theorem digit_is (c : UInt8) (w : World) : Calls Try.prog 52 #[.int .u8 (c.toNat : Int)] w fun e w' => e = .returned (.bool (digit c)) ∧ w' = w := by
  have hlt := c.toNat_lt
  generalize hn : c.toNat = n at *
  by_cases h1 : 48 ≤ n
  · by_cases h2 : n ≤ 57
    · have e0 : ((48 : Int) ≤ (n : Int)) = True := eq_true (by omega)
      have e1 : ((n : Int) ≤ (57 : Int)) = True := eq_true (by omega)
      have HL : Hid (digit c = true) := by rw [Hid, digit, hn]; simp; omega
      clear hn hlt h1 h2
      go_enter Try.func52, Try.ntmps52
      go_wp2
      go_ret
      exact ⟨by rw [HL.out]; rfl, rfl⟩
    · have e0 : ((48 : Int) ≤ (n : Int)) = True := eq_true (by omega)
      have e1 : ((n : Int) ≤ (57 : Int)) = False := eq_false (by omega)
      have HL : Hid (digit c = false) := by rw [Hid, digit, hn]; simp; omega
      clear hn hlt h1 h2
      go_enter Try.func52, Try.ntmps52
      go_wp2
      go_ret
      exact ⟨by rw [HL.out]; rfl, rfl⟩
  · have e0 : ((48 : Int) ≤ (n : Int)) = False := eq_false (by omega)
    have HL : Hid (digit c = false) := by rw [Hid, digit, hn]; simp; omega
    clear hn hlt h1
    go_enter Try.func52, Try.ntmps52
    go_wp2
    go_ret
    exact ⟨by rw [HL.out]; rfl, rfl⟩

set_option maxRecDepth 100000 in
theorem blank_is (c : UInt8) (w : World) : Calls Try.prog 47 #[.int .u8 (c.toNat : Int)] w fun e w' => e = .returned (.bool (blank c)) ∧ w' = w := by
  have hlt := c.toNat_lt
  generalize hn : c.toNat = n at *
  by_cases h1 : n = 32
  · have e0 : ((n : Int) == (32 : Int)) = true := beq_iff_eq.2 (by omega)
    have d0 : ((n : Int) = (32 : Int)) = True := eq_true (by omega)
    have HL : Hid (blank c = true) := by rw [Hid, blank, hn]; simp; omega
    clear hn hlt h1
    go_enter Try.func47, Try.ntmps47
    go_wp2
    go_ret
    exact ⟨by rw [HL.out]; rfl, rfl⟩
  · by_cases h2 : n = 9
    · have e0 : ((n : Int) == (32 : Int)) = false := beq_eq_false_iff_ne.2 (by omega)
      have d0 : ((n : Int) = (32 : Int)) = False := eq_false (by omega)
      have e1 : ((n : Int) == (9 : Int)) = true := beq_iff_eq.2 (by omega)
      have d1 : ((n : Int) = (9 : Int)) = True := eq_true (by omega)
      have HL : Hid (blank c = true) := by rw [Hid, blank, hn]; simp; omega
      clear hn hlt h1 h2
      go_enter Try.func47, Try.ntmps47
      go_wp2
      go_ret
      exact ⟨by rw [HL.out]; rfl, rfl⟩
    · by_cases h3 : n = 10
      · have e0 : ((n : Int) == (32 : Int)) = false := beq_eq_false_iff_ne.2 (by omega)
        have d0 : ((n : Int) = (32 : Int)) = False := eq_false (by omega)
        have e1 : ((n : Int) == (9 : Int)) = false := beq_eq_false_iff_ne.2 (by omega)
        have d1 : ((n : Int) = (9 : Int)) = False := eq_false (by omega)
        have e2 : ((n : Int) == (10 : Int)) = true := beq_iff_eq.2 (by omega)
        have d2 : ((n : Int) = (10 : Int)) = True := eq_true (by omega)
        have HL : Hid (blank c = true) := by rw [Hid, blank, hn]; simp; omega
        clear hn hlt h1 h2 h3
        go_enter Try.func47, Try.ntmps47
        go_wp2
        go_ret
        exact ⟨by rw [HL.out]; rfl, rfl⟩
      · by_cases h4 : n = 13
        · have e0 : ((n : Int) == (32 : Int)) = false := beq_eq_false_iff_ne.2 (by omega)
          have d0 : ((n : Int) = (32 : Int)) = False := eq_false (by omega)
          have e1 : ((n : Int) == (9 : Int)) = false := beq_eq_false_iff_ne.2 (by omega)
          have d1 : ((n : Int) = (9 : Int)) = False := eq_false (by omega)
          have e2 : ((n : Int) == (10 : Int)) = false := beq_eq_false_iff_ne.2 (by omega)
          have d2 : ((n : Int) = (10 : Int)) = False := eq_false (by omega)
          have e3 : ((n : Int) == (13 : Int)) = true := beq_iff_eq.2 (by omega)
          have d3 : ((n : Int) = (13 : Int)) = True := eq_true (by omega)
          have HL : Hid (blank c = true) := by rw [Hid, blank, hn]; simp; omega
          clear hn hlt h1 h2 h3 h4
          go_enter Try.func47, Try.ntmps47
          go_wp2
          go_ret
          exact ⟨by rw [HL.out]; rfl, rfl⟩
        · have e0 : ((n : Int) == (32 : Int)) = false := beq_eq_false_iff_ne.2 (by omega)
          have d0 : ((n : Int) = (32 : Int)) = False := eq_false (by omega)
          have e1 : ((n : Int) == (9 : Int)) = false := beq_eq_false_iff_ne.2 (by omega)
          have d1 : ((n : Int) = (9 : Int)) = False := eq_false (by omega)
          have e2 : ((n : Int) == (10 : Int)) = false := beq_eq_false_iff_ne.2 (by omega)
          have d2 : ((n : Int) = (10 : Int)) = False := eq_false (by omega)
          have e3 : ((n : Int) == (13 : Int)) = false := beq_eq_false_iff_ne.2 (by omega)
          have d3 : ((n : Int) = (13 : Int)) = False := eq_false (by omega)
          have HL : Hid (blank c = false) := by rw [Hid, blank, hn]; simp; omega
          clear hn hlt h1 h2 h3 h4
          go_enter Try.func47, Try.ntmps47
          go_wp2
          go_ret
          exact ⟨by rw [HL.out]; rfl, rfl⟩

set_option maxRecDepth 100000 in
theorem row_is (c : UInt8) (w : World) : Calls Try.prog 49 #[.int .u8 (c.toNat : Int)] w fun e w' => e = .returned (.bool (ofRow c)) ∧ w' = w := by
  have hlt := c.toNat_lt
  generalize hn : c.toNat = n at *
  by_cases h1 : n = 10
  · have e0 : ((n : Int) != (10 : Int)) = false := by rw [bne_eq_false_iff_eq]; omega
    have d0 : ((n : Int) = (10 : Int)) = True := eq_true (by omega)
    have HL : Hid (ofRow c = false) := by rw [Hid, ofRow, hn]; simp; omega
    clear hn hlt h1
    go_enter Try.func49, Try.ntmps49
    go_wp2
    go_ret
    exact ⟨by rw [HL.out]; rfl, rfl⟩
  · have e0 : ((n : Int) != (10 : Int)) = true := bne_iff_ne.2 (by omega)
    have d0 : ((n : Int) = (10 : Int)) = False := eq_false (by omega)
    have HL : Hid (ofRow c = true) := by rw [Hid, ofRow, hn]; simp; omega
    clear hn hlt h1
    go_enter Try.func49, Try.ntmps49
    go_wp2
    go_ret
    exact ⟨by rw [HL.out]; rfl, rfl⟩

set_option maxRecDepth 100000 in
theorem ofName_is (c : UInt8) (w : World) : Calls Try.prog 51 #[.int .u8 (c.toNat : Int)] w fun e w' => e = .returned (.bool (ofName c)) ∧ w' = w := by
  have H1 := letter_is c w
  have H2 := digit_is c w
  by_cases h : letter c = true
  · have HL : Hid (ofName c = true) := by rw [Hid, ofName, h]; rfl
    rw [h] at H1
    generalize (c.toNat : Int) = n at *
    clear h
    go_enter Try.func51, Try.ntmps51
    go_wp2_with fail
    refine H1.mono ?_
    rintro e w' ⟨rfl, rfl⟩
    go_wp2
    go_ret
    exact ⟨by rw [HL.out]; rfl, rfl⟩
  · have h' : letter c = false := by simpa using h
    have HL : Hid (ofName c = digit c) := by rw [Hid, ofName, h']; rfl
    rw [h'] at H1
    generalize (c.toNat : Int) = n at *
    clear h h'
    go_enter Try.func51, Try.ntmps51
    go_wp2_with fail
    refine H1.mono ?_
    rintro e w' ⟨rfl, rfl⟩
    go_wp2_with fail
    refine H2.mono ?_
    rintro e w' ⟨rfl, rfl⟩
    go_wp2
    go_ret
    exact ⟨by rw [HL.out]; rfl, rfl⟩

/-- What a function of bytes tells. -/
def Tells (f : FuncId) (p : UInt8 → Bool) : Prop := (∀ args w, (callFunc f args).run Try.prog w = .ok (.enter f args) w) ∧ ∀ (c : UInt8) (w : World), Calls Try.prog f #[.int .u8 (c.toNat : Int)] w fun e w' => e = .returned (.bool (p c)) ∧ w' = w
set_option maxRecDepth 100000 in
theorem tells26 : Tells 52 digit := ⟨fun args w => by simp [go_sem], digit_is⟩
set_option maxRecDepth 100000 in
theorem tells29 : Tells 51 ofName := ⟨fun args w => by simp [go_sem], ofName_is⟩
set_option maxRecDepth 100000 in
theorem tells39 : Tells 47 blank := ⟨fun args w => by simp [go_sem], blank_is⟩
set_option maxRecDepth 100000 in
theorem tells41 : Tells 49 ofRow := ⟨fun args w => by simp [go_sem], row_is⟩

theorem s_size (s : ByteArray) : s.data.toList.length = s.size := Array.length_toList
theorem s_at (s : ByteArray) (k : Nat) (h : k < s.size) : s.data.toList[k]'(by rw [s_size]; exact h) = s[k]'h := by
  show s.data.toList[k]'(by rw [s_size]; exact h) = s.data[k]'h
  rw [Array.getElem_toList]
set_option maxRecDepth 100000 in
set_option maxHeartbeats 1000000 in
theorem count_s (s : ByteArray) (f : FuncId) (p : UInt8 → Bool) (hp : Tells f p) (hl : s.size ≤ 100000000) (w : World) :
    Calls Try.prog 46 #[.string s, .func (.func f) #[] #[]] w fun e w' => e = .returned (.int .i64 (cnt p s.data.toList : Int)) ∧ w' = w := by
  have henter := hp.1
  have HP := hide hp.2
  have hle : cnt p s.data.toList ≤ s.size := by rw [← s_size]; exact cnt_le p _
  have HY : Hid (∀ (k : Nat) (h : k < cnt p s.data.toList), p (s[k]'(Nat.lt_of_lt_of_le h hle)) = true) := fun k h => by rw [← s_at]; exact cnt_yes p _ k h
  have HN : Hid (∀ (h : cnt p s.data.toList < s.size), p (s[cnt p s.data.toList]'h) = false) := fun h => by rw [← s_at]; exact cnt_no p _ (by rw [s_size]; exact h)
  clear hp
  generalize cnt p s.data.toList = m at *
  go_enter Try.func46, Try.ntmps46
  go_wp2
  go_loopw [5] (fun i wr => ∃ k : Nat, i = .int .i64 (k : Int) ∧ k ≤ m ∧ wr = w) (fun i _ => s.size - (RowKit.intOf i).toNat)
  case atStart => exact ⟨0, rfl, Nat.zero_le _, rfl⟩
  case round =>
    obtain ⟨k, rfl, hk, rfl⟩ := hrel
    by_cases hlt : k < s.size
    · have e1 : ((k : Int) < (s.size : Int)) = True := eq_true (by omega)
      by_cases hc : k < m
      · have H := HP.out (s[k]'hlt) wr
        rw [HY.out k hc] at H
        have HC := hide hc
        clear hc
        generalize hcb : s[k]'hlt = c at H
        go_wp2
        refine H.mono ?_
        rintro e w' ⟨rfl, rfl⟩
        go_wp2
        go_roundw
        case rel => exact ⟨k + 1, by go_num, HC.out, by first | rfl | trivial⟩
        case measure => simp [RowKit.intOf]; omega
      · have hkm : k = m := by omega
        subst hkm
        have H := HP.out (s[k]'hlt) wr
        rw [HN.out hlt] at H
        clear hle HY HN
        generalize hcb : s[k]'hlt = c at H
        go_wp2
        refine H.mono ?_
        rintro e w' ⟨rfl, rfl⟩
        go_wp2
        go_ret
        exact ⟨rfl, rfl⟩
    · have hkm : k = m := by omega
      subst hkm
      have e1 : ((k : Int) < (s.size : Int)) = False := eq_false (by omega)
      go_wp2
      go_ret
      exact ⟨rfl, rfl⟩
theorem count_is (l : List UInt8) (f : FuncId) (p : UInt8 → Bool) (hp : Tells f p) (hl : l.length ≤ 100000000) (w : World) :
    Calls Try.prog 46 #[.string (bs l), .func (.func f) #[] #[]] w fun e w' => e = .returned (.int .i64 (cnt p l : Int)) ∧ w' = w := count_s (bs l) f p hp (by rw [bs_size]; exact hl) w

end Go.Proofs.Ytgndnodahlabiaa
