/-
  Contracts of the document's own answers of layer 1 (package swageref01), by walks over the translation: each is the same plain function that package word was shown to be.
-/
import Derived.Test.YtldhhgikhfkdiaaAny
import Derived.Test.YtldhhgikhfkdiaaPlain3
namespace Go.Proofs.Ytldhhgikhfkdiaa
open Go.ChangeShapes Go.WideShapes Go.ChangeAt Go.RowKit

theorem half_any (n : Int) (h1 : -9223372036854775808 ≤ n) (h2 : n ≤ 9223372036854775807) (w : World) :
    Calls Try.prog 25 #[.int .i64 n] w fun e w' => e = .returned (.int .i64 (n / 2)) ∧ w' = w := by
  by_cases h : n.tmod 2 = -1
  · have H : Hid (n.tdiv 2 - 1 = n / 2) := half_odd n h
    have h' : (n.tmod 2 == -1) = true := by simp [h]
    have b1 : -9223372036854775808 ≤ n.tdiv 2 - 1 := by rw [H.out]; omega
    have b2 : n.tdiv 2 - 1 ≤ 9223372036854775807 := by rw [H.out]; omega
    clear h
    go_enter Try.func25, Try.ntmps25
    go_wp2
    go_ret
    exact ⟨ret_int H.out, rfl⟩
  · have H : Hid (n.tdiv 2 = n / 2) := half_even n h
    have h' : (n.tmod 2 == -1) = false := by simp [h]
    clear h
    go_enter Try.func25, Try.ntmps25
    go_wp2
    go_ret
    exact ⟨ret_int H.out, rfl⟩

set_option maxRecDepth 100000 in
theorem refbits_and (a b : Int) (a1 : -9223372036854775808 ≤ a) (a2 : a ≤ 9223372036854775807) (b1 : -9223372036854775808 ≤ b) (b2 : b ≤ 9223372036854775807) (w : World) :
    Calls Try.prog 26 #[.int .i64 6, .int .i64 a, .int .i64 b] w fun e w' => e = .returned (.int .i64 (bits .and .i64 a b)) ∧ w' = w := by
  rw [bits_and]
  go_enter Try.func26, Try.ntmps26
  go_wp2_with fail
  go_loop [1, 2, 7, 8, 9] (fun x y n p i => ∃ k : Nat, k ≤ 64 ∧ i = .int .i64 k ∧ x = .int .i64 (a / 2 ^ k) ∧ y = .int .i64 (b / 2 ^ k) ∧ p = .int .i64 (wrap64 (2 ^ k)) ∧ n = .int .i64 (wrap64 (((uu a &&& uu b) % 2 ^ k : Nat) : Int))) (fun _ _ _ _ i => 64 - (intOf i).toNat)
  case atStart => exact ⟨0, Nat.zero_le _, rfl, by simp, by simp, by unfold wrap64; rfl, by rw [Nat.pow_zero, Nat.mod_one]; unfold wrap64; rfl⟩
  case round =>
    obtain ⟨k, hk, rfl, rfl, rfl, rfl, rfl⟩ := hrel
    by_cases hlt : k < 64
    · have HA : Hid (a / 2 ^ k / 2 = a / 2 ^ (k + 1)) := half_step a k
      have HB : Hid (b / 2 ^ k / 2 = b / 2 ^ (k + 1)) := half_step b k
      have HP : Hid (wrap64 (2 * wrap64 (2 ^ k)) = wrap64 (2 ^ (k + 1))) := step_two k
      have hY := step_yes (uu a &&& uu b) k
      have hN := step_no (uu a &&& uu b) k
      rw [Nat.testBit_and, uu_bit a k hlt, uu_bit b k hlt] at hY hN
      obtain ⟨A1, A2⟩ := half_bd a k a1 a2
      obtain ⟨B1, B2⟩ := half_bd b k b1 b2
      have oA := odd_two (a / 2 ^ k)
      have oB := odd_two (b / 2 ^ k)
      clear a1 a2 b1 b2
      generalize wrap64 (((uu a &&& uu b) % 2 ^ k : Nat) : Int) = S at *
      generalize wrap64 (2 ^ k) = P at *
      generalize hX : a / 2 ^ k = A at *
      generalize hZ : b / 2 ^ k = B at *
      clear hX hZ
      by_cases cA : A % 2 = 1 <;> by_cases cB : B % 2 = 1
      · have oA' : (A.tmod 2 != 0) = true := by rw [oA]; simp [cA]
        have oB' : (B.tmod 2 != 0) = true := by rw [oB]; simp [cB]
        have HS : Hid (wrap64 (S + P) = wrap64 (((uu a &&& uu b) % 2 ^ (k + 1) : Nat) : Int)) := hY (by simp [cA, cB])
        clear hY hN oA oB cA cB
        go_wp2_with fail
        refine (half_any A A1 A2 _).mono ?_; rintro e w' ⟨rfl, rfl⟩
        go_wp2_with fail
        refine (half_any B B1 B2 _).mono ?_; rintro e w' ⟨rfl, rfl⟩
        go_wp2_with fail
        go_round
        case rel => exact ⟨k + 1, by omega, by go_num, by rw [HA.out], by rw [HB.out], by rw [HP.out], by rw [HS.out]⟩
        case measure => simp [intOf]; omega
      · have oA' : (A.tmod 2 != 0) = true := by rw [oA]; simp [cA]
        have oB' : (B.tmod 2 != 0) = false := by rw [oB]; simp [cB]
        have HS : Hid (S = wrap64 (((uu a &&& uu b) % 2 ^ (k + 1) : Nat) : Int)) := hN (by simp [cA, cB])
        clear hY hN oA oB cA cB
        go_wp2_with fail
        refine (half_any A A1 A2 _).mono ?_; rintro e w' ⟨rfl, rfl⟩
        go_wp2_with fail
        refine (half_any B B1 B2 _).mono ?_; rintro e w' ⟨rfl, rfl⟩
        go_wp2_with fail
        go_round
        case rel => exact ⟨k + 1, by omega, by go_num, by rw [HA.out], by rw [HB.out], by rw [HP.out], by rw [HS.out]⟩
        case measure => simp [intOf]; omega
      · have oA' : (A.tmod 2 != 0) = false := by rw [oA]; simp [cA]
        have oB' : (B.tmod 2 != 0) = true := by rw [oB]; simp [cB]
        have HS : Hid (S = wrap64 (((uu a &&& uu b) % 2 ^ (k + 1) : Nat) : Int)) := hN (by simp [cA, cB])
        clear hY hN oA oB cA cB
        go_wp2_with fail
        refine (half_any A A1 A2 _).mono ?_; rintro e w' ⟨rfl, rfl⟩
        go_wp2_with fail
        refine (half_any B B1 B2 _).mono ?_; rintro e w' ⟨rfl, rfl⟩
        go_wp2_with fail
        go_round
        case rel => exact ⟨k + 1, by omega, by go_num, by rw [HA.out], by rw [HB.out], by rw [HP.out], by rw [HS.out]⟩
        case measure => simp [intOf]; omega
      · have oA' : (A.tmod 2 != 0) = false := by rw [oA]; simp [cA]
        have oB' : (B.tmod 2 != 0) = false := by rw [oB]; simp [cB]
        have HS : Hid (S = wrap64 (((uu a &&& uu b) % 2 ^ (k + 1) : Nat) : Int)) := hN (by simp [cA, cB])
        clear hY hN oA oB cA cB
        go_wp2_with fail
        refine (half_any A A1 A2 _).mono ?_; rintro e w' ⟨rfl, rfl⟩
        go_wp2_with fail
        refine (half_any B B1 B2 _).mono ?_; rintro e w' ⟨rfl, rfl⟩
        go_wp2_with fail
        go_round
        case rel => exact ⟨k + 1, by omega, by go_num, by rw [HA.out], by rw [HB.out], by rw [HP.out], by rw [HS.out]⟩
        case measure => simp [intOf]; omega
    · have ek : k = 64 := by omega
      subst ek
      have H : (uu a &&& uu b) % 2 ^ 64 = (uu a &&& uu b) := Nat.mod_eq_of_lt (Nat.and_lt_two_pow _ (uu_lt b))
      rw [H]
      clear H
      generalize hR : (uu a &&& uu b) = R
      have HR : Hid ((uu a &&& uu b) = R) := hR
      clear hR
      go_wp2_with fail
      go_ret
      exact ⟨ret_int (by rw [HR.out]), rfl⟩

set_option maxRecDepth 100000 in
theorem refbits_or (a b : Int) (a1 : -9223372036854775808 ≤ a) (a2 : a ≤ 9223372036854775807) (b1 : -9223372036854775808 ≤ b) (b2 : b ≤ 9223372036854775807) (w : World) :
    Calls Try.prog 26 #[.int .i64 7, .int .i64 a, .int .i64 b] w fun e w' => e = .returned (.int .i64 (bits .or .i64 a b)) ∧ w' = w := by
  rw [bits_or]
  go_enter Try.func26, Try.ntmps26
  go_wp2_with fail
  go_loop [1, 2, 7, 8, 9] (fun x y n p i => ∃ k : Nat, k ≤ 64 ∧ i = .int .i64 k ∧ x = .int .i64 (a / 2 ^ k) ∧ y = .int .i64 (b / 2 ^ k) ∧ p = .int .i64 (wrap64 (2 ^ k)) ∧ n = .int .i64 (wrap64 (((uu a ||| uu b) % 2 ^ k : Nat) : Int))) (fun _ _ _ _ i => 64 - (intOf i).toNat)
  case atStart => exact ⟨0, Nat.zero_le _, rfl, by simp, by simp, by unfold wrap64; rfl, by rw [Nat.pow_zero, Nat.mod_one]; unfold wrap64; rfl⟩
  case round =>
    obtain ⟨k, hk, rfl, rfl, rfl, rfl, rfl⟩ := hrel
    by_cases hlt : k < 64
    · have HA : Hid (a / 2 ^ k / 2 = a / 2 ^ (k + 1)) := half_step a k
      have HB : Hid (b / 2 ^ k / 2 = b / 2 ^ (k + 1)) := half_step b k
      have HP : Hid (wrap64 (2 * wrap64 (2 ^ k)) = wrap64 (2 ^ (k + 1))) := step_two k
      have hY := step_yes (uu a ||| uu b) k
      have hN := step_no (uu a ||| uu b) k
      rw [Nat.testBit_or, uu_bit a k hlt, uu_bit b k hlt] at hY hN
      obtain ⟨A1, A2⟩ := half_bd a k a1 a2
      obtain ⟨B1, B2⟩ := half_bd b k b1 b2
      have oA := odd_two (a / 2 ^ k)
      have oB := odd_two (b / 2 ^ k)
      clear a1 a2 b1 b2
      generalize wrap64 (((uu a ||| uu b) % 2 ^ k : Nat) : Int) = S at *
      generalize wrap64 (2 ^ k) = P at *
      generalize hX : a / 2 ^ k = A at *
      generalize hZ : b / 2 ^ k = B at *
      clear hX hZ
      by_cases cA : A % 2 = 1 <;> by_cases cB : B % 2 = 1
      · have oA' : (A.tmod 2 != 0) = true := by rw [oA]; simp [cA]
        have oB' : (B.tmod 2 != 0) = true := by rw [oB]; simp [cB]
        have HS : Hid (wrap64 (S + P) = wrap64 (((uu a ||| uu b) % 2 ^ (k + 1) : Nat) : Int)) := hY (by simp [cA, cB])
        clear hY hN oA oB cA cB
        go_wp2_with fail
        refine (half_any A A1 A2 _).mono ?_; rintro e w' ⟨rfl, rfl⟩
        go_wp2_with fail
        refine (half_any B B1 B2 _).mono ?_; rintro e w' ⟨rfl, rfl⟩
        go_wp2_with fail
        go_round
        case rel => exact ⟨k + 1, by omega, by go_num, by rw [HA.out], by rw [HB.out], by rw [HP.out], by rw [HS.out]⟩
        case measure => simp [intOf]; omega
      · have oA' : (A.tmod 2 != 0) = true := by rw [oA]; simp [cA]
        have oB' : (B.tmod 2 != 0) = false := by rw [oB]; simp [cB]
        have HS : Hid (wrap64 (S + P) = wrap64 (((uu a ||| uu b) % 2 ^ (k + 1) : Nat) : Int)) := hY (by simp [cA, cB])
        clear hY hN oA oB cA cB
        go_wp2_with fail
        refine (half_any A A1 A2 _).mono ?_; rintro e w' ⟨rfl, rfl⟩
        go_wp2_with fail
        refine (half_any B B1 B2 _).mono ?_; rintro e w' ⟨rfl, rfl⟩
        go_wp2_with fail
        go_round
        case rel => exact ⟨k + 1, by omega, by go_num, by rw [HA.out], by rw [HB.out], by rw [HP.out], by rw [HS.out]⟩
        case measure => simp [intOf]; omega
      · have oA' : (A.tmod 2 != 0) = false := by rw [oA]; simp [cA]
        have oB' : (B.tmod 2 != 0) = true := by rw [oB]; simp [cB]
        have HS : Hid (wrap64 (S + P) = wrap64 (((uu a ||| uu b) % 2 ^ (k + 1) : Nat) : Int)) := hY (by simp [cA, cB])
        clear hY hN oA oB cA cB
        go_wp2_with fail
        refine (half_any A A1 A2 _).mono ?_; rintro e w' ⟨rfl, rfl⟩
        go_wp2_with fail
        refine (half_any B B1 B2 _).mono ?_; rintro e w' ⟨rfl, rfl⟩
        go_wp2_with fail
        go_round
        case rel => exact ⟨k + 1, by omega, by go_num, by rw [HA.out], by rw [HB.out], by rw [HP.out], by rw [HS.out]⟩
        case measure => simp [intOf]; omega
      · have oA' : (A.tmod 2 != 0) = false := by rw [oA]; simp [cA]
        have oB' : (B.tmod 2 != 0) = false := by rw [oB]; simp [cB]
        have HS : Hid (S = wrap64 (((uu a ||| uu b) % 2 ^ (k + 1) : Nat) : Int)) := hN (by simp [cA, cB])
        clear hY hN oA oB cA cB
        go_wp2_with fail
        refine (half_any A A1 A2 _).mono ?_; rintro e w' ⟨rfl, rfl⟩
        go_wp2_with fail
        refine (half_any B B1 B2 _).mono ?_; rintro e w' ⟨rfl, rfl⟩
        go_wp2_with fail
        go_round
        case rel => exact ⟨k + 1, by omega, by go_num, by rw [HA.out], by rw [HB.out], by rw [HP.out], by rw [HS.out]⟩
        case measure => simp [intOf]; omega
    · have ek : k = 64 := by omega
      subst ek
      have H : (uu a ||| uu b) % 2 ^ 64 = (uu a ||| uu b) := Nat.mod_eq_of_lt (Nat.or_lt_two_pow (uu_lt a) (uu_lt b))
      rw [H]
      clear H
      generalize hR : (uu a ||| uu b) = R
      have HR : Hid ((uu a ||| uu b) = R) := hR
      clear hR
      go_wp2_with fail
      go_ret
      exact ⟨ret_int (by rw [HR.out]), rfl⟩

set_option maxRecDepth 100000 in
theorem refbits_xor (a b : Int) (a1 : -9223372036854775808 ≤ a) (a2 : a ≤ 9223372036854775807) (b1 : -9223372036854775808 ≤ b) (b2 : b ≤ 9223372036854775807) (w : World) :
    Calls Try.prog 26 #[.int .i64 8, .int .i64 a, .int .i64 b] w fun e w' => e = .returned (.int .i64 (bits .xor .i64 a b)) ∧ w' = w := by
  rw [bits_xor]
  go_enter Try.func26, Try.ntmps26
  go_wp2_with fail
  go_loop [1, 2, 7, 8, 9] (fun x y n p i => ∃ k : Nat, k ≤ 64 ∧ i = .int .i64 k ∧ x = .int .i64 (a / 2 ^ k) ∧ y = .int .i64 (b / 2 ^ k) ∧ p = .int .i64 (wrap64 (2 ^ k)) ∧ n = .int .i64 (wrap64 (((uu a ^^^ uu b) % 2 ^ k : Nat) : Int))) (fun _ _ _ _ i => 64 - (intOf i).toNat)
  case atStart => exact ⟨0, Nat.zero_le _, rfl, by simp, by simp, by unfold wrap64; rfl, by rw [Nat.pow_zero, Nat.mod_one]; unfold wrap64; rfl⟩
  case round =>
    obtain ⟨k, hk, rfl, rfl, rfl, rfl, rfl⟩ := hrel
    by_cases hlt : k < 64
    · have HA : Hid (a / 2 ^ k / 2 = a / 2 ^ (k + 1)) := half_step a k
      have HB : Hid (b / 2 ^ k / 2 = b / 2 ^ (k + 1)) := half_step b k
      have HP : Hid (wrap64 (2 * wrap64 (2 ^ k)) = wrap64 (2 ^ (k + 1))) := step_two k
      have hY := step_yes (uu a ^^^ uu b) k
      have hN := step_no (uu a ^^^ uu b) k
      rw [Nat.testBit_xor, uu_bit a k hlt, uu_bit b k hlt] at hY hN
      obtain ⟨A1, A2⟩ := half_bd a k a1 a2
      obtain ⟨B1, B2⟩ := half_bd b k b1 b2
      have oA := odd_two (a / 2 ^ k)
      have oB := odd_two (b / 2 ^ k)
      clear a1 a2 b1 b2
      generalize wrap64 (((uu a ^^^ uu b) % 2 ^ k : Nat) : Int) = S at *
      generalize wrap64 (2 ^ k) = P at *
      generalize hX : a / 2 ^ k = A at *
      generalize hZ : b / 2 ^ k = B at *
      clear hX hZ
      by_cases cA : A % 2 = 1 <;> by_cases cB : B % 2 = 1
      · have oA' : (A.tmod 2 != 0) = true := by rw [oA]; simp [cA]
        have oB' : (B.tmod 2 != 0) = true := by rw [oB]; simp [cB]
        have HS : Hid (S = wrap64 (((uu a ^^^ uu b) % 2 ^ (k + 1) : Nat) : Int)) := hN (by simp [cA, cB])
        clear hY hN oA oB cA cB
        go_wp2_with fail
        refine (half_any A A1 A2 _).mono ?_; rintro e w' ⟨rfl, rfl⟩
        go_wp2_with fail
        refine (half_any B B1 B2 _).mono ?_; rintro e w' ⟨rfl, rfl⟩
        go_wp2_with fail
        go_round
        case rel => exact ⟨k + 1, by omega, by go_num, by rw [HA.out], by rw [HB.out], by rw [HP.out], by rw [HS.out]⟩
        case measure => simp [intOf]; omega
      · have oA' : (A.tmod 2 != 0) = true := by rw [oA]; simp [cA]
        have oB' : (B.tmod 2 != 0) = false := by rw [oB]; simp [cB]
        have HS : Hid (wrap64 (S + P) = wrap64 (((uu a ^^^ uu b) % 2 ^ (k + 1) : Nat) : Int)) := hY (by simp [cA, cB])
        clear hY hN oA oB cA cB
        go_wp2_with fail
        refine (half_any A A1 A2 _).mono ?_; rintro e w' ⟨rfl, rfl⟩
        go_wp2_with fail
        refine (half_any B B1 B2 _).mono ?_; rintro e w' ⟨rfl, rfl⟩
        go_wp2_with fail
        go_round
        case rel => exact ⟨k + 1, by omega, by go_num, by rw [HA.out], by rw [HB.out], by rw [HP.out], by rw [HS.out]⟩
        case measure => simp [intOf]; omega
      · have oA' : (A.tmod 2 != 0) = false := by rw [oA]; simp [cA]
        have oB' : (B.tmod 2 != 0) = true := by rw [oB]; simp [cB]
        have HS : Hid (wrap64 (S + P) = wrap64 (((uu a ^^^ uu b) % 2 ^ (k + 1) : Nat) : Int)) := hY (by simp [cA, cB])
        clear hY hN oA oB cA cB
        go_wp2_with fail
        refine (half_any A A1 A2 _).mono ?_; rintro e w' ⟨rfl, rfl⟩
        go_wp2_with fail
        refine (half_any B B1 B2 _).mono ?_; rintro e w' ⟨rfl, rfl⟩
        go_wp2_with fail
        go_round
        case rel => exact ⟨k + 1, by omega, by go_num, by rw [HA.out], by rw [HB.out], by rw [HP.out], by rw [HS.out]⟩
        case measure => simp [intOf]; omega
      · have oA' : (A.tmod 2 != 0) = false := by rw [oA]; simp [cA]
        have oB' : (B.tmod 2 != 0) = false := by rw [oB]; simp [cB]
        have HS : Hid (S = wrap64 (((uu a ^^^ uu b) % 2 ^ (k + 1) : Nat) : Int)) := hN (by simp [cA, cB])
        clear hY hN oA oB cA cB
        go_wp2_with fail
        refine (half_any A A1 A2 _).mono ?_; rintro e w' ⟨rfl, rfl⟩
        go_wp2_with fail
        refine (half_any B B1 B2 _).mono ?_; rintro e w' ⟨rfl, rfl⟩
        go_wp2_with fail
        go_round
        case rel => exact ⟨k + 1, by omega, by go_num, by rw [HA.out], by rw [HB.out], by rw [HP.out], by rw [HS.out]⟩
        case measure => simp [intOf]; omega
    · have ek : k = 64 := by omega
      subst ek
      have H : (uu a ^^^ uu b) % 2 ^ 64 = (uu a ^^^ uu b) := Nat.mod_eq_of_lt (Nat.xor_lt_two_pow (uu_lt a) (uu_lt b))
      rw [H]
      clear H
      generalize hR : (uu a ^^^ uu b) = R
      have HR : Hid ((uu a ^^^ uu b) = R) := hR
      clear hR
      go_wp2_with fail
      go_ret
      exact ⟨ret_int (by rw [HR.out]), rfl⟩

end Go.Proofs.Ytldhhgikhfkdiaa
