/-
  Contracts of the document's own answers of layer 1 (package swageref01): Do, Known, Turned and Fold, by walks over the translation.
-/
import Derived.Test.YtldhhgikhfkdiaaRefBits
namespace Go.Proofs.Ytldhhgikhfkdiaa
open Go.ChangeShapes Go.WideShapes Go.ChangeAt Go.RowKit

theorem ret_two {k l : IntKind} {a b c : Int} (h : a = b) : Ending.returned (.tuple #[.int k a, .int l c]) = .returned (.tuple #[.int k b, .int l c]) := by rw [h]
theorem ref_add (a b : Int) (w : World) :
    Calls Try.prog 11 #[.int .i64 1, .int .i64 a, .int .i64 b] w fun e w' => e = .returned (.tuple #[.int .i64 (wrap64 (a + b)), .int .i64 0]) ∧ w' = w := by
  go_enter Try.func11, Try.ntmps11
  go_wp2
  go_ret2
  exact ⟨rfl, rfl⟩
theorem ref_sub (a b : Int) (w : World) :
    Calls Try.prog 11 #[.int .i64 2, .int .i64 a, .int .i64 b] w fun e w' => e = .returned (.tuple #[.int .i64 (wrap64 (a - b)), .int .i64 0]) ∧ w' = w := by
  go_enter Try.func11, Try.ntmps11
  go_wp2
  go_ret2
  exact ⟨rfl, rfl⟩
theorem ref_mul (a b : Int) (w : World) :
    Calls Try.prog 11 #[.int .i64 3, .int .i64 a, .int .i64 b] w fun e w' => e = .returned (.tuple #[.int .i64 (wrap64 (a * b)), .int .i64 0]) ∧ w' = w := by
  go_enter Try.func11, Try.ntmps11
  go_wp2
  go_ret2
  exact ⟨rfl, rfl⟩
theorem ref_div0 (a : Int) (w : World) :
    Calls Try.prog 11 #[.int .i64 4, .int .i64 a, .int .i64 0] w fun e w' => e = .returned (.tuple #[.int .i64 (0), .int .i64 6]) ∧ w' = w := by
  go_enter Try.func11, Try.ntmps11
  go_wp2
  go_ret2
  exact ⟨rfl, rfl⟩
theorem ref_rem0 (a : Int) (w : World) :
    Calls Try.prog 11 #[.int .i64 5, .int .i64 a, .int .i64 0] w fun e w' => e = .returned (.tuple #[.int .i64 (0), .int .i64 6]) ∧ w' = w := by
  go_enter Try.func11, Try.ntmps11
  go_wp2
  go_ret2
  exact ⟨rfl, rfl⟩
theorem ref_divm (a : Int) (w : World) :
    Calls Try.prog 11 #[.int .i64 4, .int .i64 a, .int .i64 (-1)] w fun e w' => e = .returned (.tuple #[.int .i64 (wrap64 (-a)), .int .i64 0]) ∧ w' = w := by
  go_enter Try.func11, Try.ntmps11
  go_wp2
  go_ret2
  exact ⟨rfl, rfl⟩
theorem ref_remm (a : Int) (w : World) :
    Calls Try.prog 11 #[.int .i64 5, .int .i64 a, .int .i64 (-1)] w fun e w' => e = .returned (.tuple #[.int .i64 (0), .int .i64 0]) ∧ w' = w := by
  go_enter Try.func11, Try.ntmps11
  go_wp2
  go_ret2
  exact ⟨rfl, rfl⟩
theorem ref_div (a b : Int) (h : ¬ b = 0) (h1 : ¬ b = -1) (w : World) :
    Calls Try.prog 11 #[.int .i64 4, .int .i64 a, .int .i64 b] w fun e w' => e = .returned (.tuple #[.int .i64 (wrap64 (a.tdiv b)), .int .i64 0]) ∧ w' = w := by
  have h' : (b == 0) = false := by simp [h]
  have h1' : (b == -1) = false := by simp [h1]
  clear h1
  go_enter Try.func11, Try.ntmps11
  go_wp2
  go_ret2
  exact ⟨rfl, rfl⟩
theorem ref_rem (a b : Int) (h : ¬ b = 0) (h1 : ¬ b = -1) (w : World) :
    Calls Try.prog 11 #[.int .i64 5, .int .i64 a, .int .i64 b] w fun e w' => e = .returned (.tuple #[.int .i64 (wrap64 (a - wrap64 (wrap64 (a.tdiv b) * b))), .int .i64 0]) ∧ w' = w := by
  have h' : (b == 0) = false := by simp [h]
  have h1' : (b == -1) = false := by simp [h1]
  clear h1
  go_enter Try.func11, Try.ntmps11
  go_wp2
  go_ret2
  exact ⟨rfl, rfl⟩
theorem ref_and (a b : Int) (a1 : -9223372036854775808 ≤ a) (a2 : a ≤ 9223372036854775807) (b1 : -9223372036854775808 ≤ b) (b2 : b ≤ 9223372036854775807) (w : World) :
    Calls Try.prog 11 #[.int .i64 6, .int .i64 a, .int .i64 b] w fun e w' => e = .returned (.tuple #[.int .i64 (bits .and .i64 a b), .int .i64 0]) ∧ w' = w := by
  go_enter Try.func11, Try.ntmps11
  go_wp2_with fail
  refine (refbits_and a b a1 a2 b1 b2 _).mono ?_; rintro e w' ⟨rfl, rfl⟩
  go_wp2_with fail
  go_ret2
  exact ⟨rfl, rfl⟩
theorem ref_or (a b : Int) (a1 : -9223372036854775808 ≤ a) (a2 : a ≤ 9223372036854775807) (b1 : -9223372036854775808 ≤ b) (b2 : b ≤ 9223372036854775807) (w : World) :
    Calls Try.prog 11 #[.int .i64 7, .int .i64 a, .int .i64 b] w fun e w' => e = .returned (.tuple #[.int .i64 (bits .or .i64 a b), .int .i64 0]) ∧ w' = w := by
  go_enter Try.func11, Try.ntmps11
  go_wp2_with fail
  refine (refbits_or a b a1 a2 b1 b2 _).mono ?_; rintro e w' ⟨rfl, rfl⟩
  go_wp2_with fail
  go_ret2
  exact ⟨rfl, rfl⟩
theorem ref_xor (a b : Int) (a1 : -9223372036854775808 ≤ a) (a2 : a ≤ 9223372036854775807) (b1 : -9223372036854775808 ≤ b) (b2 : b ≤ 9223372036854775807) (w : World) :
    Calls Try.prog 11 #[.int .i64 8, .int .i64 a, .int .i64 b] w fun e w' => e = .returned (.tuple #[.int .i64 (bits .xor .i64 a b), .int .i64 0]) ∧ w' = w := by
  go_enter Try.func11, Try.ntmps11
  go_wp2_with fail
  refine (refbits_xor a b a1 a2 b1 b2 _).mono ?_; rintro e w' ⟨rfl, rfl⟩
  go_wp2_with fail
  go_ret2
  exact ⟨rfl, rfl⟩
theorem ref_shl0 (a b : Int) (h : b < 0) (w : World) :
    Calls Try.prog 11 #[.int .i64 9, .int .i64 a, .int .i64 b] w fun e w' => e = .returned (.tuple #[.int .i64 (0), .int .i64 6]) ∧ w' = w := by
  go_enter Try.func11, Try.ntmps11
  go_wp2
  go_ret2
  exact ⟨rfl, rfl⟩
theorem ref_shr0 (a b : Int) (h : b < 0) (w : World) :
    Calls Try.prog 11 #[.int .i64 10, .int .i64 a, .int .i64 b] w fun e w' => e = .returned (.tuple #[.int .i64 (0), .int .i64 6]) ∧ w' = w := by
  go_enter Try.func11, Try.ntmps11
  go_wp2
  go_ret2
  exact ⟨rfl, rfl⟩
theorem ref_lt1 (a b : Int) (h : a < b) (w : World) :
    Calls Try.prog 11 #[.int .i64 11, .int .i64 a, .int .i64 b] w fun e w' => e = .returned (.tuple #[.int .i64 (1), .int .i64 0]) ∧ w' = w := by
  go_enter Try.func11, Try.ntmps11
  go_wp2
  go_ret2
  exact ⟨rfl, rfl⟩
theorem ref_lt0 (a b : Int) (h : b ≤ a) (w : World) :
    Calls Try.prog 11 #[.int .i64 11, .int .i64 a, .int .i64 b] w fun e w' => e = .returned (.tuple #[.int .i64 (0), .int .i64 0]) ∧ w' = w := by
  go_enter Try.func11, Try.ntmps11
  go_wp2
  go_ret2
  exact ⟨rfl, rfl⟩
theorem ref_le1 (a b : Int) (h : a ≤ b) (w : World) :
    Calls Try.prog 11 #[.int .i64 12, .int .i64 a, .int .i64 b] w fun e w' => e = .returned (.tuple #[.int .i64 (1), .int .i64 0]) ∧ w' = w := by
  go_enter Try.func11, Try.ntmps11
  go_wp2
  go_ret2
  exact ⟨rfl, rfl⟩
theorem ref_le0 (a b : Int) (h : b < a) (w : World) :
    Calls Try.prog 11 #[.int .i64 12, .int .i64 a, .int .i64 b] w fun e w' => e = .returned (.tuple #[.int .i64 (0), .int .i64 0]) ∧ w' = w := by
  go_enter Try.func11, Try.ntmps11
  go_wp2
  go_ret2
  exact ⟨rfl, rfl⟩
theorem ref_eq1 (a : Int) (w : World) :
    Calls Try.prog 11 #[.int .i64 13, .int .i64 a, .int .i64 a] w fun e w' => e = .returned (.tuple #[.int .i64 (1), .int .i64 0]) ∧ w' = w := by
  go_enter Try.func11, Try.ntmps11
  go_wp2
  go_ret2
  exact ⟨rfl, rfl⟩
theorem ref_ne0 (a : Int) (w : World) :
    Calls Try.prog 11 #[.int .i64 14, .int .i64 a, .int .i64 a] w fun e w' => e = .returned (.tuple #[.int .i64 (0), .int .i64 0]) ∧ w' = w := by
  go_enter Try.func11, Try.ntmps11
  go_wp2
  go_ret2
  exact ⟨rfl, rfl⟩
theorem ref_eq0 (a b : Int) (h : (a == b) = false) (w : World) :
    Calls Try.prog 11 #[.int .i64 13, .int .i64 a, .int .i64 b] w fun e w' => e = .returned (.tuple #[.int .i64 (0), .int .i64 0]) ∧ w' = w := by
  have h' : (a != b) = true := by simp [bne, h]
  go_enter Try.func11, Try.ntmps11
  go_wp2
  go_ret2
  exact ⟨rfl, rfl⟩
theorem ref_ne1 (a b : Int) (h : (a == b) = false) (w : World) :
    Calls Try.prog 11 #[.int .i64 14, .int .i64 a, .int .i64 b] w fun e w' => e = .returned (.tuple #[.int .i64 (1), .int .i64 0]) ∧ w' = w := by
  have h' : (a != b) = true := by simp [bne, h]
  go_enter Try.func11, Try.ntmps11
  go_wp2
  go_ret2
  exact ⟨rfl, rfl⟩
set_option maxRecDepth 100000 in
theorem ref_shl (a : Int) (b : Nat) (a1 : -9223372036854775808 ≤ a) (a2 : a ≤ 9223372036854775807) (hb : (b : Int) ≤ 9223372036854775807) (w : World) :
    Calls Try.prog 11 #[.int .i64 9, .int .i64 a, .int .i64 (b : Int)] w fun e w' => e = .returned (.tuple #[.int .i64 (wrap64 (a * 2 ^ min b 64)), .int .i64 0]) ∧ w' = w := by
  go_enter Try.func11, Try.ntmps11
  go_wp2_with fail
  go_loop [1, 8] (fun x i => ∃ k : Nat, k ≤ min b 64 ∧ i = .int .i64 k ∧ x = .int .i64 (wrap64 (a * 2 ^ k))) (fun _ i => 64 - (intOf i).toNat)
  case atStart => exact ⟨0, Nat.zero_le _, rfl, by rw [Int.pow_zero, Int.mul_one, wrap64_id a1 a2]⟩
  case round =>
    obtain ⟨k, hk, rfl, rfl⟩ := hrel
    by_cases hlt : k < b
    · by_cases hlt2 : k < 64
      · have HX : Hid (wrap64 (2 * wrap64 (a * 2 ^ k)) = wrap64 (a * 2 ^ (k + 1))) := shl_step a k
        generalize wrap64 (a * 2 ^ k) = X at *
        go_wp2_with fail
        go_round
        case rel => exact ⟨k + 1, by omega, by go_num, by rw [HX.out]⟩
        case measure => simp [intOf]; omega
      · have HX : Hid (wrap64 (a * 2 ^ k) = wrap64 (a * 2 ^ min b 64)) := by
          have ek : k = min b 64 := by omega
          rw [← ek]; exact rfl
        generalize wrap64 (a * 2 ^ k) = X at *
        go_wp2_with fail
        go_ret2
        exact ⟨ret_two HX.out, rfl⟩
    · have HX : Hid (wrap64 (a * 2 ^ k) = wrap64 (a * 2 ^ min b 64)) := by
        have ek : k = min b 64 := by omega
        rw [← ek]; exact rfl
      generalize wrap64 (a * 2 ^ k) = X at *
      go_wp2_with fail
      go_ret2
      exact ⟨ret_two HX.out, rfl⟩
set_option maxRecDepth 100000 in
theorem ref_shr (a : Int) (b : Nat) (a1 : -9223372036854775808 ≤ a) (a2 : a ≤ 9223372036854775807) (hb : (b : Int) ≤ 9223372036854775807) (w : World) :
    Calls Try.prog 11 #[.int .i64 10, .int .i64 a, .int .i64 (b : Int)] w fun e w' => e = .returned (.tuple #[.int .i64 (a / 2 ^ min b 64), .int .i64 0]) ∧ w' = w := by
  go_enter Try.func11, Try.ntmps11
  go_wp2_with fail
  go_loop [1, 8] (fun x i => ∃ k : Nat, k ≤ min b 64 ∧ i = .int .i64 k ∧ x = .int .i64 (a / 2 ^ k)) (fun _ i => 64 - (intOf i).toNat)
  case atStart => exact ⟨0, Nat.zero_le _, rfl, by simp⟩
  case round =>
    obtain ⟨k, hk, rfl, rfl⟩ := hrel
    by_cases hlt : k < b
    · by_cases hlt2 : k < 64
      · have HX : Hid (a / 2 ^ k / 2 = a / 2 ^ (k + 1)) := half_step a k
        obtain ⟨A1, A2⟩ := half_bd a k a1 a2
        generalize a / 2 ^ k = X at *
        go_wp2_with fail
        refine (half_any X A1 A2 _).mono ?_; rintro e w' ⟨rfl, rfl⟩
        go_wp2_with fail
        go_round
        case rel => exact ⟨k + 1, by omega, by go_num, by rw [HX.out]⟩
        case measure => simp [intOf]; omega
      · have HX : Hid (a / 2 ^ k = a / 2 ^ min b 64) := by
          have ek : k = min b 64 := by omega
          rw [← ek]; exact rfl
        generalize a / 2 ^ k = X at *
        go_wp2_with fail
        go_ret2
        exact ⟨ret_two HX.out, rfl⟩
    · have HX : Hid (a / 2 ^ k = a / 2 ^ min b 64) := by
        have ek : k = min b 64 := by omega
        rw [← ek]; exact rfl
      generalize a / 2 ^ k = X at *
      go_wp2_with fail
      go_ret2
      exact ⟨ret_two HX.out, rfl⟩

theorem ref_none (op a b : Int) (h : ¬ (1 ≤ op ∧ op ≤ 14)) (w : World) :
    Calls Try.prog 11 #[.int .i64 op, .int .i64 a, .int .i64 b] w fun e w' => e = .returned (.tuple #[.int .i64 0, .int .i64 1]) ∧ w' = w := by
  have n1 : (op == 1) = false := beq_eq_false_iff_ne.2 (by omega)
  have n2 : (op == 2) = false := beq_eq_false_iff_ne.2 (by omega)
  have n3 : (op == 3) = false := beq_eq_false_iff_ne.2 (by omega)
  have n4 : (op == 4) = false := beq_eq_false_iff_ne.2 (by omega)
  have n5 : (op == 5) = false := beq_eq_false_iff_ne.2 (by omega)
  have n6 : (op == 6) = false := beq_eq_false_iff_ne.2 (by omega)
  have n7 : (op == 7) = false := beq_eq_false_iff_ne.2 (by omega)
  have n8 : (op == 8) = false := beq_eq_false_iff_ne.2 (by omega)
  have n9 : (op == 9) = false := beq_eq_false_iff_ne.2 (by omega)
  have n10 : (op == 10) = false := beq_eq_false_iff_ne.2 (by omega)
  have n11 : (op == 11) = false := beq_eq_false_iff_ne.2 (by omega)
  have n12 : (op == 12) = false := beq_eq_false_iff_ne.2 (by omega)
  have n13 : (op == 13) = false := beq_eq_false_iff_ne.2 (by omega)
  have n14 : (op == 14) = false := beq_eq_false_iff_ne.2 (by omega)
  clear h
  go_enter Try.func11, Try.ntmps11
  go_wp2
  go_ret2
  exact ⟨rfl, rfl⟩

theorem doV_divm (a : Int) : doV 4 a (-1) = wrap64 (-a) := by
  show (if (-1 : Int) = 0 then 0 else wrap64 (a.tdiv (-1))) = _
  rw [if_neg (by decide), Int.tdiv_neg, Int.tdiv_one]
theorem doV_remm (a : Int) : doV 5 a (-1) = 0 := by
  show (if (-1 : Int) = 0 then 0 else a.tmod (-1)) = _
  rw [if_neg (by decide), Int.tmod_neg, Int.tmod_one]
theorem ref_any (op a b : Int) (a1 : -9223372036854775808 ≤ a) (a2 : a ≤ 9223372036854775807) (b1 : -9223372036854775808 ≤ b) (b2 : b ≤ 9223372036854775807) (w : World) :
    Calls Try.prog 11 #[.int .i64 op, .int .i64 a, .int .i64 b] w fun e w' => e = .returned (.tuple #[.int .i64 (doV op a b), .int .i64 (doE op b)]) ∧ w' = w := by
  by_cases h : 1 ≤ op ∧ op ≤ 14
  · rcases op_cases h with rfl | rfl | rfl | rfl | rfl | rfl | rfl | rfl | rfl | rfl | rfl | rfl | rfl | rfl
    · exact ref_add a b w
    · exact ref_sub a b w
    · exact ref_mul a b w
    · by_cases hb : b = 0
      · subst hb; exact ref_div0 a w
      · by_cases hm : b = -1
        · subst hm
          rw [doV_divm, show doE 4 (-1) = 0 from rfl]; exact ref_divm a w
        · rw [show doV 4 a b = wrap64 (a.tdiv b) from if_neg hb, show doE 4 b = 0 from if_neg hb]; exact ref_div a b hb hm w
    · by_cases hb : b = 0
      · subst hb; exact ref_rem0 a w
      · by_cases hm : b = -1
        · subst hm
          rw [doV_remm, show doE 5 (-1) = 0 from rfl]; exact ref_remm a w
        · rw [show doV 5 a b = a.tmod b from if_neg hb, show doE 5 b = 0 from if_neg hb, ← rem_back a b a1 a2]; exact ref_rem a b hb hm w
    · exact ref_and a b a1 a2 b1 b2 w
    · exact ref_or a b a1 a2 b1 b2 w
    · exact ref_xor a b a1 a2 b1 b2 w
    · by_cases hb : b < 0
      · rw [show doV 9 a b = 0 from if_pos hb, show doE 9 b = 6 from if_pos hb]; exact ref_shl0 a b hb w
      · rw [show doV 9 a b = wrap64 (a * 2 ^ min b.toNat 64) from if_neg hb, show doE 9 b = 0 from if_neg hb]
        obtain ⟨c, rfl⟩ := Int.eq_ofNat_of_zero_le (show 0 ≤ b by omega)
        exact ref_shl a c a1 a2 b2 w
    · by_cases hb : b < 0
      · rw [show doV 10 a b = 0 from if_pos hb, show doE 10 b = 6 from if_pos hb]; exact ref_shr0 a b hb w
      · rw [show doV 10 a b = a / 2 ^ min b.toNat 64 from if_neg hb, show doE 10 b = 0 from if_neg hb]
        obtain ⟨c, rfl⟩ := Int.eq_ofNat_of_zero_le (show 0 ≤ b by omega)
        exact ref_shr a c a1 a2 b2 w
    · by_cases hb : a < b
      · rw [show doV 11 a b = 1 from if_pos hb, show doE 11 b = 0 from rfl]; exact ref_lt1 a b hb w
      · rw [show doV 11 a b = 0 from if_neg hb, show doE 11 b = 0 from rfl]; exact ref_lt0 a b (by omega) w
    · by_cases hb : a ≤ b
      · rw [show doV 12 a b = 1 from if_pos hb, show doE 12 b = 0 from rfl]; exact ref_le1 a b hb w
      · rw [show doV 12 a b = 0 from if_neg hb, show doE 12 b = 0 from rfl]; exact ref_le0 a b (by omega) w
    · by_cases hb : a = b
      · subst hb; rw [show doV 13 a a = 1 from if_pos rfl, show doE 13 a = 0 from rfl]; exact ref_eq1 a w
      · rw [show doV 13 a b = 0 from if_neg hb, show doE 13 b = 0 from rfl]; exact ref_eq0 a b (by simp [hb]) w
    · by_cases hb : a = b
      · subst hb; rw [show doV 14 a a = 0 from if_pos rfl, show doE 14 a = 0 from rfl]; exact ref_ne0 a w
      · rw [show doV 14 a b = 1 from if_neg hb, show doE 14 b = 0 from rfl]; exact ref_ne1 a b (by simp [hb]) w
  · rw [doV_none a b h, doE_none b h]; exact ref_none op a b h w

theorem rknown_yes (op : Int) (h1 : 1 ≤ op) (h2 : op ≤ 14) (w : World) : Calls Try.prog 13 #[.int .i64 op] w fun e w' => e = .returned (.bool true) ∧ w' = w := by
  go_enter Try.func13, Try.ntmps13
  go_wp2
  go_ret
  exact ⟨rfl, rfl⟩
theorem rknown_no (op : Int) (h : op < 1 ∨ 14 < op) (w : World) : Calls Try.prog 13 #[.int .i64 op] w fun e w' => e = .returned (.bool false) ∧ w' = w := by
  rcases h with h | h
  · go_enter Try.func13, Try.ntmps13
    go_wp2
    go_ret
    exact ⟨rfl, rfl⟩
  · have h1 : 1 ≤ op := by omega
    have h2 : decide (op ≤ 14) = false := by simp; omega
    go_enter Try.func13, Try.ntmps13
    go_wp2
    go_ret
    exact ⟨rfl, rfl⟩
end Go.Proofs.Ytldhhgikhfkdiaa
