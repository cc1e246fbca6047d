/-
  Contracts of word.Wrap, word.Fits and of the document's own Wrap, Turned and Fold of layer 1 (package swageref01), by walks over the translation.
-/
import Derived.Test.YtldhhgikhfkdiaaRefDo
namespace Go.Proofs.Ytldhhgikhfkdiaa
open Go.ChangeShapes Go.WideShapes Go.ChangeAt Go.RowKit

def wrapV (n m : Int) (s : Bool) : Int := if m = 8 then wrapM 256 n s else if m = 16 then wrapM 65536 n s else if m = 32 then wrapM 4294967296 n s else n
theorem wrapM_plain (m n : Int) : wrapM m n false = n % m := by unfold wrapM; rw [if_neg (by simp)]
theorem wrapM_high {m n : Int} (h : m / 2 ≤ n % m) : wrapM m n true = n % m - m := by unfold wrapM; rw [if_pos ⟨rfl, h⟩]
theorem wrapM_low {m n : Int} (h : ¬ m / 2 ≤ n % m) : wrapM m n true = n % m := by unfold wrapM; rw [if_neg (fun hh => h hh.2)]
theorem pow_le32 (k : Nat) (hk : k ≤ 32) : 1 ≤ (2 : Int) ^ k ∧ (2 : Int) ^ k ≤ 4294967296 := by
  constructor
  · exact Int.pow_pos (by decide)
  · have h := Nat.pow_le_pow_right (n := 2) (by decide) hk
    have e : ((2 ^ k : Nat) : Int) = (2 : Int) ^ k := by simp
    rw [← e]; omega
set_option maxRecDepth 100000 in
theorem rwrap_8 (n : Int) (s : Bool) (w : World) :
    Calls Try.prog 19 #[.int .i64 n, .int .i64 8, .bool s] w fun e w' => e = .returned (.int .i64 (wrapM 256 n s)) ∧ w' = w := by
  go_enter Try.func19, Try.ntmps19
  go_wp2_with fail
  go_loop [7, 8] (fun z i => ∃ k : Nat, k ≤ 8 ∧ i = .int .i64 k ∧ z = .int .i64 (2 ^ k)) (fun _ i => 8 - (intOf i).toNat)
  case atStart => exact ⟨0, Nat.zero_le _, rfl, rfl⟩
  case round =>
    obtain ⟨k, hk, rfl, rfl⟩ := hrel
    by_cases hlt : k < 8
    · have HX : Hid (2 * (2 : Int) ^ k = 2 ^ (k + 1)) := by
        show 2 * (2 : Int) ^ k = 2 ^ (k + 1)
        rw [Int.pow_succ, Int.mul_comm]
      obtain ⟨p1, p2⟩ := pow_le32 k (by omega)
      generalize (2 : Int) ^ k = P at *
      go_wp2_with fail
      go_round
      case rel => exact ⟨k + 1, by omega, by go_num, by rw [HX.out]⟩
      case measure => simp [intOf]; omega
    · have ek : k = 8 := by omega
      subst ek
      rw [show (2 : Int) ^ 8 = 256 by decide]
      have hlo : 0 ≤ n % 256 := by omega
      have hhi : n % 256 < 256 := by omega
      by_cases hT : n.tmod 256 < 0
      · have HT : Hid (n.tmod 256 + 256 = n % 256) := tmod_lo 256 n (by decide) hT
        have hT2 : -256 ≤ n.tmod 256 := by have := HT.out; omega
        clear hlo hhi
        cases s
        · go_wp2_with fail
          go_ret
          exact ⟨ret_int (by rw [wrapM_plain, ← HT.out]), rfl⟩
        · by_cases hc : 128 ≤ n.tmod 256 + 256
          · go_wp2_with fail
            go_ret
            exact ⟨ret_int (by have := HT.out; rw [wrapM_high (by omega)]; omega), rfl⟩
          · have hc' : n.tmod 256 + 256 < 128 := by omega
            go_wp2_with fail
            go_ret
            exact ⟨ret_int (by rw [wrapM_low (by have := HT.out; omega), ← HT.out]), rfl⟩
      · have HT : Hid (n.tmod 256 = n % 256) := tmod_hi 256 n (by omega)
        have hT1 : 0 ≤ n.tmod 256 := by omega
        have hT2 : n.tmod 256 < 256 := by have := HT.out; omega
        clear hlo hhi
        cases s
        · go_wp2_with fail
          go_ret
          exact ⟨ret_int (by rw [wrapM_plain, ← HT.out]), rfl⟩
        · by_cases hc : 128 ≤ n.tmod 256
          · go_wp2_with fail
            go_ret
            exact ⟨ret_int (by have := HT.out; rw [wrapM_high (by omega)]; omega), rfl⟩
          · have hc' : n.tmod 256 < 128 := by omega
            go_wp2_with fail
            go_ret
            exact ⟨ret_int (by rw [wrapM_low (by have := HT.out; omega), ← HT.out]), rfl⟩
theorem wfits_8 (n : Int) (s : Bool) (w : World) :
    Calls Try.prog 20 #[.int .i64 n, .int .i64 8, .bool s] w fun e w' => e = .returned (.bool (wrapM 256 n s == n)) ∧ w' = w := by
  go_enter Try.func20, Try.ntmps20
  go_wp2_with fail
  refine (wrap_8 _ _ _).mono ?_; rintro e w' ⟨rfl, rfl⟩
  go_wp2_with fail
  go_ret
  exact ⟨rfl, rfl⟩
set_option maxRecDepth 100000 in
theorem rwrap_16 (n : Int) (s : Bool) (w : World) :
    Calls Try.prog 19 #[.int .i64 n, .int .i64 16, .bool s] w fun e w' => e = .returned (.int .i64 (wrapM 65536 n s)) ∧ w' = w := by
  go_enter Try.func19, Try.ntmps19
  go_wp2_with fail
  go_loop [7, 8] (fun z i => ∃ k : Nat, k ≤ 16 ∧ i = .int .i64 k ∧ z = .int .i64 (2 ^ k)) (fun _ i => 16 - (intOf i).toNat)
  case atStart => exact ⟨0, Nat.zero_le _, rfl, rfl⟩
  case round =>
    obtain ⟨k, hk, rfl, rfl⟩ := hrel
    by_cases hlt : k < 16
    · have HX : Hid (2 * (2 : Int) ^ k = 2 ^ (k + 1)) := by
        show 2 * (2 : Int) ^ k = 2 ^ (k + 1)
        rw [Int.pow_succ, Int.mul_comm]
      obtain ⟨p1, p2⟩ := pow_le32 k (by omega)
      generalize (2 : Int) ^ k = P at *
      go_wp2_with fail
      go_round
      case rel => exact ⟨k + 1, by omega, by go_num, by rw [HX.out]⟩
      case measure => simp [intOf]; omega
    · have ek : k = 16 := by omega
      subst ek
      rw [show (2 : Int) ^ 16 = 65536 by decide]
      have hlo : 0 ≤ n % 65536 := by omega
      have hhi : n % 65536 < 65536 := by omega
      by_cases hT : n.tmod 65536 < 0
      · have HT : Hid (n.tmod 65536 + 65536 = n % 65536) := tmod_lo 65536 n (by decide) hT
        have hT2 : -65536 ≤ n.tmod 65536 := by have := HT.out; omega
        clear hlo hhi
        cases s
        · go_wp2_with fail
          go_ret
          exact ⟨ret_int (by rw [wrapM_plain, ← HT.out]), rfl⟩
        · by_cases hc : 32768 ≤ n.tmod 65536 + 65536
          · go_wp2_with fail
            go_ret
            exact ⟨ret_int (by have := HT.out; rw [wrapM_high (by omega)]; omega), rfl⟩
          · have hc' : n.tmod 65536 + 65536 < 32768 := by omega
            go_wp2_with fail
            go_ret
            exact ⟨ret_int (by rw [wrapM_low (by have := HT.out; omega), ← HT.out]), rfl⟩
      · have HT : Hid (n.tmod 65536 = n % 65536) := tmod_hi 65536 n (by omega)
        have hT1 : 0 ≤ n.tmod 65536 := by omega
        have hT2 : n.tmod 65536 < 65536 := by have := HT.out; omega
        clear hlo hhi
        cases s
        · go_wp2_with fail
          go_ret
          exact ⟨ret_int (by rw [wrapM_plain, ← HT.out]), rfl⟩
        · by_cases hc : 32768 ≤ n.tmod 65536
          · go_wp2_with fail
            go_ret
            exact ⟨ret_int (by have := HT.out; rw [wrapM_high (by omega)]; omega), rfl⟩
          · have hc' : n.tmod 65536 < 32768 := by omega
            go_wp2_with fail
            go_ret
            exact ⟨ret_int (by rw [wrapM_low (by have := HT.out; omega), ← HT.out]), rfl⟩
theorem wfits_16 (n : Int) (s : Bool) (w : World) :
    Calls Try.prog 20 #[.int .i64 n, .int .i64 16, .bool s] w fun e w' => e = .returned (.bool (wrapM 65536 n s == n)) ∧ w' = w := by
  go_enter Try.func20, Try.ntmps20
  go_wp2_with fail
  refine (wrap_16 _ _ _).mono ?_; rintro e w' ⟨rfl, rfl⟩
  go_wp2_with fail
  go_ret
  exact ⟨rfl, rfl⟩
set_option maxRecDepth 100000 in
theorem rwrap_32 (n : Int) (s : Bool) (w : World) :
    Calls Try.prog 19 #[.int .i64 n, .int .i64 32, .bool s] w fun e w' => e = .returned (.int .i64 (wrapM 4294967296 n s)) ∧ w' = w := by
  go_enter Try.func19, Try.ntmps19
  go_wp2_with fail
  go_loop [7, 8] (fun z i => ∃ k : Nat, k ≤ 32 ∧ i = .int .i64 k ∧ z = .int .i64 (2 ^ k)) (fun _ i => 32 - (intOf i).toNat)
  case atStart => exact ⟨0, Nat.zero_le _, rfl, rfl⟩
  case round =>
    obtain ⟨k, hk, rfl, rfl⟩ := hrel
    by_cases hlt : k < 32
    · have HX : Hid (2 * (2 : Int) ^ k = 2 ^ (k + 1)) := by
        show 2 * (2 : Int) ^ k = 2 ^ (k + 1)
        rw [Int.pow_succ, Int.mul_comm]
      obtain ⟨p1, p2⟩ := pow_le32 k (by omega)
      generalize (2 : Int) ^ k = P at *
      go_wp2_with fail
      go_round
      case rel => exact ⟨k + 1, by omega, by go_num, by rw [HX.out]⟩
      case measure => simp [intOf]; omega
    · have ek : k = 32 := by omega
      subst ek
      rw [show (2 : Int) ^ 32 = 4294967296 by decide]
      have hlo : 0 ≤ n % 4294967296 := by omega
      have hhi : n % 4294967296 < 4294967296 := by omega
      by_cases hT : n.tmod 4294967296 < 0
      · have HT : Hid (n.tmod 4294967296 + 4294967296 = n % 4294967296) := tmod_lo 4294967296 n (by decide) hT
        have hT2 : -4294967296 ≤ n.tmod 4294967296 := by have := HT.out; omega
        clear hlo hhi
        cases s
        · go_wp2_with fail
          go_ret
          exact ⟨ret_int (by rw [wrapM_plain, ← HT.out]), rfl⟩
        · by_cases hc : 2147483648 ≤ n.tmod 4294967296 + 4294967296
          · go_wp2_with fail
            go_ret
            exact ⟨ret_int (by have := HT.out; rw [wrapM_high (by omega)]; omega), rfl⟩
          · have hc' : n.tmod 4294967296 + 4294967296 < 2147483648 := by omega
            go_wp2_with fail
            go_ret
            exact ⟨ret_int (by rw [wrapM_low (by have := HT.out; omega), ← HT.out]), rfl⟩
      · have HT : Hid (n.tmod 4294967296 = n % 4294967296) := tmod_hi 4294967296 n (by omega)
        have hT1 : 0 ≤ n.tmod 4294967296 := by omega
        have hT2 : n.tmod 4294967296 < 4294967296 := by have := HT.out; omega
        clear hlo hhi
        cases s
        · go_wp2_with fail
          go_ret
          exact ⟨ret_int (by rw [wrapM_plain, ← HT.out]), rfl⟩
        · by_cases hc : 2147483648 ≤ n.tmod 4294967296
          · go_wp2_with fail
            go_ret
            exact ⟨ret_int (by have := HT.out; rw [wrapM_high (by omega)]; omega), rfl⟩
          · have hc' : n.tmod 4294967296 < 2147483648 := by omega
            go_wp2_with fail
            go_ret
            exact ⟨ret_int (by rw [wrapM_low (by have := HT.out; omega), ← HT.out]), rfl⟩
theorem wfits_32 (n : Int) (s : Bool) (w : World) :
    Calls Try.prog 20 #[.int .i64 n, .int .i64 32, .bool s] w fun e w' => e = .returned (.bool (wrapM 4294967296 n s == n)) ∧ w' = w := by
  go_enter Try.func20, Try.ntmps20
  go_wp2_with fail
  refine (wrap_32 _ _ _).mono ?_; rintro e w' ⟨rfl, rfl⟩
  go_wp2_with fail
  go_ret
  exact ⟨rfl, rfl⟩
theorem rwrap_else (n m : Int) (s : Bool) (h8 : (m != 8) = true) (h16 : (m != 16) = true) (h32 : (m != 32) = true) (w : World) :
    Calls Try.prog 19 #[.int .i64 n, .int .i64 m, .bool s] w fun e w' => e = .returned (.int .i64 n) ∧ w' = w := by
  go_enter Try.func19, Try.ntmps19
  go_wp2
  go_ret
  exact ⟨rfl, rfl⟩
theorem wfits_else (n m : Int) (s : Bool) (h8 : (m != 8) = true) (h16 : (m != 16) = true) (h32 : (m != 32) = true) (w : World) :
    Calls Try.prog 20 #[.int .i64 n, .int .i64 m, .bool s] w fun e w' => e = .returned (.bool (n == n)) ∧ w' = w := by
  go_enter Try.func20, Try.ntmps20
  go_wp2_with fail
  refine (wrap_else _ _ _ h8 h16 h32 _).mono ?_; rintro e w' ⟨rfl, rfl⟩
  go_wp2_with fail
  go_ret
  exact ⟨by simp, rfl⟩
theorem all_any (n m : Int) (s : Bool) : (∀ w, Calls Try.prog 18 #[.int .i64 n, .int .i64 m, .bool s] w fun e w' => e = .returned (.int .i64 (wrapV n m s)) ∧ w' = w) ∧
    (∀ w, Calls Try.prog 19 #[.int .i64 n, .int .i64 m, .bool s] w fun e w' => e = .returned (.int .i64 (wrapV n m s)) ∧ w' = w) ∧
    (∀ w, Calls Try.prog 20 #[.int .i64 n, .int .i64 m, .bool s] w fun e w' => e = .returned (.bool (wrapV n m s == n)) ∧ w' = w) := by
  by_cases h8 : m = 8
  · subst h8; exact ⟨wrap_8 n s, rwrap_8 n s, wfits_8 n s⟩
  · by_cases h16 : m = 16
    · subst h16; exact ⟨wrap_16 n s, rwrap_16 n s, wfits_16 n s⟩
    · by_cases h32 : m = 32
      · subst h32; exact ⟨wrap_32 n s, rwrap_32 n s, wfits_32 n s⟩
      · have e : wrapV n m s = n := by unfold wrapV; rw [if_neg h8, if_neg h16, if_neg h32]
        rw [e]
        have k8 : (m != 8) = true := by simp [h8]
        have k16 : (m != 16) = true := by simp [h16]
        have k32 : (m != 32) = true := by simp [h32]
        exact ⟨wrap_else n m s k8 k16 k32, rwrap_else n m s k8 k16 k32, wfits_else n m s k8 k16 k32⟩

theorem rturned_1 (w : World) : Calls Try.prog 15 #[.int .i64 1] w fun e w' => e = .returned (.tuple #[.int .i64 1, .bool true]) ∧ w' = w := by
  go_enter Try.func15, Try.ntmps15
  go_wp2
  go_ret2
  exact ⟨rfl, rfl⟩
theorem rturned_3 (w : World) : Calls Try.prog 15 #[.int .i64 3] w fun e w' => e = .returned (.tuple #[.int .i64 3, .bool true]) ∧ w' = w := by
  go_enter Try.func15, Try.ntmps15
  go_wp2
  go_ret2
  exact ⟨rfl, rfl⟩
theorem rturned_6 (w : World) : Calls Try.prog 15 #[.int .i64 6] w fun e w' => e = .returned (.tuple #[.int .i64 6, .bool true]) ∧ w' = w := by
  go_enter Try.func15, Try.ntmps15
  go_wp2
  go_ret2
  exact ⟨rfl, rfl⟩
theorem rturned_7 (w : World) : Calls Try.prog 15 #[.int .i64 7] w fun e w' => e = .returned (.tuple #[.int .i64 7, .bool true]) ∧ w' = w := by
  go_enter Try.func15, Try.ntmps15
  go_wp2
  go_ret2
  exact ⟨rfl, rfl⟩
theorem rturned_8 (w : World) : Calls Try.prog 15 #[.int .i64 8] w fun e w' => e = .returned (.tuple #[.int .i64 8, .bool true]) ∧ w' = w := by
  go_enter Try.func15, Try.ntmps15
  go_wp2
  go_ret2
  exact ⟨rfl, rfl⟩
theorem rturned_13 (w : World) : Calls Try.prog 15 #[.int .i64 13] w fun e w' => e = .returned (.tuple #[.int .i64 13, .bool true]) ∧ w' = w := by
  go_enter Try.func15, Try.ntmps15
  go_wp2
  go_ret2
  exact ⟨rfl, rfl⟩
theorem rturned_14 (w : World) : Calls Try.prog 15 #[.int .i64 14] w fun e w' => e = .returned (.tuple #[.int .i64 14, .bool true]) ∧ w' = w := by
  go_enter Try.func15, Try.ntmps15
  go_wp2
  go_ret2
  exact ⟨rfl, rfl⟩
theorem rturned_none (op : Int) (h : tB op = false) (w : World) : Calls Try.prog 15 #[.int .i64 op] w fun e w' => e = .returned (.tuple #[.int .i64 0, .bool false]) ∧ w' = w := by
  unfold tB at h
  rw [decide_eq_false_iff_not] at h
  have n1 : (op == 1) = false := beq_eq_false_iff_ne.2 (by omega)
  have n3 : (op == 3) = false := beq_eq_false_iff_ne.2 (by omega)
  have n6 : (op == 6) = false := beq_eq_false_iff_ne.2 (by omega)
  have n7 : (op == 7) = false := beq_eq_false_iff_ne.2 (by omega)
  have n8 : (op == 8) = false := beq_eq_false_iff_ne.2 (by omega)
  have n13 : (op == 13) = false := beq_eq_false_iff_ne.2 (by omega)
  have n14 : (op == 14) = false := beq_eq_false_iff_ne.2 (by omega)
  clear h
  go_enter Try.func15, Try.ntmps15
  go_wp2
  go_ret2
  exact ⟨rfl, rfl⟩
theorem rturned_any (op : Int) (w : World) : Calls Try.prog 15 #[.int .i64 op] w fun e w' => e = .returned (.tuple #[.int .i64 (tV op), .bool (tB op)]) ∧ w' = w := by
  by_cases h : tB op = true
  · have h' := h
    unfold tB at h'
    rw [decide_eq_true_iff] at h'
    rcases h' with rfl | rfl | rfl | rfl | rfl | rfl | rfl
    · exact rturned_1 w
    · exact rturned_3 w
    · exact rturned_6 w
    · exact rturned_7 w
    · exact rturned_8 w
    · exact rturned_13 w
    · exact rturned_14 w
  · have h' : tB op = false := by simpa using h
    have hv : tV op = 0 := by
      unfold tV; rw [if_neg h]
    rw [hv, h']; exact rturned_none op h' w

theorem rfold_2 (w : World) : Calls Try.prog 17 #[.int .i64 2] w fun e w' => e = .returned (.tuple #[.int .i64 0, .bool true]) ∧ w' = w := by
  go_enter Try.func17, Try.ntmps17
  go_wp2
  go_ret2
  exact ⟨rfl, rfl⟩
theorem rfold_8 (w : World) : Calls Try.prog 17 #[.int .i64 8] w fun e w' => e = .returned (.tuple #[.int .i64 0, .bool true]) ∧ w' = w := by
  go_enter Try.func17, Try.ntmps17
  go_wp2
  go_ret2
  exact ⟨rfl, rfl⟩
theorem rfold_11 (w : World) : Calls Try.prog 17 #[.int .i64 11] w fun e w' => e = .returned (.tuple #[.int .i64 0, .bool true]) ∧ w' = w := by
  go_enter Try.func17, Try.ntmps17
  go_wp2
  go_ret2
  exact ⟨rfl, rfl⟩
theorem rfold_14 (w : World) : Calls Try.prog 17 #[.int .i64 14] w fun e w' => e = .returned (.tuple #[.int .i64 0, .bool true]) ∧ w' = w := by
  go_enter Try.func17, Try.ntmps17
  go_wp2
  go_ret2
  exact ⟨rfl, rfl⟩
theorem rfold_12 (w : World) : Calls Try.prog 17 #[.int .i64 12] w fun e w' => e = .returned (.tuple #[.int .i64 1, .bool true]) ∧ w' = w := by
  go_enter Try.func17, Try.ntmps17
  go_wp2
  go_ret2
  exact ⟨rfl, rfl⟩
theorem rfold_13 (w : World) : Calls Try.prog 17 #[.int .i64 13] w fun e w' => e = .returned (.tuple #[.int .i64 1, .bool true]) ∧ w' = w := by
  go_enter Try.func17, Try.ntmps17
  go_wp2
  go_ret2
  exact ⟨rfl, rfl⟩
theorem rfold_none (op : Int) (h : fB op = false) (w : World) : Calls Try.prog 17 #[.int .i64 op] w fun e w' => e = .returned (.tuple #[.int .i64 0, .bool false]) ∧ w' = w := by
  unfold fB at h
  rw [decide_eq_false_iff_not] at h
  have n2 : (op == 2) = false := beq_eq_false_iff_ne.2 (by omega)
  have n8 : (op == 8) = false := beq_eq_false_iff_ne.2 (by omega)
  have n11 : (op == 11) = false := beq_eq_false_iff_ne.2 (by omega)
  have n14 : (op == 14) = false := beq_eq_false_iff_ne.2 (by omega)
  have n12 : (op == 12) = false := beq_eq_false_iff_ne.2 (by omega)
  have n13 : (op == 13) = false := beq_eq_false_iff_ne.2 (by omega)
  clear h
  go_enter Try.func17, Try.ntmps17
  go_wp2
  go_ret2
  exact ⟨rfl, rfl⟩
theorem rfold_any (op : Int) (w : World) : Calls Try.prog 17 #[.int .i64 op] w fun e w' => e = .returned (.tuple #[.int .i64 (fV op), .bool (fB op)]) ∧ w' = w := by
  by_cases h : fB op = true
  · have h' := h
    unfold fB at h'
    rw [decide_eq_true_iff] at h'
    rcases h' with rfl | rfl | rfl | rfl | rfl | rfl
    · exact rfold_2 w
    · exact rfold_8 w
    · exact rfold_11 w
    · exact rfold_14 w
    · exact rfold_12 w
    · exact rfold_13 w
  · have h' : fB op = false := by simpa using h
    have hv : fV op = 0 := by
      unfold fB at h'
      rw [decide_eq_false_iff_not] at h'
      unfold fV; rw [if_neg (by omega)]
    rw [hv, h']; exact rfold_none op h' w

end Go.Proofs.Ytldhhgikhfkdiaa
