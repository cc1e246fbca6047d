/-
  Contracts of word.Wrap, word.Fits, word.Known, word.Turned, word.Fold and of the laws' small case (layer 1), by walks over the translation.
-/
import Derived.Test.YtldhhgikhfkdiaaWalks
namespace Go.Proofs.Ytldhhgikhfkdiaa
open Go.ChangeShapes Go.WideShapes Go.ChangeAt Go.RowKit

theorem ret_int {k : IntKind} {a b : Int} (h : a = b) : Ending.returned (.int k a) = .returned (.int k b) := by rw [h]

set_option maxRecDepth 100000 in
theorem wrap_8 (n : Int) (s : Bool) (w : World) :
    Calls Try.prog 18 #[.int .i64 n, .int .i64 8, .bool s] w fun e w' => e = .returned (.int .i64 (wrapM 256 n s)) ∧ w' = w := by
  have hm := and_255 n
  have hlo : 0 ≤ n % 256 := by omega
  have hhi : n % 256 < 256 := by omega
  cases s
  · go_enter Try.func18, Try.ntmps18
    go_wp2
    go_ret
    exact ⟨ret_int (by simp [wrapM]), rfl⟩
  · by_cases h : 128 ≤ n % 256
    · go_enter Try.func18, Try.ntmps18
      go_wp2
      go_ret
      exact ⟨ret_int (by unfold wrapM; rw [if_pos ⟨rfl, by omega⟩]), rfl⟩
    · have h' : n % 256 < 128 := by omega
      go_enter Try.func18, Try.ntmps18
      go_wp2
      go_ret
      exact ⟨ret_int (by unfold wrapM; rw [if_neg (by omega)]), rfl⟩

set_option maxRecDepth 100000 in
theorem wrap_16 (n : Int) (s : Bool) (w : World) :
    Calls Try.prog 18 #[.int .i64 n, .int .i64 16, .bool s] w fun e w' => e = .returned (.int .i64 (wrapM 65536 n s)) ∧ w' = w := by
  have hm := and_65535 n
  have hlo : 0 ≤ n % 65536 := by omega
  have hhi : n % 65536 < 65536 := by omega
  cases s
  · go_enter Try.func18, Try.ntmps18
    go_wp2
    go_ret
    exact ⟨ret_int (by simp [wrapM]), rfl⟩
  · by_cases h : 32768 ≤ n % 65536
    · go_enter Try.func18, Try.ntmps18
      go_wp2
      go_ret
      exact ⟨ret_int (by unfold wrapM; rw [if_pos ⟨rfl, by omega⟩]), rfl⟩
    · have h' : n % 65536 < 32768 := by omega
      go_enter Try.func18, Try.ntmps18
      go_wp2
      go_ret
      exact ⟨ret_int (by unfold wrapM; rw [if_neg (by omega)]), rfl⟩

set_option maxRecDepth 100000 in
theorem wrap_32 (n : Int) (s : Bool) (w : World) :
    Calls Try.prog 18 #[.int .i64 n, .int .i64 32, .bool s] w fun e w' => e = .returned (.int .i64 (wrapM 4294967296 n s)) ∧ w' = w := by
  have hm := and_4294967295 n
  have hlo : 0 ≤ n % 4294967296 := by omega
  have hhi : n % 4294967296 < 4294967296 := by omega
  cases s
  · go_enter Try.func18, Try.ntmps18
    go_wp2
    go_ret
    exact ⟨ret_int (by simp [wrapM]), rfl⟩
  · by_cases h : 2147483648 ≤ n % 4294967296
    · go_enter Try.func18, Try.ntmps18
      go_wp2
      go_ret
      exact ⟨ret_int (by unfold wrapM; rw [if_pos ⟨rfl, by omega⟩]), rfl⟩
    · have h' : n % 4294967296 < 2147483648 := by omega
      go_enter Try.func18, Try.ntmps18
      go_wp2
      go_ret
      exact ⟨ret_int (by unfold wrapM; rw [if_neg (by omega)]), rfl⟩

theorem wrap_else (n m : Int) (s : Bool) (h8 : (m != 8) = true) (h16 : (m != 16) = true) (h32 : (m != 32) = true) (w : World) :
    Calls Try.prog 18 #[.int .i64 n, .int .i64 m, .bool s] w fun e w' => e = .returned (.int .i64 n) ∧ w' = w := by
  go_enter Try.func18, Try.ntmps18
  go_wp2
  go_ret
  exact ⟨rfl, rfl⟩

theorem s1 (w : World) : Calls Try.prog 10 #[.int .i64 4, .int .i64 (-7), .int .i64 2] w fun e w' => e = .returned (.tuple #[.int .i64 (-3), .int .i64 0]) ∧ w' = w := by
  go_enter Try.func10, Try.ntmps10
  go_wp2
  go_ret2
  exact ⟨rfl, rfl⟩
theorem s2 (w : World) : Calls Try.prog 10 #[.int .i64 5, .int .i64 (-7), .int .i64 2] w fun e w' => e = .returned (.tuple #[.int .i64 (-1), .int .i64 0]) ∧ w' = w := by
  go_enter Try.func10, Try.ntmps10
  go_wp2
  go_ret2
  exact ⟨rfl, rfl⟩
theorem s4 (w : World) : Calls Try.prog 10 #[.int .i64 10, .int .i64 (-1), .int .i64 70] w fun e w' => e = .returned (.tuple #[.int .i64 (-1), .int .i64 0]) ∧ w' = w := by
  go_enter Try.func10, Try.ntmps10
  go_wp2
  go_ret2
  exact ⟨rfl, rfl⟩
theorem s6 (w : World) : Calls Try.prog 18 #[.int .i64 200, .int .i64 8, .bool true] w fun e w' => e = .returned (.int .i64 (-56)) ∧ w' = w := by
  have h := wrap_8 200 true w
  rwa [show wrapM 256 200 true = -56 by decide] at h
theorem known_yes (op : Int) (h1 : 1 ≤ op) (h2 : op ≤ 14) (w : World) : Calls Try.prog 12 #[.int .i64 op] w fun e w' => e = .returned (.bool true) ∧ w' = w := by
  go_enter Try.func12, Try.ntmps12
  go_wp2
  go_ret
  exact ⟨rfl, rfl⟩
theorem known_no (op : Int) (h : op < 1 ∨ 14 < op) (w : World) : Calls Try.prog 12 #[.int .i64 op] w fun e w' => e = .returned (.bool false) ∧ w' = w := by
  rcases h with h | h
  · go_enter Try.func12, Try.ntmps12
    go_wp2
    go_ret
    exact ⟨rfl, rfl⟩
  · have h1 : 1 ≤ op := by omega
    have h2 : decide (op ≤ 14) = false := by simp; omega
    go_enter Try.func12, Try.ntmps12
    go_wp2
    go_ret
    exact ⟨rfl, rfl⟩

set_option maxRecDepth 100000 in
theorem small (w : World) :
    Calls Try.prog 9 #[] w fun e w' => e = .returned (.bool true) ∧ w' = w := by
  go_enter Try.func9, Try.ntmps9
  go_wp2_with fail
  refine (s1 _).mono ?_; rintro e w' ⟨rfl, rfl⟩
  go_wp2_with fail
  refine (s2 _).mono ?_; rintro e w' ⟨rfl, rfl⟩
  go_wp2_with fail
  refine (do_div0 1 _).mono ?_; rintro e w' ⟨rfl, rfl⟩
  go_wp2_with fail
  refine (s4 _).mono ?_; rintro e w' ⟨rfl, rfl⟩
  go_wp2_with fail
  refine (do_lt1 2 3 (by decide) _).mono ?_; rintro e w' ⟨rfl, rfl⟩
  go_wp2_with fail
  refine (s6 _).mono ?_; rintro e w' ⟨rfl, rfl⟩
  go_wp2_with fail
  refine (known_yes 14 (by decide) (by decide) _).mono ?_; rintro e w' ⟨rfl, rfl⟩
  go_wp2_with fail
  refine (known_no 15 (by decide) _).mono ?_; rintro e w' ⟨rfl, rfl⟩
  go_wp2_with fail
  go_ret
  exact ⟨rfl, rfl⟩
end Go.Proofs.Ytldhhgikhfkdiaa
