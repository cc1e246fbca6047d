/-
  The law TokenCuts (layer 9): its walk.
-/
import Derived.Test.YtekangigfhhkoaaRlx
namespace Go.Proofs.Ytekangigfhhkoaa
open Go.ChangeShapes Go.WideShapes Go.ChangeAt Go.RowKit Go.Shelf

theorem TokRow.none (W : World) : TokRow W (.slice Option.none 0 0) [] := ⟨Option.none, 0, 0, 0, rfl, fun h => absurd h (Nat.lt_irrefl 0), fun k _ hk => absurd hk (Nat.not_lt_zero k)⟩
theorem LexAns.pair {s : List UInt8} {b1 b2 : Nat} {r1 r2 : Value} {W1 W2 : World} (h1 : LexAns s b1 r1 W1) (h2 : LexAns s b2 r2 W2) (hb : Below W1.heap.size W1 W2) : ∃ (v1 v2 : Value) (i e : Int) (zs : List Tz), r1 = .tuple #[v1, .int .i64 i, .int .i64 e] ∧ r2 = .tuple #[v2, .int .i64 i, .int .i64 e] ∧ zs.length ≤ s.length ∧ TokRow W2 v1 zs ∧ TokRow W2 v2 zs := by
  cases h1 with
  | good ts v _ a b =>
    cases h2 with
    | good ts' v' _ a' b' =>
      rw [a] at a'; injection a' with a' _; subst a'
      have hl := lexS_len s
      rw [a] at hl
      exact ⟨v, v', _, _, ts.map Tok.z, rfl, rfl, by rw [List.length_map]; exact hl, (TokRow.of_owns b).below hb, TokRow.of_owns b'⟩
    | bad ts' q _ a' => rw [a] at a'; injection a' with _ a'; cases a'
  | bad ts q _ a =>
    cases h2 with
    | good ts' v' _ a' b' => rw [a] at a'; injection a' with _ a'; cases a'
    | bad ts' q' _ a' =>
      rw [a] at a'; injection a' with _ a'; injection a' with a'; subst a'
      exact ⟨_, _, _, _, [], rfl, rfl, Nat.zero_le _, TokRow.none _, TokRow.none _⟩
set_option maxRecDepth 100000 in
theorem lex_big (s : ByteArray) (h : 65536 < s.size) (w : World) :
    Calls Try.prog 10 #[.string s] w fun e w' => e = .returned (.tuple #[.slice none 0 0, .int .i64 65536, .int .i64 5]) ∧ Below w.heap.size w w' := by
  have e1 : ((65536 : Int) < (s.size : Int)) = True := eq_true (by omega)
  clear h
  go_enter Try.func10, Try.ntmps10
  go_wp2
  refine bodyPost_ret (v := .tuple #[.slice none 0 0, .int .i64 65536, .int .i64 5]) (by simp [results, Try.results10, go_sem]) rfl ⟨rfl, ?_⟩
  exact (((Below.refl _ w).alloc (Nat.le_refl _) _).alloc (by simp only [World.size_alloc]; omega) _).alloc (by simp only [World.size_alloc]; omega) _
set_option maxRecDepth 100000 in
theorem lexR_big (s : ByteArray) (h : 65536 < s.size) (w : World) :
    Calls Try.prog 11 #[.string s] w fun e w' => e = .returned (.tuple #[.slice none 0 0, .int .i64 65536, .int .i64 5]) ∧ w' = w := by
  have e1 : ((65536 : Int) < (s.size : Int)) = True := eq_true (by omega)
  clear h
  go_enter Try.func11, Try.ntmps11
  go_wp2
  go_ret3
  exact ⟨rfl, rfl⟩

set_option maxRecDepth 100000 in
set_option maxHeartbeats 2000000 in
theorem cuts_walk (s : ByteArray) (w : World) : Calls Try.prog 3 #[.string s] w fun e w' => e = .returned (.bool true) ∧ Below w.heap.size w w' := by
  go_enter Try.func3, Try.ntmps3
  go_wp2_with fail
  refine (small_is w).mono ?_
  rintro e w1 ⟨rfl, hb1⟩
  have HB1 := hide hb1
  clear hb1
  by_cases hbig : 65536 < s.size
  · have e1 : ((4096 : Int) < (s.size : Int)) = True := eq_true (by omega)
    have e2 : ((s.size : Int) ≤ 65536) = False := eq_false (by omega)
    go_wp2_with fail
    refine (lex_big s hbig w1).mono ?_
    rintro e w2 ⟨rfl, hb2⟩
    have HB2 := hide (bel_two HB1.out hb2)
    clear hb2 HB1
    go_wp2_with fail
    refine (lexR_big s hbig w2).mono ?_
    rintro e w3 ⟨rfl, rfl⟩
    have HS := same_is (W := w3) (zs := []) (by decide) (TokRow.none _) (TokRow.none _)
    go_wp2_with fail
    refine HS.mono ?_
    rintro e w4 ⟨rfl, hq⟩
    have HF := hide (bel_two HB2.out (bel_q hq))
    clear hq HB2 HS
    go_wp2
    go_ret
    exact ⟨rfl, HF.out⟩
  by_cases hmid : 4096 < s.size
  · have e1 : ((4096 : Int) < (s.size : Int)) = True := eq_true (by omega)
    have e2 : ((s.size : Int) ≤ 65536) = True := eq_true (by omega)
    go_wp2_with fail
    go_ret
    exact ⟨rfl, HB1.out⟩
  have e1 : ((4096 : Int) < (s.size : Int)) = False := eq_false (by omega)
  have hss := s_size s
  go_wp2_with fail
  refine (lex_s s (by omega) w1).mono ?_
  rintro e w2 ⟨r, rfl, ha, hb2⟩
  have HA := hide ha
  have HB2 := hide (bel_two HB1.out hb2)
  clear ha hb2 HB1
  have HR := hide (lexR_s s (by omega) w2)
  obtain ⟨v0, i0, e0, rfl⟩ : ∃ v i e, r = .tuple #[v, .int .i64 i, .int .i64 e] := by
    cases HA.out with
    | good ts v _ a b => exact ⟨_, _, _, rfl⟩
    | bad ts q _ a => exact ⟨_, _, _, rfl⟩
  go_wp2_with fail
  refine HR.out.mono ?_
  rintro e w3 ⟨r, rfl, ha3, hb3⟩
  obtain ⟨v1, v2, i, er, zs, h1, rfl, hzl, hr1, hr2⟩ := HA.out.pair ha3 hb3
  injection h1 with h1
  injection h1 with h1
  injection h1 with hv h1
  injection h1 with hi h1
  injection hi with _ hi
  injection h1 with he _
  injection he with _ he
  subst hv hi he
  have HB3 := hide (bel_two HB2.out hb3)
  have HS := same_is (W := w3) (zs := zs) (by rw [hss] at hzl; omega) hr1 hr2
  have f1 : (i0 == i0) = true := by simp
  have f2 : (e0 == e0) = true := by simp
  clear ha3 hb3 hr1 hr2 hzl HA HB2 HR
  go_wp2_with fail
  refine HS.mono ?_
  rintro e w4 ⟨rfl, hq⟩
  have HF := hide (bel_two HB3.out (bel_q hq))
  clear hq HB3 HS
  go_wp2
  go_ret
  exact ⟨rfl, HF.out⟩

end Go.Proofs.Ytekangigfhhkoaa
