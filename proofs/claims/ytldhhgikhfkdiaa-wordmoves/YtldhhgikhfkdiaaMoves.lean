/-
  Proved: for every two ints a and b the law WordMoves returns true: word.Do moves bits up as multiplication and down as division, rounded down. Conditions: none.
-/
import Derived.Test.YtldhhgikhfkdiaaRows
import Derived.WalkKit
import Derived.ProofKit
import Derived.OpenShut
import Derived.Test.YtldhhgikhfkdiaaAny
namespace Go.Proofs.Ytldhhgikhfkdiaa.wordMoves
open Go.ChangeShapes Go.WideShapes Go.ChangeAt Go.RowKit
set_option linter.unusedVariables false      -- a walk need not use every 'w<i>' (that an integer argument fits its kind)

theorem own : ownKnob Try.prog.godebug = none := by kernel_rfl

theorem bounds64 {a : Int} (h : (Lit.int .i64 a).wf = true) : -9223372036854775808 ≤ a ∧ a ≤ 9223372036854775807 := by
  simp [Lit.wf, IntKind.min, IntKind.max, IntKind.signed, IntKind.bits] at h; omega

/-! plain facts -/
theorem shl_out (a b : Int) (h : 63 < b) : wrap64 (a * 2 ^ min b.toNat 64) = 0 := by
  rw [show min b.toNat 64 = 64 by omega]; unfold wrap64
  rw [show (2 : Int) ^ 64 = 18446744073709551616 by decide]; omega
theorem shr_63 (a b : Int) (h1 : -9223372036854775808 ≤ a) (h2 : a ≤ 9223372036854775807) (h : 63 ≤ b) : a / 2 ^ min b.toNat 64 = if 0 ≤ a then 0 else -1 := by
  have h3 : min b.toNat 64 = 63 ∨ min b.toNat 64 = 64 := by omega
  rcases h3 with h3 | h3 <;> rw [h3]
  · rw [show (2 : Int) ^ 63 = 9223372036854775808 by decide]; split <;> omega
  · rw [show (2 : Int) ^ 64 = 18446744073709551616 by decide]; split <;> omega
theorem pow_small (k : Nat) (hk : k ≤ 62) : 1 ≤ (2 : Int) ^ k ∧ (2 : Int) ^ k ≤ 4611686018427387904 := by
  constructor
  · exact Int.pow_pos (by decide)
  · have h := Nat.pow_le_pow_right (n := 2) (by decide) hk
    have e : ((2 ^ k : Nat) : Int) = (2 : Int) ^ k := by simp
    rw [← e]; omega
theorem back_mul (a : Int) (k : Nat) (hk : k ≤ 62) (h1 : -9223372036854775808 ≤ a) (h2 : a ≤ 9223372036854775807) : wrap64 (a - wrap64 (a / 2 ^ k * 2 ^ k)) = a % 2 ^ k := by
  have hp := pow_small k hk
  have e := Int.mul_ediv_add_emod a (2 ^ k)
  rw [Int.mul_comm] at e
  have r1 := Int.emod_nonneg a (b := 2 ^ k) (by omega)
  have r2 := Int.emod_lt_of_pos a (b := 2 ^ k) (by omega)
  generalize a / 2 ^ k * 2 ^ k = y at *
  generalize a % 2 ^ k = r at *
  generalize (2 : Int) ^ k = p at *
  have : wrap64 (a - wrap64 y) = wrap64 (a - y) := by unfold wrap64; omega
  rw [this, show a - y = r by omega]
  exact wrap64_id (by omega) (by omega)

set_option maxRecDepth 100000 in
theorem below (a0 a1 : Int) (h : a1 < 0) (w : World) :
    Calls Try.prog 8 #[.int .i64 a0, .int .i64 a1] w fun e w' => e = .returned (.bool true) ∧ Grown w w' := by
  go_enter Try.func8, Try.ntmps8
  go_wp2_with fail
  refine (small _).mono ?_; rintro e w' ⟨rfl, rfl⟩
  go_wp2_with fail
  refine (do_shl0 _ _ h _).mono ?_; rintro e w' ⟨rfl, rfl⟩
  go_wp2_with fail
  refine (do_shr0 _ _ h _).mono ?_; rintro e w' ⟨rfl, rfl⟩
  go_wp2_with fail
  go_ret
  exact ⟨rfl, Grown.refl _⟩

set_option maxRecDepth 100000 in
theorem beyond (a0 a1 x y : Int) (h : 63 ≤ a1) (hx : ∀ w, Calls Try.prog 10 #[.int .i64 9, .int .i64 a0, .int .i64 a1] w fun e w' => e = .returned (.tuple #[.int .i64 x, .int .i64 0]) ∧ w' = w)
    (hy : ∀ w, Calls Try.prog 10 #[.int .i64 10, .int .i64 a0, .int .i64 a1] w fun e w' => e = .returned (.tuple #[.int .i64 y, .int .i64 0]) ∧ w' = w)
    (t : (a1 == 63) = true ∨ ((a1 == 63) = false ∧ (x == 0) = true)) (u : ((y == 0) = true ∧ 0 ≤ a0) ∨ ((y == 0) = false ∧ (y == -1) = true ∧ a0 < 0)) (w : World) :
    Calls Try.prog 8 #[.int .i64 a0, .int .i64 a1] w fun e w' => e = .returned (.bool true) ∧ Grown w w' := by
  have Hx : Hid (∀ w, Calls Try.prog 10 #[.int .i64 9, .int .i64 a0, .int .i64 a1] w fun e w' => e = .returned (.tuple #[.int .i64 x, .int .i64 0]) ∧ w' = w) := hx
  have Hy : Hid (∀ w, Calls Try.prog 10 #[.int .i64 10, .int .i64 a0, .int .i64 a1] w fun e w' => e = .returned (.tuple #[.int .i64 y, .int .i64 0]) ∧ w' = w) := hy
  clear hx hy
  rcases t with t | ⟨t, t'⟩ <;> rcases u with ⟨u, u'⟩ | ⟨u, u', u''⟩
  all_goals
    go_enter Try.func8, Try.ntmps8
    go_wp2_with fail
    refine (small _).mono ?_; rintro e w' ⟨rfl, rfl⟩
    go_wp2_with fail
    refine (Hx.out _).mono ?_; rintro e w' ⟨rfl, rfl⟩
    go_wp2_with fail
    refine (Hy.out _).mono ?_; rintro e w' ⟨rfl, rfl⟩
    go_wp2_with fail
    go_ret
    exact ⟨rfl, Grown.refl _⟩

set_option maxRecDepth 100000 in
theorem within (a0 : Int) (b : Nat) (h1 : -9223372036854775808 ≤ a0) (h2 : a0 ≤ 9223372036854775807) (h : b ≤ 62) (w : World) :
    Calls Try.prog 8 #[.int .i64 a0, .int .i64 (b : Int)] w fun e w' => e = .returned (.bool true) ∧ Grown w w' := by
  have hx := fun w => do_shl a0 (b : Int) (by omega) w
  have hy := fun w => do_shr a0 (b : Int) (by omega) w
  rw [show min (b : Int).toNat 64 = b by omega] at hx hy
  have Hx : Hid (∀ w, Calls Try.prog 10 #[.int .i64 9, .int .i64 a0, .int .i64 (b : Int)] w fun e w' => e = .returned (.tuple #[.int .i64 (wrap64 (a0 * 2 ^ b)), .int .i64 0]) ∧ w' = w) := hx
  have Hy : Hid (∀ w, Calls Try.prog 10 #[.int .i64 10, .int .i64 a0, .int .i64 (b : Int)] w fun e w' => e = .returned (.tuple #[.int .i64 (a0 / 2 ^ b), .int .i64 0]) ∧ w' = w) := hy
  clear hx hy
  go_enter Try.func8, Try.ntmps8
  go_wp2_with fail
  refine (small _).mono ?_; rintro e w' ⟨rfl, rfl⟩
  go_wp2_with fail
  refine (Hx.out _).mono ?_; rintro e w' ⟨rfl, rfl⟩
  go_wp2_with fail
  refine (Hy.out _).mono ?_; rintro e w' ⟨rfl, rfl⟩
  go_wp2_with fail
  go_loop [14, 15] (fun p i => ∃ k : Nat, k ≤ b ∧ i = .int .i64 k ∧ p = .int .i64 (2 ^ k)) (fun _ i => b - (intOf i).toNat)
  case atStart => exact ⟨0, Nat.zero_le _, rfl, rfl⟩
  case round =>
    obtain ⟨k, hk, rfl, rfl⟩ := hrel
    by_cases hlt : k < b
    · have hp := pow_small (k + 1) (by omega)
      rw [Int.pow_succ] at hp
      obtain ⟨hp1, hp2⟩ := hp
      have hp3 := pow_small k (by omega)
      obtain ⟨hp3, hp4⟩ := hp3
      go_wp2
      go_round
      case rel => exact ⟨k + 1, by omega, by go_num, by rw [Int.pow_succ, Int.mul_comm]⟩
      case measure => simp [intOf]; omega
    · have ek : k = b := by omega
      subst ek
      have hm := back_mul a0 k h h1 h2
      have hp := (pow_small k h).1
      have r1 := Int.emod_nonneg a0 (b := 2 ^ k) (by omega)
      have r2 := Int.emod_lt_of_pos a0 (b := 2 ^ k) (by omega)
      have tx : (wrap64 (a0 * 2 ^ k) == wrap64 (a0 * 2 ^ k)) = true := by simp
      have t1 : decide (0 ≤ wrap64 (a0 - wrap64 (a0 / 2 ^ k * 2 ^ k))) = true := by rw [hm]; simp [r1]
      have t2 : decide (wrap64 (a0 - wrap64 (a0 / 2 ^ k * 2 ^ k)) < 2 ^ k) = true := by rw [hm]; simp [r2]
      clear hm r1 r2
      go_wp2
      go_ret
      exact ⟨rfl, Grown.refl _⟩

theorem walk (a0 : Int) (a1 : Int) (w0 : (Lit.int .i64 a0).wf = true) (w1 : (Lit.int .i64 a1).wf = true) (w : World) :
    Calls Try.prog 8 #[.int .i64 a0, .int .i64 a1] w fun e w' => e = .returned (.bool true) ∧ Grown w w' := by
  obtain ⟨l0, u0⟩ := bounds64 w0
  by_cases hn : a1 < 0
  · exact below a0 a1 hn w
  · by_cases hs : a1 < 63
    · obtain ⟨b, rfl⟩ := Int.eq_ofNat_of_zero_le (show 0 ≤ a1 by omega)
      exact within a0 b l0 u0 (by omega) w
    · refine beyond a0 a1 _ _ (by omega) (fun w => do_shl a0 a1 (by omega) w) (fun w => do_shr a0 a1 (by omega) w) ?_ ?_ w
      · by_cases e : a1 = 63
        · exact Or.inl (by simp [e])
        · exact Or.inr ⟨by simp [e], by rw [shl_out a0 a1 (by omega)]; rfl⟩
      · rw [shr_63 a0 a1 l0 u0 (by omega)]
        by_cases e : 0 ≤ a0
        · exact Or.inl ⟨by simp [e], e⟩
        · exact Or.inr ⟨by simp [e], by simp [e], by omega⟩

/-! ### THE ROW's STEP: WRITTEN OUT: LEAVE IT -/
set_option maxRecDepth 100000 in
theorem lifted (os : Os) (started : os.Started) (H : Type) (enc : TypeId × Value → H) :
    ReturnsInHanded {} Try.checked os 8 .any (Rows.wordMovesSpec.pre6 enc Try.prog Try.f8 Rows.wordMovesRow.domain false) (Rows.wordMovesSpec.post enc Try.prog Try.f8 false true false false) := by
  refine returnsInHanded_of_change (C := Try.checked) own started (by kernel_rfl) Try.func8
    (ChangeSpec.witness6 (enc := enc) (C := Try.checked) false ⟨#[], #[.int .i64 0, .int .i64 0], []⟩ 8 (by kernel_rfl) (by kernel_rfl) (by kernel_rfl) (by kernel_rfl)) ?_
  intro W base args ds gs before hval0 hW hcnd _
  have hval : ∀ (j : Nat) t v, Try.f8.params[j]? = some t → args[j]? = some v → Value.okWide Try.prog W .any base t v := hval0
  have hW' := hW
  obtain ⟨p, q, hA0, hV, rfl, hfz, hnd⟩ := hW
  have hA : DataW.TrodAll enc Try.prog W 0 (fun _ => true) true Try.f8.params.toList args.toList ds p := hA0
  rw [Try.params8] at hA hval
  obtain ⟨v0, vs0, d0, ds0, p0, q0, hargs, rfl, rfl, h0, r0⟩ := trodAll_cons hA
  obtain ⟨v1, vs1, d1, ds1, p1, q1, rfl, rfl, rfl, h1, r1⟩ := trodAll_cons r0
  obtain ⟨rfl, rfl, rfl⟩ := trodAll_nil r1
  obtain rfl : args = #[v0, v1] := by cases args; simp_all
  obtain ⟨rfl, rfl⟩ := trodVars_none hV
  obtain ⟨a0, rfl, rfl, rfl, w0⟩ := open_int Try.underlying3 (hval 0 3 v0 rfl rfl) h0
  obtain ⟨a1, rfl, rfl, rfl, w1⟩ := open_int Try.underlying3 (hval 1 3 v1 rfl rfl) h1
  clear hA0 hval0
  simp only [List.append_nil] at hW'
  refine (walk a0 a1 w0 w1 W).mono fun e W' ⟨he, hg⟩ => ?_
  subst he
  exact ⟨_, rfl, post_of_same (pa := []) (pv := []) hW' (fun _ _ _ => (trodAll_cons_mk (shut_bool Try.underlying4 _) trodAll_mk0)) (fun sp _ => (trodAll_cons_mk (shut_int Try.underlying3 w0) (trodAll_cons_mk (shut_int Try.underlying3 w1) trodAll_mk0))) (fun _ _ => rfl) rfl
    (hg.frame _) hg.2.1 (ok_one (by kernel_rfl) rfl (okWide_bool_mk Try.underlying4 _))⟩

theorem over : Rows.wordMovesRow.holds Try.pinned (OpenSpec.ofChange Rows.wordMovesSpec) :=
  OpenClaim.holds_of_wide 8 Try.f8 rfl rfl rfl rfl rfl rfl rfl ⟨rfl, rfl, rfl, rfl, rfl⟩ rfl rfl rfl rfl rfl (by kernel_rfl) Try.func8 (by kernel_rfl)
    (of_decide_eq_true (by kernel_rfl)) (by unfold Func.isWrapper; first | (rw [if_pos (by decide +kernel)]; kernel_rfl) | (rw [if_neg (by decide +kernel)]; exact ⟨rfl, rfl⟩))
    (fun os started H enc _ => lifted os started H enc)

/-- ████ THE STATEMENT ████ -/
theorem proved : Rows.WordMovesSaid :=
  over
end Go.Proofs.Ytldhhgikhfkdiaa.wordMoves
namespace Go.Proofs.Ytldhhgikhfkdiaa
theorem wordMoves_holds : Rows.WordMovesSaid := wordMoves.proved
end Go.Proofs.Ytldhhgikhfkdiaa
#print axioms Go.Proofs.Ytldhhgikhfkdiaa.wordMoves_holds
