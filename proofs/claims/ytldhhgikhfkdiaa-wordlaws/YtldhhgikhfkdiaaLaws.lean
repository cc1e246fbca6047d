/-
  Proved: for all ints a, b and c and either signed the law WordLaws returns true: word.Do's Add and Mul do not hang on the order of three, Div and Rem make a again, and word.Wrap twice is Wrap. Conditions: none.
-/
import Derived.Test.YtldhhgikhfkdiaaRows
import Derived.WalkKit
import Derived.ProofKit
import Derived.OpenShut
import Derived.Test.YtldhhgikhfkdiaaAny
namespace Go.Proofs.Ytldhhgikhfkdiaa.wordLaws
open Go.ChangeShapes Go.WideShapes Go.ChangeAt Go.RowKit
set_option linter.unusedVariables false      -- a walk need not use every 'w<i>' (that an integer argument fits its kind)

theorem own : ownKnob Try.prog.godebug = none := by kernel_rfl

theorem bounds64 {a : Int} (h : (Lit.int .i64 a).wf = true) : -9223372036854775808 ≤ a ∧ a ≤ 9223372036854775807 := by
  simp [Lit.wf, IntKind.min, IntKind.max, IntKind.signed, IntKind.bits] at h; omega
theorem fits_8 (n : Int) (s : Bool) (w : World) :
    Calls Try.prog 20 #[.int .i64 n, .int .i64 8, .bool s] w fun e w' => e = .returned (.bool (wrapM 256 n s == n)) ∧ w' = w := by
  go_enter Try.func20, Try.ntmps20
  go_wp2_with fail
  refine (wrap_8 _ _ _).mono ?_; rintro e w' ⟨rfl, rfl⟩
  go_wp2_with fail
  go_ret
  exact ⟨rfl, rfl⟩
theorem fits_16 (n : Int) (s : Bool) (w : World) :
    Calls Try.prog 20 #[.int .i64 n, .int .i64 16, .bool s] w fun e w' => e = .returned (.bool (wrapM 65536 n s == n)) ∧ w' = w := by
  go_enter Try.func20, Try.ntmps20
  go_wp2_with fail
  refine (wrap_16 _ _ _).mono ?_; rintro e w' ⟨rfl, rfl⟩
  go_wp2_with fail
  go_ret
  exact ⟨rfl, rfl⟩
theorem fits_32 (n : Int) (s : Bool) (w : World) :
    Calls Try.prog 20 #[.int .i64 n, .int .i64 32, .bool s] w fun e w' => e = .returned (.bool (wrapM 4294967296 n s == n)) ∧ w' = w := by
  go_enter Try.func20, Try.ntmps20
  go_wp2_with fail
  refine (wrap_32 _ _ _).mono ?_; rintro e w' ⟨rfl, rfl⟩
  go_wp2_with fail
  go_ret
  exact ⟨rfl, rfl⟩

set_option maxRecDepth 100000 in
set_option maxHeartbeats 1000000 in
theorem core (a0 a1 a2 q r : Int) (a3 : Bool)
    (hq : Hid (∀ w, Calls Try.prog 10 #[.int .i64 4, .int .i64 a0, .int .i64 a1] w fun e w' => e = .returned (.tuple #[.int .i64 q, .int .i64 0]) ∧ w' = w))
    (hr : Hid (∀ w, Calls Try.prog 10 #[.int .i64 5, .int .i64 a0, .int .i64 a1] w fun e w' => e = .returned (.tuple #[.int .i64 r, .int .i64 0]) ∧ w' = w))
    (hb : (a1 != 0) = true) (tq : (wrap64 (wrap64 (q * a1) + r) != a0) = false) (sg : (r < 0 ∧ a0 ≤ 0) ∨ (0 ≤ r ∧ r ≤ 0) ∨ (0 < r ∧ 0 ≤ a0)) (w : World) :
    Calls Try.prog 5 #[.int .i64 a0, .int .i64 a1, .int .i64 a2, .bool a3] w fun e w' => e = .returned (.bool true) ∧ Grown w w' := by
  have t1 : (wrap64 (wrap64 (a0 + a1) + a2) != wrap64 (a0 + wrap64 (a1 + a2))) = false := by rw [add_assoc64]; simp
  have t3 : (wrap64 (wrap64 (a0 * a1) * a2) != wrap64 (a0 * wrap64 (a1 * a2))) = false := by rw [mul_assoc64]; simp
  rcases sg with ⟨g1, g2⟩ | ⟨g1, g2⟩ | ⟨g1, g2⟩
  all_goals
    go_enter Try.func5, Try.ntmps5
    go_wp2_with fail
    refine (small _).mono ?_; rintro e w' ⟨rfl, rfl⟩
    go_wp2_with fail
    go_loop [10] (fun o => o = .int .i64 1 ∨ o = .int .i64 3 ∨ o = .int .i64 5) (fun o => (5 - intOf o).toNat)
    case atStart => exact Or.inl rfl
    case round =>
      rcases hrel with rfl | rfl | rfl
      · skip
        go_wp2_with fail
        refine (do_add _ _ _).mono ?_; rintro e w' ⟨rfl, rfl⟩
        go_wp2_with fail
        refine (do_add _ _ _).mono ?_; rintro e w' ⟨rfl, rfl⟩
        go_wp2_with fail
        refine (do_add _ _ _).mono ?_; rintro e w' ⟨rfl, rfl⟩
        go_wp2_with fail
        refine (do_add _ _ _).mono ?_; rintro e w' ⟨rfl, rfl⟩
        go_wp2_with fail
        go_round
        case rel => exact Or.inr (Or.inl rfl)
        case measure => simp [intOf]
      · skip
        go_wp2_with fail
        refine (do_mul _ _ _).mono ?_; rintro e w' ⟨rfl, rfl⟩
        go_wp2_with fail
        refine (do_mul _ _ _).mono ?_; rintro e w' ⟨rfl, rfl⟩
        go_wp2_with fail
        refine (do_mul _ _ _).mono ?_; rintro e w' ⟨rfl, rfl⟩
        go_wp2_with fail
        refine (do_mul _ _ _).mono ?_; rintro e w' ⟨rfl, rfl⟩
        go_wp2_with fail
        go_round
        case rel => exact Or.inr (Or.inr rfl)
        case measure => simp [intOf]
      · go_wp2_with fail
        refine (hq.out _).mono ?_; rintro e w' ⟨rfl, rfl⟩
        go_wp2_with fail
        refine (hr.out _).mono ?_; rintro e w' ⟨rfl, rfl⟩
        go_wp2_with fail
        go_loop [23] (fun o => o = .int .i64 8 ∨ o = .int .i64 16 ∨ o = .int .i64 32 ∨ o = .int .i64 64) (fun o => (64 - intOf o).toNat)
        case atStart => exact Or.inl rfl
        case round =>
          rcases hrel with rfl | rfl | rfl | rfl
          · have u1 : (wrapM 256 (wrapM 256 a0 a3) a3 != wrapM 256 a0 a3) = false := by rw [wrapM_idem8]; simp
            have u2 : (wrapM 256 (wrapM 256 a0 a3) a3 == wrapM 256 a0 a3) = true := by rw [wrapM_idem8]; simp
            have u3 : (wrapM 256 (wrap64 (wrapM 256 a0 a3 + wrapM 256 a1 a3)) a3 != wrapM 256 (wrap64 (a0 + a1)) a3) = false := by rw [wrapM_add8]; simp
            go_wp2_with fail
            refine (wrap_8 _ _ _).mono ?_; rintro e w' ⟨rfl, rfl⟩
            go_wp2_with fail
            refine (wrap_8 _ _ _).mono ?_; rintro e w' ⟨rfl, rfl⟩
            go_wp2_with fail
            refine (do_add _ _ _).mono ?_; rintro e w' ⟨rfl, rfl⟩
            go_wp2_with fail
            refine (wrap_8 _ _ _).mono ?_; rintro e w' ⟨rfl, rfl⟩
            go_wp2_with fail
            refine (fits_8 _ _ _).mono ?_; rintro e w' ⟨rfl, rfl⟩
            go_wp2_with fail
            refine (wrap_8 _ _ _).mono ?_; rintro e w' ⟨rfl, rfl⟩
            go_wp2_with fail
            refine (wrap_8 _ _ _).mono ?_; rintro e w' ⟨rfl, rfl⟩
            go_wp2_with fail
            go_round
            case rel => exact Or.inr (Or.inl rfl)
            case measure => simp [intOf]
          · have u1 : (wrapM 65536 (wrapM 65536 a0 a3) a3 != wrapM 65536 a0 a3) = false := by rw [wrapM_idem16]; simp
            have u2 : (wrapM 65536 (wrapM 65536 a0 a3) a3 == wrapM 65536 a0 a3) = true := by rw [wrapM_idem16]; simp
            have u3 : (wrapM 65536 (wrap64 (wrapM 65536 a0 a3 + wrapM 65536 a1 a3)) a3 != wrapM 65536 (wrap64 (a0 + a1)) a3) = false := by rw [wrapM_add16]; simp
            go_wp2_with fail
            refine (wrap_16 _ _ _).mono ?_; rintro e w' ⟨rfl, rfl⟩
            go_wp2_with fail
            refine (wrap_16 _ _ _).mono ?_; rintro e w' ⟨rfl, rfl⟩
            go_wp2_with fail
            refine (do_add _ _ _).mono ?_; rintro e w' ⟨rfl, rfl⟩
            go_wp2_with fail
            refine (wrap_16 _ _ _).mono ?_; rintro e w' ⟨rfl, rfl⟩
            go_wp2_with fail
            refine (fits_16 _ _ _).mono ?_; rintro e w' ⟨rfl, rfl⟩
            go_wp2_with fail
            refine (wrap_16 _ _ _).mono ?_; rintro e w' ⟨rfl, rfl⟩
            go_wp2_with fail
            refine (wrap_16 _ _ _).mono ?_; rintro e w' ⟨rfl, rfl⟩
            go_wp2_with fail
            go_round
            case rel => exact Or.inr (Or.inr (Or.inl rfl))
            case measure => simp [intOf]
          · have u1 : (wrapM 4294967296 (wrapM 4294967296 a0 a3) a3 != wrapM 4294967296 a0 a3) = false := by rw [wrapM_idem32]; simp
            have u2 : (wrapM 4294967296 (wrapM 4294967296 a0 a3) a3 == wrapM 4294967296 a0 a3) = true := by rw [wrapM_idem32]; simp
            have u3 : (wrapM 4294967296 (wrap64 (wrapM 4294967296 a0 a3 + wrapM 4294967296 a1 a3)) a3 != wrapM 4294967296 (wrap64 (a0 + a1)) a3) = false := by rw [wrapM_add32]; simp
            go_wp2_with fail
            refine (wrap_32 _ _ _).mono ?_; rintro e w' ⟨rfl, rfl⟩
            go_wp2_with fail
            refine (wrap_32 _ _ _).mono ?_; rintro e w' ⟨rfl, rfl⟩
            go_wp2_with fail
            refine (do_add _ _ _).mono ?_; rintro e w' ⟨rfl, rfl⟩
            go_wp2_with fail
            refine (wrap_32 _ _ _).mono ?_; rintro e w' ⟨rfl, rfl⟩
            go_wp2_with fail
            refine (fits_32 _ _ _).mono ?_; rintro e w' ⟨rfl, rfl⟩
            go_wp2_with fail
            refine (wrap_32 _ _ _).mono ?_; rintro e w' ⟨rfl, rfl⟩
            go_wp2_with fail
            refine (wrap_32 _ _ _).mono ?_; rintro e w' ⟨rfl, rfl⟩
            go_wp2_with fail
            go_round
            case rel => exact Or.inr (Or.inr (Or.inr rfl))
            case measure => simp [intOf]
          · go_wp2_with fail
            go_ret
            exact ⟨rfl, Grown.refl _⟩

set_option maxRecDepth 100000 in
set_option maxHeartbeats 1000000 in
theorem core0 (a0 a2 : Int) (a3 : Bool) (a1 : Int) (hb : (a1 != 0) = false) (w : World) :
    Calls Try.prog 5 #[.int .i64 a0, .int .i64 a1, .int .i64 a2, .bool a3] w fun e w' => e = .returned (.bool true) ∧ Grown w w' := by
  have t1 : (wrap64 (wrap64 (a0 + a1) + a2) != wrap64 (a0 + wrap64 (a1 + a2))) = false := by rw [add_assoc64]; simp
  have t3 : (wrap64 (wrap64 (a0 * a1) * a2) != wrap64 (a0 * wrap64 (a1 * a2))) = false := by rw [mul_assoc64]; simp
  go_enter Try.func5, Try.ntmps5
  go_wp2_with fail
  refine (small _).mono ?_; rintro e w' ⟨rfl, rfl⟩
  go_wp2_with fail
  go_loop [10] (fun o => o = .int .i64 1 ∨ o = .int .i64 3 ∨ o = .int .i64 5) (fun o => (5 - intOf o).toNat)
  case atStart => exact Or.inl rfl
  case round =>
    rcases hrel with rfl | rfl | rfl
    · skip
      go_wp2_with fail
      refine (do_add _ _ _).mono ?_; rintro e w' ⟨rfl, rfl⟩
      go_wp2_with fail
      refine (do_add _ _ _).mono ?_; rintro e w' ⟨rfl, rfl⟩
      go_wp2_with fail
      refine (do_add _ _ _).mono ?_; rintro e w' ⟨rfl, rfl⟩
      go_wp2_with fail
      refine (do_add _ _ _).mono ?_; rintro e w' ⟨rfl, rfl⟩
      go_wp2_with fail
      go_round
      case rel => exact Or.inr (Or.inl rfl)
      case measure => simp [intOf]
    · skip
      go_wp2_with fail
      refine (do_mul _ _ _).mono ?_; rintro e w' ⟨rfl, rfl⟩
      go_wp2_with fail
      refine (do_mul _ _ _).mono ?_; rintro e w' ⟨rfl, rfl⟩
      go_wp2_with fail
      refine (do_mul _ _ _).mono ?_; rintro e w' ⟨rfl, rfl⟩
      go_wp2_with fail
      refine (do_mul _ _ _).mono ?_; rintro e w' ⟨rfl, rfl⟩
      go_wp2_with fail
      go_round
      case rel => exact Or.inr (Or.inr rfl)
      case measure => simp [intOf]
    · go_wp2_with fail
      go_loop [23] (fun o => o = .int .i64 8 ∨ o = .int .i64 16 ∨ o = .int .i64 32 ∨ o = .int .i64 64) (fun o => (64 - intOf o).toNat)
      case atStart => exact Or.inl rfl
      case round =>
        rcases hrel with rfl | rfl | rfl | rfl
        · have u1 : (wrapM 256 (wrapM 256 a0 a3) a3 != wrapM 256 a0 a3) = false := by rw [wrapM_idem8]; simp
          have u2 : (wrapM 256 (wrapM 256 a0 a3) a3 == wrapM 256 a0 a3) = true := by rw [wrapM_idem8]; simp
          have u3 : (wrapM 256 (wrap64 (wrapM 256 a0 a3 + wrapM 256 a1 a3)) a3 != wrapM 256 (wrap64 (a0 + a1)) a3) = false := by rw [wrapM_add8]; simp
          go_wp2_with fail
          refine (wrap_8 _ _ _).mono ?_; rintro e w' ⟨rfl, rfl⟩
          go_wp2_with fail
          refine (wrap_8 _ _ _).mono ?_; rintro e w' ⟨rfl, rfl⟩
          go_wp2_with fail
          refine (do_add _ _ _).mono ?_; rintro e w' ⟨rfl, rfl⟩
          go_wp2_with fail
          refine (wrap_8 _ _ _).mono ?_; rintro e w' ⟨rfl, rfl⟩
          go_wp2_with fail
          refine (fits_8 _ _ _).mono ?_; rintro e w' ⟨rfl, rfl⟩
          go_wp2_with fail
          refine (wrap_8 _ _ _).mono ?_; rintro e w' ⟨rfl, rfl⟩
          go_wp2_with fail
          refine (wrap_8 _ _ _).mono ?_; rintro e w' ⟨rfl, rfl⟩
          go_wp2_with fail
          go_round
          case rel => exact Or.inr (Or.inl rfl)
          case measure => simp [intOf]
        · have u1 : (wrapM 65536 (wrapM 65536 a0 a3) a3 != wrapM 65536 a0 a3) = false := by rw [wrapM_idem16]; simp
          have u2 : (wrapM 65536 (wrapM 65536 a0 a3) a3 == wrapM 65536 a0 a3) = true := by rw [wrapM_idem16]; simp
          have u3 : (wrapM 65536 (wrap64 (wrapM 65536 a0 a3 + wrapM 65536 a1 a3)) a3 != wrapM 65536 (wrap64 (a0 + a1)) a3) = false := by rw [wrapM_add16]; simp
          go_wp2_with fail
          refine (wrap_16 _ _ _).mono ?_; rintro e w' ⟨rfl, rfl⟩
          go_wp2_with fail
          refine (wrap_16 _ _ _).mono ?_; rintro e w' ⟨rfl, rfl⟩
          go_wp2_with fail
          refine (do_add _ _ _).mono ?_; rintro e w' ⟨rfl, rfl⟩
          go_wp2_with fail
          refine (wrap_16 _ _ _).mono ?_; rintro e w' ⟨rfl, rfl⟩
          go_wp2_with fail
          refine (fits_16 _ _ _).mono ?_; rintro e w' ⟨rfl, rfl⟩
          go_wp2_with fail
          refine (wrap_16 _ _ _).mono ?_; rintro e w' ⟨rfl, rfl⟩
          go_wp2_with fail
          refine (wrap_16 _ _ _).mono ?_; rintro e w' ⟨rfl, rfl⟩
          go_wp2_with fail
          go_round
          case rel => exact Or.inr (Or.inr (Or.inl rfl))
          case measure => simp [intOf]
        · have u1 : (wrapM 4294967296 (wrapM 4294967296 a0 a3) a3 != wrapM 4294967296 a0 a3) = false := by rw [wrapM_idem32]; simp
          have u2 : (wrapM 4294967296 (wrapM 4294967296 a0 a3) a3 == wrapM 4294967296 a0 a3) = true := by rw [wrapM_idem32]; simp
          have u3 : (wrapM 4294967296 (wrap64 (wrapM 4294967296 a0 a3 + wrapM 4294967296 a1 a3)) a3 != wrapM 4294967296 (wrap64 (a0 + a1)) a3) = false := by rw [wrapM_add32]; simp
          go_wp2_with fail
          refine (wrap_32 _ _ _).mono ?_; rintro e w' ⟨rfl, rfl⟩
          go_wp2_with fail
          refine (wrap_32 _ _ _).mono ?_; rintro e w' ⟨rfl, rfl⟩
          go_wp2_with fail
          refine (do_add _ _ _).mono ?_; rintro e w' ⟨rfl, rfl⟩
          go_wp2_with fail
          refine (wrap_32 _ _ _).mono ?_; rintro e w' ⟨rfl, rfl⟩
          go_wp2_with fail
          refine (fits_32 _ _ _).mono ?_; rintro e w' ⟨rfl, rfl⟩
          go_wp2_with fail
          refine (wrap_32 _ _ _).mono ?_; rintro e w' ⟨rfl, rfl⟩
          go_wp2_with fail
          refine (wrap_32 _ _ _).mono ?_; rintro e w' ⟨rfl, rfl⟩
          go_wp2_with fail
          go_round
          case rel => exact Or.inr (Or.inr (Or.inr rfl))
          case measure => simp [intOf]
        · go_wp2_with fail
          go_ret
          exact ⟨rfl, Grown.refl _⟩

theorem walk (a0 : Int) (a1 : Int) (a2 : Int) (a3 : Bool) (w0 : (Lit.int .i64 a0).wf = true) (w1 : (Lit.int .i64 a1).wf = true) (w2 : (Lit.int .i64 a2).wf = true) (w : World) :
    Calls Try.prog 5 #[.int .i64 a0, .int .i64 a1, .int .i64 a2, .bool a3] w fun e w' => e = .returned (.bool true) ∧ Grown w w' := by
  obtain ⟨l0, u0⟩ := bounds64 w0
  by_cases hb : a1 = 0
  · exact core0 a0 a2 a3 a1 (by simp [hb]) w
  · refine core a0 a1 a2 _ _ a3 (fun w => do_div a0 a1 hb w) (fun w => do_rem a0 a1 hb w) (by simp [hb]) (by rw [divrem64 a0 a1 l0 u0]; simp) ?_ w
    have s1 := tmod_sign_neg a0 a1
    have s2 := tmod_sign_pos a0 a1
    omega

/-! ### THE ROW's STEP: WRITTEN OUT: LEAVE IT -/
set_option maxRecDepth 100000 in
theorem lifted (os : Os) (started : os.Started) (H : Type) (enc : TypeId × Value → H) :
    ReturnsInHanded {} Try.checked os 5 .any (Rows.wordLawsSpec.pre6 enc Try.prog Try.f5 Rows.wordLawsRow.domain false) (Rows.wordLawsSpec.post enc Try.prog Try.f5 false true false false) := by
  refine returnsInHanded_of_change (C := Try.checked) own started (by kernel_rfl) Try.func5
    (ChangeSpec.witness6 (enc := enc) (C := Try.checked) false ⟨#[], #[.int .i64 0, .int .i64 0, .int .i64 0, .bool false], []⟩ 8 (by kernel_rfl) (by kernel_rfl) (by kernel_rfl) (by kernel_rfl)) ?_
  intro W base args ds gs before hval0 hW hcnd _
  have hval : ∀ (j : Nat) t v, Try.f5.params[j]? = some t → args[j]? = some v → Value.okWide Try.prog W .any base t v := hval0
  have hW' := hW
  obtain ⟨p, q, hA0, hV, rfl, hfz, hnd⟩ := hW
  have hA : DataW.TrodAll enc Try.prog W 0 (fun _ => true) true Try.f5.params.toList args.toList ds p := hA0
  rw [Try.params5] at hA hval
  obtain ⟨v0, vs0, d0, ds0, p0, q0, hargs, rfl, rfl, h0, r0⟩ := trodAll_cons hA
  obtain ⟨v1, vs1, d1, ds1, p1, q1, rfl, rfl, rfl, h1, r1⟩ := trodAll_cons r0
  obtain ⟨v2, vs2, d2, ds2, p2, q2, rfl, rfl, rfl, h2, r2⟩ := trodAll_cons r1
  obtain ⟨v3, vs3, d3, ds3, p3, q3, rfl, rfl, rfl, h3, r3⟩ := trodAll_cons r2
  obtain ⟨rfl, rfl, rfl⟩ := trodAll_nil r3
  obtain rfl : args = #[v0, v1, v2, v3] := by cases args; simp_all
  obtain ⟨rfl, rfl⟩ := trodVars_none hV
  obtain ⟨a0, rfl, rfl, rfl, w0⟩ := open_int Try.underlying3 (hval 0 3 v0 rfl rfl) h0
  obtain ⟨a1, rfl, rfl, rfl, w1⟩ := open_int Try.underlying3 (hval 1 3 v1 rfl rfl) h1
  obtain ⟨a2, rfl, rfl, rfl, w2⟩ := open_int Try.underlying3 (hval 2 3 v2 rfl rfl) h2
  obtain ⟨a3, rfl, rfl, rfl⟩ := open_bool Try.underlying4 (hval 3 4 v3 rfl rfl) h3
  clear hA0 hval0
  simp only [List.append_nil] at hW'
  refine (walk a0 a1 a2 a3 w0 w1 w2 W).mono fun e W' ⟨he, hg⟩ => ?_
  subst he
  exact ⟨_, rfl, post_of_same (pa := []) (pv := []) hW' (fun _ _ _ => (trodAll_cons_mk (shut_bool Try.underlying4 _) trodAll_mk0)) (fun sp _ => (trodAll_cons_mk (shut_int Try.underlying3 w0) (trodAll_cons_mk (shut_int Try.underlying3 w1) (trodAll_cons_mk (shut_int Try.underlying3 w2) (trodAll_cons_mk (shut_bool Try.underlying4 _) trodAll_mk0))))) (fun _ _ => rfl) rfl
    (hg.frame _) hg.2.1 (ok_one (by kernel_rfl) rfl (okWide_bool_mk Try.underlying4 _))⟩

theorem over : Rows.wordLawsRow.holds Try.pinned (OpenSpec.ofChange Rows.wordLawsSpec) :=
  OpenClaim.holds_of_wide 5 Try.f5 rfl rfl rfl rfl rfl rfl rfl ⟨rfl, rfl, rfl, rfl, rfl⟩ rfl rfl rfl rfl rfl (by kernel_rfl) Try.func5 (by kernel_rfl)
    (of_decide_eq_true (by kernel_rfl)) (by unfold Func.isWrapper; first | (rw [if_pos (by decide +kernel)]; kernel_rfl) | (rw [if_neg (by decide +kernel)]; exact ⟨rfl, rfl⟩))
    (fun os started H enc _ => lifted os started H enc)

/-- ████ THE STATEMENT ████ -/
theorem proved : Rows.WordLawsSaid :=
  over
end Go.Proofs.Ytldhhgikhfkdiaa.wordLaws
namespace Go.Proofs.Ytldhhgikhfkdiaa
theorem wordLaws_holds : Rows.WordLawsSaid := wordLaws.proved
end Go.Proofs.Ytldhhgikhfkdiaa
#print axioms Go.Proofs.Ytldhhgikhfkdiaa.wordLaws_holds
