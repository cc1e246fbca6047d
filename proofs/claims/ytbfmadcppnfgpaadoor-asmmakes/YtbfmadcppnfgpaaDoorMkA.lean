/-
  The document's own answers of layer 5, the small ones: a label's place, numbers as digits, which lines are right, whether rows of lines are alike.
-/
import Derived.Test.YtbfmadcppnfgpaaDoorMkP
import Derived.Test.YtbfmadcppnfgpaaDoorRow5
import Derived.Test.YtbfmadcppnfgpaaDoorRefD
import Derived.Test.YtbfmadcppnfgpaaDoorRefF
namespace Go.Proofs.YtbfmadcppnfgpaaDoor
open Go.ChangeShapes Go.WideShapes Go.ChangeAt Go.RowKit

set_option maxRecDepth 100000 in
set_option maxHeartbeats 1000000 in
theorem place_is (av : Option Addr) (cap blk off : Nat) (ls : List Ln) (t : Int) (w : World) (hl : ls.length ≤ 1000000) (hin : IsLines w av blk off ls) :
    Calls Tryd.prog 25 #[.slice av ls.length cap, .int .i64 t] w fun e w' => e = .returned (.int .i64 (placeR ls t)) ∧ w' = w := by
  have HIN : Hid (IsLines w av blk off ls) := hin
  clear hin
  generalize hn : ls.length = n at *
  have HN : Hid (ls.length = n) := hn
  clear hn
  go_enter Tryd.func25, Tryd.ntmps25
  go_wp2
  go_loopw [5, 6] (fun p i wr => ∃ k : Nat, p = .int .i64 (plc ls k) ∧ i = .int .i64 k ∧ k ≤ n ∧ t ∉ (tab ls k).map Prod.fst ∧ wr = w) (fun _ i _ => n - (intOf i).toNat)
  case atStart => exact ⟨0, by rw [plc_zero]; rfl, rfl, Nat.zero_le _, by simp [tab_zero], rfl⟩
  case round =>
    obtain ⟨k, rfl, rfl, hk, hno, rfl⟩ := hrel
    by_cases hlt : k < n
    · have e1 : ((k : Int) < (n : Int)) = True := eq_true (by omega)
      have hkl : k < ls.length := by rw [HN.out]; exact hlt
      obtain rfl := HIN.out.at_ (by omega)
      obtain ⟨c0, -, -, -, -, -, -⟩ := HIN.out.has k hkl
      have hs := plc_succ ls k hkl
      have hpl := plc_le ls k
      have HNO : Hid (t ∉ (tab ls k).map Prod.fst) := hno
      have HLT : Hid (k < n) := hlt
      have HT1 : Hid ((ls[k]'hkl).L = 0 → t ∉ (tab ls (k + 1)).map Prod.fst) := fun hz => by rw [tab_inst ls k hkl hz]; exact hno
      have HT2 : Hid (¬ (ls[k]'hkl).L = 0 → ¬ (ls[k]'hkl).L = t → t ∉ (tab ls (k + 1)).map Prod.fst) := fun hz hne => by
        rw [tab_mem_succ ls k hkl]
        rintro (h | ⟨_, h⟩)
        · exact hno h
        · exact hne h.symm
      have HP : Hid (¬ (ls[k]'hkl).L = 0 → (ls[k]'hkl).L = t → placeR ls t = (plc ls k : Int)) := fun hz he => by
        have := place_here ls k hkl hz (by rw [he]; exact hno)
        rwa [he] at this
      have HS : Hid (plc ls (k + 1) = plc ls k + (if (ls[k]'hkl).L = 0 then 1 else 0)) := hs
      clear hno hlt hs
      generalize (ls[k]'hkl).L = L at *
      generalize hq : plc ls k = q at *
      have hqb : q ≤ 1000000 := by omega
      have hkb : k ≤ 1000000 := by omega
      clear hkl hq
      by_cases hz : L = 0
      · have HZ : Hid (L = 0) := hz
        subst hz
        go_wp2
        go_roundw
        case rel => exact ⟨k + 1, by have := HS.out; rw [if_pos rfl] at this; rw [this]; go_num, by go_num, HLT.out, HT1.out rfl, by trivial⟩
        case measure => have := HLT.out; simp [intOf]; omega
      · have hz' : (L == 0) = false := by rw [beq_eq_false_iff_ne]; exact hz
        by_cases he : L = t
        · have HE := HP.out hz he
          subst he
          have ht' : (L == L) = true := by simp
          go_wp2
          go_ret
          exact ⟨rfl, rfl⟩
        · have ht' : (L == t) = false := by rw [beq_eq_false_iff_ne]; exact he
          have HZ : Hid (¬ L = 0) := hz
          have HE : Hid (¬ L = t) := he
          clear hz he
          go_wp2
          go_roundw
          case rel => exact ⟨k + 1, by have := HS.out; rw [if_neg HZ.out] at this; rw [this]; go_num, by go_num, HLT.out, HT2.out HZ.out HE.out, by trivial⟩
          case measure => have := HLT.out; simp [intOf]; omega
    · have e1 : ((k : Int) < (n : Int)) = False := eq_false (by omega)
      obtain rfl : k = n := by omega
      have HP : Hid (placeR ls t = -1) := placeR_none (by rw [HN.out]; exact hno)
      clear hno
      go_wp2
      go_ret
      exact ⟨by first | rfl | (rw [HP.out]; rfl), rfl⟩

theorem dec_size64 (z : Int) (h : z ≤ 9223372036854775808) : (bs (Lib.decDigits z.toNat)).size ≤ 20 := by
  rw [bs_size, Lib.decDigits_length]; exact Lib.nDigits_le20 _ (by omega)
theorem digits_pos (m : Nat) : ∀ z : Int, 0 ≤ z → z < m → z ≤ 9223372036854775807 → ∀ w : World,
    Calls Tryd.prog 47 #[.int .i64 z] w fun e w' => e = .returned (.string (bs (Lib.decDigits z.toNat))) ∧ Below w.heap.size w w' := by
  induction m with
  | zero => intro z h0 h1; omega
  | succ m ih =>
    intro z h0 h1 h2 w
    have hcv := (has_one w w.heap.size rfl (48 + z % 10) ⟨by omega, by omega⟩).conv (cap := 1)
    simp only [List.length_cons, List.length_nil, Nat.zero_add] at hcv
    by_cases hs : z < 10
    · clear ih
      go_enter Tryd.func47, Tryd.ntmps47
      go_wp2_with fail
      go_ret
      exact ⟨by rw [← dec_small z h0 hs]; rfl, (Below.refl _ _).alloc (Nat.le_refl _) _⟩
    · have hs' : decide (z < 10) = false := by simpa using hs
      have IH : Hid (∀ W : World, Calls Tryd.prog 47 #[.int .i64 (z / 10)] W fun e w' => e = .returned (.string (bs (Lib.decDigits (z / 10).toNat))) ∧ Below W.heap.size W w') := ih (z / 10) (by omega) (by omega) (by omega)
      clear ih
      have sz := dec_size64 (z / 10) (by omega)
      have s1 : (bs [u8 (48 + z % 10)]).size = 1 := rfl
      have s2 : ¬ 9223372036854775807 < (bs (Lib.decDigits (z / 10).toNat)).size + 1 := by omega
      have HG : Hid (Lib.decDigits (z / 10).toNat ++ [u8 (48 + z % 10)] = Lib.decDigits z.toNat) := dec_great z (by omega)
      go_enter Tryd.func47, Tryd.ntmps47
      go_wp2_with fail
      refine (IH.out _).mono ?_; rintro e w2 ⟨rfl, hb2⟩
      obtain ⟨hB2, hz2⟩ := bel_box hb2
      clear hb2 hcv
      go_wp2_with fail
      go_ret
      exact ⟨ret_str (by rw [ba_app, bs_data, bs_data, HG.out]), hB2⟩
set_option maxRecDepth 100000 in
theorem itoa_least : Lib.itoa (-9223372036854775808) = [45, 57, 50, 50, 51, 51, 55, 50, 48, 51, 54, 56, 53, 52, 55, 55, 53, 56, 48, 56] := by
  simp [Lib.itoa, Lib.decDigits]
set_option maxRecDepth 100000 in
theorem number_any (i : Int) (h : Fits i) (w : World) :
    Calls Tryd.prog 33 #[.int .i64 i] w fun e w' => e = .returned (.string (bs (Lib.itoa i))) ∧ Below w.heap.size w w' := by
  obtain ⟨h0, h1⟩ := h
  by_cases hn : i < 0
  · by_cases hm : i = -9223372036854775808
    · subst hm
      rw [itoa_least]
      go_enter Tryd.func33, Tryd.ntmps33
      go_wp2
      go_ret
      exact ⟨rfl, Below.refl _ _⟩
    · have IH : Hid (∀ W : World, Calls Tryd.prog 47 #[.int .i64 (-i)] W fun e w' => e = .returned (.string (bs (Lib.decDigits (-i).toNat))) ∧ Below W.heap.size W w') := digits_pos ((-i).toNat + 1) (-i) (by omega) (by omega) (by omega)
      have sz := dec_size64 (-i) (by omega)
      have s2 : ¬ 9223372036854775807 < 1 + (bs (Lib.decDigits (-i).toNat)).size := by omega
      have HG : Hid (45 :: Lib.decDigits (-i).toNat = Lib.itoa i) := by
        show _ = _
        unfold Lib.itoa; rw [if_pos hn, show i.natAbs = (-i).toNat by omega]
      have e1 : ((0 : Int) ≤ i) = False := eq_false (by omega)
      have e2 : (i == -9223372036854775808) = false := by rw [beq_eq_false_iff_ne]; exact hm
      have hlo : -9223372036854775807 ≤ i := by omega
      have hhi : i ≤ -1 := by omega
      clear hn hm
      go_enter Tryd.func33, Tryd.ntmps33
      go_wp2_with fail
      refine (IH.out _).mono ?_; rintro e w2 ⟨rfl, hb2⟩
      go_wp2_with fail
      go_ret
      exact ⟨ret_str (by rw [ba_app, bs_data, ← HG.out]; rfl), hb2⟩
  · have IH := digits_pos (i.toNat + 1) i (by omega) (by omega) (by omega) w
    rw [show Lib.decDigits i.toNat = Lib.itoa i by unfold Lib.itoa; rw [if_neg hn]] at IH
    have IH' : Hid (Calls Tryd.prog 47 #[.int .i64 i] w fun e w' => e = .returned (.string (bs (Lib.itoa i))) ∧ Below w.heap.size w w') := IH
    have e1 : ((0 : Int) ≤ i) = True := eq_true (by omega)
    clear IH hn
    go_enter Tryd.func33, Tryd.ntmps33
    go_wp2_with fail
    refine IH'.out.mono ?_; rintro e w2 ⟨rfl, hb2⟩
    go_wp2_with fail
    go_ret
    exact ⟨rfl, hb2⟩

set_option maxRecDepth 100000 in
set_option maxHeartbeats 1000000 in
theorem refrightL_any (x : Ln) (w : World) :
    Calls Tryd.prog 28 #[.agg #[.int .i64 x.L, .int .i64 x.o, .int .i64 x.a, .int .i64 x.b, .int .i64 x.c, .int .i64 x.i, .int .i64 x.t]] w fun e w' => e = .returned (.bool x.right) ∧ Below w.heap.size w w' := by
  by_cases hz : x.L = 0
  · have HR : Hid (x.right = (rightB x.o x.a x.b x.c x.i && (decide (x.t = 0) || (jmpB x.o x.a x.b x.c x.i && decide (1 ≤ x.t) && decide (x.i = 0))))) := by
      rw [Hid]
      unfold Ln.right
      rw [if_neg (by simpa using hz)]
      by_cases ht : x.t = 0
      · simp [ht]
      · rw [if_neg ht]
        unfold jmpB
        generalize rightB x.o x.a x.b x.c x.i = r
        cases r
        · rfl
        · rw [Bool.eq_iff_iff]
          simp only [Bool.and_eq_true, Bool.or_eq_true, decide_eq_true_eq, true_and]
          omega
    generalize x.right = T at *
    have hz' : (x.L != 0) = false := by simp [hz]
    clear hz
    have H1 : Hid (∀ W : World, Calls Tryd.prog 42 #[.agg #[.int .i64 x.o, .int .i64 x.a, .int .i64 x.b, .int .i64 x.c, .int .i64 x.i]] W fun e w' => e = .returned (.bool (rightB x.o x.a x.b x.c x.i)) ∧ Below W.heap.size W w') := fun W => refright_any _ _ _ _ _ W
    have H2 : Hid (∀ W : World, Calls Tryd.prog 43 #[.agg #[.int .i64 x.o, .int .i64 x.a, .int .i64 x.b, .int .i64 x.c, .int .i64 x.i]] W fun e w' => e = .returned (.tuple #[.int .i64 (jmpV x.o x.a x.b x.c x.i), .bool (jmpB x.o x.a x.b x.c x.i)]) ∧ Below W.heap.size W w') := fun W => refjumps_any _ _ _ _ _ W
    generalize rightB x.o x.a x.b x.c x.i = r at *
    generalize jmpB x.o x.a x.b x.c x.i = j at *
    generalize jmpV x.o x.a x.b x.c x.i = jv at *
    obtain ⟨xL, xo, xa, xb, xc, xi, xt⟩ := x
    go_enter Tryd.func28, Tryd.ntmps28
    go_wp2_with fail
    refine (H1.out _).mono ?_; rintro e w1 ⟨rfl, hb⟩
    obtain ⟨hB, hz1⟩ := bel_box hb
    have bx : BoxLn w1 w.heap.size ⟨xL, xo, xa, xb, xc, xi, xt⟩ := (hb.block _ (by simp)).trans (World.alloc_heap_new w _)
    obtain ⟨x0, x1, x2, x3, x4, x5, x6⟩ := bx.at
    try simp only [Nat.zero_add] at x1 x2 x3 x4 x5 x6
    have BX : Hid (BoxLn w1 w.heap.size ⟨xL, xo, xa, xb, xc, xi, xt⟩) := bx
    clear hb bx
    go_wp2_with fail
    refine (H2.out _).mono ?_; rintro e w2 ⟨rfl, hb2⟩
    have hB2 := hB.trans (hb2.mono hB.size)
    have bx : BoxLn w2 w.heap.size ⟨xL, xo, xa, xb, xc, xi, xt⟩ := (hb2.block _ hz1).trans BX.out
    clear x0 x1 x2 x3 x4 x5 x6
    obtain ⟨x0, x1, x2, x3, x4, x5, x6⟩ := bx.at
    try simp only [Nat.zero_add] at x1 x2 x3 x4 x5 x6
    have HB2 : Hid (Below w.heap.size w w2) := hB2
    clear hb2 bx H1 H2 BX hB hB2 hz1
    by_cases ht : xt = 0
    · have HT : Hid (T = r) := by rw [Hid, HR.out]; simp [ht]
      subst ht
      clear HR
      cases r <;> (go_wp2_with fail; go_ret; exact ⟨by rw [HT.out]; rfl, HB2.out⟩)
    · have ht' : (xt == 0) = false := by rw [beq_eq_false_iff_ne]; exact ht
      by_cases h1 : 1 ≤ xt
      · have h1'' : (1 ≤ xt) = True := eq_true h1
        by_cases hi : xi = 0
        · have HT : Hid (T = (r && j)) := by rw [Hid, HR.out]; simp [ht, h1, hi]
          subst hi
          clear HR ht h1
          cases r <;> cases j <;> (go_wp2_with fail; go_ret; exact ⟨by rw [HT.out]; rfl, HB2.out⟩)
        · have hi' : (xi == 0) = false := by rw [beq_eq_false_iff_ne]; exact hi
          have HT : Hid (T = false) := by rw [Hid, HR.out]; simp [ht, hi]
          clear HR ht h1 hi
          cases r <;> cases j <;> (go_wp2_with fail; go_ret; exact ⟨by rw [HT.out]; rfl, HB2.out⟩)
      · have h1'' : (1 ≤ xt) = False := eq_false h1
        have HT : Hid (T = false) := by rw [Hid, HR.out]; simp [ht, h1]
        clear HR ht h1
        cases r <;> cases j <;> (go_wp2_with fail; go_ret; exact ⟨by rw [HT.out]; rfl, HB2.out⟩)
  · have hr : x.right = x.bare := by simp [Ln.right, hz]
    rw [hr]; clear hr
    have hz' : (x.L != 0) = true := by simp [hz]
    by_cases hp : 0 < x.L
    · have hp' : (1 ≤ x.L) = True := eq_true (by omega)
      by_cases hin : x.o = 0 ∧ x.a = 0 ∧ x.b = 0 ∧ x.c = 0 ∧ x.i = 0
      · have hb : x.bare = decide (x.t = 0) := by
          unfold Ln.bare; obtain ⟨z1, z2, z3, z4, z5⟩ := hin; simp [z1, z2, z3, z4, z5, hp]
        rw [hb]
        obtain ⟨xL, xo, xa, xb, xc, xi, xt⟩ := x
        simp only at hin hz' hp'
        obtain ⟨rfl, rfl, rfl, rfl, rfl⟩ := hin
        have hx := eqlI_same 0 0 0 0 0
        clear hz hp hb
        by_cases ht : xt = 0
        · subst ht
          go_enter Tryd.func28, Tryd.ntmps28
          go_wp2
          go_ret
          exact ⟨by rfl, (Below.refl _ w).alloc (Nat.le_refl _) _⟩
        · have ht' : (xt == 0) = false := by rw [beq_eq_false_iff_ne]; exact ht
          have ht2 : decide (xt = 0) = false := by simpa using ht
          rw [ht2]
          clear ht ht2
          go_enter Tryd.func28, Tryd.ntmps28
          go_wp2
          go_ret
          exact ⟨by rfl, (Below.refl _ w).alloc (Nat.le_refl _) _⟩
      · have hb : x.bare = false := by
          unfold Ln.bare; rw [decide_eq_false_iff_not]; exact fun h => hin ⟨h.2.1, h.2.2.1, h.2.2.2.1, h.2.2.2.2.1, h.2.2.2.2.2.1⟩
        rw [hb]
        have hx := eqlI_diff x.o x.a x.b x.c x.i 0 0 0 0 0 hin
        clear hz hp hb hin
        go_enter Tryd.func28, Tryd.ntmps28
        go_wp2
        go_ret
        exact ⟨rfl, (Below.refl _ w).alloc (Nat.le_refl _) _⟩
    · have hp' : (1 ≤ x.L) = False := eq_false (by omega)
      have hb : x.bare = false := by unfold Ln.bare; rw [decide_eq_false_iff_not]; exact fun h => hp h.1
      rw [hb]
      clear hz hp hb
      go_enter Tryd.func28, Tryd.ntmps28
      go_wp2
      go_ret
      exact ⟨rfl, (Below.refl _ w).alloc (Nat.le_refl _) _⟩

set_option maxRecDepth 100000 in
set_option maxHeartbeats 1000000 in
theorem same_lines {W : World} {av1 av2 : Option Addr} {c1 c2 b1 o1 b2 o2 : Nat} {l : List Ln} (hl : l.length ≤ 100000000) (h1 : IsLines W av1 b1 o1 l) (h2 : IsLines W av2 b2 o2 l) :
    Calls Tryd.prog 16 #[.slice av1 l.length c1, .slice av2 l.length c2] W fun e w' => e = .returned (.bool true) ∧ Below W.heap.size W w' := by
  have H1 : Hid (IsLines W av1 b1 o1 l) := h1
  have H2 : Hid (IsLines W av2 b2 o2 l) := h2
  clear h1 h2
  generalize hn : l.length = n at hl
  have HN : Hid (l.length = n) := hn
  clear hn
  go_enter Tryd.func16, Tryd.ntmps16
  go_wp2
  go_loopw [5] (fun i wr => ∃ k q : Nat, k ≤ n ∧ i = .int .i64 k ∧ wr = W.drewN q) (fun i _ => n - (intOf i).toNat)
  case atStart => exact ⟨0, 0, Nat.zero_le _, rfl, rfl⟩
  case round =>
    obtain ⟨k, q, hk, rfl, rfl⟩ := hrel
    by_cases hlt : k < n
    · have hn := HN.out
      obtain rfl := H1.out.at_ (by omega)
      obtain rfl := H2.out.at_ (by omega)
      obtain ⟨p0, p1, p2, p3, p4, p5, p6⟩ := H1.out.has k (by omega)
      obtain ⟨q0, q1, q2, q3, q4, q5, q6⟩ := H2.out.has k (by omega)
      generalize l[k]'(by omega) = x at p0 p1 p2 p3 p4 p5 p6 q0 q1 q2 q3 q4 q5 q6
      clear hn
      have hx := neqL_same x.L x.o x.a x.b x.c x.i x.t
      go_wp2
      go_quiet (fail)
      go_wp2
      go_roundw
      case rel => exact ⟨k + 1, q + nq, by omega, by go_num, rfl⟩
      case measure => simp [intOf]; omega
    · go_wp2
      go_ret
      exact ⟨rfl, below_drewN (Below.refl _ _) q⟩

end Go.Proofs.YtbfmadcppnfgpaaDoor
