/-
  What the document answers of trees (layer 10): its Text, of any tree.
-/
import Derived.Test.YtgndnodahlabiaaRfE
import Derived.Test.YtgndnodahlabiaaRfF
import Derived.Test.YtgndnodahlabiaaRfG
import Derived.Test.YtgndnodahlabiaaRfH
import Derived.Test.YtgndnodahlabiaaRfJ
namespace Go.Proofs.Ytgndnodahlabiaa
open Go.ChangeShapes Go.WideShapes Go.ChangeAt Go.RowKit

set_option maxRecDepth 100000 in
set_option maxHeartbeats 16000000 in
theorem rt_none {t : List UInt8} {ks : List Nv} {k : Int} {W : World} {a : Int} {av : Option Addr} {cap : Nat} (hk : leastK k = none) : RAns k t a av cap ks W := by
  have hb := bel_new W (.cells #[.int .i64 k, .string (bs t), .int .i64 a, .slice av ks.length cap] 24)
  have hc := World.alloc_heap_new W (.cells #[.int .i64 k, .string (bs t), .int .i64 a, .slice av ks.length cap] 24)
  have q0 := cell_of hc 0
  simp only [List.getElem?_toArray, List.getElem?_cons_zero] at q0
  have HL := hidW (rleast_is k (W.alloc (.cells #[.int .i64 k, .string (bs t), .int .i64 a, .slice av ks.length cap] 24)))
  have hLZ : leastZ k = -1 := by unfold leastZ; rw [hk]
  rw [hLZ] at HL
  have hN : nodeT k t (txtL (ndL ks)) = [63] := by unfold nodeT; rw [hk]
  unfold RAns
  rw [hN]
  clear hk hLZ hN hc
  go_enter Try.func10, Try.ntmps10
  go_wp2_with fail
  refine HL.out.mono ?_
  clear HL
  rintro e V ⟨rfl, rfl⟩
  go_wp2
  go_ret
  exact ⟨rfl, hb⟩
set_option maxRecDepth 100000 in
set_option maxHeartbeats 16000000 in
theorem rt_few {t : List UInt8} {ks : List Nv} {k : Int} {W : World} {a : Int} {av : Option Addr} {cap m : Nat} (hk : leastK k = some m) (hm : ks.length < m) : RAns k t a av cap ks W := by
  have hb := bel_new W (.cells #[.int .i64 k, .string (bs t), .int .i64 a, .slice av ks.length cap] 24)
  have hc := World.alloc_heap_new W (.cells #[.int .i64 k, .string (bs t), .int .i64 a, .slice av ks.length cap] 24)
  have q0 := cell_of hc 0
  have q3 := cell_of hc 3
  simp only [List.getElem?_toArray, List.getElem?_cons_zero, List.getElem?_cons_succ] at q0 q3
  have HL := hidW (rleast_is k (W.alloc (.cells #[.int .i64 k, .string (bs t), .int .i64 a, .slice av ks.length cap] 24)))
  have hLZ : leastZ k = (m : Int) := by unfold leastZ; rw [hk]
  rw [hLZ] at HL
  have hN : nodeT k t (txtL (ndL ks)) = [63] := by
    unfold nodeT
    rw [hk]
    simp only
    rw [if_pos (by rw [kids_len]; exact hm)]
  unfold RAns
  rw [hN]
  have f1 : ((m : Int) < 0) = False := eq_false (by omega)
  have f2 : ((ks.length : Int) < (m : Int)) = True := eq_true (by omega)
  clear hk hLZ hN hc
  go_enter Try.func10, Try.ntmps10
  go_wp2_with fail
  refine HL.out.mono ?_
  clear HL
  rintro e V ⟨rfl, rfl⟩
  go_wp2
  go_ret
  exact ⟨rfl, hb⟩
theorem least_some {k : Int} {m : Nat} (h : leastK k = some m) : 1 ≤ k ∧ k ≤ 27 := by
  unfold leastK at h
  by_cases c : 1 ≤ k ∧ k ≤ 27
  · exact c
  · rw [if_neg (by omega), if_neg (by omega), if_neg c] at h; cases h
theorem rtext_to : ∀ z, RTextTo z := by
  intro z
  induction z with
  | zero => intro n h; cases n; rw [Nv.nd, Nd.sz] at h; omega
  | succ z ih =>
    intro n hz W D hl hbn hned
    obtain ⟨k, t, a, av, cap, blk, off, ks⟩ := n
    obtain ⟨hr, hk⟩ := hl.parts
    have hcap := hl.cap
    rw [Nv.nd, Nd.sz] at hz
    rw [Nv.nd, ned] at hned
    have K : Rk z t ks := ⟨ih, fun n hn => bnd_kid hbn hn, bnd_len hbn, by omega, hned⟩
    have hT : txt (Nv.mk k t a av cap blk off ks).nd = nodeT k t (txtL (ndL ks)) := by rw [Nv.nd, txt]
    rw [hT]
    show RAns k t a av cap ks W
    cases hq : leastK k with
    | none => exact rt_none hq
    | some m =>
      by_cases hm : ks.length < m
      · exact rt_few hq hm
      · have hm := Nat.le_of_not_lt hm
        have hr1 := least_some hq
        obtain ⟨j, hj, rfl⟩ : ∃ j : Nat, j ≤ 26 ∧ k = 1 + (j : Int) := ⟨(k - 1).toNat, by omega, by omega⟩
        match j, hj with
        | 0, _ => exact rt_1 K hr hk (Nat.zero_le _)
        | 1, _ => obtain rfl : m = 2 := (Option.some.inj hq).symm; exact rt_2 K hr hk hm hcap
        | 2, _ => obtain rfl : m = 1 := (Option.some.inj hq).symm; exact rt_3 K hr hk hm
        | 3, _ => exact rt_4 K hr hk (Nat.zero_le _)
        | 4, _ => exact rt_5 K hr hk (Nat.zero_le _)
        | 5, _ => obtain rfl : m = 1 := (Option.some.inj hq).symm; exact rt_6 K hr hk hm
        | 6, _ => obtain rfl : m = 1 := (Option.some.inj hq).symm; exact rt_7 K hr hk hm
        | 7, _ => obtain rfl : m = 1 := (Option.some.inj hq).symm; exact rt_8 K hr hk hm
        | 8, _ => exact rt_9 K hr hk (Nat.zero_le _)
        | 9, _ => obtain rfl : m = 1 := (Option.some.inj hq).symm; exact rt_10 K hr hk hm
        | 10, _ => obtain rfl : m = 2 := (Option.some.inj hq).symm; exact rt_11 K hr hk hm
        | 11, _ => obtain rfl : m = 2 := (Option.some.inj hq).symm; exact rt_12 K hr hk hm
        | 12, _ => obtain rfl : m = 2 := (Option.some.inj hq).symm; exact rt_13 K hr hk hm
        | 13, _ => exact rt_14 K hr hk (Nat.zero_le _)
        | 14, _ => obtain rfl : m = 1 := (Option.some.inj hq).symm; exact rt_15 K hr hk hm
        | 15, _ => obtain rfl : m = 1 := (Option.some.inj hq).symm; exact rt_16 K hr hk hm
        | 16, _ => exact rt_17 K hr hk (Nat.zero_le _)
        | 17, _ => exact rt_18 K hr hk (Nat.zero_le _)
        | 18, _ => obtain rfl : m = 2 := (Option.some.inj hq).symm; exact rt_19 K hr hk hm
        | 19, _ => obtain rfl : m = 1 := (Option.some.inj hq).symm; exact rt_20 K hr hk hm
        | 20, _ => obtain rfl : m = 1 := (Option.some.inj hq).symm; exact rt_21 K hr hk hm
        | 21, _ => obtain rfl : m = 1 := (Option.some.inj hq).symm; exact rt_22 K hr hk hm
        | 22, _ => obtain rfl : m = 2 := (Option.some.inj hq).symm; exact rt_23 K hr hk hm
        | 23, _ => obtain rfl : m = 1 := (Option.some.inj hq).symm; exact rt_24 K hr hk hm
        | 24, _ => exact rt_25 K hr hk (Nat.zero_le _)
        | 25, _ => obtain rfl : m = 1 := (Option.some.inj hq).symm; exact rt_26 K hr hk hm
        | 26, _ => exact rt_27 K hr hk (Nat.zero_le _)
        | q + 27, h => exact absurd h (by omega)
theorem rtext_is (n : Nv) (W : World) (D : Nat → Prop) (hl : LiesD D W n) (hbn : n.nd.bnd) (hned : ned n.nd ≤ 2 ^ 40) :
    Calls Try.prog 10 #[n.val] W fun e W' => e = .returned (.string (bs (txt n.nd))) ∧ Below W.heap.size W W' := rtext_to _ n (Nat.le_refl _) W D hl hbn hned

end Go.Proofs.Ytgndnodahlabiaa
