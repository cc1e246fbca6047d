/-
  The iterator of chunks of package inst (layer 2): what it hands to each round.
-/
import Derived.Test.YtnlkeghgmmoioaaDoorWrite
import Derived.RangeFuncNested
import Derived.RangeFuncBound
import Derived.RangeFuncCalls
import Derived.RangeFuncLeaves
import Derived.Shelf.Abstract
import Derived.Shelf.RegionOpen
import Derived.WalkKit
import Derived.OwnWalkIn
import Derived.TacticsInMore
import Derived.LoopNIn
import Derived.LoopIn
namespace Go.Proofs.YtnlkeghgmmoioaaDoor
open Go.ChangeShapes Go.WideShapes Go.ChangeAt Go.RowKit Go.Shelf


attribute [local go_sem] Oper.semAt_some

set_option maxRecDepth 100000 in
set_option maxHeartbeats 2000000 in
theorem chunks_in (F : Fence) (n : Nat) (h46 : F.fn 46) (hro : F.round = none) (hn : 1 ≤ n) (l Bc blk off len cap : Nat) (hcap : len ≤ cap) (hreach : cap ≤ 9223372036854775807) (J : Nat → World → Prop) (Jx : World → Prop)
    (hst : Hid (∀ k W v, J k W → J k (W.setCell ⟨Bc, 0, none⟩ v)))
    (hY : Hid (∀ k W, J k W → 8 * k < len → YieldAt F (n - 1) Tryd.prog l #[.int .i64 k, .slice (some ⟨blk, off + 8 * k, none⟩) (min 8 (len - 8 * k)) (cap - 8 * k)] W fun e W' =>
      (e = .returned (.bool true) ∧ J (k + 1) W' ∧ W'.cell? ⟨Bc, 0, none⟩ = W.cell? ⟨Bc, 0, none⟩ ∧ W'.frozen? ⟨Bc, 0, none⟩ = W.frozen? ⟨Bc, 0, none⟩) ∨ (e = .returned (.bool false) ∧ Jx W')))
    (W : World) (hB : W.cell? ⟨Bc, 0, none⟩ = some (.slice (some ⟨blk, off, none⟩) len cap)) (hf : W.frozen? ⟨Bc, 0, none⟩ = false) (h0 : J 0 W) :
    CallsIn F n Tryd.prog 46 #[.func (.yield l) #[] #[], .pointer (some ⟨Bc, 0, none⟩)] W fun e W' => (∃ v, e = .returned v) ∧ ((∃ k, len ≤ 8 * k ∧ 8 * k < len + 8 ∧ J k W') ∨ Jx W') := by
  refine callsIn_of_wp Tryd.func46 rfl h46 ?_ hro
  simp only [Tryd.ntmps46, List.size_toArray, List.length_cons, List.length_nil, Nat.reduceAdd, Nat.reduceSub, Array.replicate_succ, Array.replicate_zero, List.push_toArray, List.append_toArray, List.nil_append, List.cons_append]
  gi_wp2
  gi_loopw [3] (fun i wr => ∃ (k : Nat) (av : Option Addr) (cp : Nat), i = .int .i64 k ∧ wr.cell? ⟨Bc, 0, none⟩ = some (.slice av (len - 8 * k) cp) ∧ (8 * k < len → av = some ⟨blk, off + 8 * k, none⟩ ∧ cp = cap - 8 * k) ∧ wr.frozen? ⟨Bc, 0, none⟩ = false ∧ 8 * k < len + 8 ∧ J k wr)
    (fun i _ => len + 8 - 8 * (intOf i).toNat)
  case atStart => exact ⟨0, _, _, rfl, hB, fun _ => ⟨rfl, rfl⟩, hf, by omega, h0⟩
  case round =>
    obtain ⟨k, av, cp, rfl, hc, hav, hfz, hk, hJs⟩ := hrel
    clear hB hf h0
    by_cases hlt : 8 * k < len
    · obtain ⟨rfl, rfl⟩ := hav hlt
      clear hav
      obtain ⟨fn, tmps, assign, body, hy, hR⟩ := hY.out k wr hJs hlt
      by_cases h8 : 8 ≤ len - 8 * k
      · rw [show min 8 (len - 8 * k) = 8 by omega] at hy
        obtain ⟨m, hm⟩ : ∃ m, len - 8 * k = m + 8 := ⟨len - 8 * k - 8, by omega⟩
        obtain ⟨c, hcc⟩ : ∃ c, cap - 8 * k = m + 8 + c := ⟨cap - 8 * k - (m + 8), by omega⟩
        rw [hm, hcc] at hc
        rw [hcc] at hy
        have b1 : m + 8 + c ≤ 9223372036854775807 := by omega
        generalize ho : off + 8 * k = o at hc hy
        have HM : Hid (len - 8 * k = m + 8) := hm
        have HC : Hid (cap - 8 * k = m + 8 + c) := hcc
        have HO : Hid (off + 8 * k = o) := ho
        clear hm hcc ho h8
        have e1 : min ((m : Int) + 8) 8 = 8 := by omega
        gi_wp2
        refine hR.mono ?_
        rintro e W3 (⟨rfl, hJ3, hc3, hf3⟩ | ⟨rfl, hJx3⟩)
        · rw [hc] at hc3
          rw [hfz] at hf3
          clear hc hfz hR hy
          gi_wp2
          have hm := HM.out
          have hcc := HC.out
          have ho := HO.out
          refine ⟨⟨k + 1, _, _, by go_num, (World.cell?_setCell_same _ _ _ hc3).trans (by rw [show len - 8 * (k + 1) = m by omega]), fun h => ⟨?_, by omega⟩, by rw [World.frozen?_setCell]; exact hf3, by omega, hst.out _ _ _ hJ3⟩, by simp [intOf]; omega⟩
          rw [if_neg (by omega), show o + 8 = off + 8 * (k + 1) by omega]
        · gi_wp2
          refine bodyPost_ret (results_none rfl _ _ _) rfl ?_
          exact ⟨⟨_, rfl⟩, .inr hJx3⟩
      · rw [show min 8 (len - 8 * k) = len - 8 * k by omega] at hy
        generalize hm : len - 8 * k = m at hc hy h8
        obtain ⟨c, hcc⟩ : ∃ c, cap - 8 * k = m + c := ⟨cap - 8 * k - m, by omega⟩
        rw [hcc] at hc hy
        have b0 : 0 < m := by omega
        have b1 : m + c ≤ 9223372036854775807 := by omega
        have b2 : m < 8 := by omega
        generalize ho : off + 8 * k = o at hc hy
        have HM : Hid (len - 8 * k = m) := hm
        have HC : Hid (cap - 8 * k = m + c) := hcc
        have HO : Hid (off + 8 * k = o) := ho
        clear hm hcc ho h8
        have e1 : min (m : Int) 8 = m := by omega
        gi_wp2
        refine hR.mono ?_
        rintro e W3 (⟨rfl, hJ3, hc3, hf3⟩ | ⟨rfl, hJx3⟩)
        · rw [hc] at hc3
          rw [hfz] at hf3
          clear hc hfz hR hy
          gi_wp2
          have hm := HM.out
          have hcc := HC.out
          have ho := HO.out
          refine ⟨⟨k + 1, _, _, by go_num, (World.cell?_setCell_same _ _ _ hc3).trans (by rw [show len - 8 * (k + 1) = 0 by omega]), fun h => absurd h (by omega), by rw [World.frozen?_setCell]; exact hf3, by omega, hst.out _ _ _ hJ3⟩, by simp [intOf]; omega⟩
        · gi_wp2
          refine bodyPost_ret (results_none rfl _ _ _) rfl ?_
          exact ⟨⟨_, rfl⟩, .inr hJx3⟩
    · have he : len - 8 * k = 0 := by omega
      rw [he] at hc
      gi_wp2
      go_end0
      exact ⟨⟨_, rfl⟩, .inl ⟨k, by omega, hk, hJs⟩⟩

set_option maxRecDepth 100000 in
set_option maxHeartbeats 1000000 in
theorem chunks_none (F : Fence) (n : Nat) (h46 : F.fn 46) (hro : F.round = none) (l Bc cap : Nat) (av : Option Addr) (J : Nat → World → Prop) (W : World) (hB : W.cell? ⟨Bc, 0, none⟩ = some (.slice av 0 cap)) (h0 : J 0 W) :
    CallsIn F n Tryd.prog 46 #[.func (.yield l) #[] #[], .pointer (some ⟨Bc, 0, none⟩)] W fun e W' => (∃ v, e = .returned v) ∧ J 0 W' := by
  refine callsIn_of_wp Tryd.func46 rfl h46 ?_ hro
  simp only [Tryd.ntmps46, List.size_toArray, List.length_cons, List.length_nil, Nat.reduceAdd, Nat.reduceSub, Array.replicate_succ, Array.replicate_zero, List.push_toArray, List.append_toArray, List.nil_append, List.cons_append]
  gi_wp2
  gi_loopw [3] (fun i wr => i = .int .i64 0 ∧ wr = W) (fun _ _ => 0)
  case atStart => exact ⟨rfl, rfl⟩
  case round =>
    obtain ⟨rfl, rfl⟩ := hrel
    gi_wp2
    go_end0
    exact ⟨⟨_, rfl⟩, h0⟩

set_option maxHeartbeats 1000000 in
theorem chunksOf_in (F : Fence) (n : Nat) (h42 : F.fn 42) (hro : F.round = none) (a : Option Addr) (len cap : Nat) (w : World) :
    CallsIn F n Tryd.prog 42 #[.slice a len cap] w fun e w' => e = .returned (.func (.func 46) #[] #[.pointer (some ⟨w.heap.size, 0, none⟩)]) ∧ w' = w.alloc (.cells #[.slice a len cap] 25) := by
  refine callsIn_of_wp Tryd.func42 rfl h42 ?_ hro
  simp only [Tryd.ntmps42, List.size_toArray, List.length_cons, List.length_nil, Nat.reduceAdd, Nat.reduceSub, Array.replicate_succ, Array.replicate_zero, List.push_toArray, List.append_toArray, List.nil_append, List.cons_append]
  gi_wp2
  go_ret
  exact ⟨rfl, rfl⟩

end Go.Proofs.YtnlkeghgmmoioaaDoor
