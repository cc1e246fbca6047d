/-
  DecodeAll of the document's own answers (layer 2): its contract.
-/
import Derived.Test.YtnlkeghgmmoioaaDoorRefJ
import Derived.Test.YtnlkeghgmmoioaaDoorDecB
import Derived.Test.YtnlkeghgmmoioaaDoorApp
namespace Go.Proofs.YtnlkeghgmmoioaaDoor
open Go.ChangeShapes Go.WideShapes Go.ChangeAt Go.RowKit

/-- The row so far: none, or a block of one's own. -/
theorem append_one (w : World) (ty : TypeId) (base : Nat) (v : Value) (n : Nat) (xs : List Value) (hown : w.ownsRow base 23 5 v n xs) (B c : Nat) (x : Ins) (hB : AtIns w B 0 x) (hlt : B < w.heap.size) (hbd : n + 1 ≤ 100000000) (hbase : base ≤ w.heap.size) :
    ∃ v' w', (Builtin.append_ #[38, 38] ty #[v, .slice (some ⟨B, 0, none⟩) 1 c]).run Tryd.prog w = .ok v' w' ∧ w'.ownsRow base 23 5 v' (n + 1) (xs ++ x.cells) ∧ Below base w w' := by
  obtain ⟨v', w', h1, h2, h3⟩ := append_row w ty base v n xs hown (.slice (some ⟨B, 0, none⟩) 1 c) [x] ⟨_, c, rfl, fun _ => ⟨B, 0, rfl, hlt, fun j hj => by
    have : j = 0 := by simp at hj; omega
    subst this; simpa using hB⟩⟩ (by simpa using hbd) hbase
  exact ⟨v', w', h1, by simpa using h2, h3⟩

set_option maxRecDepth 100000 in
set_option maxHeartbeats 2000000 in
theorem refDecodeAll_any (av : Option Addr) (n cap : Nat) (b : List UInt8) (w : World) (hn : b.length = n) (hl : n ≤ 8388608) (hnc : n ≤ cap) (hav : 0 < n → ∃ blk off, av = some ⟨blk, off, none⟩ ∧ blk < w.heap.size ∧ HasBytes w blk off b) :
    Calls Tryd.prog 26 #[.slice av n cap] w (DecAns b w) := by
  obtain ⟨m, hm⟩ : ∃ m : Nat, n / 8 = m := ⟨_, rfl⟩
  have hq : (n : Int).tdiv 8 = (m : Int) := by rw [Int.tdiv_eq_ediv_of_nonneg (by omega)]; omega
  have e1 : ((1048576 : Int) < m) = False := by simp; omega
  have hm8 : (m : Int) ≤ 1048576 := by omega
  have HAV : Hid (0 < n → ∃ blk off, av = some ⟨blk, off, none⟩ ∧ blk < w.heap.size ∧ HasBytes w blk off b) := hav
  have HN : Hid (b.length = n) := hn
  have HM : Hid (n / 8 = m) := hm
  clear hav hn hm
  go_enter Tryd.func26, Tryd.ntmps26
  go_wp2
  go_loopw [4, 5] (fun out i wr => ∃ (k : Nat) (xs : List Ins), 8 * k < n + 8 ∧ i = .int .i64 ((8 * k : Nat) : Int) ∧ Below w.heap.size w wr ∧ wr.ownsRow w.heap.size 23 5 out k (xs.flatMap Ins.cells) ∧ Decs b xs k)
    (fun _ i _ => n + 8 - (intOf i).toNat)
  case atStart => exact ⟨0, [], by omega, rfl, Below.refl _ _, World.ownsRow_nil _ _ _ _, rfl, fun j hj => absurd hj (by simp)⟩
  case round =>
    obtain ⟨k, xs, hk, rfl, hb, hown, hD⟩ := hrel
    by_cases hlt : 8 * k < n
    · obtain ⟨blk, off, rfl, hblk, hH⟩ := HAV.out (by omega)
      have hn := HN.out
      have hc := (chunk_has hH k)
      have hc2 : HasBytes wr blk (off + 8 * k) (chunk b k) := fun j hj => (hb.cell (p := ⟨blk, off + 8 * k + j, none⟩) hblk).trans (hc j hj)
      have hcl := chunk_len b k
      have hdec := refdecode_any blk (off + 8 * k) (cap - 8 * k) (chunk b k) wr (Nat.lt_of_lt_of_le hblk hb.size) hc2
      rw [decR_is] at hdec
      have hcw : ∃ o : Nat, o = 8 * k := ⟨_, rfl⟩
      obtain ⟨o, ho⟩ := hcw
      rw [← ho] at hdec hlt hcl hk ⊢
      have HO : Hid (o = 8 * k) := ho
      have hA : Hid (8 * (k + 1) = o + 8) := show _ = _ by omega
      clear ho hc hc2 hH HAV
      have on : (o : Int) < n := by omega
      by_cases h8 : o + 8 ≤ n
      · have hmin : min ((o : Int) + 8) n = (o : Int) + 8 := by omega
        rw [show (chunk b k).length = 8 by omega] at hdec
        clear hcl
        cases hd : decI (chunk b k) with
        | none =>
          rw [hd] at hdec
          dsimp only [noIns] at hdec
          go_wp2_with fail
          refine hdec.mono ?_; rintro e w1 ⟨rfl, hb1⟩
          clear hdec
          go_wp2_with fail
          go_ret2
          exact ⟨(bel_on hb hb1).1.alloc (bel_on hb hb1).1.size _, .inr ⟨⟨k, by rw [HN.out, ← HO.out]; exact hlt, hd⟩, rfl⟩⟩
        | some x =>
          rw [hd] at hdec
          dsimp only [Ins.val] at hdec
          go_wp2_with fail
          refine hdec.mono ?_; rintro e w1 ⟨rfl, hb1⟩
          clear hdec
          obtain ⟨hB1, hz1⟩ := bel_on hb hb1
          have hw1 := hB1.size
          generalize hX : Obj.cells #[.int .i64 x.o, .int .i64 x.a, .int .i64 x.b, .int .i64 x.c, .int .i64 x.i] 23 = X
          have hat := at_new (w1.alloc X) x 23
          rw [hX] at hat
          obtain ⟨v', W5, hap, hown5, hb5⟩ := append_one ((w1.alloc X).alloc X) 38 w.heap.size _ _ _ (((owns_below hown hb1).alloc X).alloc X) _ 1 x hat (by simp) (by have := HO.out; omega) (by simp; omega)
          have hBB : Below w.heap.size w W5 := ((hB1.alloc hB1.size X).alloc (by simp; omega) X).trans hb5
          have hDs := hD.snoc hd
          subst hX
          rw [World.size_alloc] at hap
          go_wp2_with (at_builtin; refine wpList_append_run rfl _ _ 38 rfl rfl rfl hap ?_)
          go_roundw
          case rel => exact ⟨k + 1, xs ++ [x], by rw [hA.out]; omega, by rw [hA.out]; go_num, hBB, by rw [List.flatMap_append, List.flatMap_singleton]; exact hown5, hDs⟩
          case measure => simp [intOf]; omega
      · have hmin : min ((o : Int) + 8) n = (n : Int) := by omega
        rw [show (chunk b k).length = n - o by omega] at hdec
        clear hcl
        cases hd : decI (chunk b k) with
        | none =>
          rw [hd] at hdec
          dsimp only [noIns] at hdec
          go_wp2_with fail
          refine hdec.mono ?_; rintro e w1 ⟨rfl, hb1⟩
          clear hdec
          go_wp2_with fail
          go_ret2
          exact ⟨(bel_on hb hb1).1.alloc (bel_on hb hb1).1.size _, .inr ⟨⟨k, by rw [HN.out, ← HO.out]; exact hlt, hd⟩, rfl⟩⟩
        | some x =>
          rw [hd] at hdec
          dsimp only [Ins.val] at hdec
          go_wp2_with fail
          refine hdec.mono ?_; rintro e w1 ⟨rfl, hb1⟩
          clear hdec
          obtain ⟨hB1, hz1⟩ := bel_on hb hb1
          have hw1 := hB1.size
          generalize hX : Obj.cells #[.int .i64 x.o, .int .i64 x.a, .int .i64 x.b, .int .i64 x.c, .int .i64 x.i] 23 = X
          have hat := at_new (w1.alloc X) x 23
          rw [hX] at hat
          obtain ⟨v', W5, hap, hown5, hb5⟩ := append_one ((w1.alloc X).alloc X) 38 w.heap.size _ _ _ (((owns_below hown hb1).alloc X).alloc X) _ 1 x hat (by simp) (by have := HO.out; omega) (by simp; omega)
          have hBB : Below w.heap.size w W5 := ((hB1.alloc hB1.size X).alloc (by simp; omega) X).trans hb5
          have hDs := hD.snoc hd
          subst hX
          rw [World.size_alloc] at hap
          go_wp2_with (at_builtin; refine wpList_append_run rfl _ _ 38 rfl rfl rfl hap ?_)
          go_roundw
          case rel => exact ⟨k + 1, xs ++ [x], by rw [hA.out]; omega, by rw [hA.out]; go_num, hBB, by rw [List.flatMap_append, List.flatMap_singleton]; exact hown5, hDs⟩
          case measure => simp [intOf]; omega
    · have he : ¬ (((8 * k : Nat) : Int) < (n : Int)) := by omega
      go_wp2
      go_ret2
      have hx := hD.1
      subst hx
      exact ⟨hb, .inl ⟨xs, _, ⟨hD, by rw [HN.out]; omega, by rw [HN.out]; omega⟩, rfl, owns_isRow hown⟩⟩

end Go.Proofs.YtnlkeghgmmoioaaDoor
