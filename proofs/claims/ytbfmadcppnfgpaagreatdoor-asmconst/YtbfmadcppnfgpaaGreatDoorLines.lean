/-
  Lines of package asm (layer 5): how they lie, and the iterator that goes over them.
-/
import Derived.Test.YtbfmadcppnfgpaaGreatDoorInst
import Derived.RangeFuncNested
import Derived.RangeFuncBound
import Derived.RangeFuncCalls
import Derived.RangeFuncLeaves
import Derived.Shelf.Abstract
import Derived.Shelf.RegionOpen
import Derived.WalkKit
import Derived.OwnWalkIn
import Derived.TacticsInMore
import Derived.LoopNIn
import Derived.LoopIn
namespace Go.Proofs.YtbfmadcppnfgpaaGreatDoor
open Go.ChangeShapes Go.WideShapes Go.ChangeAt Go.RowKit Go.Shelf

attribute [local go_sem] Oper.semAt_some

/-- A line: its label, its instruction, and where it jumps to. -/
structure Ln where
  L : Int
  o : Int
  a : Int
  b : Int
  c : Int
  i : Int
  t : Int

abbrev Ln.cells (x : Ln) : Array Value := #[.int .i64 x.L, .int .i64 x.o, .int .i64 x.a, .int .i64 x.b, .int .i64 x.c, .int .i64 x.i, .int .i64 x.t]
/-- The line x lies at a place. -/
structure AtLn (W : World) (blk off : Nat) (x : Ln) : Prop where
  c0 : W.cell? ⟨blk, off, none⟩ = some (.int .i64 x.L)
  c1 : W.cell? ⟨blk, off + 1, none⟩ = some (.int .i64 x.o)
  c2 : W.cell? ⟨blk, off + 2, none⟩ = some (.int .i64 x.a)
  c3 : W.cell? ⟨blk, off + 3, none⟩ = some (.int .i64 x.b)
  c4 : W.cell? ⟨blk, off + 4, none⟩ = some (.int .i64 x.c)
  c5 : W.cell? ⟨blk, off + 5, none⟩ = some (.int .i64 x.i)
  c6 : W.cell? ⟨blk, off + 6, none⟩ = some (.int .i64 x.t)
def HasLines (W : World) (blk off : Nat) (ls : List Ln) : Prop := ∀ (k : Nat) (h : k < ls.length), AtLn W blk (off + k * 7) (ls[k]'h)
theorem AtLn.below {W W' : World} {blk off B : Nat} {x : Ln} (h : AtLn W blk off x) (hb : Below B W W') (hlt : blk < B) : AtLn W' blk off x :=
  ⟨(hb.cell (p := ⟨blk, off, none⟩) hlt).trans h.c0, (hb.cell (p := ⟨blk, off + 1, none⟩) hlt).trans h.c1, (hb.cell (p := ⟨blk, off + 2, none⟩) hlt).trans h.c2, (hb.cell (p := ⟨blk, off + 3, none⟩) hlt).trans h.c3, (hb.cell (p := ⟨blk, off + 4, none⟩) hlt).trans h.c4, (hb.cell (p := ⟨blk, off + 5, none⟩) hlt).trans h.c5, (hb.cell (p := ⟨blk, off + 6, none⟩) hlt).trans h.c6⟩
theorem HasLines.below {W W' : World} {blk off B : Nat} {ls : List Ln} (h : HasLines W blk off ls) (hb : Below B W W') (hlt : blk < B) : HasLines W' blk off ls := fun k hk => (h k hk).below hb hlt
/-- A block that holds the line x. -/
abbrev BoxLn (W : World) (B : Nat) (x : Ln) : Prop := W.heap[B]? = some (.cells #[.int .i64 x.L, .int .i64 x.o, .int .i64 x.a, .int .i64 x.b, .int .i64 x.c, .int .i64 x.i, .int .i64 x.t] 38 (0, 0))
theorem BoxLn.at {W : World} {B : Nat} {x : Ln} (h : BoxLn W B x) : AtLn W B 0 x := by
  constructor <;> simp [World.cell?, h]
theorem BoxLn.free {W : World} {B : Nat} {x : Ln} (h : BoxLn W B x) (j : Nat) : W.frozen? ⟨B, j, none⟩ = false := by
  simp [World.frozen?, h]
theorem BoxLn.lt {W : World} {B : Nat} {x : Ln} (h : BoxLn W B x) : B < W.heap.size := (Array.getElem?_eq_some_iff.1 h).1

/-- How many of the first k lines are instructions. -/
def plc (ls : List Ln) (k : Nat) : Nat := (ls.take k).countP fun x => x.L == 0
theorem plc_zero (ls : List Ln) : plc ls 0 = 0 := by simp [plc]
theorem plc_succ (ls : List Ln) (k : Nat) (h : k < ls.length) : plc ls (k + 1) = plc ls k + (if (ls[k]'h).L = 0 then 1 else 0) := by
  unfold plc
  rw [List.take_succ_eq_append_getElem h, List.countP_append]
  by_cases hz : (ls[k]'h).L = 0 <;> simp [hz]
theorem plc_le (ls : List Ln) (k : Nat) : plc ls k ≤ k := by
  unfold plc
  exact Nat.le_trans (List.countP_le_length) (List.length_take_le _ _)

set_option maxRecDepth 100000 in
set_option maxHeartbeats 2000000 in
theorem lines_in (F : Fence) (n : Nat) (h38 : F.fn 39) (hro : F.round = none) (hn : 1 ≤ n) (l Bl blk off cap : Nat) (ls : List Ln) (av : Option Addr) (hav : 0 < ls.length → av = some ⟨blk, off, none⟩) (hreach : ls.length ≤ 1000000000000000) (J : Nat → World → Prop) (Jx : World → Prop)
    (hrd : Hid (∀ k W, J k W → HasLines W blk off ls)) (hal : Hid (∀ k W o, J k W → J k (W.alloc o))) (B : Nat) (hge : Hid (∀ k W, J k W → B ≤ W.heap.size))
    (hY : Hid (∀ k W Bx (hk : k < ls.length), J k W → B ≤ Bx → BoxLn W Bx (ls[k]'hk) → YieldAt F (n - 1) Tryz.prog l #[.int .i64 (plc ls k), .agg #[.int .i64 (ls[k]'hk).L, .int .i64 (ls[k]'hk).o, .int .i64 (ls[k]'hk).a, .int .i64 (ls[k]'hk).b, .int .i64 (ls[k]'hk).c, .int .i64 (ls[k]'hk).i, .int .i64 (ls[k]'hk).t]] W fun e W' =>
      (e = .returned (.bool true) ∧ J (k + 1) W' ∧ W'.heap[Bx]? = W.heap[Bx]?) ∨ (e = .returned (.bool false) ∧ Jx W')))
    (W : World) (hB : W.cell? ⟨Bl, 0, none⟩ = some (.slice av ls.length cap)) (h0 : J 0 W) :
    CallsIn F n Tryz.prog 39 #[.func (.yield l) #[] #[], .pointer (some ⟨Bl, 0, none⟩)] W fun e W' => (∃ v, e = .returned v) ∧ (J ls.length W' ∨ Jx W') := by
  refine callsIn_of_wp Tryz.func39 rfl h38 ?_ hro
  simp only [Tryz.ntmps39, List.size_toArray, List.length_cons, List.length_nil, Nat.reduceAdd, Nat.reduceSub, Array.replicate_succ, Array.replicate_zero, List.push_toArray, List.append_toArray, List.nil_append, List.cons_append]
  gi_wp2
  gi_loopw [3, 8] (fun p i wr => ∃ k : Nat, p = .int .i64 (plc ls k) ∧ i = .int .i64 k ∧ k ≤ ls.length ∧ J k wr) (fun _ i _ => ls.length - (intOf i).toNat)
  case atStart => exact ⟨0, by rw [plc_zero]; rfl, rfl, Nat.zero_le _, h0⟩
  case round =>
    obtain ⟨k, rfl, rfl, hk, hJ⟩ := hrel
    clear hB h0
    by_cases hlt : k < ls.length
    · obtain rfl := hav (by omega)
      have e1 : ((k : Int) < (ls.length : Int)) = True := by simp; omega
      have hat := hrd.out k wr hJ k hlt
      obtain ⟨c0, c1, c2, c3, c4, c5, c6⟩ := hat
      have hJ1 := hal.out k wr (.cells #[.int .i64 (ls[k]'hlt).L, .int .i64 (ls[k]'hlt).o, .int .i64 (ls[k]'hlt).a, .int .i64 (ls[k]'hlt).b, .int .i64 (ls[k]'hlt).c, .int .i64 (ls[k]'hlt).i, .int .i64 (ls[k]'hlt).t] 38) hJ
      have hbx : BoxLn (wr.alloc (.cells #[.int .i64 (ls[k]'hlt).L, .int .i64 (ls[k]'hlt).o, .int .i64 (ls[k]'hlt).a, .int .i64 (ls[k]'hlt).b, .int .i64 (ls[k]'hlt).c, .int .i64 (ls[k]'hlt).i, .int .i64 (ls[k]'hlt).t] 38)) wr.heap.size (ls[k]'hlt) := World.alloc_heap_new wr _
      obtain ⟨fn, tmps, assign, body, hy, hR⟩ := hY.out k _ wr.heap.size hlt hJ1 (hge.out k wr hJ) hbx
      have hs := plc_succ ls k hlt
      have hpl := plc_le ls k
      have HS : Hid (plc ls (k + 1) = plc ls k + (if (ls[k]'hlt).L = 0 then 1 else 0)) := hs
      have HB : Hid (BoxLn (wr.alloc (.cells #[.int .i64 (ls[k]'hlt).L, .int .i64 (ls[k]'hlt).o, .int .i64 (ls[k]'hlt).a, .int .i64 (ls[k]'hlt).b, .int .i64 (ls[k]'hlt).c, .int .i64 (ls[k]'hlt).i, .int .i64 (ls[k]'hlt).t] 38)) wr.heap.size (ls[k]'hlt)) := hbx
      have HL : Hid (k < ls.length) := hlt
      clear hs hbx hJ1
      generalize hx : ls[k]'hlt = x at *
      generalize hq : plc ls k = q at *
      gi_wp2
      refine hR.mono ?_
      rintro e W3 (⟨rfl, hJ3, hk3⟩ | ⟨rfl, hJx3⟩)
      · have hb3 : BoxLn W3 wr.heap.size x := hk3.trans HB.out
        have d0 : W3.cell? ⟨wr.heap.size, 0, none⟩ = some (.int .i64 x.L) := hb3.at.c0
        clear hk3 hb3 hR hy c0 c1 c2 c3 c4 c5 c6
        have b1 : q ≤ 1000000000000000 := by omega
        have b2 : k ≤ 1000000000000000 := by omega
        by_cases hz : x.L = 0
        · gi_wp2
          have hs := HS.out
          rw [if_pos hz] at hs
          exact ⟨⟨k + 1, by rw [hs]; go_num, by go_num, HL.out, hJ3⟩, by simp [intOf]; omega⟩
        · gi_wp2
          have hs := HS.out
          rw [if_neg hz] at hs
          exact ⟨⟨k + 1, by rw [hs]; go_num, by go_num, HL.out, hJ3⟩, by simp [intOf]; omega⟩
      · gi_wp2
        refine bodyPost_ret (results_none rfl _ _ _) rfl ?_
        exact ⟨⟨_, rfl⟩, .inr hJx3⟩
    · have e1 : ((k : Int) < (ls.length : Int)) = False := by simp; omega
      gi_wp2
      go_end0
      have : k = ls.length := by omega
      subst this
      exact ⟨⟨_, rfl⟩, .inl hJ⟩

end Go.Proofs.YtbfmadcppnfgpaaGreatDoor
