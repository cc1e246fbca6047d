/-
  DecodeAll of package inst (layer 2): what its rounds keep.
-/
import Derived.Test.YtnlkeghgmmoioaaDoorRowA
namespace Go.Proofs.YtnlkeghgmmoioaaDoor
open Go.ChangeShapes Go.WideShapes Go.ChangeAt Go.RowKit

/-- The instruction that eight bytes are, if they are one. -/
def decI (c : List UInt8) : Option Ins :=
  match c with
  | [x0, x1, x2, x3, x4, x5, x6, x7] => if x3.toNat = 0 ∧ rightB x0.toNat ((x1.toNat : Int) / 16) ((x1.toNat : Int) % 16) x2.toNat (wrapM 4294967296 ((x7.toNat : Int) * 16777216 + ((x6.toNat : Int) * 65536 + ((x5.toNat : Int) * 256 + (x4.toNat : Int)))) true) = true then some ⟨x0.toNat, (x1.toNat : Int) / 16, (x1.toNat : Int) % 16, x2.toNat, wrapM 4294967296 ((x7.toNat : Int) * 16777216 + ((x6.toNat : Int) * 65536 + ((x5.toNat : Int) * 256 + (x4.toNat : Int)))) true⟩ else none
  | _ => none
abbrev noIns : Value := .agg #[.int .i64 0, .int .i64 0, .int .i64 0, .int .i64 0, .int .i64 0]
theorem decR_is (c : List UInt8) : decR c = match decI c with | some x => .tuple #[x.val, .int .i64 0] | none => .tuple #[noIns, .int .i64 2] := by
  unfold decI decR
  split
  · rename_i x0 x1 x2 x3 x4 x5 x6 x7
    dsimp only
    by_cases h3 : x3.toNat = 0
    · rw [if_pos h3]
      cases hr : rightB x0.toNat ((x1.toNat : Int) / 16) ((x1.toNat : Int) % 16) x2.toNat (wrapM 4294967296 ((x7.toNat : Int) * 16777216 + ((x6.toNat : Int) * 65536 + ((x5.toNat : Int) * 256 + (x4.toNat : Int)))) true) with
      | true => rw [if_pos ⟨h3, rfl⟩, decV_yes hr]
      | false => rw [if_neg (by simp), decV_no hr]
    · rw [if_neg h3, if_neg (fun h => h3 h.1)]
  · rename_i hne
    split
    · rename_i x hx
      split at hx
      · exact (hne _ _ _ _ _ _ _ _ rfl).elim
      · cases hx
    · rfl
def chunk (b : List UInt8) (k : Nat) : List UInt8 := (b.drop (8 * k)).take 8
theorem chunk_len (b : List UInt8) (k : Nat) : (chunk b k).length = min 8 (b.length - 8 * k) := by simp [chunk]
theorem chunk_has {W : World} {blk off : Nat} {b : List UInt8} (h : HasBytes W blk off b) (k : Nat) : HasBytes W blk (off + 8 * k) (chunk b k) := fun j hj => by
  have hl := chunk_len b k
  have := h (8 * k + j) (by omega)
  rw [Nat.add_assoc, this]
  simp [chunk]
/-- All of the bytes are these instructions. -/
def Decs (b : List UInt8) (xs : List Ins) (k : Nat) : Prop := xs.length = k ∧ ∀ j (hj : j < xs.length), decI (chunk b j) = some xs[j]
def DecAll (b : List UInt8) (xs : List Ins) : Prop := Decs b xs xs.length ∧ b.length ≤ 8 * xs.length ∧ 8 * xs.length < b.length + 8
def DecNo (b : List UInt8) : Prop := ∃ k, 8 * k < b.length ∧ decI (chunk b k) = none
theorem Decs.snoc {b : List UInt8} {xs : List Ins} {k : Nat} (h : Decs b xs k) {x : Ins} (hx : decI (chunk b k) = some x) : Decs b (xs ++ [x]) (k + 1) := by
  obtain ⟨h1, h2⟩ := h
  refine ⟨by simp [h1], fun j hj => ?_⟩
  by_cases hlt : j < xs.length
  · rw [h2 j hlt, List.getElem_append_left hlt]
  · have : j = k := by simp at hj; omega
    subst this
    rw [hx, List.getElem_append_right (by omega)]; simp [h1]
theorem DecAll.uniq {b : List UInt8} {xs ys : List Ins} (h : DecAll b xs) (k : DecAll b ys) : xs = ys := by
  obtain ⟨⟨_, h1⟩, h2, h3⟩ := h
  obtain ⟨⟨_, k1⟩, k2, k3⟩ := k
  refine List.ext_getElem (by omega) fun j hj hj' => ?_
  have := (h1 j hj).symm.trans (k1 j hj')
  exact Option.some.inj this
theorem DecAll.not {b : List UInt8} {xs : List Ins} (h : DecAll b xs) (k : DecNo b) : False := by
  obtain ⟨⟨_, h1⟩, h2, h3⟩ := h
  obtain ⟨j, k1, k2⟩ := k
  rw [h1 j (by omega)] at k2; cases k2

/-- How the worlds of DecodeAll's rounds stand. -/
structure DW (w : World) (b : List UInt8) (k : Nat) (W : World) : Prop where
  below : Below w.heap.size w W
  sz : w.heap.size + 1 + 1 + 1 + 1 < W.heap.size
  b1 : W.cell? ⟨w.heap.size, 0, none⟩ = some (.slice none 0 0)
  f1 : W.frozen? ⟨w.heap.size, 0, none⟩ = false
  b2 : W.cell? ⟨w.heap.size + 1, 0, none⟩ = some (.int .i64 0)
  f2 : W.frozen? ⟨w.heap.size + 1, 0, none⟩ = false
  f3 : W.frozen? ⟨w.heap.size + 1 + 1 + 1, 0, none⟩ = false
  row : ∃ g cap xs, W.cell? ⟨w.heap.size + 1 + 1 + 1, 0, none⟩ = some (.slice (some ⟨g, 0, none⟩) k cap) ∧ W.ownsRow (w.heap.size + 1 + 1) 23 5 (.slice (some ⟨g, 0, none⟩) k cap) k (xs.flatMap Ins.cells) ∧ g ≠ w.heap.size + 1 + 1 + 1 ∧ g ≠ w.heap.size + 1 + 1 + 1 + 1 ∧ g < W.heap.size ∧ Decs b xs k
structure DX (w : World) (b : List UInt8) (W : World) : Prop where
  below : Below w.heap.size w W
  b1 : W.cell? ⟨w.heap.size, 0, none⟩ = some (.slice none 0 0)
  b2 : W.cell? ⟨w.heap.size + 1, 0, none⟩ = some (.int .i64 2)
  no : DecNo b
theorem DX.on {w : World} {b : List UInt8} {W W' : World} (h : DX w b W) (hb : Below (w.heap.size + 4) W W') : DX w b W' where
  below := h.below.trans (hb.mono (by omega))
  b1 := (hb.cell (p := ⟨w.heap.size, 0, none⟩) (by show w.heap.size < _; omega)).trans h.b1
  b2 := (hb.cell (p := ⟨w.heap.size + 1, 0, none⟩) (by show w.heap.size + 1 < _; omega)).trans h.b2
  no := h.no
/-- Worlds that keep the first blocks and the row. -/
theorem DW.on {w : World} {b : List UInt8} {k : Nat} {W W' : World} (h : DW w b k W) (hb : Below (w.heap.size + 4) W W')
    (ho : ∀ g, g < W.heap.size → g ≠ w.heap.size + 1 + 1 + 1 + 1 → ∀ cur, W.heap[g]? = some (.cells cur 23 (0, 0)) → W'.heap[g]? = W.heap[g]?) : DW w b k W' where
  below := h.below.trans (hb.mono (by omega))
  sz := Nat.lt_of_lt_of_le h.sz hb.size
  b1 := (hb.cell (p := ⟨w.heap.size, 0, none⟩) (by show w.heap.size < _; omega)).trans h.b1
  f1 := (hb.frozen (p := ⟨w.heap.size, 0, none⟩) (by show w.heap.size < _; omega)).trans h.f1
  b2 := (hb.cell (p := ⟨w.heap.size + 1, 0, none⟩) (by show w.heap.size + 1 < _; omega)).trans h.b2
  f2 := (hb.frozen (p := ⟨w.heap.size + 1, 0, none⟩) (by show w.heap.size + 1 < _; omega)).trans h.f2
  f3 := (hb.frozen (p := ⟨w.heap.size + 1 + 1 + 1, 0, none⟩) (by show w.heap.size + 1 + 1 + 1 < _; omega)).trans h.f3
  row := by
    obtain ⟨g, cap, xs, h1, h2, h3, h4, h5, h6⟩ := h.row
    refine ⟨g, cap, xs, (hb.cell (p := ⟨w.heap.size + 1 + 1 + 1, 0, none⟩) (by show w.heap.size + 1 + 1 + 1 < _; omega)).trans h1, ⟨h2.1, ?_⟩, h3, h4, Nat.lt_of_lt_of_le h5 hb.size, h6⟩
    rcases h2.2 with h2 | ⟨g', cap', cur, e, q1, q2, q3⟩
    · exact .inl h2
    · injection e with e1 e2 e3
      obtain rfl : g = g' := by injection e1 with e1; injection e1
      subst e3
      exact .inr ⟨g, cap, cur, rfl, q1, (ho g h5 h4 cur q2).trans q2, q3⟩

theorem typ38 : ∃ i, Tryd.prog.info? 23 = some i ∧ i.zero = some noIns ∧ i.bytes = 40 ∧ i.size = 5 := ⟨_, rfl, rfl, rfl, rfl⟩
theorem make_insts (n : Nat) (hn : n ≤ 100000000) (w : World) : (Instr.makeSlice 38 (.int .i64 0) (.int .i64 (n : Int))).run Tryd.prog w = .ok (.slice (some ⟨w.heap.size, 0, none⟩) 0 n) (w.alloc (.cells (madeCells noIns.cells (n * 5)) 23)) := by
  obtain ⟨i, h1, h2, h3, h4⟩ := typ38
  have := run_make (P := Tryd.prog) (w := w) 38 23 i noIns Tryd.underlying38 h1 h2 .i64 .i64 0 (n : Int) (by omega) (by omega) (by rw [h3]; omega) (by omega)
  rw [h4, show ((n : Int)).toNat = n by omega] at this
  exact this

abbrev z5 : Array Value := #[.int .i64 0, .int .i64 0, .int .i64 0, .int .i64 0, .int .i64 0]
theorem dw_start (w : World) (b : List UInt8) (n : Nat) (hn : n ≤ 100000000) (X : Value) : DW w b 0 (((((w.alloc (.cells #[.slice none 0 0] 38)).alloc (.cells #[.int .i64 0] 26)).alloc (.cells (madeCells z5 (n * 5)) 23)).alloc (.cells #[.slice (some ⟨w.heap.size + 1 + 1, 0, none⟩) 0 n] 38)).alloc (.cells #[X] 25)) := by
  refine ⟨?_, by simp, ?_, ?_, ?_, ?_, ?_, ⟨w.heap.size + 1 + 1, n, [], ?_, ⟨rfl, .inr ⟨w.heap.size + 1 + 1, n, madeCells z5 (n * 5), rfl, Nat.le_refl _, ?_, Nat.zero_le _, by unfold maxLen; omega, size_madeCells _ _, by simp⟩⟩, by omega, by omega, by simp, rfl, fun j hj => absurd hj (by simp)⟩⟩
  · exact (((((Below.refl _ w).alloc (Nat.le_refl _) _).alloc (by simp) _).alloc (by simp; omega) _).alloc (by simp; omega) _).alloc (by simp; omega) _
  · go_simp
  · go_simp
  · go_simp
  · go_simp
  · go_simp
  · go_simp
  · generalize hA : (w.alloc (.cells #[.slice none 0 0] 38)).alloc (.cells #[.int .i64 0] 26) = A
    have hs : A.heap.size = w.heap.size + 1 + 1 := by rw [← hA]; simp
    rw [Below.heap_alloc _ _ _ (by simp [hs]), Below.heap_alloc _ _ _ (by simp [hs]), ← hs]
    exact World.alloc_heap_new A _

theorem at_new (W : World) (x : Ins) (t : TypeId) : AtIns (W.alloc (.cells #[.int .i64 x.o, .int .i64 x.a, .int .i64 x.b, .int .i64 x.c, .int .i64 x.i] t)) W.heap.size 0 x :=
  ⟨World.cell?_alloc_new _ _ _ _, World.cell?_alloc_new _ _ _ _, World.cell?_alloc_new _ _ _ _, World.cell?_alloc_new _ _ _ _, World.cell?_alloc_new _ _ _ _⟩

/-- One round: the instruction is appended, the slice put back. -/
theorem DW.step {w : World} {b : List UInt8} {k : Nat} {W W4 W5 : World} (h : DW w b k W) {x : Ins} (hx : decI (chunk b k) = some x) {g cap : Nat} {xs : List Ins}
    (h2 : W.ownsRow (w.heap.size + 1 + 1) 23 5 (.slice (some ⟨g, 0, none⟩) k cap) k (xs.flatMap Ins.cells)) (h3 : g ≠ w.heap.size + 1 + 1 + 1) (h4 : g ≠ w.heap.size + 1 + 1 + 1 + 1) (h5 : g < W.heap.size) (h6 : Decs b xs k)
    (hb4 : Below W.heap.size W W4) {g' cap' : Nat} (hown : W5.ownsRow (w.heap.size + 1 + 1) 23 5 (.slice (some ⟨g', 0, none⟩) (k + 1) cap') (k + 1) (xs.flatMap Ins.cells ++ x.cells)) (hg : W4.grownBy W5 (some g)) (hat : g' = g ∨ g' = W4.heap.size) (hlt : g' < W5.heap.size) :
    DW w b (k + 1) (W5.setCell ⟨w.heap.size + 1 + 1 + 1, 0, none⟩ (.slice (some ⟨g', 0, none⟩) (k + 1) cap')) ∧ KeepsOthers W (W5.setCell ⟨w.heap.size + 1 + 1 + 1, 0, none⟩ (.slice (some ⟨g', 0, none⟩) (k + 1) cap')) ∧
      (W5.setCell ⟨w.heap.size + 1 + 1 + 1, 0, none⟩ (.slice (some ⟨g', 0, none⟩) (k + 1) cap')).cell? ⟨w.heap.size + 1 + 1 + 1 + 1, 0, none⟩ = W.cell? ⟨w.heap.size + 1 + 1 + 1 + 1, 0, none⟩ ∧ (W5.setCell ⟨w.heap.size + 1 + 1 + 1, 0, none⟩ (.slice (some ⟨g', 0, none⟩) (k + 1) cap')).frozen? ⟨w.heap.size + 1 + 1 + 1 + 1, 0, none⟩ = W.frozen? ⟨w.heap.size + 1 + 1 + 1 + 1, 0, none⟩ := by
  have hs := h.sz
  have hs4 := hb4.size
  have hs5 := hg.size
  have gl : w.heap.size + 1 + 1 ≤ g := (h2.lt g rfl).1
  have blk : ∀ q, q < W.heap.size → q ≠ g → W5.heap[q]? = W.heap[q]? := fun q hq hne => (hg.block q (by omega) (fun e => hne (Option.some.inj e))).trans (hb4.block q hq)
  have cel : ∀ q, q < W.heap.size → q ≠ g → W5.cell? ⟨q, 0, none⟩ = W.cell? ⟨q, 0, none⟩ := fun q hq hne => World.cell?_of_block (blk q hq hne)
  have frz : ∀ q, q < W.heap.size → q ≠ g → W5.frozen? ⟨q, 0, none⟩ = W.frozen? ⟨q, 0, none⟩ := fun q hq hne => World.frozen?_of_block (blk q hq hne)
  obtain ⟨gg, cc, yy, r1, _⟩ := h.row
  refine ⟨⟨?_, ?_, ?_, ?_, ?_, ?_, ?_, ⟨g', cap', xs ++ [x], ?_, ?_, ?_, ?_, ?_, h6.snoc hx⟩⟩, ?_, ?_, ?_⟩
  · exact (Below.grown (h.below.trans (hb4.mono (by omega))) (by omega) hg (fun q hq => by cases hq; omega)).setCell (p := ⟨w.heap.size + 1 + 1 + 1, 0, none⟩) (by show _ ≤ w.heap.size + 1 + 1 + 1; omega) _
  · simp; omega
  · rw [World.cell?_setCell_other _ _ _ _ (by simp), cel _ (by omega) (by omega)]; exact h.b1
  · rw [World.frozen?_setCell, frz _ (by omega) (by omega)]; exact h.f1
  · rw [World.cell?_setCell_other _ _ _ _ (by simp), cel _ (by omega) (by omega)]; exact h.b2
  · rw [World.frozen?_setCell, frz _ (by omega) (by omega)]; exact h.f2
  · rw [World.frozen?_setCell, frz _ (by omega) (by omega)]; exact h.f3
  · exact World.cell?_setCell_same _ _ _ ((cel _ (by omega) (by omega)).trans r1)
  · rw [List.flatMap_append, List.flatMap_singleton]
    exact hown.kept (grownBy_setCell' W5 _ _) (.inr (by simp [Value.ownBlock]; omega))
  · rcases hat with rfl | rfl <;> omega
  · rcases hat with rfl | rfl <;> omega
  · simpa using hlt
  · refine ((keeps_below hb4).trans (KeepsOthers.of_grownBy hg fun j o hj ho => ?_)).trans (KeepsOthers.setCell _ _ _)
    cases hj
    rcases h2.2 with ⟨e, _⟩ | ⟨g0, c0, cur, e, _, q2, _⟩
    · cases e
    · injection e with e1 e2 e3
      obtain rfl : g = g0 := by injection e1 with e1; injection e1
      rw [hb4.block g h5, q2] at ho
      cases ho; rfl
  · rw [World.cell?_setCell_other _ _ _ _ (by simp), cel _ (by omega) (by omega)]
  · rw [World.frozen?_setCell, frz _ (by omega) (by omega)]

end Go.Proofs.YtnlkeghgmmoioaaDoor
