/-
  Rows of instructions that Assemble makes (layer 5): how they lie, and what they are.
-/
import Derived.Test.YtbfmadcppnfgpaaGreatDoorLead
import Derived.Laws.MakeOwn
import Derived.Deep.MidRow
import Derived.Deep.Upon
import Derived.Deep.OwnRows
import Derived.Lib.Builder
namespace Go.Proofs.YtbfmadcppnfgpaaGreatDoor
open Go.ChangeShapes Go.WideShapes Go.ChangeAt Go.RowKit Go.Shelf Go.Maps

/-- An instruction, as five numbers. -/
structure Ins where
  o : Int
  a : Int
  b : Int
  c : Int
  i : Int
abbrev Ins.cells (x : Ins) : List Value := [.int .i64 x.o, .int .i64 x.a, .int .i64 x.b, .int .i64 x.c, .int .i64 x.i]
structure AtIns (W : World) (blk off : Nat) (x : Ins) : Prop where
  c0 : W.cell? ⟨blk, off, none⟩ = some (.int .i64 x.o)
  c1 : W.cell? ⟨blk, off + 1, none⟩ = some (.int .i64 x.a)
  c2 : W.cell? ⟨blk, off + 2, none⟩ = some (.int .i64 x.b)
  c3 : W.cell? ⟨blk, off + 3, none⟩ = some (.int .i64 x.c)
  c4 : W.cell? ⟨blk, off + 4, none⟩ = some (.int .i64 x.i)
theorem AtIns.below {W W' : World} {B blk off : Nat} {x : Ins} (h : AtIns W blk off x) (hb : Below B W W') (hlt : blk < B) : AtIns W' blk off x :=
  ⟨(hb.cell (p := ⟨blk, off, none⟩) hlt).trans h.c0, (hb.cell (p := ⟨blk, off + 1, none⟩) hlt).trans h.c1, (hb.cell (p := ⟨blk, off + 2, none⟩) hlt).trans h.c2, (hb.cell (p := ⟨blk, off + 3, none⟩) hlt).trans h.c3, (hb.cell (p := ⟨blk, off + 4, none⟩) hlt).trans h.c4⟩
theorem AtIns.block {W W' : World} {blk off : Nat} {x : Ins} (h : AtIns W blk off x) (hb : W'.heap[blk]? = W.heap[blk]?) : AtIns W' blk off x :=
  ⟨(World.cell?_of_block hb).trans h.c0, (World.cell?_of_block hb).trans h.c1, (World.cell?_of_block hb).trans h.c2, (World.cell?_of_block hb).trans h.c3, (World.cell?_of_block hb).trans h.c4⟩
def HasInsts (W : World) (blk off : Nat) (l : List Ins) : Prop := ∀ j (hj : j < l.length), AtIns W blk (off + j * 5) l[j]

/-- A block of instructions. -/
structure RowI (W : World) (g : Nat) (cs : List Ins) : Prop where
  has : ∀ j (h : j < cs.length), AtIns W g (j * 5) (cs[j]'h)
  free : ∀ o, W.frozen? ⟨g, o, none⟩ = false
  lt : g < W.heap.size
theorem RowI.block {W W' : World} {g : Nat} {cs : List Ins} (h : RowI W g cs) (hb : W'.heap[g]? = W.heap[g]?) : RowI W' g cs := by
  refine ⟨fun j hj => (h.has j hj).block hb, fun o => (World.frozen?_of_block hb).trans (h.free o), ?_⟩
  have := h.lt
  rcases Nat.lt_or_ge g W'.heap.size with h' | h'
  · exact h'
  · rw [Array.getElem?_eq_none h', Array.getElem?_eq_getElem this] at hb; cases hb
/-- An instruction is stored. -/
def put5 (W : World) (g p : Nat) (x : Ins) : World := ((((W.setCell ⟨g, p * 5, none⟩ (.int .i64 x.o)).setCell ⟨g, p * 5 + 1, none⟩ (.int .i64 x.a)).setCell ⟨g, p * 5 + 2, none⟩ (.int .i64 x.b)).setCell ⟨g, p * 5 + 3, none⟩ (.int .i64 x.c)).setCell ⟨g, p * 5 + 4, none⟩ (.int .i64 x.i)
theorem cell_ne {W : World} {g g' o o' : Nat} {v : Value} (h : ¬ (g = g' ∧ o = o')) : (W.setCell ⟨g', o', none⟩ v).cell? ⟨g, o, none⟩ = W.cell? ⟨g, o, none⟩ := World.cell?_setCell_other _ _ _ _ (by intro e; simp only [Addr.mk.injEq] at e; exact h ⟨e.1.symm, e.2.1.symm⟩)
theorem put5_cell (W : World) (g p : Nat) (x : Ins) (o : Nat) (h : o < p * 5 ∨ p * 5 + 5 ≤ o) : (put5 W g p x).cell? ⟨g, o, none⟩ = W.cell? ⟨g, o, none⟩ := by
  unfold put5
  rw [cell_ne (by omega), cell_ne (by omega), cell_ne (by omega), cell_ne (by omega), cell_ne (by omega)]
theorem put5_heap (W : World) (g p : Nat) (x : Ins) (b : Nat) (h : b ≠ g) : (put5 W g p x).heap[b]? = W.heap[b]? := by
  unfold put5
  rw [Below.heap_setCell _ _ _ _ (by exact h), Below.heap_setCell _ _ _ _ (by exact h), Below.heap_setCell _ _ _ _ (by exact h), Below.heap_setCell _ _ _ _ (by exact h), Below.heap_setCell _ _ _ _ (by exact h)]
theorem put5_below {B : Nat} (W : World) (g p : Nat) (x : Ins) (h : B ≤ g) : Below B W (put5 W g p x) :=
  (((((Below.refl B W).setCell (p := ⟨g, p * 5, none⟩) h _).setCell (p := ⟨g, p * 5 + 1, none⟩) h _).setCell (p := ⟨g, p * 5 + 2, none⟩) h _).setCell (p := ⟨g, p * 5 + 3, none⟩) h _).setCell (p := ⟨g, p * 5 + 4, none⟩) h _
set_option maxHeartbeats 2000000 in
theorem put5_row {W : World} {g p : Nat} {cs : List Ins} (h : RowI W g cs) (hp : p < cs.length) (x : Ins) : RowI (put5 W g p x) g (cs.set p x) := by
  obtain ⟨c0, c1, c2, c3, c4⟩ := h.has p hp
  refine ⟨fun j hj => ?_, fun o => ?_, by simp [put5]; exact h.lt⟩
  · rw [List.length_set] at hj
    by_cases hjp : j = p
    · subst hjp
      rw [List.getElem_set_self]
      refine ⟨?_, ?_, ?_, ?_, ?_⟩
      · unfold put5
        rw [cell_ne (by omega), cell_ne (by omega), cell_ne (by omega), cell_ne (by omega)]
        exact World.cell?_setCell_same _ _ _ c0
      · unfold put5
        rw [cell_ne (by omega), cell_ne (by omega), cell_ne (by omega)]
        exact World.cell?_setCell_same _ _ _ (by rw [cell_ne (by omega)]; exact c1)
      · unfold put5
        rw [cell_ne (by omega), cell_ne (by omega)]
        exact World.cell?_setCell_same _ _ _ (by rw [cell_ne (by omega), cell_ne (by omega)]; exact c2)
      · unfold put5
        rw [cell_ne (by omega)]
        exact World.cell?_setCell_same _ _ _ (by rw [cell_ne (by omega), cell_ne (by omega), cell_ne (by omega)]; exact c3)
      · unfold put5
        exact World.cell?_setCell_same _ _ _ (by rw [cell_ne (by omega), cell_ne (by omega), cell_ne (by omega), cell_ne (by omega)]; exact c4)
    · rw [List.getElem_set_ne (by omega)]
      obtain ⟨d0, d1, d2, d3, d4⟩ := h.has j hj
      exact ⟨(put5_cell W g p x _ (by omega)).trans d0, (put5_cell W g p x _ (by omega)).trans d1, (put5_cell W g p x _ (by omega)).trans d2, (put5_cell W g p x _ (by omega)).trans d3, (put5_cell W g p x _ (by omega)).trans d4⟩
  · unfold put5
    rw [World.frozen?_setCell, World.frozen?_setCell, World.frozen?_setCell, World.frozen?_setCell, World.frozen?_setCell]
    exact h.free o

/-- Where a label lies. -/
def placeOf (es : List (Int × Int)) (t : Int) : Int := ((es.find? fun p => p.1 == t).map Prod.snd).getD 0
theorem placeOf_mem {es : List (Int × Int)} (hn : (es.map Prod.fst).Nodup) {t v : Int} (h : (t, v) ∈ es) : placeOf es t = v := by
  unfold placeOf
  induction es with
  | nil => simp at h
  | cons p r ih =>
    rw [List.map_cons, List.nodup_cons] at hn
    rcases List.mem_cons.1 h with rfl | h
    · simp
    · have hne : p.1 ≠ t := fun e => hn.1 (by rw [e]; exact List.mem_map.2 ⟨_, h, rfl⟩)
      rw [List.find?_cons_of_neg (by simpa using hne)]
      exact ih hn.2 h
theorem LabMap.at {W : World} {mb : Nat} {es : List (Int × Int)} {t : Int} (h : LabMap W mb es) (ht : t ∈ es.map Prod.fst) : ∃ D : DataW Unit, W.ownsMap Tryz.prog 3 (plainElem Tryz.prog 3) mb es.length D ∧ D.atKey (.int .i64 t) (.lit (.int .i64 0)) = .lit (.int .i64 (placeOf es t)) := by
  obtain ⟨D, ho, _, hv, _, hn⟩ := h
  obtain ⟨p, hp, rfl⟩ := List.mem_map.1 ht
  exact ⟨D, ho, by rw [hv p hp, placeOf_mem hn (v := p.2) hp]⟩

/-- A line's instruction, with its label's place. -/
def Ln.ins (es : List (Int × Int)) (x : Ln) : Ins := ⟨x.o, x.a, x.b, x.c, if x.t = 0 then x.i else placeOf es x.t⟩
/-- The code of lines, given the places of labels. -/
def codeL (es : List (Int × Int)) (ls : List Ln) : List Ins := (ls.filter fun x => x.L == 0).map (Ln.ins es)
theorem codeL_len (es : List (Int × Int)) (ls : List Ln) (k : Nat) : (codeL es (ls.take k)).length = plc ls k := by
  unfold codeL plc
  rw [List.length_map, List.countP_eq_length_filter]
theorem codeL_inst (es : List (Int × Int)) (ls : List Ln) (k : Nat) (h : k < ls.length) (hz : (ls[k]'h).L = 0) : codeL es (ls.take (k + 1)) = codeL es (ls.take k) ++ [(ls[k]'h).ins es] := by
  unfold codeL
  rw [List.take_succ_eq_append_getElem h, List.filter_append, List.map_append, show List.filter (fun x => x.L == 0) [ls[k]'h] = [ls[k]'h] by simp [hz]]
  rfl
theorem codeL_label (es : List (Int × Int)) (ls : List Ln) (k : Nat) (h : k < ls.length) (hz : ¬ (ls[k]'h).L = 0) : codeL es (ls.take (k + 1)) = codeL es (ls.take k) := by
  unfold codeL
  rw [List.take_succ_eq_append_getElem h, List.filter_append, List.map_append, show List.filter (fun x => x.L == 0) [ls[k]'h] = [] by simp [hz], List.map_nil, List.append_nil]

set_option maxRecDepth 100000 in
theorem typ24 : ∃ i, Tryz.prog.info? 31 = some i ∧ i.zero = some (.agg #[.int .i64 0, .int .i64 0, .int .i64 0, .int .i64 0, .int .i64 0]) ∧ i.bytes = 40 ∧ i.size = 5 := ⟨_, rfl, rfl, rfl, rfl⟩
/-- A new row of instructions. -/
theorem make_code (n : Nat) (hn : n ≤ 100000000) (w : World) : (Instr.makeSlice 23 (.int .i64 (n : Int)) (.int .i64 (n : Int))).run Tryz.prog w = .ok (.slice (some ⟨w.heap.size, 0, none⟩) n n) (w.alloc (.cells (madeCells #[.int .i64 0, .int .i64 0, .int .i64 0, .int .i64 0, .int .i64 0] (n * 5)) 31)) := by
  obtain ⟨i, h1, h2, h3, h4⟩ := typ24
  have := run_make (P := Tryz.prog) (w := w) 23 31 i _ Tryz.underlying23 h1 h2 .i64 .i64 (n : Int) (n : Int) (by omega) (by omega) (by rw [h3]; omega) (by omega)
  rw [h4, show ((n : Int)).toNat = n by omega] at this
  exact this
theorem made_at (n j : Nat) (h : j < n * 5) : (madeCells #[.int .i64 0, .int .i64 0, .int .i64 0, .int .i64 0, .int .i64 0] (n * 5))[j]? = some (.int .i64 0) := by
  have h5 : j % 5 = 0 ∨ j % 5 = 1 ∨ j % 5 = 2 ∨ j % 5 = 3 ∨ j % 5 = 4 := by omega
  rcases h5 with e | e | e | e | e <;> simp [madeCells, h, e]
theorem rowI_new (W : World) (n : Nat) : RowI (W.alloc (.cells (madeCells #[.int .i64 0, .int .i64 0, .int .i64 0, .int .i64 0, .int .i64 0] (n * 5)) 31)) W.heap.size (List.replicate n ⟨0, 0, 0, 0, 0⟩) := by
  have hb := World.alloc_heap_new W (.cells (madeCells #[.int .i64 0, .int .i64 0, .int .i64 0, .int .i64 0, .int .i64 0] (n * 5)) 31)
  have hc : ∀ o, o < n * 5 → (W.alloc (.cells (madeCells #[.int .i64 0, .int .i64 0, .int .i64 0, .int .i64 0, .int .i64 0] (n * 5)) 31)).cell? ⟨W.heap.size, o, none⟩ = some (.int .i64 0) := fun o ho => (Lib.cell_of_heap hb o).trans (made_at n o ho)
  refine ⟨fun j hj => ?_, fun o => Lib.frozen_of_heap hb o, by simp⟩
  rw [List.length_replicate] at hj
  rw [List.getElem_replicate]
  exact ⟨hc _ (by omega), hc _ (by omega), hc _ (by omega), hc _ (by omega), hc _ (by omega)⟩

end Go.Proofs.YtbfmadcppnfgpaaGreatDoor
