/-
  Package machine (layer 4): a machine's state, told plainly, and how a machine lies in memory.
-/
import Derived.Test.YtbfmadcppnfgpaaGreatDoorQMemB
import Derived.Test.YtbfmadcppnfgpaaGreatDoorQInst
import Derived.Test.YtbfmadcppnfgpaaGreatDoorQWord
import Derived.Deep.AppendLies
import Derived.Deep.AppendSrc
import Derived.Deep.Upon
namespace Go.Proofs.YtbfmadcppnfgpaaGreatDoor.Q
open Go.ChangeShapes Go.WideShapes Go.ChangeAt Go.RowKit

/-- An instruction, as five numbers. -/
structure Ins where
  o : Int
  a : Int
  b : Int
  c : Int
  i : Int
abbrev Ins.right (x : Ins) : Bool := rightB x.o x.a x.b x.c x.i
abbrev Ins.val (x : Ins) : Value := .agg #[.int .i64 x.o, .int .i64 x.a, .int .i64 x.b, .int .i64 x.c, .int .i64 x.i]
structure AtIns (W : World) (blk off : Nat) (x : Ins) : Prop where
  c0 : W.cell? ⟨blk, off, none⟩ = some (.int .i64 x.o)
  c1 : W.cell? ⟨blk, off + 1, none⟩ = some (.int .i64 x.a)
  c2 : W.cell? ⟨blk, off + 2, none⟩ = some (.int .i64 x.b)
  c3 : W.cell? ⟨blk, off + 3, none⟩ = some (.int .i64 x.c)
  c4 : W.cell? ⟨blk, off + 4, none⟩ = some (.int .i64 x.i)
theorem AtIns.keep {W W' : World} {blk off : Nat} {x : Ins} (h : AtIns W blk off x) (hb : W'.heap[blk]? = W.heap[blk]?) : AtIns W' blk off x :=
  ⟨(World.cell?_of_block hb).trans h.c0, (World.cell?_of_block hb).trans h.c1, (World.cell?_of_block hb).trans h.c2, (World.cell?_of_block hb).trans h.c3, (World.cell?_of_block hb).trans h.c4⟩
theorem AtIns.below {W W' : World} {B blk off : Nat} {x : Ins} (h : AtIns W blk off x) (hb : Below B W W') (hlt : blk < B) : AtIns W' blk off x := h.keep (hb.block _ hlt)
def HasInsts (W : World) (blk off : Nat) (l : List Ins) : Prop := ∀ j (hj : j < l.length), AtIns W blk (off + j * 5) l[j]
def HasInts (W : World) (blk off : Nat) (l : List Int) : Prop := ∀ j (hj : j < l.length), W.cell? ⟨blk, off + j, none⟩ = some (iv l[j])

/-- A slice of instructions, of numbers, that holds just these, in a block of D. -/
def RowAt (D : Nat → Prop) (W : World) (v : Value) (l : List Ins) : Prop := ∃ av cap, v = .slice av l.length cap ∧ (0 < l.length → ∃ blk off, av = some ⟨blk, off, none⟩ ∧ D blk ∧ HasInsts W blk off l)
def IntsAt (D : Nat → Prop) (W : World) (v : Value) (l : List Int) : Prop := ∃ av cap, v = .slice av l.length cap ∧ l.length ≤ cap ∧ cap ≤ maxLen ∧ (0 < l.length → ∃ blk off, av = some ⟨blk, off, none⟩ ∧ D blk ∧ HasInts W blk off l)
theorem RowAt.keep {D : Nat → Prop} {W W' : World} {v : Value} {l : List Ins} (h : RowAt D W v l) (hb : ∀ k, D k → W'.heap[k]? = W.heap[k]?) : RowAt D W' v l := by
  obtain ⟨av, cap, rfl, h⟩ := h
  refine ⟨av, cap, rfl, fun h0 => ?_⟩
  obtain ⟨blk, off, rfl, h1, h2⟩ := h h0
  exact ⟨blk, off, rfl, h1, fun j hj => (h2 j hj).keep (hb _ h1)⟩
theorem IntsAt.keep {D : Nat → Prop} {W W' : World} {v : Value} {l : List Int} (h : IntsAt D W v l) (hb : ∀ k, D k → W'.heap[k]? = W.heap[k]?) : IntsAt D W' v l := by
  obtain ⟨av, cap, rfl, hc, hm, h⟩ := h
  refine ⟨av, cap, rfl, hc, hm, fun h0 => ?_⟩
  obtain ⟨blk, off, rfl, h1, h2⟩ := h h0
  exact ⟨blk, off, rfl, h1, fun j hj => (World.cell?_of_block (hb _ h1)).trans (h2 j hj)⟩
theorem RowAt.wide {D E : Nat → Prop} {W : World} {v : Value} {l : List Ins} (h : RowAt D W v l) (hd : ∀ k, D k → E k) : RowAt E W v l := by
  obtain ⟨av, cap, rfl, h⟩ := h
  refine ⟨av, cap, rfl, fun h0 => ?_⟩
  obtain ⟨blk, off, rfl, h1, h2⟩ := h h0
  exact ⟨blk, off, rfl, hd _ h1, h2⟩
theorem IntsAt.wide {D E : Nat → Prop} {W : World} {v : Value} {l : List Int} (h : IntsAt D W v l) (hd : ∀ k, D k → E k) : IntsAt E W v l := by
  obtain ⟨av, cap, rfl, hc, hm, h⟩ := h
  refine ⟨av, cap, rfl, hc, hm, fun h0 => ?_⟩
  obtain ⟨blk, off, rfl, h1, h2⟩ := h h0
  exact ⟨blk, off, rfl, hd _ h1, h2⟩

/-- Blocks outside F that were there have not turned. -/
structure Moves (F : Nat → Prop) (w w' : World) : Prop where
  os : w'.os = w.os
  tape : w'.tape = w.tape
  output : w'.output = w.output
  size : w.heap.size ≤ w'.heap.size
  block : ∀ k, k < w.heap.size → ¬ F k → w'.heap[k]? = w.heap[k]?
theorem Moves.refl (F : Nat → Prop) (w : World) : Moves F w w := ⟨rfl, rfl, rfl, Nat.le_refl _, fun _ _ _ => rfl⟩
theorem Moves.trans {F G : Nat → Prop} {a b c : World} (h : Moves F a b) (k : Moves G b c) (hg : ∀ i, G i → F i ∨ a.heap.size ≤ i) : Moves F a c :=
  ⟨k.os.trans h.os, k.tape.trans h.tape, k.output.trans h.output, Nat.le_trans h.size k.size, fun i hi hf =>
    (k.block i (Nat.lt_of_lt_of_le hi h.size) (fun g => by rcases hg i g with g | g; exact hf g; omega)).trans (h.block i hi hf)⟩
theorem Moves.on {F : Nat → Prop} {a b c : World} (h : Moves F a b) (k : Moves F b c) : Moves F a c := h.trans k (fun _ g => .inl g)
theorem Moves.below {F : Nat → Prop} {N : Nat} {w w' : World} (h : Moves F w w') (hN : N ≤ w.heap.size) (hF : ∀ k, F k → N ≤ k) : Below N w w' :=
  ⟨h.os, h.tape, h.output, h.size, fun k hk => h.block k (by omega) (fun g => by have := hF k g; omega)⟩
theorem Moves.ofBelow {F : Nat → Prop} {w w' : World} (h : Below w.heap.size w w') : Moves F w w' := ⟨h.os, h.tape, h.output, h.size, fun k hk _ => h.block k hk⟩
theorem Moves.ofTouch {F : Nat → Prop} {Q R : Nat} {w w' : World} (h : Touch Q R w w') (hQ : F Q) (hR : F R) : Moves F w w' :=
  ⟨h.os, h.tape, h.output, Nat.le_of_eq h.size.symm, fun k _ hf => h.block k (fun e => hf (e ▸ hQ)) (fun e => hf (e ▸ hR))⟩
theorem Moves.drew {F : Nat → Prop} {a w : World} (h : Moves F a w) : Moves F a w.drew := ⟨h.os, h.tape, h.output, h.size, h.block⟩
theorem Moves.setCell {F : Nat → Prop} {a w : World} (h : Moves F a w) (B o : Nat) (hB : F B) (u : Value) : Moves F a (w.setCell ⟨B, o, none⟩ u) :=
  h.on ⟨rfl, rfl, rfl, Nat.le_of_eq (by simp [World.setCell]), fun k _ hf => Below.heap_setCell _ _ _ _ (fun e => hf (e ▸ hB))⟩
theorem Moves.alloc {F : Nat → Prop} {a w : World} (h : Moves F a w) (o : Obj) : Moves F a (w.alloc o) :=
  h.on (Moves.ofBelow ((Below.refl _ w).alloc (Nat.le_refl _) o))
theorem Moves.ofGrown {F : Nat → Prop} {w w' : World} {r : Option Nat} (h : w.grownBy w' r) (hr : ∀ k, r = some k → F k) : Moves F w w' :=
  ⟨h.os, h.tape, h.output, h.size, fun k hk hf => h.block k hk (fun e => hf (hr k e.symm))⟩

/-- A machine's state: its memory, registers, place, what is left of the input, output, how it ended. -/
structure MS where
  mem : St
  regs : List Int
  place : Int
  inp : List Int
  out : List Int
  err : Int
  code : Int
  over : Bool

/-- The cells of a machine's own block. -/
def cellsOf (cv nv ov : Value) (Q : Nat) (s : MS) (a b : Int) : List Value :=
  [cv, ptr Q] ++ (s.regs.map iv ++ [iv s.place, nv, ov, iv a, iv b, iv s.err, iv s.code, .bool s.over])

/-- How a machine lies: its own block B, its memory's blocks Q and R, its code, input and output; all of them in F, those that are only read in D. -/
structure Mach (w : World) (F D : Nat → Prop) (B Q R : Nat) (cv nv ov : Value) (l : List Ins) (s : MS) (a b : Int) : Prop where
  obj : w.heap[B]? = some (.cells (cellsOf cv nv ov Q s a b).toArray 62 (0, 0))
  mem : MemS w Q R s.mem
  code : RowAt D w cv l
  inp : IntsAt D w nv s.inp
  out : w.ownsRow 0 3 1 ov s.out.length (vals s.out)
  fB : F B
  fQ : F Q
  fR : F R
  fO : ∀ k, ov.ownBlock = some k → F k ∧ k ≠ B ∧ k ≠ Q ∧ k ≠ R ∧ ¬ D k
  fD : ∀ k, D k → F k ∧ k ≠ B ∧ k ≠ Q ∧ k ≠ R
  lt : ∀ k, F k → k < w.heap.size
  bq : B ≠ Q
  br : B ≠ R
  r16 : s.regs.length = 16
  len : l.length ≤ 1048576
  right : ∀ x ∈ l, x.right = true

/-- That, whatever its parts. -/
def Mac (w : World) (F : Nat → Prop) (B : Nat) (l : List Ins) (s : MS) : Prop := ∃ D Q R cv nv ov a b, Mach w F D B Q R cv nv ov l s a b

/-- What a step leaves: the blocks of F alone may have turned, and the machine is s. -/
def Ans (w : World) (F : Nat → Prop) (B : Nat) (l : List Ins) (s : MS) (w' : World) : Prop :=
  Moves F w w' ∧ ∃ F' : Nat → Prop, (∀ k, F' k → F k ∨ w.heap.size ≤ k) ∧ Mac w' F' B l s
theorem Ans.next {w w1 w2 : World} {F F1 : Nat → Prop} {B : Nat} {l : List Ins} {s2 : MS} (h : Moves F w w1) (hF : ∀ k, F1 k → F k ∨ w.heap.size ≤ k) (k : Ans w1 F1 B l s2 w2) : Ans w F B l s2 w2 := by
  obtain ⟨k1, F', k2, k3⟩ := k
  refine ⟨h.trans k1 hF, F', fun i hi => ?_, k3⟩
  rcases k2 i hi with g | g
  · exact hF i g
  · exact .inr (Nat.le_trans h.size g)

theorem own_keep {w w' : World} {v : Value} {n : Nat} {xs : List Value} (h : w.ownsRow 0 3 1 v n xs) (hb : ∀ k, v.ownBlock = some k → w'.heap[k]? = w.heap[k]?) : w'.ownsRow 0 3 1 v n xs := by
  refine ⟨h.1, ?_⟩
  rcases h.2 with h2 | ⟨g, cap, cur, rfl, h1, h2, h3⟩
  · exact .inl h2
  · exact .inr ⟨g, cap, cur, rfl, h1, (hb g rfl).trans h2, h3⟩
theorem Mach.keep {w : World} {F D : Nat → Prop} {B Q R : Nat} {cv nv ov : Value} {l : List Ins} {s : MS} {a b : Int} {w' : World} (m : Mach w F D B Q R cv nv ov l s a b) (hb : ∀ k, F k → w'.heap[k]? = w.heap[k]?) (hs : w.heap.size ≤ w'.heap.size) : Mach w' F D B Q R cv nv ov l s a b :=
  { m with
    obj := (hb _ m.fB).trans m.obj
    mem := m.mem.on (hb _ m.fQ) (hb _ m.fR)
    code := m.code.keep (fun k hk => hb _ (m.fD k hk).1)
    inp := m.inp.keep (fun k hk => hb _ (m.fD k hk).1)
    out := own_keep m.out (fun k hk => hb _ (m.fO k hk).1)
    lt := fun k hk => Nat.lt_of_lt_of_le (m.lt k hk) hs }
theorem Mach.below {w : World} {F D : Nat → Prop} {B Q R : Nat} {cv nv ov : Value} {l : List Ins} {s : MS} {a b : Int} {w' : World} (m : Mach w F D B Q R cv nv ov l s a b) (hb : Below w.heap.size w w') : Mach w' F D B Q R cv nv ov l s a b :=
  m.keep (fun k hk => hb.block k (m.lt k hk)) hb.size
theorem Mach.drew {w : World} {F D : Nat → Prop} {B Q R : Nat} {cv nv ov : Value} {l : List Ins} {s : MS} {a b : Int} (m : Mach w F D B Q R cv nv ov l s a b) : Mach w.drew F D B Q R cv nv ov l s a b := m.keep (fun _ _ => rfl) (Nat.le_refl _)
theorem Mach.mac {w : World} {F D : Nat → Prop} {B Q R : Nat} {cv nv ov : Value} {l : List Ins} {s : MS} {a b : Int} (m : Mach w F D B Q R cv nv ov l s a b) : Mac w F B l s := ⟨_, _, _, _, _, _, _, _, m⟩
/-- The own block turns. -/
theorem Mach.turn {w : World} {F D : Nat → Prop} {B Q R : Nat} {cv nv ov : Value} {l : List Ins} {s : MS} {a b : Int} {s' : MS} {nv' : Value} {a' b' : Int} (m : Mach w F D B Q R cv nv ov l s a b) {o : Nat} {u : Value}
    (hc : (cellsOf cv nv ov Q s a b).set o u = cellsOf cv nv' ov Q s' a' b') (h1 : s'.mem = s.mem) (h2 : IntsAt D w nv' s'.inp) (h3 : s'.out = s.out) (h4 : s'.regs.length = 16) :
    Mach (w.setCell ⟨B, o, none⟩ u) F D B Q R cv nv' ov l s' a' b' := by
  have hk : ∀ k, k ≠ B → (w.setCell ⟨B, o, none⟩ u).heap[k]? = w.heap[k]? := fun k hk => Below.heap_setCell _ _ _ _ hk
  exact
  { m with
    obj := by rw [setCell_eq_setRow w B o _ _ _ _ m.obj, setRow_heap w B _ _ _ _ m.obj, ← hc]; simp
    mem := by rw [h1]; exact m.mem.on (hk _ (Ne.symm m.bq)) (hk _ (Ne.symm m.br))
    code := m.code.keep (fun k h => hk _ (m.fD k h).2.1)
    inp := h2.keep (fun k h => hk _ (m.fD k h).2.1)
    out := by rw [h3]; exact own_keep m.out (fun k h => hk _ (m.fO k h).2.1)
    lt := fun k h => by simpa [World.setCell] using m.lt k h
    r16 := h4 }
/-- The memory turns. -/
theorem Mach.touch {w : World} {F D : Nat → Prop} {B Q R : Nat} {cv nv ov : Value} {l : List Ins} {s : MS} {a b : Int} {w' : World} {t : St} (m : Mach w F D B Q R cv nv ov l s a b) (ht : Touch Q R w w') (hm : MemS w' Q R t) : Mach w' F D B Q R cv nv ov l { s with mem := t } a b :=
  { m with
    obj := (ht.block _ m.bq m.br).trans m.obj
    mem := hm
    code := m.code.keep (fun k h => ht.block _ (m.fD k h).2.2.1 (m.fD k h).2.2.2)
    inp := m.inp.keep (fun k h => ht.block _ (m.fD k h).2.2.1 (m.fD k h).2.2.2)
    out := own_keep m.out (fun k h => ht.block _ (m.fO k h).2.2.1 (m.fO k h).2.2.2.1)
    lt := fun k h => by rw [ht.size]; exact m.lt k h }

theorem Mach.cellAt {w : World} {F D : Nat → Prop} {B Q R : Nat} {cv nv ov : Value} {l : List Ins} {s : MS} {a b : Int} (m : Mach w F D B Q R cv nv ov l s a b) (o : Nat) : w.cell? ⟨B, o, none⟩ = (cellsOf cv nv ov Q s a b)[o]? := by simp [World.cell?, m.obj]
theorem Mach.c0 {w : World} {F D : Nat → Prop} {B Q R : Nat} {cv nv ov : Value} {l : List Ins} {s : MS} {a b : Int} (m : Mach w F D B Q R cv nv ov l s a b) : w.cell? ⟨B, 0, none⟩ = some cv := by rw [m.cellAt]; rfl
theorem Mach.c1 {w : World} {F D : Nat → Prop} {B Q R : Nat} {cv nv ov : Value} {l : List Ins} {s : MS} {a b : Int} (m : Mach w F D B Q R cv nv ov l s a b) : w.cell? ⟨B, 1, none⟩ = some (ptr Q) := by rw [m.cellAt]; rfl
theorem Mach.cr {w : World} {F D : Nat → Prop} {B Q R : Nat} {cv nv ov : Value} {l : List Ins} {s : MS} {a b : Int} (m : Mach w F D B Q R cv nv ov l s a b) (k : Nat) (hk : k < 16) : w.cell? ⟨B, 2 + k, none⟩ = some (iv (s.regs.getD k 0)) := by
  have := m.r16
  rw [m.cellAt, cellsOf, List.getElem?_append_right (by simp), List.getElem?_append_left (by simp; omega)]
  simp [show 2 + k - 2 = k by omega, show k < s.regs.length by omega]
theorem Mach.ct {w : World} {F D : Nat → Prop} {B Q R : Nat} {cv nv ov : Value} {l : List Ins} {s : MS} {a b : Int} (m : Mach w F D B Q R cv nv ov l s a b) (k : Nat) : w.cell? ⟨B, 18 + k, none⟩ = [iv s.place, nv, ov, iv a, iv b, iv s.err, iv s.code, .bool s.over][k]? := by
  have := m.r16
  rw [m.cellAt, cellsOf, List.getElem?_append_right (by simp; omega), List.getElem?_append_right (by simp; omega)]
  simp [this, show 18 + k - 2 - 16 = k by omega]
theorem Mach.cp {w : World} {F D : Nat → Prop} {B Q R : Nat} {cv nv ov : Value} {l : List Ins} {s : MS} {a b : Int} (m : Mach w F D B Q R cv nv ov l s a b) : w.cell? ⟨B, 18, none⟩ = some (iv s.place) := m.ct 0
theorem Mach.cn {w : World} {F D : Nat → Prop} {B Q R : Nat} {cv nv ov : Value} {l : List Ins} {s : MS} {a b : Int} (m : Mach w F D B Q R cv nv ov l s a b) : w.cell? ⟨B, 19, none⟩ = some nv := m.ct 1
theorem Mach.co {w : World} {F D : Nat → Prop} {B Q R : Nat} {cv nv ov : Value} {l : List Ins} {s : MS} {a b : Int} (m : Mach w F D B Q R cv nv ov l s a b) : w.cell? ⟨B, 20, none⟩ = some ov := m.ct 2
theorem Mach.cl {w : World} {F D : Nat → Prop} {B Q R : Nat} {cv nv ov : Value} {l : List Ins} {s : MS} {a b : Int} (m : Mach w F D B Q R cv nv ov l s a b) : w.cell? ⟨B, 21, none⟩ = some (iv a) := m.ct 3
theorem Mach.cs {w : World} {F D : Nat → Prop} {B Q R : Nat} {cv nv ov : Value} {l : List Ins} {s : MS} {a b : Int} (m : Mach w F D B Q R cv nv ov l s a b) : w.cell? ⟨B, 22, none⟩ = some (iv b) := m.ct 4
theorem Mach.ce {w : World} {F D : Nat → Prop} {B Q R : Nat} {cv nv ov : Value} {l : List Ins} {s : MS} {a b : Int} (m : Mach w F D B Q R cv nv ov l s a b) : w.cell? ⟨B, 23, none⟩ = some (iv s.err) := m.ct 5
theorem Mach.cc {w : World} {F D : Nat → Prop} {B Q R : Nat} {cv nv ov : Value} {l : List Ins} {s : MS} {a b : Int} (m : Mach w F D B Q R cv nv ov l s a b) : w.cell? ⟨B, 24, none⟩ = some (iv s.code) := m.ct 6
theorem Mach.cv_ {w : World} {F D : Nat → Prop} {B Q R : Nat} {cv nv ov : Value} {l : List Ins} {s : MS} {a b : Int} (m : Mach w F D B Q R cv nv ov l s a b) : w.cell? ⟨B, 25, none⟩ = some (.bool s.over) := m.ct 7
theorem Mach.fr {w : World} {F D : Nat → Prop} {B Q R : Nat} {cv nv ov : Value} {l : List Ins} {s : MS} {a b : Int} (m : Mach w F D B Q R cv nv ov l s a b) (o : Nat) : w.frozen? ⟨B, o, none⟩ = false := by simp [World.frozen?, m.obj]

theorem set_reg {cv nv ov : Value} {Q : Nat} {s : MS} {a b : Int} (h16 : s.regs.length = 16) (k : Nat) (hk : k < 16) (v : Int) : (cellsOf cv nv ov Q s a b).set (2 + k) (iv v) = cellsOf cv nv ov Q { s with regs := s.regs.set k v } a b := by
  unfold cellsOf
  rw [List.set_append_right _ _ (by simp), List.set_append_left _ _ (by simp; omega)]
  simp [show 2 + k - 2 = k by omega, List.map_set]
theorem set_tail {cv nv ov : Value} {Q : Nat} {s : MS} {a b : Int} (h16 : s.regs.length = 16) (k : Nat) (u : Value) : (cellsOf cv nv ov Q s a b).set (18 + k) u = [cv, ptr Q] ++ (s.regs.map iv ++ [iv s.place, nv, ov, iv a, iv b, iv s.err, iv s.code, .bool s.over].set k u) := by
  unfold cellsOf
  rw [List.set_append_right _ _ (by simp; omega), List.set_append_right _ _ (by simp; omega)]
  simp [h16, show 18 + k - 2 - 16 = k by omega]

theorem Mach.setReg {w : World} {F D : Nat → Prop} {B Q R : Nat} {cv nv ov : Value} {l : List Ins} {s : MS} {a b : Int} (m : Mach w F D B Q R cv nv ov l s a b) (k : Nat) (hk : k < 16) (v : Int) : Mach (w.setCell ⟨B, 2 + k, none⟩ (iv v)) F D B Q R cv nv ov l { s with regs := s.regs.set k v } a b :=
  m.turn (set_reg m.r16 k hk v) rfl m.inp rfl (by simp [m.r16])
theorem Mach.setPlace {w : World} {F D : Nat → Prop} {B Q R : Nat} {cv nv ov : Value} {l : List Ins} {s : MS} {a b : Int} (m : Mach w F D B Q R cv nv ov l s a b) (p : Int) : Mach (w.setCell ⟨B, 18, none⟩ (iv p)) F D B Q R cv nv ov l { s with place := p } a b :=
  m.turn (set_tail m.r16 0 _) rfl m.inp rfl m.r16
theorem Mach.setInp {w : World} {F D : Nat → Prop} {B Q R : Nat} {cv nv ov : Value} {l : List Ins} {s : MS} {a b : Int} (m : Mach w F D B Q R cv nv ov l s a b) (nv' : Value) (i : List Int) (h : IntsAt D w nv' i) : Mach (w.setCell ⟨B, 19, none⟩ nv') F D B Q R cv nv' ov l { s with inp := i } a b :=
  m.turn (set_tail m.r16 1 _) rfl h rfl m.r16
theorem Mach.setLd {w : World} {F D : Nat → Prop} {B Q R : Nat} {cv nv ov : Value} {l : List Ins} {s : MS} {a b : Int} (m : Mach w F D B Q R cv nv ov l s a b) (n : Int) : Mach (w.setCell ⟨B, 21, none⟩ (iv n)) F D B Q R cv nv ov l s n b :=
  m.turn (set_tail m.r16 3 _) rfl m.inp rfl m.r16
theorem Mach.setSt {w : World} {F D : Nat → Prop} {B Q R : Nat} {cv nv ov : Value} {l : List Ins} {s : MS} {a b : Int} (m : Mach w F D B Q R cv nv ov l s a b) (n : Int) : Mach (w.setCell ⟨B, 22, none⟩ (iv n)) F D B Q R cv nv ov l s a n :=
  m.turn (set_tail m.r16 4 _) rfl m.inp rfl m.r16
theorem Mach.setErr {w : World} {F D : Nat → Prop} {B Q R : Nat} {cv nv ov : Value} {l : List Ins} {s : MS} {a b : Int} (m : Mach w F D B Q R cv nv ov l s a b) (n : Int) : Mach (w.setCell ⟨B, 23, none⟩ (iv n)) F D B Q R cv nv ov l { s with err := n } a b :=
  m.turn (set_tail m.r16 5 _) rfl m.inp rfl m.r16
theorem Mach.setCode {w : World} {F D : Nat → Prop} {B Q R : Nat} {cv nv ov : Value} {l : List Ins} {s : MS} {a b : Int} (m : Mach w F D B Q R cv nv ov l s a b) (n : Int) : Mach (w.setCell ⟨B, 24, none⟩ (iv n)) F D B Q R cv nv ov l { s with code := n } a b :=
  m.turn (set_tail m.r16 6 _) rfl m.inp rfl m.r16
theorem Mach.setOver {w : World} {F D : Nat → Prop} {B Q R : Nat} {cv nv ov : Value} {l : List Ins} {s : MS} {a b : Int} (m : Mach w F D B Q R cv nv ov l s a b) : Mach (w.setCell ⟨B, 25, none⟩ (.bool true)) F D B Q R cv nv ov l { s with over := true } a b :=
  m.turn (set_tail m.r16 7 _) rfl m.inp rfl m.r16

end Go.Proofs.YtbfmadcppnfgpaaGreatDoor.Q
