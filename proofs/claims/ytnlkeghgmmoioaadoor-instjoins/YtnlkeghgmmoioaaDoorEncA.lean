/-
  EncodeAll of package inst (layer 2): its contract.
-/
import Derived.Test.YtnlkeghgmmoioaaDoorRange
import Derived.Laws.MakeOwn
import Derived.Deep.MidRow
import Derived.Deep.Upon
import Derived.Deep.OwnRows
namespace Go.Proofs.YtnlkeghgmmoioaaDoor
open Go.ChangeShapes Go.WideShapes Go.ChangeAt Go.RowKit Go.Shelf


attribute [local go_sem] Oper.semAt_some

/-- An instruction, as five numbers. -/
structure Ins where
  o : Int
  a : Int
  b : Int
  c : Int
  i : Int
abbrev Ins.right (x : Ins) : Bool := rightB x.o x.a x.b x.c x.i
abbrev Ins.enc (x : Ins) : List UInt8 := encL x.o x.a x.b x.c x.i
abbrev Ins.val (x : Ins) : Value := .agg #[.int .i64 x.o, .int .i64 x.a, .int .i64 x.b, .int .i64 x.c, .int .i64 x.i]
structure AtIns (W : World) (blk off : Nat) (x : Ins) : Prop where
  c0 : W.cell? ⟨blk, off, none⟩ = some (.int .i64 x.o)
  c1 : W.cell? ⟨blk, off + 1, none⟩ = some (.int .i64 x.a)
  c2 : W.cell? ⟨blk, off + 2, none⟩ = some (.int .i64 x.b)
  c3 : W.cell? ⟨blk, off + 3, none⟩ = some (.int .i64 x.c)
  c4 : W.cell? ⟨blk, off + 4, none⟩ = some (.int .i64 x.i)
theorem AtIns.below {W W' : World} {B blk off : Nat} {x : Ins} (h : AtIns W blk off x) (hb : Below B W W') (hlt : blk < B) : AtIns W' blk off x :=
  ⟨(hb.cell (p := ⟨blk, off, none⟩) hlt).trans h.c0, (hb.cell (p := ⟨blk, off + 1, none⟩) hlt).trans h.c1, (hb.cell (p := ⟨blk, off + 2, none⟩) hlt).trans h.c2, (hb.cell (p := ⟨blk, off + 3, none⟩) hlt).trans h.c3, (hb.cell (p := ⟨blk, off + 4, none⟩) hlt).trans h.c4⟩
def HasInsts (W : World) (blk off : Nat) (l : List Ins) : Prop := ∀ j (hj : j < l.length), AtIns W blk (off + j * 5) l[j]

theorem keeps_below {W W' : World} (h : Below W.heap.size W W') : KeepsOthers W W' := ⟨h.size, fun k _ hk _ => (h.block k (Array.getElem?_eq_some_iff.1 hk).1).trans hk⟩
theorem keeps_sets (b : Nat) : ∀ (vs : List Value) (o : Nat) (W : World), KeepsOthers W (W.setCells b o vs)
  | [], _, _ => KeepsOthers.refl _
  | v :: r, o, W => (KeepsOthers.setCell W ⟨b, o, none⟩ v).trans (keeps_sets b r (o + 1) _)
theorem below_put {B r : Nat} (W : World) (o : Obj) (h : B ≤ r) : Below B W (W.putObj r o) := ⟨rfl, rfl, rfl, by simp [World.putObj], fun k hk => World.putObj_heap_other (by omega)⟩

/-- How the worlds of EncodeAll's rounds stand. -/
structure EW (w : World) (av : Option Addr) (n cap : Nat) (l : List Ins) (k : Nat) (W : World) : Prop where
  below : Below w.heap.size w W
  sz : w.heap.size + 1 + 1 + 1 + 1 < W.heap.size
  b0 : W.cell? ⟨w.heap.size, 0, none⟩ = some (.slice av n cap)
  b1 : W.cell? ⟨w.heap.size + 1, 0, none⟩ = some (.slice none 0 0)
  f1 : W.frozen? ⟨w.heap.size + 1, 0, none⟩ = false
  b2 : W.cell? ⟨w.heap.size + 1 + 1, 0, none⟩ = some (.int .i64 0)
  f2 : W.frozen? ⟨w.heap.size + 1 + 1, 0, none⟩ = false
  row : ∀ j, j < n * 8 → (W.cell? ⟨w.heap.size + 1 + 1 + 1, j, none⟩).isSome = true
  frow : ∀ j, W.frozen? ⟨w.heap.size + 1 + 1 + 1, j, none⟩ = false
  done : HasBytes W (w.heap.size + 1 + 1 + 1) 0 ((l.take k).flatMap Ins.enc)
  right : ∀ x ∈ l.take k, x.right = true
theorem EW.on {w : World} {av : Option Addr} {n cap : Nat} {l : List Ins} {k : Nat} {W W' : World} (h : EW w av n cap l k W) (hb : Below (w.heap.size + 4) W W') : EW w av n cap l k W' where
  below := h.below.trans (hb.mono (by omega))
  sz := Nat.lt_of_lt_of_le h.sz hb.size
  b0 := (hb.cell (p := ⟨w.heap.size, 0, none⟩) (by show w.heap.size < _; omega)).trans h.b0
  b1 := (hb.cell (p := ⟨w.heap.size + 1, 0, none⟩) (by show w.heap.size + 1 < _; omega)).trans h.b1
  f1 := (hb.frozen (p := ⟨w.heap.size + 1, 0, none⟩) (by show w.heap.size + 1 < _; omega)).trans h.f1
  b2 := (hb.cell (p := ⟨w.heap.size + 1 + 1, 0, none⟩) (by show w.heap.size + 1 + 1 < _; omega)).trans h.b2
  f2 := (hb.frozen (p := ⟨w.heap.size + 1 + 1, 0, none⟩) (by show w.heap.size + 1 + 1 < _; omega)).trans h.f2
  row := fun j hj => by rw [hb.cell (p := ⟨w.heap.size + 1 + 1 + 1, j, none⟩) (by show w.heap.size + 1 + 1 + 1 < _; omega)]; exact h.row j hj
  frow := fun j => (hb.frozen (p := ⟨w.heap.size + 1 + 1 + 1, j, none⟩) (by show w.heap.size + 1 + 1 + 1 < _; omega)).trans (h.frow j)
  done := fun j hj => (hb.cell (p := ⟨w.heap.size + 1 + 1 + 1, 0 + j, none⟩) (by show w.heap.size + 1 + 1 + 1 < _; omega)).trans (h.done j hj)
  right := h.right

theorem enc_len (l : List Ins) : (l.flatMap Ins.enc).length = l.length * 8 := by
  induction l with
  | nil => rfl
  | cons x r ih => rw [List.flatMap_cons, List.length_append, ih, List.length_cons, encL_len]; omega
theorem take_snoc {α : Type} (l : List α) (k : Nat) (h : k < l.length) : l.take (k + 1) = l.take k ++ [l[k]] := by rw [List.take_succ_eq_append_getElem h]

theorem EW.step {w : World} {av : Option Addr} {n cap : Nat} {l : List Ins} {k : Nat} {W : World} (h : EW w av n cap l k W) (hn : l.length = n) (hk : k < n) (hr : (l[k]'(by omega)).right = true) (X : Obj) :
    EW w av n cap l (k + 1) ((W.setCells (w.heap.size + 1 + 1 + 1) (8 * k) ((encI (l[k]'(by omega)).o (l[k]'(by omega)).a (l[k]'(by omega)).b (l[k]'(by omega)).c (l[k]'(by omega)).i).map (Value.int .u8))).alloc X) := by
  have hsz := size_sets (w.heap.size + 1 + 1 + 1) ((encI (l[k]'(by omega)).o (l[k]'(by omega)).a (l[k]'(by omega)).b (l[k]'(by omega)).c (l[k]'(by omega)).i).map (Value.int .u8)) (8 * k) W
  have s := h.sz
  rw [encL_cells hr] at hsz ⊢
  generalize hvs : ((l[k]'(by omega)).enc.map fun x => Value.int .u8 (x.toNat : Int)) = vs at hsz ⊢
  have hvl : vs.length = 8 := by rw [← hvs, List.length_map]; rfl
  have oth : ∀ b o, b < w.heap.size + 1 + 1 + 1 → ((W.setCells (w.heap.size + 1 + 1 + 1) (8 * k) vs).alloc X).cell? ⟨b, o, none⟩ = W.cell? ⟨b, o, none⟩ := fun b o hb => by
    rw [World.cell?_alloc_lt (h := by show b < _; omega), World.cell?_setCells_out _ _ _ _ _ (fun e _ => by simp at e; omega)]
  have frz : ∀ b o, b < W.heap.size → ((W.setCells (w.heap.size + 1 + 1 + 1) (8 * k) vs).alloc X).frozen? ⟨b, o, none⟩ = W.frozen? ⟨b, o, none⟩ := fun b o hb => by
    rw [((Below.refl _ (W.setCells (w.heap.size + 1 + 1 + 1) (8 * k) vs)).alloc (Nat.le_refl _) X).frozen (p := ⟨b, o, none⟩) (by show b < _; omega), World.frozen?_setCells]
  refine ⟨?_, ?_, ?_, ?_, ?_, ?_, ?_, ?_, ?_, ?_, ?_⟩
  · exact (below_sets (by omega) _ _ _ h.below).alloc (by omega) _
  · rw [World.size_alloc]; omega
  · rw [oth _ _ (by omega)]; exact h.b0
  · rw [oth _ _ (by omega)]; exact h.b1
  · rw [frz _ _ (by omega)]; exact h.f1
  · rw [oth _ _ (by omega)]; exact h.b2
  · rw [frz _ _ (by omega)]; exact h.f2
  · intro j hj
    rw [World.cell?_alloc_lt (h := by show w.heap.size + 1 + 1 + 1 < _; omega)]
    exact World.isSome_setCells _ _ _ _ _ (h.row j hj)
  · intro j; rw [frz _ _ (by omega)]; exact h.frow j
  · intro j hj
    have hd := h.done
    rw [World.cell?_alloc_lt (h := by show w.heap.size + 1 + 1 + 1 < _; omega)]
    have e1 : (l.take (k + 1)).flatMap Ins.enc = (l.take k).flatMap Ins.enc ++ (l[k]'(by omega)).enc := by rw [take_snoc l k (by omega), List.flatMap_append, List.flatMap_singleton]
    have e2 : ((l.take k).flatMap Ins.enc).length = 8 * k := by rw [enc_len, List.length_take]; omega
    have hj2 : j < 8 * k + 8 := by rw [e1, List.length_append, e2] at hj; exact hj
    simp only [e1]
    by_cases hlt : j < 8 * k
    · rw [World.cell?_setCells_out _ _ _ _ _ (fun _ _ => .inl (by show 0 + j < _; omega)), hd j (by omega), List.getElem_append_left (by omega)]
    · obtain ⟨q, rfl⟩ : ∃ q, j = 8 * k + q := ⟨j - 8 * k, by omega⟩
      rw [show 0 + (8 * k + q) = 8 * k + q by omega, World.cell?_setCells_in _ vs _ W (fun i hi => h.row _ (by omega)) q (by omega), List.getElem_append_right (by omega)]
      subst hvs
      simp [e2]
  · intro x hx
    rw [take_snoc l k (by omega), List.mem_append, List.mem_singleton] at hx
    rcases hx with hx | rfl
    · exact h.right x hx
    · exact hr

/-- What EncodeAll leaves where an instruction is not right. -/
structure EX (w : World) (l : List Ins) (W : World) : Prop where
  below : Below w.heap.size w W
  b1 : W.cell? ⟨w.heap.size + 1, 0, none⟩ = some (.slice none 0 0)
  b2 : W.cell? ⟨w.heap.size + 1 + 1, 0, none⟩ = some (.int .i64 1)
  no : ∃ x ∈ l, x.right = false
theorem EX.on {w : World} {l : List Ins} {W W' : World} (h : EX w l W) (hb : Below (w.heap.size + 4) W W') : EX w l W' where
  below := h.below.trans (hb.mono (by omega))
  b1 := (hb.cell (p := ⟨w.heap.size + 1, 0, none⟩) (by show w.heap.size + 1 < _; omega)).trans h.b1
  b2 := (hb.cell (p := ⟨w.heap.size + 1 + 1, 0, none⟩) (by show w.heap.size + 1 + 1 < _; omega)).trans h.b2
  no := h.no

theorem info5 : ∃ i, Tryd.prog.info? 5 = some i ∧ i.zero = some (.int .u8 0) ∧ i.bytes = 1 ∧ i.size = 1 := ⟨_, rfl, rfl, rfl, rfl⟩
theorem make_bytes (n : Nat) (hn : n ≤ 1048576) (w : World) : (Instr.makeSlice 25 (.int .i64 ((n : Int) * 8)) (.int .i64 ((n : Int) * 8))).run Tryd.prog w = .ok (.slice (some ⟨w.heap.size, 0, none⟩) (n * 8) (n * 8)) (w.alloc (.cells (madeCells #[.int .u8 0] (n * 8)) 5)) := by
  obtain ⟨i, h1, h2, h3, h4⟩ := info5
  have := run_make (P := Tryd.prog) (w := w) 25 5 i (.int .u8 0) Tryd.underlying25 h1 h2 .i64 .i64 ((n : Int) * 8) ((n : Int) * 8) (by omega) (by omega) (by rw [h3]; omega) (by omega)
  rw [h4, show ((n : Int) * 8).toNat = n * 8 by omega, Nat.mul_one] at this
  exact this

theorem ew_start (w : World) (av : Option Addr) (n cap : Nat) (l : List Ins) (X : Obj) : EW w av n cap l 0 (((((w.alloc (.cells #[.slice av n cap] 38)).alloc (.cells #[.slice none 0 0] 25)).alloc (.cells #[.int .i64 0] 26)).alloc (.cells (madeCells #[.int .u8 0] (n * 8)) 5)).alloc X) := by
  have hr := World.rowIs_made (((w.alloc (.cells #[.slice av n cap] 38)).alloc (.cells #[.slice none 0 0] 25)).alloc (.cells #[.int .i64 0] 26)) (.int .u8 0) (n * 8) 5
  have hr2 := hr.alloc X
  have e : (((w.alloc (.cells #[.slice av n cap] 38)).alloc (.cells #[.slice none 0 0] 25)).alloc (.cells #[.int .i64 0] 26)).heap.size = w.heap.size + 1 + 1 + 1 := by simp
  rw [e] at hr2
  refine ⟨?_, by simp, ?_, ?_, ?_, ?_, ?_, fun j hj => by rw [hr2.cell hj]; rfl, fun j => hr2.frozen j, fun j hj => absurd hj (by simp), by simp⟩
  · exact (((((Below.refl _ w).alloc (Nat.le_refl _) _).alloc (by simp) _).alloc (by simp; omega) _).alloc (by simp; omega) _).alloc (by simp; omega) _
  · go_simp
  · go_simp
  · go_simp
  · go_simp
  · go_simp

end Go.Proofs.YtnlkeghgmmoioaaDoor
