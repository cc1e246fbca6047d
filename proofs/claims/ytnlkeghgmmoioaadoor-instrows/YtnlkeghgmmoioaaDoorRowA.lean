/-
  Rows of instructions (layer 2): how they lie, how they grow, whether two are alike.
-/
import Derived.Test.YtnlkeghgmmoioaaDoorRefI
import Derived.Test.YtnlkeghgmmoioaaDoorDecode
import Derived.Test.YtnlkeghgmmoioaaDoorEql
import Derived.Test.YtnlkeghgmmoioaaDoorInts
import Derived.RangeFuncBox
namespace Go.Proofs.YtnlkeghgmmoioaaDoor
open Go.ChangeShapes Go.WideShapes Go.ChangeAt Go.RowKit

/-- A slice of instructions that holds just these. -/
def IsRow (W : World) (v : Value) (l : List Ins) : Prop := ∃ av cap, v = .slice av l.length cap ∧ (0 < l.length → ∃ blk off, av = some ⟨blk, off, none⟩ ∧ blk < W.heap.size ∧ HasInsts W blk off l)
theorem IsRow.later {W W' : World} {v : Value} {l : List Ins} (h : IsRow W v l) (hb : Below W.heap.size W W') : IsRow W' v l := by
  obtain ⟨av, cap, rfl, h⟩ := h
  refine ⟨av, cap, rfl, fun h0 => ?_⟩
  obtain ⟨blk, off, rfl, h1, h2⟩ := h h0
  exact ⟨blk, off, rfl, Nat.lt_of_lt_of_le h1 hb.size, fun j hj => (h2 j hj).below hb h1⟩

abbrev Ins.cells (x : Ins) : List Value := [.int .i64 x.o, .int .i64 x.a, .int .i64 x.b, .int .i64 x.c, .int .i64 x.i]
theorem flat_len (l : List Ins) : (l.flatMap Ins.cells).length = l.length * 5 := by
  induction l with
  | nil => rfl
  | cons x r ih => rw [List.flatMap_cons, List.length_append, ih, List.length_cons]; simp; omega
theorem flat_get : ∀ (l : List Ins) (j f : Nat) (hj : j < l.length), f < 5 → (l.flatMap Ins.cells)[j * 5 + f]? = l[j].cells[f]?
  | x :: r, 0, f, _, hf => by rw [List.flatMap_cons, List.getElem?_append_left (by simp; omega)]; simp
  | x :: r, j + 1, f, hj, hf => by
    rw [List.flatMap_cons, List.getElem?_append_right (by simp; omega)]
    have := flat_get r j f (by simpa using hj) hf
    rw [show (j + 1) * 5 + f - x.cells.length = j * 5 + f by simp; omega, this]; rfl
theorem typ23 : (Tryd.prog.info? 23).map (fun i => (i.zero, i.size, i.bytes)) = some (some (.agg #[.int .i64 0, .int .i64 0, .int .i64 0, .int .i64 0, .int .i64 0]), 5, 40) := by kernel_rfl

theorem owns_insts {w : World} {base g cap : Nat} {l : List Ins} (h : w.ownsRow base 23 5 (.slice (some ⟨g, 0, none⟩) l.length cap) l.length (l.flatMap Ins.cells)) : HasInsts w g 0 l := by
  intro j hj
  have key : ∀ f, f < 5 → w.cell? ⟨g, 0 + j * 5 + f, none⟩ = l[j].cells[f]? := fun f hf => by
    rw [← flat_get l j f hj hf, ← h.cellAt (j * 5 + f) (by omega), Nat.zero_add]
  exact ⟨key 0 (by decide), key 1 (by decide), key 2 (by decide), key 3 (by decide), key 4 (by decide)⟩

/-- One instruction more: the old row, or a new block. -/
theorem append_ins (w : World) (ty : TypeId) (base : Nat) (g n cp : Nat) (xs : List Value) (hown : w.ownsRow base 23 5 (.slice (some ⟨g, 0, none⟩) n cp) n xs) (B c : Nat) (x : Ins) (hB : AtIns w B 0 x) (hbd : n + 1 ≤ 100000000) (hbase : base ≤ w.heap.size) :
    ∃ g' cap w', (Builtin.append_ #[38, 38] ty #[.slice (some ⟨g, 0, none⟩) n cp, .slice (some ⟨B, 0, none⟩) 1 c]).run Tryd.prog w = .ok (.slice (some ⟨g', 0, none⟩) (n + 1) cap) w' ∧
      w'.ownsRow base 23 5 (.slice (some ⟨g', 0, none⟩) (n + 1) cap) (n + 1) (xs ++ x.cells) ∧ w.grownBy w' (some g) ∧ (g' = g ∨ g' = w.heap.size) ∧ g' < w'.heap.size := by
  obtain ⟨i, hi, hz, hs, hb⟩ := info_parts typ23
  obtain ⟨g', cap, w', hr, h1, h2, h3, h4⟩ := run_append_lies (P := Tryd.prog) w 38 ty base 23 i _ 5 40 Tryd.underlying38 hi hz hs hb rfl (by decide) (.slice (some ⟨g, 0, none⟩) n cp) n xs hown ⟨B, 0, none⟩ 1 c x.cells rfl
    (fun j u hu => by
      rw [Addr.add_mid, Nat.zero_add]
      match j, hu with
      | 0, hu => exact hB.c0.trans hu
      | 1, hu => exact hB.c1.trans hu
      | 2, hu => exact hB.c2.trans hu
      | 3, hu => exact hB.c3.trans hu
      | 4, hu => exact hB.c4.trans hu)
    (fun u hu => by simp at hu; rcases hu with rfl | rfl | rfl | rfl | rfl <;> rfl) (by decide) (by unfold maxLen; omega) (by omega) hbase _ rfl
  refine ⟨g', cap, w', hr, h1, h2, ?_, h4⟩
  rcases h3 with h3 | h3
  · left; simpa [Value.ownBlock, eq_comm] using h3
  · exact .inr h3
/-- The first of all. -/
theorem append_first (w : World) (ty : TypeId) (base : Nat) (B c : Nat) (x : Ins) (hB : AtIns w B 0 x) (hbase : base ≤ w.heap.size) :
    ∃ g' cap w', (Builtin.append_ #[38, 38] ty #[.slice none 0 0, .slice (some ⟨B, 0, none⟩) 1 c]).run Tryd.prog w = .ok (.slice (some ⟨g', 0, none⟩) 1 cap) w' ∧
      w'.ownsRow base 23 5 (.slice (some ⟨g', 0, none⟩) 1 cap) 1 x.cells ∧ w.grownBy w' none ∧ g' = w.heap.size ∧ g' < w'.heap.size := by
  obtain ⟨i, hi, hz, hs, hb⟩ := info_parts typ23
  obtain ⟨g', cap, w', hr, h1, h2, h3, h4⟩ := run_append_lies (P := Tryd.prog) w 38 ty base 23 i _ 5 40 Tryd.underlying38 hi hz hs hb rfl (by decide) (.slice none 0 0) 0 [] (World.ownsRow_nil _ _ _ _) ⟨B, 0, none⟩ 1 c x.cells rfl
    (fun j u hu => by
      rw [Addr.add_mid, Nat.zero_add]
      match j, hu with
      | 0, hu => exact hB.c0.trans hu
      | 1, hu => exact hB.c1.trans hu
      | 2, hu => exact hB.c2.trans hu
      | 3, hu => exact hB.c3.trans hu
      | 4, hu => exact hB.c4.trans hu)
    (fun u hu => by simp at hu; rcases hu with rfl | rfl | rfl | rfl | rfl <;> rfl) (by decide) (by decide) (by decide) hbase _ rfl
  refine ⟨g', cap, w', hr, h1, h2, ?_, h4⟩
  rcases h3 with h3 | h3
  · simp [Value.ownBlock] at h3
  · exact h3

theorem neq_same (o a b c i : Int) (w : World) : (binOp .neq 23 (.agg #[.int .i64 o, .int .i64 a, .int .i64 b, .int .i64 c, .int .i64 i]) (.agg #[.int .i64 o, .int .i64 a, .int .i64 b, .int .i64 c, .int .i64 i])).run Tryd.prog w = .ok (.bool false) w := by
  go_simp

set_option maxRecDepth 100000 in
set_option maxHeartbeats 1000000 in
theorem same_rows {W : World} {v1 v2 : Value} {l : List Ins} (hl : l.length ≤ 100000000) (h1 : IsRow W v1 l) (h2 : IsRow W v2 l) :
    Calls Tryd.prog 27 #[v1, v2] W fun e w' => e = .returned (.bool true) ∧ Below W.heap.size W w' := by
  obtain ⟨av1, c1, rfl, h1⟩ := h1
  obtain ⟨av2, c2, rfl, h2⟩ := h2
  have H1 : Hid (0 < l.length → ∃ blk off, av1 = some ⟨blk, off, none⟩ ∧ blk < W.heap.size ∧ HasInsts W blk off l) := h1
  have H2 : Hid (0 < l.length → ∃ blk off, av2 = some ⟨blk, off, none⟩ ∧ blk < W.heap.size ∧ HasInsts W blk off l) := h2
  clear h1 h2
  generalize hn : l.length = n at hl H1 H2
  have HN : Hid (l.length = n) := hn
  clear hn
  go_enter Tryd.func27, Tryd.ntmps27
  go_wp2
  go_loopw [5] (fun i wr => ∃ k q : Nat, k ≤ n ∧ i = .int .i64 k ∧ wr = W.drewN q) (fun i _ => n - (intOf i).toNat)
  case atStart => exact ⟨0, 0, Nat.zero_le _, rfl, rfl⟩
  case round =>
    obtain ⟨k, q, hk, rfl, rfl⟩ := hrel
    by_cases hlt : k < n
    · obtain ⟨b1, o1, rfl, _, i1⟩ := H1.out (by omega)
      obtain ⟨b2, o2, rfl, _, i2⟩ := H2.out (by omega)
      have hn := HN.out
      obtain ⟨p0, p1, p2, p3, p4⟩ := i1 k (by omega)
      obtain ⟨q0, q1, q2, q3, q4⟩ := i2 k (by omega)
      generalize l[k]'(by omega) = x at p0 p1 p2 p3 p4 q0 q1 q2 q3 q4
      clear i1 i2 hn
      have hx := neq_same x.o x.a x.b x.c x.i
      go_wp2
      go_quiet (fail)
      go_wp2
      go_roundw
      case rel => exact ⟨k + 1, q + nq, by omega, by go_num, rfl⟩
      case measure => simp [intOf]; omega
    · go_wp2
      go_ret
      exact ⟨rfl, below_drewN (Below.refl _ _) q⟩

end Go.Proofs.YtnlkeghgmmoioaaDoor
