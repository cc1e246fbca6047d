/-
  The keys of a map of labels, sorted (layer 5): what slices.Sorted of maps.Keys answers here.
-/
import Derived.Test.YtbfmadcppnfgpaaGreatDoorCode
import Derived.Test.YtbfmadcppnfgpaaGreatDoorShelf
import Derived.Deep.AppendLies
namespace Go.Proofs.YtbfmadcppnfgpaaGreatDoor
open Go.ChangeShapes Go.WideShapes Go.ChangeAt Go.RowKit Go.Shelf Go.Maps Go.Sort

theorem sortsA (m : Nat) : AnyZI.SortsIn Tryz.prog Tryz.sortedA_ren Fence.wide m :=
  ⟨fun blk off cap ss W hH hblk hsz => callsIn_wide.2 (Tryz.slices_Sort_int blk off cap ss W hH hblk hsz),
   fun p cap W => callsIn_wide.2 (Tryz.slices_Sort_int_none p cap W)⟩

/-- Numbers, rising. -/
def rising (l : List Int) : List Int := l.mergeSort fun x y => decide (x ≤ y)
theorem rising_len (l : List Int) : (rising l).length = l.length := List.length_mergeSort _
theorem rising_mem (l : List Int) (a : Int) : a ∈ rising l ↔ a ∈ l := List.mem_mergeSort

theorem keysOf_any (mb : Nat) (W : World) : Calls Tryz.prog 29 #[.map (some mb)] W fun e w' => e = .returned (.func (.func 42) #[] #[.pointer (some ⟨W.heap.size, 0, none⟩)]) ∧ w' = W.alloc (.cells #[.map (some mb)] 64) :=
  (callsIn_wide (n := 5)).1 (AnyZI.keys_in Tryz.keysA Fence.wide 5 trivial rfl (some mb) W)

set_option maxHeartbeats 1000000 in
theorem sorted_any (mb : Nat) (es : List (Int × Int)) (w : World) (hm : LabMap w mb es) (hle : es.length ≤ 1000000) :
    Calls Tryz.prog 28 #[.func (.func 42) #[] #[.pointer (some ⟨w.heap.size, 0, none⟩)]] (w.alloc (.cells #[.map (some mb)] 64)) fun e w' => ∃ v : Value, e = .returned v ∧
      w'.ownsRow (w.heap.size + 1) 3 1 v es.length ((rising (es.map Prod.fst)).map encZ) ∧ Below (w.heap.size + 1) (w.alloc (.cells #[.map (some mb)] 64)) w' := by
  obtain ⟨D0, hown, hh, _, hs, hnd⟩ := hm
  have hbl := hown.lt
  have hseq : SeqGives Fence.wide 2 Tryz.prog 42 #[.pointer (some ⟨w.heap.size, 0, none⟩)] encZ (fun ss => ss.Perm (intKeys D0)) (Maps.size D0) (w.alloc (.cells #[.map (some mb)] 64)) :=
    AnyZI.keys_gives (ρ := Tryz.keysA_ren) { Tryz.keysA with } Fence.wide _ trivial rfl (by omega) w.heap.size mb es.length D0 _ (by simp) (by simp) (by
      obtain ⟨es', clock, hb, Ft, hs', hD⟩ := hown
      exact ⟨es', clock, (Below.heap_alloc _ _ mb hbl).trans hb, Ft, hs', hD⟩)
  have cS := AnyZI.sorted_in Tryz.sortedA Fence.wide 5 trivial trivial trivial trivial rfl (by omega) (sortsA _) (enters_of Tryz.func41 (by kernel_rfl) rfl) 42 #[.pointer (some ⟨w.heap.size, 0, none⟩)] trivial (enters_of Tryz.func42 (by kernel_rfl) rfl) _ _ (by rw [hs]; unfold maxLen; omega) (by rw [hs]; omega) _ hseq
  change CallsIn _ _ Tryz.prog 28 _ _ _ at cS
  have hc : (es.map Prod.fst).Perm (intKeys D0) := CollectedI.perm (left := fun _ => false) ⟨hnd, fun x => by rw [hh]; simp⟩ hown law3 Tryz.underlying3 (fun _ => rfl)
  refine ((callsIn_wide (n := 5)).1 cS).mono ?_
  rintro e w' ⟨v, ss, rfl, hS, hrow, _, hb⟩
  have hp := hS.trans hc.symm
  refine ⟨v, rfl, ?_, ?_⟩
  · rw [hp.length_eq, List.length_map] at hrow
    have e1 : ss.mergeSort (fun x y => decide (x ≤ y)) = rising (es.map Prod.fst) := mergeSort_of_perm_i hp
    rw [e1, World.size_alloc] at hrow
    exact hrow
  · rw [World.size_alloc] at hb; exact hb

/-- Pairs that lie in a block, one behind the other. -/
abbrev pcells (p : Int × Int) : List Value := [.int .i64 p.1, .int .i64 p.2]
theorem pflat_len (l : List (Int × Int)) : (l.flatMap pcells).length = l.length * 2 := by
  induction l with
  | nil => rfl
  | cons x r ih => rw [List.flatMap_cons, List.length_append, ih, List.length_cons]; simp; omega
theorem pflat_get : ∀ (l : List (Int × Int)) (j f : Nat) (hj : j < l.length), f < 2 → (l.flatMap pcells)[j * 2 + f]? = (pcells l[j])[f]?
  | x :: r, 0, f, _, hf => by rw [List.flatMap_cons, List.getElem?_append_left (by simp; omega)]; simp
  | x :: r, j + 1, f, hj, hf => by
    rw [List.flatMap_cons, List.getElem?_append_right (by simp; omega)]
    have := pflat_get r j f (by simpa using hj) hf
    rw [show (j + 1) * 2 + f - (pcells x).length = j * 2 + f by simp; omega, this]; rfl
def HasPairs (W : World) (g : Nat) (l : List (Int × Int)) : Prop := ∀ j (h : j < l.length), W.cell? ⟨g, j * 2, none⟩ = some (.int .i64 (l[j]'h).1) ∧ W.cell? ⟨g, j * 2 + 1, none⟩ = some (.int .i64 (l[j]'h).2)
theorem owns_pairs {w : World} {base g cap : Nat} {l : List (Int × Int)} (h : w.ownsRow base 49 2 (.slice (some ⟨g, 0, none⟩) l.length cap) l.length (l.flatMap pcells)) : HasPairs w g l := by
  intro j hj
  have key : ∀ f, f < 2 → w.cell? ⟨g, j * 2 + f, none⟩ = (pcells l[j])[f]? := fun f hf => by
    rw [← pflat_get l j f hj hf, ← h.cellAt (j * 2 + f) (by omega)]
  exact ⟨key 0 (by decide), key 1 (by decide)⟩
theorem typ46 : (Tryz.prog.info? 49).map (fun i => (i.zero, i.size, i.bytes)) = some (some (.agg #[.int .i64 0, .int .i64 0]), 2, 16) := by kernel_rfl
/-- One pair more: the old row, or a new block. -/
theorem append_pair (w : World) (ty : TypeId) (base : Nat) (g n cp : Nat) (xs : List Value) (hown : w.ownsRow base 49 2 (.slice (some ⟨g, 0, none⟩) n cp) n xs) (B c : Nat) (p : Int × Int) (h0 : w.cell? ⟨B, 0, none⟩ = some (.int .i64 p.1)) (h1 : w.cell? ⟨B, 1, none⟩ = some (.int .i64 p.2)) (hbd : n + 1 ≤ 100000000) (hbase : base ≤ w.heap.size) :
    ∃ g' cap w', (Builtin.append_ #[45, 45] ty #[.slice (some ⟨g, 0, none⟩) n cp, .slice (some ⟨B, 0, none⟩) 1 c]).run Tryz.prog w = .ok (.slice (some ⟨g', 0, none⟩) (n + 1) cap) w' ∧
      w'.ownsRow base 49 2 (.slice (some ⟨g', 0, none⟩) (n + 1) cap) (n + 1) (xs ++ pcells p) ∧ w.grownBy w' (some g) ∧ (g' = g ∨ g' = w.heap.size) ∧ g' < w'.heap.size := by
  obtain ⟨i, hi, hz, hs, hb⟩ := info_parts typ46
  obtain ⟨g', cap, w', hr, h1, h2, h3, h4⟩ := run_append_lies (P := Tryz.prog) w 45 ty base 49 i _ 2 16 Tryz.underlying45 hi hz hs hb rfl (by decide) (.slice (some ⟨g, 0, none⟩) n cp) n xs hown ⟨B, 0, none⟩ 1 c (pcells p) rfl
    (fun j u hu => by
      rw [Addr.add_mid, Nat.zero_add]
      match j, hu with
      | 0, hu => exact h0.trans hu
      | 1, hu => exact h1.trans hu)
    (fun u hu => by simp at hu; rcases hu with rfl | rfl <;> rfl) (by decide) (by unfold maxLen; omega) (by omega) hbase _ rfl
  refine ⟨g', cap, w', hr, h1, h2, ?_, h4⟩
  rcases h3 with h3 | h3
  · left; simpa [Value.ownBlock, eq_comm] using h3
  · exact .inr h3
set_option maxRecDepth 100000 in
theorem make_pairs (n : Nat) (hn : n ≤ 100000000) (w : World) : (Instr.makeSlice 45 (.int .i64 0) (.int .i64 (n : Int))).run Tryz.prog w = .ok (.slice (some ⟨w.heap.size, 0, none⟩) 0 n) (w.alloc (.cells (madeCells #[.int .i64 0, .int .i64 0] (n * 2)) 49)) := by
  obtain ⟨i, h1, h2, h4, h3⟩ := info_parts typ46
  have := run_make (P := Tryz.prog) (w := w) 45 49 i _ Tryz.underlying45 h1 h2 .i64 .i64 0 (n : Int) (by omega) (by omega) (by rw [h3]; omega) (by omega)
  rw [h4, show ((n : Int)).toNat = n by omega] at this
  exact this

theorem wpList_append_run {P : Program} {ops : Array Oper} {rest : List Oper} {o : Oper} {a : Act} {Q : Exit → Act → World → Prop} {w w' : World} (hg : o.guard = none) (s x : Operand) (t : TypeId)
    (hop : o.op = Op.call { callee := Callee.builtin Builtin.append, args := #[s, x], argTypes := #[t, t] }) {v y r : Value} (hs : a.eval s = v) (hx : a.eval x = y) (hr : (Builtin.append_ #[t, t] o.type #[v, y]).run P w = .ok r w')
    (h : wpList P ops Q rest (a.put o.dst r) w') : wpList P ops Q (o :: rest) a w := by
  refine wpList_plain hg fun K hK' => ?_
  unfold Oper.wp
  simp [execOp, hop, resolve, invoke, builtin, hs, hx, hr, Result.andThen]
  exact hK' _ _ h
theorem wpListIn_append_run {F : Fence} {n : Nat} {P : Program} {ops : Array Oper} {rest : List Oper} {o : Oper} {a : Act} {Q : Exit → Act → World → Prop} {w w' : World} (hg : o.guard = none) (s x : Operand) (t : TypeId)
    (hop : o.op = Op.call { callee := Callee.builtin Builtin.append, args := #[s, x], argTypes := #[t, t] }) {v y r : Value} (hs : a.eval s = v) (hx : a.eval x = y) (hr : (Builtin.append_ #[t, t] o.type #[v, y]).run P w = .ok r w')
    (h : wpListIn F n P ops Q rest (a.put o.dst r) w') : wpListIn F n P ops Q (o :: rest) a w := by
  refine wpListIn_plain hg fun K hK' => ?_
  unfold Oper.wpIn
  refine ⟨?_, ?_⟩
  · simp [Oper.about, hop, resolve, Target.leads, Sem.run_pure]
  · rw [Oper.semAt_plain F _ _ (by rw [hop]; intro c hc'; cases hc')]
    simp [execOp, hop, resolve, invoke, builtin, hs, hx, hr, Result.andThen]
    exact hK' _ _ h

end Go.Proofs.YtbfmadcppnfgpaaGreatDoor
