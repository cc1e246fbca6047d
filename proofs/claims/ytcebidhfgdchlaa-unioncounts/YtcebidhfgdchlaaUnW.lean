/-
  Sets in memory (layer 8): how they lie; contracts of New, place, top, Len.
-/
import Derived.Test.YtcebidhfgdchlaaBas
import Derived.Test.YtcebidhfgdchlaaUnJ
import Derived.Laws.OwnMore
import Derived.Deep.AppendLies
import Derived.Deep.AppendSrc
import Derived.Deep.MidRow
import Derived.RegionTactic
import Derived.Maps.OwnIn
import Derived.Maps.Views
import Derived.Lib.SlKeysI
namespace Go.Proofs.Ytcebidhfgdchlaa
open Go.ChangeShapes Go.WideShapes Go.ChangeAt Go.RowKit Go.Shelf Go.Maps

attribute [local go_sem] Oper.semAt_some

theorem owns_below {w w' : World} {base : Nat} {e : TypeId} {size : Nat} {v : Value} {n : Nat} {xs : List Value} (h : w.ownsRow base e size v n xs) (hb : Below w.heap.size w w') : w'.ownsRow base e size v n xs :=
  h.kept (row := none) ⟨hb.os, hb.tape, hb.output, hb.size, fun k hk _ => hb.block k hk⟩ (by cases v.ownBlock <;> simp)
theorem owns_shape {w : World} {base : Nat} {e : TypeId} {size : Nat} {v : Value} {n : Nat} {xs : List Value} (h : w.ownsRow base e size v n xs) : ∃ av cap, v = .slice av n cap ∧ n ≤ cap := by
  rcases h.2 with ⟨rfl, rfl⟩ | ⟨g, cap, cur, rfl, _, _, h1, _, _⟩
  · exact ⟨none, 0, rfl, Nat.le_refl _⟩
  · exact ⟨_, cap, rfl, h1⟩
/-- A row stays where other blocks turn. -/
theorem owns_turns {w w' : World} {Q : Nat → Prop} {base : Nat} {e : TypeId} {size : Nat} {v : Value} {n : Nat} {xs : List Value} (h : w.ownsRow base e size v n xs) (ht : Turns Q w w') (hq : ∀ b, v.ownBlock = some b → ¬ Q b) : w'.ownsRow base e size v n xs := by
  refine ⟨h.1, ?_⟩
  rcases h.2 with h2 | ⟨g, cap, cur, rfl, h3, h4, h5⟩
  · exact .inl h2
  · exact .inr ⟨g, cap, cur, rfl, h3, (ht.block g (lt_of h4) (hq g rfl)).trans h4, h5⟩
theorem wpList_append_run {P : Program} {ops : Array Oper} {rest : List Oper} {o : Oper} {a : Act} {Q : Exit → Act → World → Prop} {w w' : World} (hg : o.guard = none) (s x : Operand) (t : TypeId)
    (hop : o.op = Op.call { callee := Callee.builtin Builtin.append, args := #[s, x], argTypes := #[t, t] }) {v y r : Value} (hs : a.eval s = v) (hx : a.eval x = y) (hr : (Builtin.append_ #[t, t] o.type #[v, y]).run P w = .ok r w')
    (h : wpList P ops Q rest (a.put o.dst r) w') : wpList P ops Q (o :: rest) a w := by
  refine wpList_plain hg fun K hK' => ?_
  unfold Oper.wp
  simp [execOp, hop, resolve, invoke, builtin, hs, hx, hr, Result.andThen]
  exact hK' _ _ h
theorem wpListIn_append_run {F : Fence} {n : Nat} {P : Program} {ops : Array Oper} {rest : List Oper} {o : Oper} {a : Act} {Q : Exit → Act → World → Prop} {w w' : World} (hg : o.guard = none) (s x : Operand) (t : TypeId)
    (hop : o.op = Op.call { callee := Callee.builtin Builtin.append, args := #[s, x], argTypes := #[t, t] }) {v y r : Value} (hs : a.eval s = v) (hx : a.eval x = y) (hr : (Builtin.append_ #[t, t] o.type #[v, y]).run P w = .ok r w')
    (h : wpListIn F n P ops Q rest (a.put o.dst r) w') : wpListIn F n P ops Q (o :: rest) a w := by
  refine wpListIn_plain hg fun K hK' => ?_
  unfold Oper.wpIn
  refine ⟨?_, ?_⟩
  · simp [Oper.about, hop, resolve, Target.leads, Sem.run_pure]
  · rw [Oper.semAt_plain F _ _ (by rw [hop]; intro c hc'; cases hc')]
    simp [execOp, hop, resolve, invoke, builtin, hs, hx, hr, Result.andThen]
    exact hK' _ _ h


theorem law3 : Keyed Try.prog 3 := int_keyed Try.underlying3
theorem zero3 (w : World) : (zeroValue 3).run Try.prog w = .ok (.int .i64 0) w := by kernel_rfl
/-- A number that the language holds. -/
abbrev Fits (n : Int) : Prop := -9223372036854775808 ≤ n ∧ n ≤ 9223372036854775807
theorem Fits.wf {n : Int} (h : Fits n) : (Lit.int .i64 n).wf = true := WalkArith.wf_i64 (by have := h.1; have := h.2; omega)
/-- A thing's five cells. -/
abbrev tcells (x : Th) : List Value := [.int .i64 x.key, .int .i64 (x.above : Int), .int .i64 (x.next : Int), .int .i64 (x.size : Int), .int .i64 x.least]
theorem flat_len (l : List Th) : (l.flatMap tcells).length = l.length * 5 := by
  induction l with
  | nil => rfl
  | cons x r ih => rw [List.flatMap_cons, List.length_append, ih, List.length_cons]; simp; omega
theorem flat_get : ∀ (l : List Th) (j f : Nat), j < l.length → f < 5 → (l.flatMap tcells)[j * 5 + f]? = (tcells (at_ l j))[f]?
  | x :: r, 0, f, _, hf => by rw [List.flatMap_cons, List.getElem?_append_left (by simp; omega)]; simp
  | x :: r, j + 1, f, hj, hf => by
    rw [List.flatMap_cons, List.getElem?_append_right (by simp; omega)]
    have := flat_get r j f (by simpa using hj) hf
    rw [show (j + 1) * 5 + f - (tcells x).length = j * 5 + f by simp; omega, this]; simp
/-- The map of the places. -/
def PlMap (W : World) (mb : Nat) (st : List Th) : Prop := ∃ D : DataW Unit, W.ownsMap Try.prog 3 (plainElem Try.prog 3) mb st.length D ∧ (∀ a, has D (.int .i64 a) = decide (a ∈ st.map Th.key)) ∧ ∀ i, i < st.length → D.atKey (.int .i64 (at_ st i).key) (.lit (.int .i64 0)) = .lit (.int .i64 (i : Int))
theorem PlMap.on {W W' : World} {mb : Nat} {st : List Th} (h : PlMap W mb st) (hb : W'.heap[mb]? = W.heap[mb]?) : PlMap W' mb st := by
  obtain ⟨D, ⟨es', cl, a1, a2⟩, r⟩ := h
  exact ⟨D, ⟨es', cl, hb.trans a1, a2⟩, r⟩
theorem PlMap.lt {W : World} {mb : Nat} {st : List Th} (h : PlMap W mb st) : mb < W.heap.size := by obtain ⟨D, h, _⟩ := h; exact h.lt
theorem PlMap.nocells {W : World} {mb : Nat} {st : List Th} (h : PlMap W mb st) (cs : Array Value) (t : TypeId) (z : Nat × Nat) : W.heap[mb]? ≠ some (.cells cs t z) := by
  obtain ⟨D, ⟨es', cl, a1, a2⟩, r⟩ := h
  rw [a1]; simp
theorem PlMap.made (W : World) : PlMap (W.alloc (.map #[] 0)) W.heap.size [] := ⟨.map [], World.ownsMap_made _ _ _ _, fun a => by simp [has], fun i hi => absurd hi (Nat.not_lt_zero _)⟩
theorem PlMap.same {W : World} {mb : Nat} {st st' : List Th} (h : PlMap W mb st) (hl : st'.length = st.length) (hk : ∀ i, (at_ st' i).key = (at_ st i).key) (hm : st'.map Th.key = st.map Th.key) : PlMap W mb st' := by
  obtain ⟨D, h1, h2, h3⟩ := h
  exact ⟨D, by rw [hl]; exact h1, fun a => by rw [hm]; exact h2 a, fun i hi => by rw [hk]; exact h3 i (by omega)⟩
theorem PlMap.look {W : World} {mb : Nat} {st : List Th} (h : PlMap W mb st) (k : Int) (hf : Fits k) :
    (∃ i, i < st.length ∧ (at_ st i).key = k ∧ (Instr.lookup 46 (.map (some mb)) (.int .i64 k) true).run Try.prog W = .ok (.tuple #[.int .i64 (i : Int), .bool true]) W) ∨ (k ∉ st.map Th.key ∧ (Instr.lookup 46 (.map (some mb)) (.int .i64 k) true).run Try.prog W = .ok (.tuple #[.int .i64 0, .bool false]) W) := by
  obtain ⟨D, ho, hh, hv⟩ := h
  obtain ⟨v, ps, hrun, hvv⟩ := ho.look_ok (P := Try.prog) (t := 46) (e := 3) law3 Try.underlying46 (zero3 W) (plainElem_int Try.underlying3 (q := .i64) (by decide)) (keyOf_int_mk Try.underlying3 (a := k) hf.wf)
  obtain ⟨c, rfl, hc, hwc⟩ := plainElem_int_inv Try.underlying3 hvv
  have hc1 := congrArg Prod.fst hc
  by_cases hm : k ∈ st.map Th.key
  · obtain ⟨i, hi, e⟩ := key_mem.1 hm
    have h3 := hv i hi
    rw [e] at h3
    have hci : c = (i : Int) := by
      have : (.lit (.int .i64 c) : DataW Unit) = .lit (.int .i64 (i : Int)) := by rw [← h3]; exact hc1.symm
      exact (Lit.int.inj (DataW.lit.inj this)).2
    refine .inl ⟨i, hi, e, ?_⟩
    rw [hrun, hh, decide_eq_true hm, hci]
  · right
    refine ⟨hm, ?_⟩
    have hno : has D (.int .i64 k) = false := by rw [hh]; exact decide_eq_false hm
    have h3 := atKey_of_not_has hno (.lit (.int .i64 0))
    have hci : c = 0 := by
      have : (.lit (.int .i64 c) : DataW Unit) = .lit (.int .i64 0) := by rw [← h3]; exact hc1.symm
      exact (Lit.int.inj (DataW.lit.inj this)).2
    rw [hrun, hno, hci]
theorem PlMap.add {W : World} {mb : Nat} {st : List Th} (h : PlMap W mb st) (k : Int) (hf : Fits k) (hn : k ∉ st.map Th.key) (hl : st.length ≤ 1000000) :
    ∃ W', (Instr.mapUpdate 46 (.map (some mb)) (.int .i64 k) (.int .i64 (st.length : Int))).run Try.prog W = .ok () W' ∧ W.grownBy W' (some mb) ∧ PlMap W' mb (lone st k) := by
  obtain ⟨D, ho, hh, hv⟩ := h
  have hw : (Lit.int .i64 (st.length : Int)).wf = true := WalkArith.wf_i64 (by omega)
  obtain ⟨W', hrun, r1, r2⟩ := ho.update (P := Try.prog) (t := 46) (e := 3) law3 Try.underlying46 (by unfold maxLen; omega) (keyOf_int_mk Try.underlying3 (a := k) hf.wf) (plainElem_int (H := Unit) Try.underlying3 hw)
  refine ⟨W', hrun, r2, ?_⟩
  have hm : IsMap D := ho.isMap
  refine ⟨_, by rw [List.length_append]; exact r1, fun b => ?_, fun i hi => ?_⟩
  · by_cases hb : b = k
    · subst hb
      rw [has_put_same hm (by trivial)]; simp
    · rw [has_put_other (by intro e; cases e; exact hb rfl), hh]
      simp [hb]
  · rw [List.length_append] at hi
    simp at hi
    rcases Nat.lt_or_ge i st.length with h' | h'
    · rw [lone_at h']
      have hne : (at_ st i).key ≠ k := fun e => hn (key_mem.2 ⟨i, h', e⟩)
      rw [atKey_put_other (by intro e; cases e; exact hne rfl)]
      exact hv i h'
    · have e : i = st.length := by omega
      subst e
      rw [lone_new]
      exact atKey_put_same hm (by trivial) _ _

/-- Sets lie in memory: their own block, the map of the places, the row of the things. -/
structure SAt (W : World) (base X mb : Nat) (v : Value) (st : List Th) : Prop where
  box : W.heap[X]? = some (.cells #[.map (some mb), .int .i64 (-1), v, .int .i64 (roots st : Int)] 49 (0, 0))
  row : W.ownsRow base 56 5 v st.length (st.flatMap tcells)
  map : PlMap W mb st
  uf : UF st
  bX : base ≤ X
  bm : base ≤ mb
theorem SAt.cell {W : World} {base X mb : Nat} {v : Value} {st : List Th} (h : SAt W base X mb v st) {i : Nat} (hi : i < st.length) : ∃ TB cap, v = .slice (some ⟨TB, 0, none⟩) st.length cap ∧ base ≤ TB ∧ TB < W.heap.size ∧ ∀ f, f < 5 → W.cell? ⟨TB, i * 5 + f, none⟩ = (tcells (at_ st i))[f]? := by
  obtain ⟨TB, cap, rfl, h1, h2⟩ := h.row.form (by omega)
  exact ⟨TB, cap, rfl, h1, h2, fun f hf => by rw [h.row.cellAt (i * 5 + f) (by omega), flat_get st i f hi hf]⟩
theorem SAt.turns {W W' : World} {base X mb : Nat} {v : Value} {st : List Th} {Q : Nat → Prop} (h : SAt W base X mb v st) (ht : Turns Q W W') (h1 : ¬ Q X) (h2 : ¬ Q mb) (h3 : ∀ b, v.ownBlock = some b → ¬ Q b) : SAt W' base X mb v st :=
  ⟨(ht.block X (lt_of h.box) h1).trans h.box, owns_turns h.row ht h3, h.map.on (ht.block mb h.map.lt h2), h.uf, h.bX, h.bm⟩
theorem SAt.below {W W' : World} {base X mb : Nat} {v : Value} {st : List Th} (h : SAt W base X mb v st) (hb : Below W.heap.size W W') : SAt W' base X mb v st :=
  h.turns (Turns.of_below hb) (by have := lt_of h.box; omega) (by have := h.map.lt; omega) (fun b hb' => by have := (h.row.lt b hb').2; omega)

set_option maxRecDepth 100000 in
theorem new_is (w : World) : Calls Try.prog 7 #[] w fun e w' => e = .returned (.pointer (some ⟨w.heap.size + 1, 0, none⟩)) ∧ Below w.heap.size w w' ∧ SAt w' w.heap.size (w.heap.size + 1) w.heap.size (.slice none 0 0) [] := by
  have hmm := @run_makeMap Try.prog
  go_enter Try.func7, Try.ntmps7
  go_wp2
  go_ret
  refine ⟨rfl, ((Below.refl _ w).alloc (Nat.le_refl _) _).alloc (by simp) _, ⟨?_, World.ownsRow_nil _ _ _ _, (PlMap.made w).on (Below.heap_alloc _ _ _ (by simp)), uf_nil, by omega, Nat.le_refl _⟩⟩
  have := World.alloc_heap_new (w.alloc (.map #[] 0)) (.cells #[.map (some w.heap.size), .int .i64 (-1), .slice none 0 0, .int .i64 0] 49)
  rw [World.size_alloc] at this
  exact this
set_option maxRecDepth 100000 in
theorem isNaN_is (k : Int) (w : World) : Calls Try.prog 31 #[.int .i64 k] w fun e w' => e = .returned (.bool false) ∧ w' = w := by
  have e1 : (k != k) = false := by simp
  go_enter Try.func31, Try.ntmps31
  go_wp2
  go_ret
  exact ⟨rfl, rfl⟩
set_option maxRecDepth 100000 in
/-- Where a thing stands. -/
theorem place_is (base X mb : Nat) (v : Value) (st : List Th) (k : Int) (hk : Fits k) (w : World) (h : SAt w base X mb v st) : Calls Try.prog 26 #[.pointer (some ⟨X, 0, none⟩), .int .i64 k] w fun e w' => w' = w ∧ ((∃ i, i < st.length ∧ (at_ st i).key = k ∧ e = .returned (.tuple #[.int .i64 (i : Int), .bool true])) ∨ (k ∉ st.map Th.key ∧ e = .returned (.tuple #[.int .i64 0, .bool false]))) := by
  have hn := isNaN_is k w
  have c0 : w.cell? ⟨X, 0, none⟩ = some (.map (some mb)) := cell_of h.box 0
  rcases h.map.look k hk with ⟨i, hi, e, hlk⟩ | ⟨hm, hlk⟩
  · have HF : Hid (i < st.length ∧ (at_ st i).key = k) := ⟨hi, e⟩
    clear h hi e hk
    go_enter Try.func26, Try.ntmps26
    go_wp2_with fail
    refine hn.mono ?_
    rintro e w' ⟨rfl, rfl⟩
    go_wp2
    go_ret2
    exact ⟨rfl, .inl ⟨i, HF.out.1, HF.out.2, rfl⟩⟩
  · have HF := hide hm
    clear h hm hk
    go_enter Try.func26, Try.ntmps26
    go_wp2_with fail
    refine hn.mono ?_
    rintro e w' ⟨rfl, rfl⟩
    go_wp2
    go_ret2
    exact ⟨rfl, .inr ⟨HF.out, rfl⟩⟩
set_option maxRecDepth 100000 in
theorem len_is (base X mb : Nat) (v : Value) (st : List Th) (w : World) (h : SAt w base X mb v st) : Calls Try.prog 16 #[.pointer (some ⟨X, 0, none⟩)] w fun e w' => e = .returned (.int .i64 (roots st : Int)) ∧ w' = w := by
  have c3 : w.cell? ⟨X, 3, none⟩ = some (.int .i64 (roots st : Int)) := cell_of h.box 3
  clear h
  go_enter Try.func16, Try.ntmps16
  go_wp2
  go_ret
  exact ⟨rfl, rfl⟩

end Go.Proofs.Ytcebidhfgdchlaa
