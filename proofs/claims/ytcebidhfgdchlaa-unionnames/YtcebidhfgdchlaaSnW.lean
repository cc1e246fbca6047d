/-
  Sets of names in memory (layer 8): how they lie, told by the numbers whose names they are; contracts of New, place, Len.
-/
import Derived.Test.YtcebidhfgdchlaaUnW
import Derived.StringKeys
namespace Go.Proofs.Ytcebidhfgdchlaa
open Go.ChangeShapes Go.WideShapes Go.ChangeAt Go.RowKit Go.Shelf Go.Maps

attribute [local go_sem] Oper.semAt_some

/-- The bytes of a number's name. -/
def kb (k : Int) : List UInt8 := [UInt8.ofNat (97 + k.toNat / 26 % 26), UInt8.ofNat (97 + k.toNat % 26)]
/-- A number's name. -/
def kt (k : Int) : ByteArray := ⟨(kb k).toArray⟩
theorem kt_data (k : Int) : (kt k).data.toList = kb k := rfl
theorem kt_size (k : Int) : (kt k).size = 2 := rfl
/-- The numbers that have names. -/
abbrev Fk (k : Int) : Prop := 0 ≤ k ∧ k ≤ 255
theorem kb_nat {k : Int} (h : Fk k) : kb k = [UInt8.ofNat (97 + k.toNat / 26), UInt8.ofNat (97 + k.toNat % 26)] := by
  unfold kb
  rw [Nat.mod_eq_of_lt (by omega : k.toNat / 26 < 26)]
theorem kb_inj {a b : Int} (ha : Fk a) (hb : Fk b) (h : kb a = kb b) : a = b := by
  rw [kb_nat ha, kb_nat hb] at h
  injection h with h1 h2
  injection h2 with h2 _
  have e1 := congrArg UInt8.toNat h1
  have e2 := congrArg UInt8.toNat h2
  have l : ∀ n, n < 256 → (UInt8.ofNat n).toNat = n := fun n hn => by rw [UInt8.toNat_ofNat']; exact Nat.mod_eq_of_lt hn
  rw [l _ (by omega), l _ (by omega)] at e1 e2
  omega
theorem law9 : Keyed Try.prog 9 := string_keyed Try.underlying9
/-- A thing's five cells, its key a name. -/
abbrev ncells (x : Th) : List Value := [.string (kt x.key), .int .i64 (x.above : Int), .int .i64 (x.next : Int), .int .i64 (x.size : Int), .string (kt x.least)]
theorem nflat_len (l : List Th) : (l.flatMap ncells).length = l.length * 5 := by
  induction l with
  | nil => rfl
  | cons x r ih => rw [List.flatMap_cons, List.length_append, ih, List.length_cons]; simp; omega
theorem nflat_get : ∀ (l : List Th) (j f : Nat), j < l.length → f < 5 → (l.flatMap ncells)[j * 5 + f]? = (ncells (at_ l j))[f]?
  | x :: r, 0, f, _, hf => by rw [List.flatMap_cons, List.getElem?_append_left (by simp; omega)]; simp
  | x :: r, j + 1, f, hj, hf => by
    rw [List.flatMap_cons, List.getElem?_append_right (by simp; omega)]
    have := nflat_get r j f (by simpa using hj) hf
    rw [show (j + 1) * 5 + f - (ncells x).length = j * 5 + f by simp; omega, this]; simp
/-- All things have names. -/
def Named (st : List Th) : Prop := ∀ k ∈ st.map Th.key, Fk k
/-- The map of the places. -/
def NlMap (W : World) (mb : Nat) (st : List Th) : Prop := ∃ D : DataW Unit, W.ownsMap Try.prog 9 (plainElem Try.prog 3) mb st.length D ∧ (∀ a, Fk a → has D (.string (kb a)) = decide (a ∈ st.map Th.key)) ∧ (∀ i, i < st.length → D.atKey (.string (kb (at_ st i).key)) (.lit (.int .i64 0)) = .lit (.int .i64 (i : Int))) ∧ Named st
theorem NlMap.on {W W' : World} {mb : Nat} {st : List Th} (h : NlMap W mb st) (hb : W'.heap[mb]? = W.heap[mb]?) : NlMap W' mb st := by
  obtain ⟨D, ⟨es', cl, a1, a2⟩, r⟩ := h
  exact ⟨D, ⟨es', cl, hb.trans a1, a2⟩, r⟩
theorem NlMap.lt {W : World} {mb : Nat} {st : List Th} (h : NlMap W mb st) : mb < W.heap.size := by obtain ⟨D, h, _⟩ := h; exact h.lt
theorem NlMap.nocells {W : World} {mb : Nat} {st : List Th} (h : NlMap W mb st) (cs : Array Value) (t : TypeId) (z : Nat × Nat) : W.heap[mb]? ≠ some (.cells cs t z) := by
  obtain ⟨D, ⟨es', cl, a1, a2⟩, r⟩ := h
  rw [a1]; simp
theorem NlMap.made (W : World) : NlMap (W.alloc (.map #[] 0)) W.heap.size [] := ⟨.map [], World.ownsMap_made _ _ _ _, fun a _ => by simp [has], fun i hi => absurd hi (Nat.not_lt_zero _), fun k hk => by cases hk⟩
theorem NlMap.same {W : World} {mb : Nat} {st st' : List Th} (h : NlMap W mb st) (hl : st'.length = st.length) (hk : ∀ i, (at_ st' i).key = (at_ st i).key) (hm : st'.map Th.key = st.map Th.key) : NlMap W mb st' := by
  obtain ⟨D, h1, h2, h3, h4⟩ := h
  exact ⟨D, by rw [hl]; exact h1, fun a ha => by rw [hm]; exact h2 a ha, fun i hi => by rw [hk]; exact h3 i (by omega), by unfold Named; rw [hm]; exact h4⟩
theorem NlMap.look {W : World} {mb : Nat} {st : List Th} (h : NlMap W mb st) (k : Int) (hf : Fk k) :
    (∃ i, i < st.length ∧ (at_ st i).key = k ∧ (Instr.lookup 50 (.map (some mb)) (.string (kt k)) true).run Try.prog W = .ok (.tuple #[.int .i64 (i : Int), .bool true]) W) ∨ (k ∉ st.map Th.key ∧ (Instr.lookup 50 (.map (some mb)) (.string (kt k)) true).run Try.prog W = .ok (.tuple #[.int .i64 0, .bool false]) W) := by
  obtain ⟨D, ho, hh, hv, hnm⟩ := h
  obtain ⟨v, ps, hrun, hvv⟩ := ho.look_ok (P := Try.prog) (t := 50) (e := 3) law9 Try.underlying50 (zero3 W) (plainElem_int Try.underlying3 (q := .i64) (by decide)) (Go.WideMaps.keyOf_string_mk Try.underlying9 (s := kt k) (by rw [kt_size]; unfold maxLen; omega))
  obtain ⟨c, rfl, hc, hwc⟩ := plainElem_int_inv Try.underlying3 hvv
  have hc1 := congrArg Prod.fst hc
  by_cases hm : k ∈ st.map Th.key
  · obtain ⟨i, hi, e⟩ := key_mem.1 hm
    have h3 := hv i hi
    rw [e] at h3
    have hci : c = (i : Int) := by
      have : (.lit (.int .i64 c) : DataW Unit) = .lit (.int .i64 (i : Int)) := by rw [← h3]; exact hc1.symm
      exact (Lit.int.inj (DataW.lit.inj this)).2
    refine .inl ⟨i, hi, e, ?_⟩
    rw [hrun]
    show Result.ok (Value.tuple #[Value.int IntKind.i64 c, Value.bool (has D (Lit.string (kb k)))]) W = _
    rw [hh k hf, decide_eq_true hm, hci]
  · right
    refine ⟨hm, ?_⟩
    have hno : has D (.string (kb k)) = false := by rw [hh k hf]; exact decide_eq_false hm
    have h3 := atKey_of_not_has hno (.lit (.int .i64 0))
    have hci : c = 0 := by
      have : (.lit (.int .i64 c) : DataW Unit) = .lit (.int .i64 0) := by rw [← h3]; exact hc1.symm
      exact (Lit.int.inj (DataW.lit.inj this)).2
    rw [hrun]
    show Result.ok (Value.tuple #[Value.int IntKind.i64 c, Value.bool (has D (Lit.string (kb k)))]) W = _
    rw [hno, hci]
theorem NlMap.add {W : World} {mb : Nat} {st : List Th} (h : NlMap W mb st) (k : Int) (hf : Fk k) (hn : k ∉ st.map Th.key) (hl : st.length ≤ 1000000) :
    ∃ W', (Instr.mapUpdate 50 (.map (some mb)) (.string (kt k)) (.int .i64 (st.length : Int))).run Try.prog W = .ok () W' ∧ W.grownBy W' (some mb) ∧ NlMap W' mb (lone st k) := by
  obtain ⟨D, ho, hh, hv, hnm⟩ := h
  have hw : (Lit.int .i64 (st.length : Int)).wf = true := WalkArith.wf_i64 (by omega)
  obtain ⟨W', hrun, r1, r2⟩ := ho.update (P := Try.prog) (t := 50) (e := 3) law9 Try.underlying50 (by unfold maxLen; omega) (Go.WideMaps.keyOf_string_mk Try.underlying9 (s := kt k) (by rw [kt_size]; unfold maxLen; omega)) (plainElem_int (H := Unit) Try.underlying3 hw)
  rw [kt_data] at r1
  refine ⟨W', hrun, r2, ?_⟩
  have hm : IsMap D := ho.isMap
  refine ⟨_, by rw [List.length_append]; exact r1, fun b hbf => ?_, fun i hi => ?_, ?_⟩
  · by_cases hb : b = k
    · subst hb
      rw [has_put_same hm (by trivial)]; simp
    · rw [has_put_other (by intro e; injection e with e; exact hb (kb_inj hbf hf e) ), hh b hbf]
      simp [hb]
  · rw [List.length_append] at hi
    simp at hi
    rcases Nat.lt_or_ge i st.length with h' | h'
    · rw [lone_at h']
      have hne : (at_ st i).key ≠ k := fun e => hn (key_mem.2 ⟨i, h', e⟩)
      rw [atKey_put_other (by intro e; injection e with e; exact hne (kb_inj (hnm _ (key_mem.2 ⟨i, h', rfl⟩)) hf e))]
      exact hv i h'
    · have e : i = st.length := by omega
      subst e
      rw [lone_new]
      exact atKey_put_same hm (by trivial) _ _
  · intro a ha
    rw [List.map_append] at ha
    rcases List.mem_append.1 ha with ha | ha
    · exact hnm a ha
    · simp at ha; subst ha; exact hf

/-- Sets lie in memory: their own block, the map of the places, the row of the things. -/
structure NAt (W : World) (base X mb : Nat) (v : Value) (st : List Th) : Prop where
  box : W.heap[X]? = some (.cells #[.map (some mb), .int .i64 (-1), v, .int .i64 (roots st : Int)] 53 (0, 0))
  row : W.ownsRow base 60 5 v st.length (st.flatMap ncells)
  map : NlMap W mb st
  uf : UF st
  bX : base ≤ X
  bm : base ≤ mb
theorem NAt.cell {W : World} {base X mb : Nat} {v : Value} {st : List Th} (h : NAt W base X mb v st) {i : Nat} (hi : i < st.length) : ∃ TB cap, v = .slice (some ⟨TB, 0, none⟩) st.length cap ∧ base ≤ TB ∧ TB < W.heap.size ∧ ∀ f, f < 5 → W.cell? ⟨TB, i * 5 + f, none⟩ = (ncells (at_ st i))[f]? := by
  obtain ⟨TB, cap, rfl, h1, h2⟩ := h.row.form (by omega)
  exact ⟨TB, cap, rfl, h1, h2, fun f hf => by rw [h.row.cellAt (i * 5 + f) (by omega), nflat_get st i f hi hf]⟩
theorem NAt.turns {W W' : World} {base X mb : Nat} {v : Value} {st : List Th} {Q : Nat → Prop} (h : NAt W base X mb v st) (ht : Turns Q W W') (h1 : ¬ Q X) (h2 : ¬ Q mb) (h3 : ∀ b, v.ownBlock = some b → ¬ Q b) : NAt W' base X mb v st :=
  ⟨(ht.block X (lt_of h.box) h1).trans h.box, owns_turns h.row ht h3, h.map.on (ht.block mb h.map.lt h2), h.uf, h.bX, h.bm⟩
theorem NAt.below {W W' : World} {base X mb : Nat} {v : Value} {st : List Th} (h : NAt W base X mb v st) (hb : Below W.heap.size W W') : NAt W' base X mb v st :=
  h.turns (Turns.of_below hb) (by have := lt_of h.box; omega) (by have := h.map.lt; omega) (fun b hb' => by have := (h.row.lt b hb').2; omega)

set_option maxRecDepth 100000 in
theorem newN_is (w : World) : Calls Try.prog 8 #[] w fun e w' => e = .returned (.pointer (some ⟨w.heap.size + 1, 0, none⟩)) ∧ Below w.heap.size w w' ∧ NAt w' w.heap.size (w.heap.size + 1) w.heap.size (.slice none 0 0) [] := by
  have hmm := @run_makeMap Try.prog
  go_enter Try.func8, Try.ntmps8
  go_wp2
  go_ret
  refine ⟨rfl, ((Below.refl _ w).alloc (Nat.le_refl _) _).alloc (by simp) _, ⟨?_, World.ownsRow_nil _ _ _ _, (NlMap.made w).on (Below.heap_alloc _ _ _ (by simp)), uf_nil, by omega, Nat.le_refl _⟩⟩
  have := World.alloc_heap_new (w.alloc (.map #[] 0)) (.cells #[.map (some w.heap.size), .int .i64 (-1), .slice none 0 0, .int .i64 0] 53)
  rw [World.size_alloc] at this
  exact this
set_option maxRecDepth 100000 in
theorem isNaNN_is (k : Int) (w : World) : Calls Try.prog 32 #[.string (kt k)] w fun e w' => e = .returned (.bool false) ∧ w' = w := by
  have e1 : ((kt k).toList != (kt k).toList) = false := by simp
  go_enter Try.func32, Try.ntmps32
  go_wp2
  go_ret
  exact ⟨rfl, rfl⟩
set_option maxRecDepth 100000 in
/-- Where a thing stands. -/
theorem placeN_is (base X mb : Nat) (v : Value) (st : List Th) (k : Int) (hk : Fk k) (w : World) (h : NAt w base X mb v st) : Calls Try.prog 27 #[.pointer (some ⟨X, 0, none⟩), .string (kt k)] w fun e w' => w' = w ∧ ((∃ i, i < st.length ∧ (at_ st i).key = k ∧ e = .returned (.tuple #[.int .i64 (i : Int), .bool true])) ∨ (k ∉ st.map Th.key ∧ e = .returned (.tuple #[.int .i64 0, .bool false]))) := by
  have hn := isNaNN_is k w
  have c0 : w.cell? ⟨X, 0, none⟩ = some (.map (some mb)) := cell_of h.box 0
  rcases h.map.look k hk with ⟨i, hi, e, hlk⟩ | ⟨hm, hlk⟩
  · have HF : Hid (i < st.length ∧ (at_ st i).key = k) := ⟨hi, e⟩
    clear h hi e hk
    go_enter Try.func27, Try.ntmps27
    go_wp2_with fail
    refine hn.mono ?_
    rintro e w' ⟨rfl, rfl⟩
    go_wp2
    go_ret2
    exact ⟨rfl, .inl ⟨i, HF.out.1, HF.out.2, rfl⟩⟩
  · have HF := hide hm
    clear h hm hk
    go_enter Try.func27, Try.ntmps27
    go_wp2_with fail
    refine hn.mono ?_
    rintro e w' ⟨rfl, rfl⟩
    go_wp2
    go_ret2
    exact ⟨rfl, .inr ⟨HF.out, rfl⟩⟩
set_option maxRecDepth 100000 in
theorem lenN_is (base X mb : Nat) (v : Value) (st : List Th) (w : World) (h : NAt w base X mb v st) : Calls Try.prog 17 #[.pointer (some ⟨X, 0, none⟩)] w fun e w' => e = .returned (.int .i64 (roots st : Int)) ∧ w' = w := by
  have c3 : w.cell? ⟨X, 3, none⟩ = some (.int .i64 (roots st : Int)) := cell_of h.box 3
  clear h
  go_enter Try.func17, Try.ntmps17
  go_wp2
  go_ret
  exact ⟨rfl, rfl⟩

end Go.Proofs.Ytcebidhfgdchlaa
