/-
  Package machine (layer 4): the contracts of Clone and Output; rows that are compared.
-/
import Derived.Test.YtbfmadcppnfgpaaGreatDoorQMachO
import Derived.Laws.Cover3
namespace Go.Proofs.YtbfmadcppnfgpaaGreatDoor.Q
open Go.ChangeShapes Go.WideShapes Go.ChangeAt Go.RowKit

abbrev New (w w' : World) : Nat → Prop := fun k => w.heap.size ≤ k ∧ k < w'.heap.size

theorem wpList_append_run {P : Program} {ops : Array Oper} {rest : List Oper} {o : Oper} {a : Act} {Q : Exit → Act → World → Prop} {w w' : World} (hg : o.guard = none) (s x : Operand) (t : TypeId)
    (hop : o.op = Op.call { callee := Callee.builtin Builtin.append, args := #[s, x], argTypes := #[t, t] }) {v y r : Value} (hs : a.eval s = v) (hx : a.eval x = y) (hr : (Builtin.append_ #[t, t] o.type #[v, y]).run P w = .ok r w')
    (h : wpList P ops Q rest (a.put o.dst r) w') : wpList P ops Q (o :: rest) a w := by
  refine wpList_plain hg fun K hK' => ?_
  unfold Oper.wp
  simp [execOp, hop, resolve, invoke, builtin, hs, hx, hr, Result.andThen]
  exact hK' _ _ h

theorem eql_nil23 (a : Option Addr) (l c : Nat) (w : World) : (binOp .eql 34 (.slice a l c) (.slice none 0 0)).run Tryz.prog w = .ok (.bool a.isNone) w := by
  simp [binOp, run_equal_slice_nil w 34 3 a l c Tryz.underlying34]
theorem eql_nil22 (a : Option Addr) (l c : Nat) (w : World) : (binOp .eql 23 (.slice a l c) (.slice none 0 0)).run Tryz.prog w = .ok (.bool a.isNone) w := by
  simp [binOp, run_equal_slice_nil w 23 31 a l c Tryz.underlying23]

abbrev Ins.cells (x : Ins) : List Value := [.int .i64 x.o, .int .i64 x.a, .int .i64 x.b, .int .i64 x.c, .int .i64 x.i]
theorem flat_len (l : List Ins) : (l.flatMap Ins.cells).length = l.length * 5 := by
  induction l with
  | nil => rfl
  | cons x r ih => rw [List.flatMap_cons, List.length_append, ih, List.length_cons]; simp; omega
theorem flat_get : ∀ (l : List Ins) (j f : Nat) (hj : j < l.length), f < 5 → (l.flatMap Ins.cells)[j * 5 + f]? = l[j].cells[f]?
  | x :: r, 0, f, _, hf => by rw [List.flatMap_cons, List.getElem?_append_left (by simp; omega)]; simp
  | x :: r, j + 1, f, hj, hf => by
    rw [List.flatMap_cons, List.getElem?_append_right (by simp; omega)]
    have := flat_get r j f (by simpa using hj) hf
    rw [show (j + 1) * 5 + f - x.cells.length = j * 5 + f by simp; omega, this]; rfl
theorem typ44 : (Tryz.prog.info? 31).map (fun i => (i.zero, i.size, i.bytes)) = some (some (.agg #[.int .i64 0, .int .i64 0, .int .i64 0, .int .i64 0, .int .i64 0]), 5, 40) := by kernel_rfl
theorem owns_shape {w : World} {base : Nat} {e : TypeId} {size : Nat} {v : Value} {n : Nat} {xs : List Value} (h : w.ownsRow base e size v n xs) : ∃ av cap, v = .slice av n cap ∧ n ≤ cap ∧ cap ≤ maxLen := by
  rcases h.2 with ⟨rfl, rfl⟩ | ⟨g, cap, cur, rfl, _, _, h1, h2, _⟩
  · exact ⟨none, 0, rfl, Nat.le_refl _, Nat.zero_le _⟩
  · exact ⟨_, cap, rfl, h1, h2⟩
theorem owns_nothing {w : World} {base : Nat} {e : TypeId} {size : Nat} {v : Value} {n : Nat} {xs : List Value} (h : w.ownsRow base e size v n xs) (t ty : TypeId) (i : TypeInfo) (ht : Tryz.prog.underlying t = some (.slice e)) (hi : Tryz.prog.info? e = some i) (av : Option Addr) (cap : Nat) :
    (Builtin.append_ #[t, t] ty #[v, .slice av 0 cap]).run Tryz.prog w = .ok v w := by
  obtain ⟨bv, cp, rfl, h1, _⟩ := owns_shape h
  cases av with
  | none => exact run_append_nothing w t t ty e i ht hi bv n cp h1 _ (Src.ofNil w ht cap)
  | some a => exact run_append_nothing w t t ty e i ht hi bv n cp h1 _ (Src.ofSlice w ht a 0 cap [] (by simp) (fun j u hu => by simp at hu) (fun u hu => by cases hu))
theorem append_ints {D : Nat → Prop} (w : World) (base : Nat) (v : Value) (n : Nat) (xs : List Value) (hown : w.ownsRow base 3 1 v n xs) (src : Value) (l : List Int) (hs : IntsAt D w src l) (hbd : n + l.length ≤ 100000000) (hbase : base ≤ w.heap.size) :
    ∃ v' w', (∀ T, (Builtin.append_ #[34, 34] T #[v, src]).run Tryz.prog w = .ok v' w') ∧ w'.ownsRow base 3 1 v' (n + l.length) (xs ++ vals l) ∧ Below base w w' := by
  obtain ⟨i, hi, hz, hsi, hb⟩ := info_parts typ3
  obtain ⟨av, cap, rfl, _, _, hav⟩ := hs
  by_cases h0 : 0 < l.length
  · obtain ⟨blk, off, rfl, _, hH⟩ := hav h0
    obtain ⟨g', cp, w', hr, h1, h2, _, _⟩ := run_append_lies (P := Tryz.prog) w 34 0 base 3 i _ 1 8 Tryz.underlying34 hi hz hsi hb rfl (by decide) v n xs hown ⟨blk, off, none⟩ l.length cap (vals l) (by simp [vals])
      (fun j u hu => by
        rw [add_off]
        have hj : j < l.length := by have := (List.getElem?_eq_some_iff.1 hu).1; simpa [vals] using this
        rw [hH j hj]
        simpa [vals, hj] using hu)
      (fun u hu => by obtain ⟨x, _, rfl⟩ := List.mem_map.1 hu; rfl) h0 (by unfold maxLen; omega) (by omega) hbase _ rfl
    exact ⟨_, w', fun T => hr, h1, h2.os, h2.tape, h2.output, h2.size, fun k hk => h2.block k (by omega) (fun e => by have := (hown.lt k e.symm).1; omega)⟩
  · have hl : l = [] := List.length_eq_zero_iff.1 (by omega)
    subst hl
    refine ⟨v, w, fun T => owns_nothing hown 34 T i Tryz.underlying34 hi av cap, ?_, Below.refl _ _⟩
    simpa [vals] using hown
theorem append_rows {D : Nat → Prop} (w : World) (base : Nat) (v : Value) (n : Nat) (xs : List Value) (hown : w.ownsRow base 31 5 v n xs) (src : Value) (l : List Ins) (hs : RowAt D w src l) (hbd : n + l.length ≤ 100000000) (hbase : base ≤ w.heap.size) :
    ∃ v' w', (∀ T, (Builtin.append_ #[23, 23] T #[v, src]).run Tryz.prog w = .ok v' w') ∧ w'.ownsRow base 31 5 v' (n + l.length) (xs ++ l.flatMap Ins.cells) ∧ Below base w w' := by
  obtain ⟨i, hi, hz, hsi, hb⟩ := info_parts typ44
  obtain ⟨av, cap, rfl, hav⟩ := hs
  by_cases h0 : 0 < l.length
  · obtain ⟨blk, off, rfl, _, hH⟩ := hav h0
    obtain ⟨g', cp, w', hr, h1, h2, _, _⟩ := run_append_lies (P := Tryz.prog) w 23 0 base 31 i _ 5 40 Tryz.underlying23 hi hz hsi hb rfl (by decide) v n xs hown ⟨blk, off, none⟩ l.length cap (l.flatMap Ins.cells) (flat_len l)
      (fun j u hu => by
        rw [add_off]
        have hj : j < l.length * 5 := by rw [← flat_len]; exact (List.getElem?_eq_some_iff.1 hu).1
        obtain ⟨q, f, hf, rfl⟩ : ∃ q f, f < 5 ∧ j = q * 5 + f := ⟨j / 5, j % 5, by omega, by omega⟩
        rw [flat_get l q f (by omega) hf] at hu
        obtain ⟨k0, k1, k2, k3, k4⟩ := hH q (by omega)
        have hf' : f = 0 ∨ f = 1 ∨ f = 2 ∨ f = 3 ∨ f = 4 := by omega
        rw [← Nat.add_assoc]
        rcases hf' with rfl | rfl | rfl | rfl | rfl
        · exact k0.trans hu
        · exact k1.trans hu
        · exact k2.trans hu
        · exact k3.trans hu
        · exact k4.trans hu)
      (fun u hu => by
        obtain ⟨x, _, hx⟩ := List.mem_flatMap.1 hu
        simp at hx
        rcases hx with rfl | rfl | rfl | rfl | rfl <;> rfl) h0 (by unfold maxLen; omega) (by omega) hbase _ rfl
    exact ⟨_, w', fun T => hr, h1, h2.os, h2.tape, h2.output, h2.size, fun k hk => h2.block k (by omega) (fun e => by have := (hown.lt k e.symm).1; omega)⟩
  · have hl : l = [] := List.length_eq_zero_iff.1 (by omega)
    subst hl
    refine ⟨v, w, fun T => owns_nothing hown 23 T i Tryz.underlying23 hi av cap, ?_, Below.refl _ _⟩
    simpa using hown
theorem owns_empty (w : World) (base : Nat) (e : TypeId) (size : Nat) (hb : base ≤ w.heap.size) : (w.alloc (.cells #[] e)).ownsRow base e size (.slice (some ⟨w.heap.size, 0, none⟩) 0 0) 0 [] :=
  ⟨by simp, .inr ⟨w.heap.size, 0, #[], rfl, hb, heap_new _ _ rfl, Nat.le_refl _, Nat.zero_le _, by simp, by simp⟩⟩
theorem owns_at {w : World} {base : Nat} {e : TypeId} {size : Nat} {g n cap : Nat} {xs : List Value} (h : w.ownsRow base e size (.slice (some ⟨g, 0, none⟩) n cap) n xs) : base ≤ g ∧ g < w.heap.size ∧ ∀ j u, xs[j]? = some u → w.cell? ⟨g, j, none⟩ = some u := by
  obtain ⟨h1, h2⟩ := h.lt g rfl
  refine ⟨h1, h2, fun j u hu => ?_⟩
  have := h.cells (g := g) rfl j u hu
  rwa [add_off, Nat.zero_add] at this
theorem owns_ints {w : World} {base : Nat} {v : Value} {l : List Int} (h : w.ownsRow base 3 1 v l.length (vals l)) : IntsAt (fun k => base ≤ k ∧ k < w.heap.size) w v l := by
  obtain ⟨av, cap, rfl, h1, h2⟩ := owns_shape h
  refine ⟨av, cap, rfl, h1, h2, fun h0 => ?_⟩
  obtain ⟨g, cp, e, _, hlt⟩ := h.form h0
  injection e with e1 e2 e3
  subst e1
  obtain ⟨k1, k2, k3⟩ := owns_at h
  exact ⟨g, 0, rfl, ⟨k1, k2⟩, fun j hj => by rw [Nat.zero_add]; exact k3 j _ (by simp [vals, hj])⟩
theorem owns_rows {w : World} {base : Nat} {v : Value} {l : List Ins} (h : w.ownsRow base 31 5 v l.length (l.flatMap Ins.cells)) : RowAt (fun k => base ≤ k ∧ k < w.heap.size) w v l := by
  obtain ⟨av, cap, rfl, h1, h2⟩ := owns_shape h
  refine ⟨av, cap, rfl, fun h0 => ?_⟩
  obtain ⟨g, cp, e, _, hlt⟩ := h.form h0
  injection e with e1 e2 e3
  subst e1
  obtain ⟨k1, k2, k3⟩ := owns_at h
  refine ⟨g, 0, rfl, ⟨k1, k2⟩, fun j hj => ?_⟩
  have key : ∀ f, f < 5 → w.cell? ⟨g, 0 + j * 5 + f, none⟩ = l[j].cells[f]? := fun f hf => by
    have hlt : f < l[j].cells.length := hf
    rw [List.getElem?_eq_getElem hlt, Nat.zero_add]
    refine k3 _ _ ?_
    rw [flat_get l j f hj hf, List.getElem?_eq_getElem hlt]
  exact ⟨key 0 (by decide), key 1 (by decide), key 2 (by decide), key 3 (by decide), key 4 (by decide)⟩

theorem clone_ints {D : Nat → Prop} {w : World} {v : Value} {l : List Int} (h : IntsAt D w v l) (hD : ∀ k, D k → k < w.heap.size) (hl : l.length ≤ 10000000) :
    Calls Tryz.prog 22 #[v] w fun e w' => ∃ v', e = .returned v' ∧ Below w.heap.size w w' ∧ IntsAt (New w w') w' v' l := by
  have h0 := h
  obtain ⟨av, cap, rfl, hc, hm, hat⟩ := h0
  cases av with
  | none =>
    have hz : l = [] := List.length_eq_zero_iff.1 (by
      by_cases hp : 0 < l.length
      · obtain ⟨_, _, e, _⟩ := hat hp; cases e
      · omega)
    subst hz
    have A : Hid (IntsAt (New w w) w (.slice none 0 0) []) := ⟨none, 0, rfl, Nat.le_refl _, Nat.zero_le _, fun h => absurd h (Nat.lt_irrefl 0)⟩
    have hnil := eql_nil23 none 0 cap
    go_enter Tryz.func22, Tryz.ntmps22
    go_wp2
    go_ret
    exact ⟨_, rfl, Below.refl _ _, A.out⟩
  | some ad =>
    have hb : Below w.heap.size w (w.alloc (.cells #[] 3)) := (Below.refl _ w).alloc (Nat.le_refl _) _
    have h1 := h.keep (W' := w.alloc (.cells #[] 3)) (fun k hk => hb.block k (hD k hk))
    obtain ⟨v3, w3, hap, hown, hb3⟩ := append_ints (w.alloc (.cells #[] 3)) w.heap.size _ 0 [] (owns_empty w w.heap.size 3 1 (Nat.le_refl _)) _ l h1 (by omega) hb.size
    have A : Hid (Below w.heap.size w w3 ∧ IntsAt (New w w3) w3 v3 l) := ⟨hb.trans hb3, owns_ints (by simpa using hown)⟩
    have HAP : Hid (∀ T, (Builtin.append_ #[34, 34] T #[.slice (some ⟨w.heap.size, 0, none⟩) 0 0, .slice (some ad) l.length cap]).run Tryz.prog (w.alloc (.cells #[] 3)) = .ok v3 w3) := hap
    clear hap hown hb3 h1 hb h hat
    generalize l.length = n at *
    have hnil := eql_nil23 (some ad) n cap
    go_enter Tryz.func22, Tryz.ntmps22
    go_wp2_with (at_builtin; refine wpList_append_run rfl (.tmp 5) (.tmp 6) 34 rfl rfl rfl (HAP.out _) ?_)
    go_ret
    exact ⟨_, rfl, A.out⟩

theorem clone_rows {D : Nat → Prop} {w : World} {v : Value} {l : List Ins} (h : RowAt D w v l) (hD : ∀ k, D k → k < w.heap.size) (hl : l.length ≤ 10000000) :
    Calls Tryz.prog 21 #[v] w fun e w' => ∃ v', e = .returned v' ∧ Below w.heap.size w w' ∧ RowAt (New w w') w' v' l := by
  have h0 := h
  obtain ⟨av, cap, rfl, hat⟩ := h0
  cases av with
  | none =>
    have hz : l = [] := List.length_eq_zero_iff.1 (by
      by_cases hp : 0 < l.length
      · obtain ⟨_, _, e, _⟩ := hat hp; cases e
      · omega)
    subst hz
    have A : Hid (RowAt (New w w) w (.slice none 0 0) []) := ⟨none, 0, rfl, fun h => absurd h (Nat.lt_irrefl 0)⟩
    have hnil := eql_nil22 none 0 cap
    go_enter Tryz.func21, Tryz.ntmps21
    go_wp2
    go_ret
    exact ⟨_, rfl, Below.refl _ _, A.out⟩
  | some ad =>
    have hb : Below w.heap.size w (w.alloc (.cells #[] 31)) := (Below.refl _ w).alloc (Nat.le_refl _) _
    have h1 := h.keep (W' := w.alloc (.cells #[] 31)) (fun k hk => hb.block k (hD k hk))
    obtain ⟨v3, w3, hap, hown, hb3⟩ := append_rows (w.alloc (.cells #[] 31)) w.heap.size _ 0 [] (owns_empty w w.heap.size 31 5 (Nat.le_refl _)) _ l h1 (by omega) hb.size
    have A : Hid (Below w.heap.size w w3 ∧ RowAt (New w w3) w3 v3 l) := ⟨hb.trans hb3, owns_rows (by simpa using hown)⟩
    have HAP : Hid (∀ T, (Builtin.append_ #[23, 23] T #[.slice (some ⟨w.heap.size, 0, none⟩) 0 0, .slice (some ad) l.length cap]).run Tryz.prog (w.alloc (.cells #[] 31)) = .ok v3 w3) := hap
    clear hap hown hb3 h1 hb h hat
    generalize l.length = n at *
    have hnil := eql_nil22 (some ad) n cap
    go_enter Tryz.func21, Tryz.ntmps21
    go_wp2_with (at_builtin; refine wpList_append_run rfl (.tmp 5) (.tmp 6) 23 rfl rfl rfl (HAP.out _) ?_)
    go_ret
    exact ⟨_, rfl, A.out⟩

theorem output_mac {w : World} {F : Nat → Prop} {B : Nat} {l : List Ins} {s : MS} (hm : Mac w F B l s) (hl : s.out.length ≤ 10000000) :
    Calls Tryz.prog 11 #[ptr B] w fun e w' => ∃ v', e = .returned v' ∧ Below w.heap.size w w' ∧ IntsAt (New w w') w' v' s.out := by
  obtain ⟨D, Q, R, cv, nv, ov, p, q, m⟩ := hm
  have k := m.co
  have hc := clone_ints (owns_ints m.out) (fun k h => h.2) hl
  go_enter Tryz.func11, Tryz.ntmps11
  go_wp2_with fail
  refine hc.mono ?_; rintro e w2 ⟨v2, rfl, hb2, hi2⟩
  go_wp2_with fail
  go_ret
  exact ⟨_, rfl, hb2, hi2⟩

set_option maxRecDepth 100000 in
theorem ints_same {D E : Nat → Prop} {w : World} {v1 v2 : Value} {l : List Int} (hl : l.length ≤ 10000000) (h1 : IntsAt D w v1 l) (h2 : IntsAt E w v2 l) :
    Calls Tryz.prog 10 #[v1, v2] w fun e w' => e = .returned (.bool true) ∧ Below w.heap.size w w' := by
  obtain ⟨av1, c1, rfl, _, _, h1⟩ := h1
  obtain ⟨av2, c2, rfl, _, _, h2⟩ := h2
  have H1 : Hid (0 < l.length → ∃ blk off, av1 = some ⟨blk, off, none⟩ ∧ D blk ∧ HasInts w blk off l) := h1
  have H2 : Hid (0 < l.length → ∃ blk off, av2 = some ⟨blk, off, none⟩ ∧ E blk ∧ HasInts w blk off l) := h2
  clear h1 h2
  generalize hn : l.length = n at hl H1 H2
  have HN : Hid (l.length = n) := hn
  clear hn
  go_enter Tryz.func10, Tryz.ntmps10
  go_wp2
  go_loopw [5] (fun i wr => ∃ k q : Nat, k ≤ n ∧ i = .int .i64 k ∧ wr = w.drewN q) (fun i _ => n - (intOf i).toNat)
  case atStart => exact ⟨0, 0, Nat.zero_le _, rfl, rfl⟩
  case round =>
    obtain ⟨k, q, hk, rfl, rfl⟩ := hrel
    by_cases hlt : k < n
    · obtain ⟨b1, o1, rfl, _, i1⟩ := H1.out (by omega)
      obtain ⟨b2, o2, rfl, _, i2⟩ := H2.out (by omega)
      have hn := HN.out
      have c1 := i1 k (by omega)
      have c2 := i2 k (by omega)
      generalize l[k]'(by omega) = x at c1 c2
      have hx : (x != x) = false := by simp
      clear i1 i2 hn
      go_wp2
      go_quiet (fail)
      go_wp2
      go_roundw
      case rel => exact ⟨k + 1, q + nq, by omega, by go_num, rfl⟩
      case measure => simp [intOf]; omega
    · go_wp2
      go_ret
      exact ⟨rfl, ⟨rfl, rfl, rfl, Nat.le_refl _, fun _ _ => rfl⟩⟩

end Go.Proofs.YtbfmadcppnfgpaaGreatDoor.Q
