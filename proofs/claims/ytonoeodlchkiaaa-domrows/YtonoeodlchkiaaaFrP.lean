/-
  Frontiers in plain words (layer 7): whom an edge puts a block into the frontier of; sets of blocks in memory.
-/
import Derived.Test.YtonoeodlchkiaaaRng
import Derived.Maps.OwnIn
import Derived.Maps.Views
import Derived.Lib.SlKeysI
namespace Go.Proofs.Ytonoeodlchkiaaa
open Go.ChangeShapes Go.WideShapes Go.ChangeAt Go.RowKit Go.Shelf Go.Maps

theorem Chain.cons_inv {d : List Int} {b : Nat} {s : List Nat} {a : Nat} (h : Chain d b s a) : (s = [] ∧ a = b) ∨ ∃ (y : Nat) (r : List Nat), s = b :: r ∧ ask d b = (y : Int) ∧ Chain d y r a := by
  induction h with
  | nil => exact .inl ⟨rfl, rfl⟩
  | @snoc s x y _ e ih =>
    rcases ih with ⟨rfl, rfl⟩ | ⟨z, r, rfl, h1, h2⟩
    · exact .inr ⟨y, [], rfl, e, .nil⟩
    · exact .inr ⟨z, r ++ [x], by simp, h1, .snoc h2 e⟩
theorem Chain.join {d : List Int} {b x : Nat} {s : List Nat} (h : Chain d b s x) {t : List Nat} {a : Nat} (k : Chain d x t a) : Chain d b (s ++ t) a := by
  induction k with
  | nil => simpa using h
  | snoc _ e ih => rw [← List.append_assoc]; exact .snoc ih e
theorem Chain.split {d : List Int} {b x : Nat} {s : List Nat} (h : Chain d b s x) {t : List Nat} {a : Nat} (k : Chain d b t a) : a ∈ s ∨ ∃ r, t = s ++ r ∧ Chain d x r a := by
  induction h with
  | nil => exact .inr ⟨t, rfl, k⟩
  | @snoc s x y _ e ih =>
    rcases ih with ih | ⟨r, rfl, hr⟩
    · exact .inl (by simp [ih])
    · rcases hr.cons_inv with ⟨rfl, rfl⟩ | ⟨z, r', rfl, h1, h2⟩
      · exact .inl (by simp)
      · have : z = y := by rw [e] at h1; omega
        subst this
        exact .inr ⟨r', by simp, h2⟩
theorem Chain.part {d : List Int} {b x : Nat} {s : List Nat} (h : Chain d b s x) {a : Nat} (ha : a ∈ s) : ∃ s1 s2, s = s1 ++ a :: s2 ∧ Chain d b s1 a := by
  induction h with
  | nil => cases ha
  | @snoc s x y hc e ih =>
    rcases List.mem_append.1 ha with ha | ha
    · obtain ⟨s1, s2, rfl, h1⟩ := ih ha
      exact ⟨s1, s2 ++ [x], by simp, h1⟩
    · simp at ha; subst ha
      exact ⟨s, [], rfl, hc⟩

/-- An edge from f to t puts t into the frontier of a: from f one comes to a ahead of the nearest that dominates t. -/
def Fr (d : List Int) (f t a : Nat) : Prop := ∃ s, Chain d f s a ∧ ∀ y ∈ s ++ [a], (y : Int) ≠ ask d t
/-- What has been put in, of the edges s. -/
def Spec (d : List Int) (n : Nat) (s : List (Nat × Nat)) (f : Nat → List Nat) : Prop := ∀ a t, a < n → (t ∈ f a ↔ ∃ p ∈ s, p.2 = t ∧ Fr d p.1 t a)
/-- t is put in at all of r. -/
def put1 (f : Nat → List Nat) (r : List Nat) (t : Nat) : Nat → List Nat := fun c => if c ∈ r then f c ++ [t] else f c
theorem put1_nil (f : Nat → List Nat) (t : Nat) : put1 f [] t = f := by funext c; simp [put1]
theorem mem_put1 {f : Nat → List Nat} {r : List Nat} {t c u : Nat} : u ∈ put1 f r t c ↔ u ∈ f c ∨ (u = t ∧ c ∈ r) := by
  unfold put1
  split
  · rename_i h; simp [h]
  · rename_i h; simp [h]
theorem Spec.next {d : List Int} {n : Nat} {s : List (Nat × Nat)} {f : Nat → List Nat} (h : Spec d n s f) {fr t : Nat} {r : List Nat} (hr : ∀ a, a < n → ((a ∈ r → Fr d fr t a) ∧ (Fr d fr t a → a ∈ r ∨ t ∈ f a))) : Spec d n (s ++ [(fr, t)]) (put1 f r t) := by
  intro a u ha
  rw [mem_put1, h a u ha]
  constructor
  · rintro (⟨p, hp, h1, h2⟩ | ⟨rfl, hc⟩)
    · exact ⟨p, by simp [hp], h1, h2⟩
    · exact ⟨(fr, u), by simp, rfl, (hr a ha).1 hc⟩
  · rintro ⟨p, hp, h1, h2⟩
    rcases List.mem_append.1 hp with hp | hp
    · exact .inl ⟨p, hp, h1, h2⟩
    · simp at hp; subst hp
      simp at h1 h2; subst h1
      rcases (hr a ha).2 h2 with h' | h'
      · exact .inr ⟨rfl, h'⟩
      · exact .inl ((h a t ha).1 h')
theorem fr_mem {d : List Int} {fr t x : Nat} {r : List Nat} (hc : Chain d fr r x) (hn : ∀ y ∈ r, (y : Int) ≠ ask d t) {a : Nat} (ha : a ∈ r) : Fr d fr t a := by
  obtain ⟨s1, s2, rfl, h1⟩ := hc.part ha
  exact ⟨s1, h1, fun y hy => hn y (by simp at hy ⊢; rcases hy with h | h <;> simp [h])⟩
theorem Spec.stop {d : List Int} {n : Nat} {s : List (Nat × Nat)} {f : Nat → List Nat} (h : Spec d n s f) {fr t x : Nat} {r : List Nat} (hc : Chain d fr r x) (hn : ∀ y ∈ r, (y : Int) ≠ ask d t) (hx : (x : Int) = ask d t) : Spec d n (s ++ [(fr, t)]) (put1 f r t) :=
  h.next fun a _ => ⟨fr_mem hc hn, fun ⟨q, hq, hqn⟩ => by
    rcases hc.split hq with h' | ⟨z, rfl, hz⟩
    · exact .inl h'
    · exfalso
      have hm : x ∈ (r ++ z) ++ [a] := by
        rcases hz.cons_inv with ⟨rfl, rfl⟩ | ⟨_, _, rfl, _⟩ <;> simp
      exact hqn x hm hx⟩
theorem Spec.known {d : List Int} {n : Nat} {s : List (Nat × Nat)} {f : Nat → List Nat} (h : Spec d n s f) {fr t x : Nat} {r : List Nat} (hc : Chain d fr r x) (hn : ∀ y ∈ r, (y : Int) ≠ ask d t) (hxn : x < n) (hx : t ∈ f x) : Spec d n (s ++ [(fr, t)]) (put1 f r t) :=
  h.next fun a ha => ⟨fr_mem hc hn, fun ⟨q, hq, hqn⟩ => by
    rcases hc.split hq with h' | ⟨z, rfl, hz⟩
    · exact .inl h'
    · right
      obtain ⟨p, hp, h1, q2, h2, h3⟩ := (h x t hxn).1 hx
      refine (h a t ha).2 ⟨p, hp, h1, q2 ++ z, h2.join hz, fun y hy => ?_⟩
      rcases List.mem_append.1 hy with hy | hy
      · rcases List.mem_append.1 hy with hy | hy
        · exact h3 y (by simp [hy])
        · exact hqn y (by simp [hy])
      · exact hqn y (by simp at hy; simp [hy])⟩
theorem Spec.top {d : List Int} {n : Nat} {s : List (Nat × Nat)} {f : Nat → List Nat} (h : Spec d n s f) {fr t : Nat} {r : List Nat} (hc : Chain d fr r 0) (hn : ∀ y : Nat, y ∈ r ++ [0] → (y : Int) ≠ ask d t) (h0 : ask d 0 = -1) : Spec d n (s ++ [(fr, t)]) (put1 f (r ++ [0]) t) :=
  h.next fun a _ => ⟨fun ha => by
      rcases List.mem_append.1 ha with ha | ha
      · exact fr_mem hc (fun y hy => hn y (by simp [hy])) ha
      · simp at ha; subst ha; exact ⟨r, hc, hn⟩, fun ⟨q, hq, hqn⟩ => by
    rcases hc.split hq with h' | ⟨z, rfl, hz⟩
    · exact .inl (by simp [h'])
    · rcases hz.cons_inv with ⟨rfl, rfl⟩ | ⟨y, _, rfl, e, _⟩
      · exact .inl (by simp)
      · rw [h0] at e; omega⟩

theorem law3 : Keyed Try.prog 3 := int_keyed Try.underlying3
theorem zero54 (w : World) : (zeroValue 54).run Try.prog w = .ok (.agg #[]) w := by kernel_rfl
/-- The block mb holds a set of just these blocks. -/
def SetMap (W : World) (mb : Nat) (l : List Nat) : Prop := ∃ D : DataW Unit, W.ownsMap Try.prog 3 unitElem mb l.length D ∧ (∀ a : Int, has D (.int .i64 a) = decide (a ∈ l.map (fun x : Nat => (x : Int)))) ∧ size D = l.length ∧ l.Nodup ∧ ∀ x ∈ l, x ≤ 4096
theorem SetMap.on {W W' : World} {mb : Nat} {l : List Nat} (h : SetMap W mb l) (hb : W'.heap[mb]? = W.heap[mb]?) : SetMap W' mb l := by
  obtain ⟨D, ⟨es', cl, a1, a2⟩, r⟩ := h
  exact ⟨D, ⟨es', cl, hb.trans a1, a2⟩, r⟩
theorem SetMap.lt {W : World} {mb : Nat} {l : List Nat} (h : SetMap W mb l) : mb < W.heap.size := by obtain ⟨D, h, _⟩ := h; exact h.lt
theorem SetMap.nocells {W : World} {mb : Nat} {l : List Nat} (h : SetMap W mb l) (cs : Array Value) (t : TypeId) (z : Nat × Nat) : W.heap[mb]? ≠ some (.cells cs t z) := by
  obtain ⟨D, ⟨es', cl, a1, a2⟩, r⟩ := h
  rw [a1]; simp
theorem SetMap.made (W : World) : SetMap (W.alloc (.map #[] 0)) W.heap.size [] := ⟨.map [], World.ownsMap_made _ _ _ _, fun a => by simp [has], rfl, by simp, fun x hx => by cases hx⟩
/-- Is a block in it? -/
theorem SetMap.look {W : World} {mb : Nat} {l : List Nat} (h : SetMap W mb l) (t : Nat) (ht : t ≤ 4096) : (Instr.lookup 51 (.map (some mb)) (.int .i64 (t : Int)) true).run Try.prog W = .ok (.tuple #[.agg #[], .bool (decide (t ∈ l))]) W := by
  obtain ⟨D, ho, hh, hs, hn, _⟩ := h
  obtain ⟨v, ps, hrun, hv⟩ := ho.look_ok (P := Try.prog) (t := 51) (e := 54) law3 Try.underlying51 (zero54 W) unitElem_mk (keyOf_int_mk Try.underlying3 (a := (t : Int)) (WalkArith.wf_i64 (by omega)))
  obtain ⟨rfl, _⟩ := unitElem_inv hv
  have e : decide ((t : Int) ∈ l.map (fun x : Nat => (x : Int))) = decide (t ∈ l) := by
    rw [decide_eq_decide, List.mem_map]
    exact ⟨fun ⟨a, h1, h2⟩ => by rwa [← Int.ofNat.inj h2], fun h => ⟨t, h, rfl⟩⟩
  rw [hrun, hh, e]
/-- One block more. -/
theorem SetMap.add {W : World} {mb : Nat} {l : List Nat} (h : SetMap W mb l) (t : Nat) (ht : t ≤ 4096) (hn : t ∉ l) : ∃ W', (Instr.mapUpdate 51 (.map (some mb)) (.int .i64 (t : Int)) (.agg #[])).run Try.prog W = .ok () W' ∧ W.grownBy W' (some mb) ∧ SetMap W' mb (l ++ [t]) := by
  obtain ⟨D, ho, hh, hs, hnd, hle⟩ := h
  have hl : l.length ≤ 4097 := by
    have h2 := hnd.length_le_of_subset (l₂ := List.range 4097) (fun x hx => List.mem_range.2 (by have := hle x hx; omega))
    rwa [List.length_range] at h2
  obtain ⟨W', hrun, r1, r2⟩ := ho.update (P := Try.prog) (t := 51) (e := 54) law3 Try.underlying51 (by unfold maxLen; omega) (keyOf_int_mk Try.underlying3 (a := (t : Int)) (WalkArith.wf_i64 (by omega))) (unitElem_mk (H := Unit))
  refine ⟨W', hrun, r2, ?_⟩
  have hm : IsMap D := ho.isMap
  have hf : has D (.int .i64 (t : Int)) = false := by rw [hh]; simp; intro x hx e; exact hn (by rwa [← Int.ofNat.inj e])
  refine ⟨_, by simpa using r1, fun b => ?_, ?_, ?_, fun x hx => ?_⟩
  · by_cases hb : b = (t : Int)
    · subst hb
      rw [has_put_same hm (by trivial)]; simp
    · rw [has_put_other (by intro e; cases e; exact hb rfl), hh]
      simp [hb]
  · rw [size_put (ho.tidy law3), hf, hs]; simp
  · rw [List.nodup_append]
    exact ⟨hnd, by simp, fun x hx y hy => by simp at hy; subst hy; exact fun e => hn (e ▸ hx)⟩
  · rcases List.mem_append.1 hx with hx | hx
    · exact hle x hx
    · simp at hx; subst hx; exact ht
theorem look_none (W : World) (t : Nat) (ht : t ≤ 4096) : (Instr.lookup 51 (.map none) (.int .i64 (t : Int)) true).run Try.prog W = .ok (.tuple #[.agg #[], .bool false]) W :=
  Maps.look_nil true law3 Try.underlying51 (zero54 W) (keyOf_int_mk Try.underlying3 (a := (t : Int)) (WalkArith.wf_i64 (by omega)))

/-- Sets in memory, one of each block: none yet, or a map of its own. -/
def Sets (W : World) (A : Nat → Prop) (SB n : Nat) (f : Nat → List Nat) : Prop := ∃ ms : List (Option Nat), ms.length = n ∧ W.heap[SB]? = some (.cells (ms.map Value.map).toArray 51 (0, 0)) ∧ (∀ a, a < n → (ms[a]? = some none ∧ f a = []) ∨ ∃ b, ms[a]? = some (some b) ∧ A b ∧ SetMap W b (f a)) ∧
  ∀ (a c b : Nat), ms[a]? = some (some b) → ms[c]? = some (some b) → a = c
theorem Sets.turns {W W' : World} {A : Nat → Prop} {SB n : Nat} {f : Nat → List Nat} {Q : Nat → Prop} (h : Sets W A SB n f) (ht : Turns Q W W') (hs : ¬ Q SB) (hq : ∀ b, A b → b < W.heap.size → ¬ Q b) : Sets W' A SB n f := by
  obtain ⟨ms, h1, h2, h3, h4⟩ := h
  refine ⟨ms, h1, (ht.block SB (lt_of h2) hs).trans h2, fun a ha => (h3 a ha).imp id fun ⟨b, hb, hA, hm⟩ => ⟨b, hb, hA, hm.on (ht.block b hm.lt (hq b hA hm.lt))⟩, h4⟩
theorem Sets.mono {W : World} {A A' : Nat → Prop} {SB n : Nat} {f : Nat → List Nat} (h : Sets W A SB n f) (hA : ∀ b, A b → b < W.heap.size → A' b) : Sets W A' SB n f := by
  obtain ⟨ms, h1, h2, h3, h4⟩ := h
  exact ⟨ms, h1, h2, fun a ha => (h3 a ha).imp id fun ⟨b, hb, hAb, hm⟩ => ⟨b, hb, hA b hAb hm.lt, hm⟩, h4⟩
theorem sets_new (w : World) (n : Nat) (A : Nat → Prop) : Sets (w.alloc (.cells (List.replicate n (.map none)).toArray 51)) A w.heap.size n (fun _ => []) :=
  ⟨List.replicate n none, by simp, by rw [List.map_replicate]; exact World.alloc_heap_new w _, fun a ha => .inl ⟨by simp [ha], rfl⟩, fun a c b h _ => by
    rw [List.getElem?_replicate] at h; split at h <;> cases h⟩
theorem Sets.cell {W : World} {A : Nat → Prop} {SB n : Nat} {f : Nat → List Nat} (h : Sets W A SB n f) (a : Nat) (ha : a < n) : (W.cell? ⟨SB, a, none⟩ = some (.map none) ∧ f a = []) ∨ ∃ b, W.cell? ⟨SB, a, none⟩ = some (.map (some b)) ∧ A b ∧ SetMap W b (f a) := by
  obtain ⟨ms, h1, h2, h3, h4⟩ := h
  rcases h3 a ha with ⟨e, h⟩ | ⟨b, e, h⟩
  · exact .inl ⟨by rw [cell_of h2]; simp [e], h⟩
  · exact .inr ⟨b, by rw [cell_of h2]; simp [e], h⟩
/-- A set is made, where there was none. -/
theorem Sets.make {W : World} {A : Nat → Prop} {SB n : Nat} {f : Nat → List Nat} (h : Sets W A SB n f) (a : Nat) (ha : a < n) (hc : W.cell? ⟨SB, a, none⟩ = some (.map none)) (hA : A W.heap.size) (hSB : SB < W.heap.size) :
    Sets ((W.alloc (.map #[] 0)).setCell ⟨SB, a, none⟩ (.map (some W.heap.size))) A SB n f := by
  obtain ⟨ms, h1, h2, h3, h4⟩ := h
  have hf : f a = [] := by
    rcases h3 a ha with ⟨_, h⟩ | ⟨b, e, _⟩
    · exact h
    · rw [cell_of h2] at hc; simp [e] at hc
  have hSA : (W.alloc (.map #[] 0)).heap[SB]? = some (.cells (ms.map Value.map).toArray 51 (0, 0)) := (Below.heap_alloc _ _ _ hSB).trans h2
  refine ⟨ms.set a (some W.heap.size), by simpa using h1, by rw [List.map_set]; exact heap_set_same hSA a _, fun c hcn => ?_, fun x y b hx hy => ?_⟩
  · by_cases e : c = a
    · subst e
      refine .inr ⟨W.heap.size, List.getElem?_set_self (by omega), hA, ?_⟩
      rw [hf]
      exact (SetMap.made W).on (Below.heap_setCell _ ⟨SB, c, none⟩ _ _ (by show W.heap.size ≠ SB; omega))
    · rcases h3 c hcn with ⟨e1, e2⟩ | ⟨b, e1, hAb, hm⟩
      · exact .inl ⟨by rw [List.getElem?_set_ne (Ne.symm e)]; exact e1, e2⟩
      · refine .inr ⟨b, by rw [List.getElem?_set_ne (Ne.symm e)]; exact e1, hAb, hm.on ?_⟩
        have hbl := hm.lt
        refine (Below.heap_setCell _ ⟨SB, a, none⟩ _ _ (fun e' => ?_)).trans (Below.heap_alloc _ _ _ hbl)
        have e'' : b = SB := e'
        subst e''
        exact hm.nocells _ _ _ h2
  · have other : ∀ z, z ≠ a → ∀ b, (ms.set a (some W.heap.size))[z]? = some (some b) → ms[z]? = some (some b) ∧ b < W.heap.size := fun z hz b hb => by
      rw [List.getElem?_set_ne (Ne.symm hz)] at hb
      refine ⟨hb, ?_⟩
      have hzn : z < n := by rw [← h1]; exact (List.getElem?_eq_some_iff.1 hb).1
      rcases h3 z hzn with ⟨e1, _⟩ | ⟨b', e1, _, hm⟩
      · rw [e1] at hb; cases hb
      · rw [e1] at hb; cases hb; exact hm.lt
    by_cases e1 : x = a
    · by_cases e2 : y = a
      · rw [e1, e2]
      · subst e1
        rw [List.getElem?_set_self (by omega)] at hx
        cases hx
        have := (other y e2 _ hy).2; omega
    · by_cases e2 : y = a
      · subst e2
        rw [List.getElem?_set_self (by omega)] at hy
        cases hy
        have := (other x e1 _ hx).2; omega
      · exact h4 x y b (other x e1 b hx).1 (other y e2 b hy).1
/-- One set grows. -/
theorem Sets.add {W W' : World} {A : Nat → Prop} {SB n : Nat} {f : Nat → List Nat} (h : Sets W A SB n f) (a : Nat) (ha : a < n) {b : Nat} (hc : W.cell? ⟨SB, a, none⟩ = some (.map (some b))) (t : Nat) (hg : W.grownBy W' (some b)) (hm : SetMap W' b (f a ++ [t])) (r : List Nat) (f0 : Nat → List Nat) (hf : f = put1 f0 r t) (har : a ∉ r) :
    Sets W' A SB n (put1 f0 (r ++ [a]) t) := by
  obtain ⟨ms, h1, h2, h3, h4⟩ := h
  have hmb : ms[a]? = some (some b) ∧ A b ∧ SetMap W b (f a) := by
    rcases h3 a ha with ⟨e, _⟩ | ⟨b', e, h⟩
    · rw [cell_of h2] at hc; simp [e] at hc
    · rw [cell_of h2] at hc; simp [e] at hc; subst hc; exact ⟨e, h⟩
  obtain ⟨e0, hA, hmo⟩ := hmb
  have hne : SB ≠ b := fun e => by subst e; exact hmo.nocells _ _ _ h2
  refine ⟨ms, h1, (hg.block SB (lt_of h2) (fun e => hne (by cases e; rfl))).trans h2, fun c hcn => ?_, h4⟩
  by_cases e : c = a
  · subst e
    refine .inr ⟨b, e0, hA, ?_⟩
    have : put1 f0 (r ++ [c]) t c = f c ++ [t] := by rw [hf]; simp [put1, har]
    rw [this]; exact hm
  · have hfc : put1 f0 (r ++ [a]) t c = f c := by rw [hf]; simp [put1, e]
    rw [hfc]
    rcases h3 c hcn with h | ⟨b', e1, hA', hm'⟩
    · exact .inl h
    · exact .inr ⟨b', e1, hA', hm'.on (hg.block b' hm'.lt (fun e' => e (h4 c a b' e1 (by cases e'; exact e0))))⟩

end Go.Proofs.Ytonoeodlchkiaaa
