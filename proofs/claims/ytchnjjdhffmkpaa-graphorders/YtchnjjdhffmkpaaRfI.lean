/-
  The document's own Loops (layer 6): its contract.
-/
import Derived.Test.YtchnjjdhffmkpaaRfH
import Derived.Test.YtchnjjdhffmkpaaLpP
namespace Go.Proofs.Ytchnjjdhffmkpaa
open Go.ChangeShapes Go.WideShapes Go.ChangeAt Go.RowKit Go.Shelf

/-- Whom back edges to a head mark. -/
def endsL (B : List (Nat × Nat)) (h : Nat) : List Nat := B.flatMap fun e => if e.2 = h then [h, e.1] else []
theorem endsL_snoc (B : List (Nat × Nat)) (h a b : Nat) : endsL (B ++ [(a, b)]) h = endsL B h ++ (if b = h then [h, a] else []) := by
  unfold endsL; rw [List.flatMap_append]; simp
theorem mem_endsL (B : List (Nat × Nat)) (h x : Nat) : x ∈ endsL B h ↔ (x = h ∧ aheadL B h ≠ []) ∨ x ∈ aheadL B h := by
  unfold endsL
  rw [List.mem_flatMap]
  constructor
  · rintro ⟨⟨a, b⟩, he, hx⟩
    by_cases hb : b = h
    · simp only [hb, if_pos] at hx
      have hm : a ∈ aheadL B h := (mem_aheadL B h a).2 (hb ▸ he)
      simp at hx
      rcases hx with rfl | rfl
      · exact .inl ⟨rfl, List.ne_nil_of_mem hm⟩
      · exact .inr hm
    · simp [hb] at hx
  · rintro (⟨rfl, hne⟩ | hx)
    · obtain ⟨a, ha⟩ := List.exists_mem_of_ne_nil _ hne
      exact ⟨(a, x), (mem_aheadL B x a).1 ha, by simp⟩
    · exact ⟨(x, h), (mem_aheadL B h x).1 hx, by simp⟩

structure HalfL (n : Nat) (o Wk E : List Nat) (h : Nat) (m : List Bool) : Prop where
  len : m.length = n
  snd : ∀ x, m[x]? = some true → x = h ∨ (x ∈ Wk ∧ x ∈ o)
  st : ∀ x, x = h ∨ x ∈ E → m[x]? = some true
theorem HalfL.put {n : Nat} {o Wk E : List Nat} {h : Nat} {m : List Bool} (hh : HalfL n o Wk E h m) {x : Nat} (hx : x = h ∨ (x ∈ Wk ∧ x ∈ o)) (hm : m[x]? = some false) : HalfL n o Wk E h (m.set x true) :=
  ⟨by rw [List.length_set]; exact hh.len, fun y hy => by rcases (set_at m x y hm).1 hy with h' | rfl; exact hh.snd y h'; exact hx, fun y hy => (set_at m x y hm).2 (.inl (hh.st y hy))⟩
def SweptL (g : List (List Nat)) (o : List Nat) (h : Nat) (m0 m : List Bool) (more : Bool) (k j : Nat) : Prop := (more = false ∧ m = m0 ∧ (∀ b, b < k → b ∈ o → m0[b]? ≠ some true → ∀ t ∈ g.getD b [], m0[t]? = some true → t = h) ∧ ∀ p, p < j → m0[(g.getD k []).getD p 0]? = some true → (g.getD k []).getD p 0 = h) ∨ (more = true ∧ unmetN m < unmetN m0)
theorem SweptL.next {g : List (List Nat)} {o : List Nat} {h : Nat} {m0 m : List Bool} {more : Bool} {k j : Nat} (hs : SweptL g o h m0 m more k j) (hk : (g.getD k []).length ≤ j ∨ m[k]? = some true ∨ k ∉ o) : SweptL g o h m0 m more (k + 1) 0 := by
  rcases hs with ⟨h1, h2, h3, h4⟩ | hs
  · refine .inl ⟨h1, h2, fun b hb ho hm t ht hmt => ?_, fun p hp => absurd hp (Nat.not_lt_zero _)⟩
    rcases Nat.lt_or_ge b k with h' | h'
    · exact h3 b h' ho hm t ht hmt
    · obtain rfl : b = k := by omega
      rcases hk with hk | hk | hk
      · obtain ⟨p, hp, rfl⟩ := List.getElem_of_mem ht
        have := h4 p (by omega)
        rw [List.getD_eq_getElem?_getD, List.getElem?_eq_getElem hp] at this
        exact this hmt
      · rw [h2] at hk; exact absurd hk hm
      · exact absurd ho hk
  · exact .inr hs
theorem SweptL.found {g : List (List Nat)} {o : List Nat} {h : Nat} {m0 m : List Bool} {more : Bool} {k j x : Nat} (hs : SweptL g o h m0 m more k j) (hm : m[x]? = some false) (k' j' : Nat) : SweptL g o h m0 (m.set x true) true k' j' := by
  have := unmetN_set m x hm
  rcases hs with ⟨_, h2, _⟩ | ⟨_, h2⟩
  · exact .inr ⟨rfl, by rw [← h2]; omega⟩
  · exact .inr ⟨rfl, by omega⟩
theorem SweptL.step {g : List (List Nat)} {o : List Nat} {h : Nat} {m0 m : List Bool} {more : Bool} {k j : Nat} (hs : SweptL g o h m0 m more k j) (hm : m[(g.getD k []).getD j 0]? = some true → (g.getD k []).getD j 0 = h) : SweptL g o h m0 m more k (j + 1) := by
  rcases hs with ⟨h1, h2, h3, h4⟩ | hs
  · refine .inl ⟨h1, h2, h3, fun p hp hmp => ?_⟩
    rcases Nat.lt_or_ge p j with h' | h'
    · exact h4 p h' hmp
    · obtain rfl : p = j := by omega
      rw [← h2] at hmp; exact hm hmp
  · exact .inr hs
theorem HalfL.done {g : List (List Nat)} {o Wk E : List Nat} {h : Nat} {m m2 : List Bool} (hh : HalfL g.length o Wk E h m) (hW : Walk (predsL g) E ((List.replicate g.length false).set h true) m2 Wk) (hhn : h ∉ Wk) (hcl : ∀ x ∈ o, ∀ v ∈ g.getD x [], v ∈ o) (hc : ∀ b, b ∈ o → m[b]? ≠ some true → ∀ t ∈ g.getD b [], m[t]? = some true → t = h) :
    ∀ x, x < g.length → m[x]? = some (decide (x = h ∨ (x ∈ Wk ∧ x ∈ o))) := by
  have hWlt : ∀ x ∈ Wk, x < g.length := fun x hx => by simpa using hW.lt x hx
  have hin : ∀ e y, e ∈ E → Path (predsL g) (· ∈ Wk) e y → y ∈ Wk ∧ (y ∈ o → m[y]? = some true) := fun e y he hy => by
    induction hy with
    | refl hm => exact ⟨hm, fun _ => hh.st _ (.inr he)⟩
    | @step a v _ hv hs ih =>
      refine ⟨hs, fun ho => ?_⟩
      have hav := (mem_predsL g v a (hWlt a ih.1)).1 hv
      have hma := ih.2 (hcl v ho a hav)
      by_cases hmv : m[v]? = some true
      · exact hmv
      · exact absurd (hc v ho hmv a hav hma) (fun e => hhn (e ▸ ih.1))
  intro x hx
  have e := List.getElem?_eq_getElem (l := m) (i := x) (by rw [hh.len]; exact hx)
  by_cases hp : x = h ∨ (x ∈ Wk ∧ x ∈ o)
  · rw [decide_eq_true hp]
    rcases hp with hp | ⟨hp1, hp2⟩
    · exact hh.st x (.inl hp)
    · obtain ⟨e0, he0, hpa⟩ := hW.path x hp1
      exact (hin e0 x he0 hpa).2 hp2
  · rw [decide_eq_false hp]
    cases hv : m[x]'(by rw [hh.len]; exact hx) with
    | false => rw [e, hv]
    | true => exact absurd (hh.snd x (by rw [e, hv])) hp
theorem filter_succ (n : Nat) (p : Nat → Bool) : (List.range (n + 1)).filter p = (List.range n).filter p ++ (if p n then [n] else []) := by
  rw [List.range_succ, List.filter_append]
  congr 1
  by_cases h : p n
  · rw [if_pos h, List.filter_cons_of_pos h]; rfl
  · rw [if_neg h, List.filter_cons_of_neg h]; rfl
theorem owns_one (W : World) (base x : Nat) (hb : base ≤ W.heap.size) : (W.alloc (.cells #[.int .i64 (x : Int)] 3)).ownsRow base 3 1 (.slice (some ⟨W.heap.size, 0, none⟩) 1 1) [x].length (intsV [x]) :=
  ⟨by simp, .inr ⟨W.heap.size, 1, #[.int .i64 (x : Int)], rfl, hb, World.alloc_heap_new _ _, by simp, by unfold maxLen; omega, by simp, by simp⟩⟩

/-- What the marks of a loop are held against. -/
structure LoopW (g : List (List Nat)) (o : List Nat) (B : List (Nat × Nat)) (h : Nat) (Wk : List Nat) : Prop where
  walk : ∃ m2, Walk (predsL g) (aheadL B h) ((List.replicate g.length false).set h true) m2 Wk
  hno : h ∉ Wk
  ends : ∀ x ∈ aheadL B h, x = h ∨ (x ∈ Wk ∧ x ∈ o)
  pred : ∀ i t, i ∈ o → t ∈ g.getD i [] → t ∈ Wk → i = h ∨ (i ∈ Wk ∧ i ∈ o)
  row : loopRow (predsL g) h (aheadL B h) o = h :: (List.range g.length).filter fun x => decide (x ∈ Wk) && decide (x ∈ o)
theorem loopW_ex (g : List (List Nat)) (hgr : Right g) (o : List Nat) (B : List (Nat × Nat)) (h : Nat) (hh : h < g.length) (hB : ∀ e ∈ B, e.1 < g.length ∧ e.1 ∈ o) : ∃ Wk, LoopW g o B h Wk := by
  have hE : ∀ x ∈ aheadL B h, x < g.length ∧ x ∈ o := fun x hx => hB (x, h) ((mem_aheadL B h x).1 hx)
  obtain ⟨m2, W, hW⟩ := Walk.ex (predsL g) g.length (fun b t ht => by
      rcases Nat.lt_or_ge b g.length with h' | h'
      · exact hgr.lt_of ((mem_predsL g t b h').1 ht)
      · rw [getD_ge _ _ (by rw [predsL_len]; exact h')] at ht; cases ht) _ ((List.replicate g.length false).set h true) (aheadL B h) (Nat.le_refl _) (by simp) (fun t ht => (hE t ht).1)
  have hmk : ∀ x, ((List.replicate g.length false).set h true)[x]? = some true ↔ x = h := fun x => by
    rw [set_at _ _ _ (by rw [List.getElem?_replicate, if_pos hh]), repl_at]; simp
  have hhW : h ∉ W := fun hc => by
    have h1 := hW.unmet h hc
    have h2 := (hmk h).2 rfl
    rw [h1] at h2; cases h2
  have hWlt : ∀ x ∈ W, x < g.length := fun x hx => by simpa using hW.lt x hx
  refine ⟨W, ⟨m2, hW⟩, hhW, fun x hx => ?_, fun i t hi ht hm => ?_, ?_⟩
  · have h1 := hW.todo x hx
    rw [hW.met, hmk] at h1
    rcases h1 with h1 | h1
    · exact .inl h1
    · exact .inr ⟨h1, (hE x hx).2⟩
  · have h1 := hW.closed t hm i ((mem_predsL g i t (hWlt t hm)).2 ht)
    rw [hW.met, hmk] at h1
    rcases h1 with h1 | h1
    · exact .inl h1
    · exact .inr ⟨h1, hi⟩
  · unfold loopRow; rw [predsL_len, hW.out]

end Go.Proofs.Ytchnjjdhffmkpaa
