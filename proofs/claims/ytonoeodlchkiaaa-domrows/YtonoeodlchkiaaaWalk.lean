/-
  Graphs as lists (layer 6): blocks gone over, those ahead, orders, back edges. No program is named.
-/
import Derived.Test.YtonoeodlchkiaaaProg
namespace Go.Proofs.Ytonoeodlchkiaaa

/-- Blocks are gone over from those of a list on: what was met, what is met then, and who is left, in that order. -/
inductive Walk (g : List (List Nat)) : List Nat → List Bool → List Bool → List Nat → Prop
  | nil (m : List Bool) : Walk g [] m m []
  | skip {b : Nat} {T : List Nat} {m m' : List Bool} {o : List Nat} : m[b]? = some true → Walk g T m m' o → Walk g (b :: T) m m' o
  | go {b : Nat} {T : List Nat} {m m1 m2 : List Bool} {o1 o2 : List Nat} : m[b]? = some false → Walk g (g.getD b []) (m.set b true) m1 o1 → Walk g T m1 m2 o2 → Walk g (b :: T) m m2 (o1 ++ b :: o2)

theorem Walk.det {g : List (List Nat)} {T : List Nat} {m m1 : List Bool} {o1 : List Nat} (h : Walk g T m m1 o1) : ∀ {m2 : List Bool} {o2 : List Nat}, Walk g T m m2 o2 → m1 = m2 ∧ o1 = o2 := by
  induction h with
  | nil m => intro m2 o2 h2; cases h2; exact ⟨rfl, rfl⟩
  | skip hb _ ih =>
    intro m2 o2 h2
    cases h2 with
    | skip _ h2 => exact ih h2
    | go hb' _ _ => rw [hb] at hb'; cases hb'
  | go hb _ _ ih1 ih2 =>
    intro m2 o2 h2
    cases h2 with
    | skip hb' _ => rw [hb] at hb'; cases hb'
    | go _ k1 k2 =>
      obtain ⟨rfl, rfl⟩ := ih1 k1
      obtain ⟨rfl, rfl⟩ := ih2 k2
      exact ⟨rfl, rfl⟩

theorem Walk.append {g : List (List Nat)} {T1 T2 : List Nat} {m m1 m2 : List Bool} {o1 o2 : List Nat} (h : Walk g T1 m m1 o1) (k : Walk g T2 m1 m2 o2) : Walk g (T1 ++ T2) m m2 (o1 ++ o2) := by
  induction h with
  | nil m => exact k
  | skip hb _ ih => exact .skip hb (ih k)
  | go hb h1 _ _ ih2 =>
    have := Walk.go hb h1 (ih2 k)
    simpa using this

theorem Walk.len {g : List (List Nat)} {T : List Nat} {m m' : List Bool} {o : List Nat} (h : Walk g T m m' o) : m'.length = m.length := by
  induction h with
  | nil m => rfl
  | skip _ _ ih => exact ih
  | go _ _ _ ih1 ih2 => rw [ih2, ih1, List.length_set]

theorem set_at (m : List Bool) (b x : Nat) (hb : m[b]? = some false) : (m.set b true)[x]? = some true ↔ m[x]? = some true ∨ x = b := by
  have hlt : b < m.length := (List.getElem?_eq_some_iff.1 hb).1
  by_cases h : x = b
  · subst h; simp [hlt]
  · rw [List.getElem?_set_ne (fun e => h e.symm)]; simp [h]

theorem Walk.met {g : List (List Nat)} {T : List Nat} {m m' : List Bool} {o : List Nat} (h : Walk g T m m' o) : ∀ x, m'[x]? = some true ↔ m[x]? = some true ∨ x ∈ o := by
  induction h with
  | nil m => intro x; simp
  | skip _ _ ih => exact ih
  | go hb _ _ ih1 ih2 =>
    intro x
    rw [ih2, ih1, set_at _ _ _ hb]
    simp only [List.mem_append, List.mem_cons]
    constructor
    · rintro (((h | h) | h) | h)
      · exact .inl h
      · exact .inr (.inr (.inl h))
      · exact .inr (.inl h)
      · exact .inr (.inr (.inr h))
    · rintro (h | h | h | h)
      · exact .inl (.inl (.inl h))
      · exact .inl (.inr h)
      · exact .inl (.inl (.inr h))
      · exact .inr h

theorem Walk.unmet {g : List (List Nat)} {T : List Nat} {m m' : List Bool} {o : List Nat} (h : Walk g T m m' o) : ∀ x ∈ o, m[x]? = some false := by
  induction h with
  | nil m => intro x hx; cases hx
  | skip _ _ ih => exact ih
  | @go b T m m1 m2 o1 o2 hb h1 _ ih1 ih2 =>
    have key : ∀ x, (m.set b true)[x]? = some false → m[x]? = some false := fun x hx => by
      by_cases e : x = b
      · subst e; exact hb
      · rwa [List.getElem?_set_ne (fun e' => e e'.symm)] at hx
    intro x hx
    rcases List.mem_append.1 hx with hx | hx
    · exact key x (ih1 x hx)
    · rcases List.mem_cons.1 hx with rfl | hx
      · exact hb
      · have h3 := ih2 x hx
        have hl := h1.len
        have hlt : x < m1.length := (List.getElem?_eq_some_iff.1 h3).1
        apply key
        cases hc : (m.set b true)[x]? with
        | none => rw [List.getElem?_eq_none_iff] at hc; omega
        | some v =>
          cases v with
          | false => rfl
          | true => rw [(h1.met x).2 (.inl hc)] at h3; cases h3

theorem Walk.nodup {g : List (List Nat)} {T : List Nat} {m m' : List Bool} {o : List Nat} (h : Walk g T m m' o) : o.Nodup := by
  induction h with
  | nil m => exact List.nodup_nil
  | skip _ _ ih => exact ih
  | @go b T m m1 m2 o1 o2 hb h1 h2 ih1 ih2 =>
    have hlt : b < m.length := (List.getElem?_eq_some_iff.1 hb).1
    have hb1 : m1[b]? = some true := (h1.met b).2 (.inl (by simp [hlt]))
    rw [List.nodup_append, List.nodup_cons]
    refine ⟨ih1, ⟨fun hm => ?_, ih2⟩, fun x hx y hy e => ?_⟩
    · have := h2.unmet b hm; rw [hb1] at this; cases this
    · subst e
      rcases List.mem_cons.1 hy with rfl | hy
      · have := h1.unmet x hx; simp [hlt] at this
      · have := h2.unmet x hy; rw [(h1.met x).2 (.inr hx)] at this; cases this

theorem Walk.todo {g : List (List Nat)} {T : List Nat} {m m' : List Bool} {o : List Nat} (h : Walk g T m m' o) : ∀ x ∈ T, m'[x]? = some true := by
  induction h with
  | nil m => intro x hx; cases hx
  | skip hb h ih =>
    intro x hx
    rcases List.mem_cons.1 hx with rfl | hx
    · exact (h.met x).2 (.inl hb)
    · exact ih x hx
  | go hb h1 h2 _ ih2 =>
    intro x hx
    rcases List.mem_cons.1 hx with rfl | hx
    · exact (h2.met x).2 (.inl ((h1.met x).2 (.inl ((set_at _ _ _ hb).2 (.inr rfl)))))
    · exact ih2 x hx

theorem Walk.closed {g : List (List Nat)} {T : List Nat} {m m' : List Bool} {o : List Nat} (h : Walk g T m m' o) : ∀ b ∈ o, ∀ v ∈ g.getD b [], m'[v]? = some true := by
  induction h with
  | nil m => intro x hx; cases hx
  | skip _ _ ih => exact ih
  | go hb h1 h2 ih1 ih2 =>
    intro x hx v hv
    rcases List.mem_append.1 hx with hx | hx
    · exact (h2.met v).2 (.inl (ih1 x hx v hv))
    · rcases List.mem_cons.1 hx with rfl | hx
      · exact (h2.met v).2 (.inl (h1.todo v hv))
      · exact ih2 x hx v hv

theorem Walk.from_ {g : List (List Nat)} {T : List Nat} {m m' : List Bool} {o : List Nat} (h : Walk g T m m' o) : ∀ b ∈ o, b ∈ T ∨ ∃ u ∈ o, b ∈ g.getD u [] := by
  induction h with
  | nil m => intro x hx; cases hx
  | skip _ _ ih =>
    intro x hx
    rcases ih x hx with h | h
    · exact .inl (List.mem_cons_of_mem _ h)
    · exact .inr h
  | @go b T m m1 m2 o1 o2 hb h1 h2 ih1 ih2 =>
    intro x hx
    rcases List.mem_append.1 hx with hx | hx
    · rcases ih1 x hx with h | ⟨u, hu, h⟩
      · exact .inr ⟨b, by simp, h⟩
      · exact .inr ⟨u, by simp [hu], h⟩
    · rcases List.mem_cons.1 hx with rfl | hx
      · exact .inl (by simp)
      · rcases ih2 x hx with h | ⟨u, hu, h⟩
        · exact .inl (List.mem_cons_of_mem _ h)
        · exact .inr ⟨u, by simp [hu], h⟩

/-- One comes from u to v by edges, over blocks of S. -/
inductive Path (g : List (List Nat)) (S : Nat → Prop) (u : Nat) : Nat → Prop
  | refl : S u → Path g S u u
  | step {x v : Nat} : Path g S u x → v ∈ g.getD x [] → S v → Path g S u v

theorem Path.mono {g : List (List Nat)} {S S' : Nat → Prop} {u v : Nat} (h : Path g S u v) (hs : ∀ x, S x → S' x) : Path g S' u v := by
  induction h with
  | refl h => exact .refl (hs _ h)
  | step _ hv hs' ih => exact .step ih hv (hs _ hs')
theorem Path.cons {g : List (List Nat)} {S : Nat → Prop} {u x v : Nat} (hu : S u) (hx : x ∈ g.getD u []) (h : Path g S x v) : Path g S u v := by
  induction h with
  | refl h => exact .step (.refl hu) hx h
  | step _ hv hs ih => exact .step ih hv hs

/-- Who is left was come to from one of the list. -/
theorem Walk.path {g : List (List Nat)} {T : List Nat} {m m' : List Bool} {o : List Nat} (h : Walk g T m m' o) : ∀ b ∈ o, ∃ t ∈ T, Path g (· ∈ o) t b := by
  induction h with
  | nil m => intro x hx; cases hx
  | skip _ _ ih =>
    intro x hx
    obtain ⟨t, ht, hp⟩ := ih x hx
    exact ⟨t, List.mem_cons_of_mem _ ht, hp⟩
  | @go b T m m1 m2 o1 o2 hb h1 h2 ih1 ih2 =>
    intro x hx
    rcases List.mem_append.1 hx with hx | hx
    · obtain ⟨t, ht, hp⟩ := ih1 x hx
      exact ⟨b, by simp, .cons (by simp) ht (hp.mono fun y hy => by simp [hy])⟩
    · rcases List.mem_cons.1 hx with rfl | hx
      · exact ⟨x, by simp, .refl (by simp)⟩
      · obtain ⟨t, ht, hp⟩ := ih2 x hx
        exact ⟨t, List.mem_cons_of_mem _ ht, hp.mono fun y hy => by simp [hy]⟩

/-- An edge of one who is left: it leads to one met ahead of all, to one left before, to itself, or back to one from which one came. -/
theorem Walk.edge {g : List (List Nat)} {T : List Nat} {m m' : List Bool} {o : List Nat} (h : Walk g T m m' o) : ∀ (p : List Nat) (b : Nat) (q : List Nat), o = p ++ b :: q → ∀ v ∈ g.getD b [], m[v]? = some true ∨ v ∈ p ∨ v = b ∨ (v ∈ q ∧ Path g (· ∈ o) v b) := by
  induction h with
  | nil m => intro p b q e; simp at e
  | skip _ _ ih => exact ih
  | @go c T m m1 m2 o1 o2 hb h1 h2 ih1 ih2 =>
    intro p b q e v hv
    rcases List.append_eq_append_iff.1 e with ⟨p', rfl, e2⟩ | ⟨p', rfl, e2⟩
    · -- p = o1 ++ p', c :: o2 = p' ++ b :: q
      cases p' with
      | nil =>
        simp only [List.nil_append, List.cons.injEq] at e2
        obtain ⟨rfl, rfl⟩ := e2
        rcases (h1.met v).1 (h1.todo v hv) with h | h
        · rcases (set_at _ _ _ hb).1 h with h | h
          · exact .inl h
          · exact .inr (.inr (.inl h))
        · exact .inr (.inl (by simp [h]))
      | cons d p' =>
        simp only [List.cons_append, List.cons.injEq] at e2
        obtain ⟨rfl, rfl⟩ := e2
        rcases ih2 p' b q rfl v hv with h | h | h | ⟨h, hp⟩
        · rcases (h1.met v).1 h with h | h
          · rcases (set_at _ _ _ hb).1 h with h | h
            · exact .inl h
            · exact .inr (.inl (by simp [h]))
          · exact .inr (.inl (by simp [h]))
        · exact .inr (.inl (by simp [h]))
        · exact .inr (.inr (.inl h))
        · exact .inr (.inr (.inr ⟨h, hp.mono fun y hy => by simp at hy ⊢; exact .inr (.inr hy)⟩))
    · -- o1 = p ++ p', b :: q = p' ++ c :: o2
      cases p' with
      | nil =>
        simp only [List.nil_append, List.cons.injEq] at e2
        obtain ⟨rfl, rfl⟩ := e2
        rcases (h1.met v).1 (h1.todo v hv) with h | h
        · rcases (set_at _ _ _ hb).1 h with h | h
          · exact .inl h
          · exact .inr (.inr (.inl h))
        · exact .inr (.inl (by simpa using h))
      | cons d p' =>
        simp only [List.cons_append, List.cons.injEq] at e2
        obtain ⟨rfl, rfl⟩ := e2
        rcases ih1 p b p' rfl v hv with h | h | h | ⟨h, hp⟩
        · rcases (set_at _ _ _ hb).1 h with h | h
          · exact .inl h
          · subst h
            refine .inr (.inr (.inr ⟨by simp, ?_⟩))
            obtain ⟨t, ht, hp⟩ := h1.path b (by simp)
            exact .cons (by simp) ht (hp.mono fun y hy => by simp at hy ⊢; rcases hy with h | h | h <;> simp [h])
        · exact .inr (.inl h)
        · exact .inr (.inr (.inl h))
        · exact .inr (.inr (.inr ⟨by simp [h], hp.mono fun y hy => by simp at hy ⊢; rcases hy with h | h | h <;> simp [h]⟩))

/-- A lone block that was not met is left last. -/
theorem Walk.last {g : List (List Nat)} {s : Nat} {m m' : List Bool} {o : List Nat} (h : Walk g [s] m m' o) (hs : m[s]? = some false) : ∃ o1, o = o1 ++ [s] := by
  cases h with
  | skip hb _ => rw [hs] at hb; cases hb
  | go _ _ h2 => cases h2; exact ⟨_, rfl⟩

theorem outs_range {α : Type} (f : Nat → List α) (k : Nat) : (List.range (k + 1)).flatMap f = (List.range k).flatMap f ++ f k := by
  rw [List.range_succ, List.flatMap_append]; simp

/-- The edges of the first k blocks. -/
def edgesTo (g : List (List Nat)) (k : Nat) : List (Nat × Nat) := (List.range k).flatMap fun i => (g.getD i []).map fun t => (i, t)
theorem edgesTo_succ (g : List (List Nat)) (k : Nat) : edgesTo g (k + 1) = edgesTo g k ++ (g.getD k []).map fun t => (k, t) := outs_range _ k
def edgesL (g : List (List Nat)) : List (Nat × Nat) := edgesTo g g.length
/-- Those ahead of a block, by edges. -/
def aheadL (E : List (Nat × Nat)) (t : Nat) : List Nat := (E.filter fun e => e.2 == t).map Prod.fst
theorem aheadL_snoc (E : List (Nat × Nat)) (f t x : Nat) : aheadL (E ++ [(f, t)]) x = if x = t then aheadL E x ++ [f] else aheadL E x := by
  unfold aheadL
  rw [List.filter_append, List.map_append]
  by_cases h : x = t
  · subst h; simp
  · rw [if_neg h, List.filter_cons_of_neg (by simpa using fun e => h e.symm)]; simp
theorem mem_aheadL (E : List (Nat × Nat)) (t f : Nat) : f ∈ aheadL E t ↔ (f, t) ∈ E := by
  unfold aheadL
  simp only [List.mem_map, List.mem_filter, beq_iff_eq]
  constructor
  · rintro ⟨⟨a, b⟩, ⟨h, rfl⟩, rfl⟩; exact h
  · intro h; exact ⟨(f, t), ⟨h, rfl⟩, rfl⟩
theorem mem_edgesTo (g : List (List Nat)) (k f t : Nat) : (f, t) ∈ edgesTo g k ↔ f < k ∧ t ∈ g.getD f [] := by
  unfold edgesTo
  simp only [List.mem_flatMap, List.mem_range, List.mem_map, Prod.mk.injEq]
  constructor
  · rintro ⟨i, hi, t', ht, rfl, rfl⟩; exact ⟨hi, ht⟩
  · rintro ⟨h, ht⟩; exact ⟨f, h, t, ht, rfl, rfl⟩
theorem getD_ge (g : List (List Nat)) (b : Nat) (h : g.length ≤ b) : g.getD b [] = [] := by
  rw [List.getD_eq_getElem?_getD, List.getElem?_eq_none h]; rfl
theorem mem_edgesL (g : List (List Nat)) (f t : Nat) : (f, t) ∈ edgesL g ↔ t ∈ g.getD f [] := by
  unfold edgesL
  rw [mem_edgesTo]
  constructor
  · exact And.right
  · intro h
    refine ⟨?_, h⟩
    rcases Nat.lt_or_ge f g.length with h' | h'
    · exact h'
    · rw [getD_ge g f h'] at h; cases h
def predsL (g : List (List Nat)) : List (List Nat) := (List.range g.length).map (aheadL (edgesL g))
theorem predsL_len (g : List (List Nat)) : (predsL g).length = g.length := by simp [predsL]
theorem predsL_at (g : List (List Nat)) (t : Nat) (h : t < g.length) : (predsL g).getD t [] = aheadL (edgesL g) t := by
  rw [List.getD_eq_getElem?_getD]; simp [predsL, h]
theorem mem_predsL (g : List (List Nat)) (u t : Nat) (h : t < g.length) : u ∈ (predsL g).getD t [] ↔ t ∈ g.getD u [] := by
  rw [predsL_at g t h, mem_aheadL, mem_edgesL]

/-- A right graph. -/
structure Right (g : List (List Nat)) : Prop where
  one : 1 ≤ g.length
  most : g.length ≤ 4096
  rows : ∀ b, (g.getD b []).length ≤ 8
  lt : ∀ b, ∀ t ∈ g.getD b [], t < g.length

/-- What a walk over blocks asks of a graph. -/
structure Okay (g : List (List Nat)) : Prop where
  most : g.length ≤ 4096
  rows : ∀ b, (g.getD b []).length ≤ 1000000
  lt : ∀ b, ∀ t ∈ g.getD b [], t < g.length
theorem Right.okay {g : List (List Nat)} (h : Right g) : Okay g := ⟨h.most, fun b => by have := h.rows b; omega, h.lt⟩
theorem Right.lt_of {g : List (List Nat)} (_h : Right g) {u t : Nat} (ht : t ∈ g.getD u []) : u < g.length := by
  rcases Nat.lt_or_ge u g.length with h' | h'
  · exact h'
  · rw [getD_ge g u h'] at ht; cases ht

/-- How many edges there are: as many as stand ahead of all. -/
theorem sum_ahead (n : Nat) : ∀ (E : List (Nat × Nat)), (∀ e ∈ E, e.2 < n) → ((List.range n).map fun t => (aheadL E t).length).sum = E.length
  | [], _ => by
    have : ((List.range n).map fun t => (aheadL [] t).length) = (List.range n).map fun _ => 0 := rfl
    rw [this]
    induction n with
    | zero => rfl
    | succ n ih => rw [List.range_succ, List.map_append, List.sum_append]; simp only [List.map_cons, List.map_nil, List.sum_cons, List.sum_nil]; exact ih (by simp) rfl
  | (f, t) :: E, h => by
    have ih := sum_ahead n E (fun e he => h e (by simp [he]))
    have ht : t < n := h (f, t) (by simp)
    have key : ∀ m, ((List.range m).map fun x => (aheadL ((f, t) :: E) x).length).sum = ((List.range m).map fun x => (aheadL E x).length).sum + (if t < m then 1 else 0) := by
      intro m
      induction m with
      | zero => simp
      | succ m ihm =>
        rw [List.range_succ, List.map_append, List.sum_append, ihm, List.map_append, List.sum_append]
        have : (aheadL ((f, t) :: E) m).length = (aheadL E m).length + (if t = m then 1 else 0) := by
          unfold aheadL
          by_cases e : t = m
          · subst e; simp
          · rw [List.filter_cons_of_neg (by simpa using e), if_neg e]; rfl
        simp only [List.map_cons, List.map_nil, List.sum_cons, List.sum_nil, this]
        by_cases e : t = m
        · subst e; rw [if_neg (by omega), if_pos rfl, if_pos (by omega)]; omega
        · rw [if_neg e]
          by_cases e2 : t < m
          · rw [if_pos e2, if_pos (by omega)]; omega
          · rw [if_neg e2, if_neg (by omega)]; omega
    rw [key, ih, if_pos ht]; rfl
theorem edges_len (g : List (List Nat)) : ∀ k, (edgesTo g k).length = ((List.range k).map fun i => (g.getD i []).length).sum
  | 0 => rfl
  | k + 1 => by rw [edgesTo_succ, List.length_append, edges_len g k, List.range_succ, List.map_append, List.sum_append]; simp

/-- A block's place in an order, from 1 on; 0: it is not in it. -/
def plc (l : List Nat) (x : Nat) : Nat := if x ∈ l then l.idxOf x + 1 else 0
theorem plc_zero (l : List Nat) (x : Nat) : plc l x = 0 ↔ x ∉ l := by
  unfold plc; split <;> simp_all
theorem plc_snoc (l : List Nat) (b x : Nat) (hb : b ∉ l) : plc (l ++ [b]) x = if x = b then l.length + 1 else plc l x := by
  unfold plc
  by_cases h : x = b
  · subst h; rw [if_pos (by simp), if_pos rfl, List.idxOf_append]; simp [hb]
  · rw [if_neg h]
    by_cases hx : x ∈ l
    · rw [if_pos (by simp [hx]), if_pos hx, List.idxOf_append, if_pos hx]
    · rw [if_neg (by simp [hx, h]), if_neg hx]
theorem plc_le (l : List Nat) (x : Nat) : plc l x ≤ l.length := by
  unfold plc; split
  · rename_i h; have := List.idxOf_lt_length_of_mem h; omega
  · exact Nat.zero_le _

/-- The back edges of a block's first k edges. -/
def backRow (pl : Nat → Nat) (f : Nat) (row : List Nat) (k : Nat) : List (Nat × Nat) := (List.range k).flatMap fun i => if pl (row.getD i 0) ≤ pl f ∧ row.getD i 0 ∉ row.take i then [(f, row.getD i 0)] else []
theorem backRow_succ (pl : Nat → Nat) (f : Nat) (row : List Nat) (k : Nat) : backRow pl f row (k + 1) = backRow pl f row k ++ (if pl (row.getD k 0) ≤ pl f ∧ row.getD k 0 ∉ row.take k then [(f, row.getD k 0)] else []) := outs_range _ k
def backTo (pl : Nat → Nat) (g : List (List Nat)) (k : Nat) : List (Nat × Nat) := (List.range k).flatMap fun f => if pl f = 0 then [] else backRow pl f (g.getD f []) (g.getD f []).length
theorem backTo_succ (pl : Nat → Nat) (g : List (List Nat)) (k : Nat) : backTo pl g (k + 1) = backTo pl g k ++ (if pl k = 0 then [] else backRow pl k (g.getD k []) (g.getD k []).length) := outs_range _ k
def backL (pl : Nat → Nat) (g : List (List Nat)) : List (Nat × Nat) := backTo pl g g.length

theorem mem_first (row : List Nat) (t : Nat) : ∀ k, k ≤ row.length → t ∈ row.take k → ∃ i, i < k ∧ row.getD i 0 = t ∧ t ∉ row.take i
  | 0, _, h => by simp at h
  | k + 1, hk, h => by
    by_cases h' : t ∈ row.take k
    · obtain ⟨i, hi, e, hn⟩ := mem_first row t k (by omega) h'
      exact ⟨i, by omega, e, hn⟩
    · refine ⟨k, by omega, ?_, h'⟩
      rw [List.take_succ_eq_append_getElem (by omega)] at h
      rcases List.mem_append.1 h with h | h
      · exact absurd h h'
      · rw [List.getD_eq_getElem?_getD, List.getElem?_eq_getElem (by omega)]
        exact (List.mem_singleton.1 h).symm
theorem getD_mem (row : List Nat) (i : Nat) (h : i < row.length) : row.getD i 0 ∈ row := by
  rw [List.getD_eq_getElem?_getD, List.getElem?_eq_getElem h]; exact List.getElem_mem h
theorem mem_backRow (pl : Nat → Nat) (f : Nat) (row : List Nat) (k : Nat) (hk : k ≤ row.length) (a t : Nat) : (a, t) ∈ backRow pl f row k ↔ a = f ∧ t ∈ row.take k ∧ pl t ≤ pl f := by
  unfold backRow
  simp only [List.mem_flatMap, List.mem_range]
  constructor
  · rintro ⟨i, hi, h⟩
    split at h
    · rename_i hc
      simp at h
      obtain ⟨rfl, rfl⟩ := h
      refine ⟨rfl, ?_, hc.1⟩
      rw [List.getElem?_eq_getElem (by omega)]
      exact List.mem_take_iff_getElem.2 ⟨i, by omega, rfl⟩
    · cases h
  · rintro ⟨rfl, ht, hp⟩
    obtain ⟨i, hi, e, hn⟩ := mem_first row t k hk ht
    exact ⟨i, hi, by rw [e, if_pos ⟨hp, hn⟩]; simp⟩
theorem mem_backL (pl : Nat → Nat) (g : List (List Nat)) (f t : Nat) : (f, t) ∈ backL pl g ↔ pl f ≠ 0 ∧ t ∈ g.getD f [] ∧ pl t ≤ pl f := by
  unfold backL backTo
  simp only [List.mem_flatMap, List.mem_range]
  constructor
  · rintro ⟨i, hi, h⟩
    split at h
    · cases h
    · rename_i hz
      obtain ⟨rfl, ht, hp⟩ := (mem_backRow pl i _ _ (Nat.le_refl _) f t).1 h
      exact ⟨hz, by rwa [List.take_length] at ht, hp⟩
  · rintro ⟨hz, ht, hp⟩
    have hf : f < g.length := by
      rcases Nat.lt_or_ge f g.length with h' | h'
      · exact h'
      · rw [getD_ge g f h'] at ht; cases ht
    exact ⟨f, hf, by rw [if_neg hz]; exact (mem_backRow pl f _ _ (Nat.le_refl _) f t).2 ⟨rfl, by rwa [List.take_length], hp⟩⟩

/-- Who is left, as a function (where there is a walk, it is the only one). -/
noncomputable def outOf (g : List (List Nat)) (T : List Nat) (m : List Bool) : List Nat := Classical.epsilon fun o => ∃ m', Walk g T m m' o
theorem Walk.out {g : List (List Nat)} {T : List Nat} {m m' : List Bool} {o : List Nat} (h : Walk g T m m' o) : outOf g T m = o := by
  obtain ⟨m2, h2⟩ : ∃ m', Walk g T m m' (outOf g T m) := Classical.epsilon_spec (p := fun o => ∃ m', Walk g T m m' o) ⟨o, m', h⟩
  exact (h2.det h).2
theorem repl_at (n x : Nat) : (List.replicate n false)[x]? = some true ↔ False := by
  rw [List.getElem?_replicate]; split <;> simp

/-- What is met, of those left, when nothing was. -/
theorem Walk.flags {g : List (List Nat)} {T : List Nat} {n : Nat} {m' : List Bool} {o : List Nat} (h : Walk g T (List.replicate n false) m' o) : m' = (List.range n).map fun x => decide (x ∈ o) := by
  apply List.ext_getElem?
  intro x
  have hl := h.len
  rw [List.length_replicate] at hl
  by_cases hx : x < n
  · have := h.met x
    rw [repl_at] at this
    rw [List.getElem?_map, List.getElem?_range hx, Option.map_some]
    have e := List.getElem?_eq_getElem (l := m') (i := x) (by omega)
    rw [e] at this ⊢
    cases hv : m'[x]'(by omega) with
    | true => rw [hv] at this; simp at this; simp [this]
    | false => rw [hv] at this; simp at this; simp [this]
  · rw [List.getElem?_eq_none (by omega), List.getElem?_eq_none (by simp; omega)]
theorem Walk.lt {g : List (List Nat)} {T : List Nat} {m m' : List Bool} {o : List Nat} (h : Walk g T m m' o) : ∀ x ∈ o, x < m.length := fun x hx => (List.getElem?_eq_some_iff.1 (h.unmet x hx)).1

end Go.Proofs.Ytonoeodlchkiaaa
