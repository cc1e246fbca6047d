/-
  Loops as lists (layer 6): that a walk is there; that each block of a loop has one behind it in the loop. No program is named.
-/
import Derived.Test.YtchnjjdhffmkpaaLoops
namespace Go.Proofs.Ytchnjjdhffmkpaa

theorem Walk.ex (g : List (List Nat)) (N : Nat) (hg : ∀ b, ∀ t ∈ g.getD b [], t < N) : ∀ (n : Nat) (m : List Bool) (T : List Nat), unmetN m ≤ n → m.length = N → (∀ t ∈ T, t < N) → ∃ m' o, Walk g T m m' o
  | n, m, [], _, _, _ => ⟨m, [], .nil m⟩
  | n, m, b :: T, hn, hm, hT => by
    have hb : b < m.length := by rw [hm]; exact hT b (by simp)
    have hT' : ∀ t ∈ T, t < N := fun t ht => hT t (by simp [ht])
    rcases hv : m[b]'hb with _ | _
    · have hbf : m[b]? = some false := by rw [List.getElem?_eq_getElem hb, hv]
      have hlt := unmetN_set m b hbf
      match n, hn with
      | 0, hn => omega
      | n + 1, hn =>
        obtain ⟨m1, o1, w1⟩ := Walk.ex g N hg n (m.set b true) (g.getD b []) (by omega) (by simpa using hm) (hg b)
        have hc := w1.count
        obtain ⟨m2, o2, w2⟩ := Walk.ex g N hg n m1 T (by omega) (by rw [w1.len]; simpa using hm) hT'
        exact ⟨m2, _, .go hbf w1 w2⟩
    · obtain ⟨m2, o2, w2⟩ := Walk.ex g N hg n m T hn hm hT'
      exact ⟨m2, o2, .skip (by rw [List.getElem?_eq_getElem hb, hv]) w2⟩
termination_by n _ T => (n, T.length)

theorem plc_split (a b : List Nat) (f h : Nat) (hn : (a ++ f :: b).Nodup) (hh : h ∈ b) : plc (a ++ f :: b) f < plc (a ++ f :: b) h := by
  have hfa : f ∉ a := fun hc => by
    have := (List.nodup_append.1 hn).2.2 f hc f (by simp)
    exact this rfl
  have hha : h ∉ a := fun hc => by
    have := (List.nodup_append.1 hn).2.2 h hc h (by simp [hh])
    exact this rfl
  have hfh : f ≠ h := fun hc => by
    have := (List.nodup_cons.1 (List.nodup_append.1 hn).2.1).1
    exact this (hc ▸ hh)
  unfold plc
  rw [if_pos (by simp), if_pos (by simp [hh]), List.idxOf_append, if_neg hfa, List.idxOf_append, if_neg hha, List.idxOf_cons, List.idxOf_cons]
  simp [show (f == h) = false from beq_false_of_ne hfh]

theorem Path.leave {g : List (List Nat)} {S : Nat → Prop} {W : List Nat} {h v : Nat} (hp : Path g S h v) (hW : ∀ x v, v ∈ g.getD x [] → v ∈ W → x = h ∨ x ∈ W) (hh : h ∉ W) (hv : v ∈ W) : ∃ y, y ∈ g.getD h [] ∧ y ∈ W ∧ S y := by
  induction hp with
  | refl _ => exact absurd hv hh
  | step p e s ih =>
    rcases hW _ _ e hv with rfl | hx
    · exact ⟨_, e, hv, s⟩
    · exact ih hx

/-- What a loop's row holds. -/
structure LoopOk (g : List (List Nat)) (r : List Nat) : Prop where
  lt : ∀ x ∈ r, x < g.length
  nodup : r.Nodup
  stay : ∀ x ∈ r, ∃ y, y ∈ g.getD x [] ∧ y ∈ r

theorem loopRow_ok {g : List (List Nat)} (hgr : Right g) {m' : List Bool} {o : List Nat} (hw : Walk g [0] (List.replicate g.length false) m' o) (h : Nat) (hh : h < g.length) (hne : aheadL (backL (plc o.reverse) g) h ≠ []) :
    LoopOk g (loopRow (predsL g) h (aheadL (backL (plc o.reverse) g) h) o) := by
  have hE : ∀ x ∈ aheadL (backL (plc o.reverse) g) h, x ∈ o ∧ h ∈ g.getD x [] ∧ plc o.reverse h ≤ plc o.reverse x := fun x hx => by
    rw [mem_aheadL, mem_backL] at hx
    refine ⟨?_, hx.2.1, hx.2.2⟩
    have := hx.1
    rw [Ne, plc_zero] at this
    exact List.mem_reverse.1 (Classical.not_not.1 this)
  have hlo : ∀ x ∈ o, x < g.length := fun x hx => by simpa using hw.lt x hx
  have hcl : ∀ x ∈ o, ∀ v ∈ g.getD x [], v ∈ o := fun x hx v hv => by
    have := hw.closed x hx v hv
    rw [hw.met] at this
    rcases this with h' | h'
    · exact ((repl_at _ _).1 h').elim
    · exact h'
  obtain ⟨f, hf⟩ := List.exists_mem_of_ne_nil _ hne
  generalize hEE : aheadL (backL (plc o.reverse) g) h = E at *
  obtain ⟨m2, W, hW⟩ := Walk.ex (predsL g) g.length (fun b t ht => by
      rcases Nat.lt_or_ge b g.length with h' | h'
      · exact hgr.lt_of ((mem_predsL g t b h').1 ht)
      · rw [getD_ge _ _ (by rw [predsL_len]; exact h')] at ht; cases ht) _ ((List.replicate g.length false).set h true) E (Nat.le_refl _) (by simp) (fun t ht => hlo t (hE t ht).1)
  have hmk : ∀ x, ((List.replicate g.length false).set h true)[x]? = some true ↔ x = h := fun x => by
    rw [set_at _ _ _ (by rw [List.getElem?_replicate, if_pos hh]), repl_at]; simp
  have hhW : h ∉ W := fun hc => by
    have h1 := hW.unmet h hc
    have h2 := (hmk h).2 rfl
    rw [h1] at h2; cases h2
  have hWlt : ∀ x ∈ W, x < g.length := fun x hx => by simpa using hW.lt x hx
  have hback : ∀ x v, v ∈ g.getD x [] → v ∈ W → x = h ∨ x ∈ W := fun x v hv hvW => by
    have h1 := hW.closed v hvW x ((mem_predsL g x v (hWlt v hvW)).2 hv)
    rw [hW.met, hmk] at h1
    exact h1
  unfold loopRow
  rw [predsL_len, hW.out]
  have hmem : ∀ x, x ∈ (h :: (List.range g.length).filter fun x => decide (x ∈ W) && decide (x ∈ o)) ↔ x = h ∨ (x ∈ W ∧ x ∈ o) := fun x => by
    rw [List.mem_cons, List.mem_filter, List.mem_range]
    simp only [Bool.and_eq_true, decide_eq_true_eq]
    constructor
    · rintro (e | ⟨_, e⟩)
      · exact .inl e
      · exact .inr e
    · rintro (e | e)
      · exact .inl e
      · exact .inr ⟨hWlt x e.1, e⟩
  refine ⟨fun x hx => ?_, ?_, fun x hx => ?_⟩
  · rcases (hmem x).1 hx with rfl | e
    · exact hh
    · exact hWlt x e.1
  · refine List.nodup_cons.2 ⟨fun hc => ?_, List.nodup_range.filter _⟩
    rw [List.mem_filter] at hc
    have := hc.2
    simp only [Bool.and_eq_true, decide_eq_true_eq] at this
    exact hhW this.1
  · rcases (hmem x).1 hx with rfl | ⟨e1, e2⟩
    · obtain ⟨f1, f2, f3⟩ := hE f hf
      by_cases hfx : f = x
      · subst hfx; exact ⟨f, f2, (hmem f).2 (.inl rfl)⟩
      obtain ⟨p, q, hpq⟩ := List.append_of_mem f1
      rcases hw.edge p f q hpq x f2 with h' | h' | h' | ⟨_, hp⟩
      · exact ((repl_at _ _).1 h').elim
      · have hnd := nodup_rev hw.nodup
        rw [hpq] at hnd f3
        rw [List.reverse_append, List.reverse_cons, List.append_assoc, List.singleton_append] at hnd f3
        have := plc_split q.reverse p.reverse f x hnd (List.mem_reverse.2 h')
        omega
      · exact absurd h'.symm hfx
      · have hfW : f ∈ W := by
          have h1 := hW.todo f hf
          rw [hW.met, hmk] at h1
          exact h1.resolve_left hfx
        obtain ⟨y, y1, y2, y3⟩ := hp.leave hback hhW hfW
        exact ⟨y, y1, (hmem y).2 (.inr ⟨y2, y3⟩)⟩
    · rcases hW.from_ x e1 with h' | ⟨u, u1, u2⟩
      · exact ⟨h, (hE x h').2.1, (hmem h).2 (.inl rfl)⟩
      · have u3 := (mem_predsL g x u (hWlt u u1)).1 u2
        exact ⟨u, u3, (hmem u).2 (.inr ⟨u1, hcl x e2 u u3⟩)⟩

theorem loopsTo_ok {g : List (List Nat)} (hgr : Right g) {m' : List Bool} {o : List Nat} (hw : Walk g [0] (List.replicate g.length false) m' o) : ∀ r ∈ loopsTo g o g.length, LoopOk g r := by
  intro r hr
  unfold loopsTo at hr
  rw [List.mem_flatMap] at hr
  obtain ⟨h, h1, h2⟩ := hr
  rw [List.mem_range] at h1
  by_cases hne : aheadL (backL (plc o.reverse) g) h = []
  · rw [if_pos hne] at h2; cases h2
  · rw [if_neg hne, List.mem_singleton] at h2
    rw [h2]
    exact loopRow_ok hgr hw h h1 hne
theorem loopsTo_sum (g : List (List Nat)) (o : List Nat) : ∀ k, (loopsTo g o k).length ≤ ((List.range k).map fun t => (aheadL (backL (plc o.reverse) g) t).length).sum
  | 0 => by simp [loopsTo]
  | k + 1 => by
    have ih := loopsTo_sum g o k
    rw [loopsTo_succ, List.length_append, List.range_succ, List.map_append, List.sum_append]
    simp only [List.map_cons, List.map_nil, List.sum_cons, List.sum_nil]
    by_cases hne : aheadL (backL (plc o.reverse) g) k = []
    · rw [if_pos hne, hne]; simpa using ih
    · rw [if_neg hne]
      have := List.length_pos_iff.2 hne
      simp only [List.length_cons, List.length_nil]; omega
theorem loops_le {g : List (List Nat)} (hgr : Right g) (o : List Nat) : (loopsTo g o g.length).length ≤ (backL (plc o.reverse) g).length := by
  have := loopsTo_sum g o g.length
  rwa [sum_ahead _ _ (fun e he => by obtain ⟨a, b⟩ := e; rw [mem_backL] at he; exact hgr.lt _ _ he.2.1)] at this
theorem loops_zero {g : List (List Nat)} (hgr : Right g) (o : List Nat) : (loopsTo g o g.length).length = 0 ↔ (backL (plc o.reverse) g).length = 0 := by
  constructor
  · intro h
    rcases hB : backL (plc o.reverse) g with _ | ⟨⟨a, t⟩, B⟩
    · rfl
    · exfalso
      have hm : (a, t) ∈ backL (plc o.reverse) g := by rw [hB]; simp
      have ht : t < g.length := by rw [mem_backL] at hm; exact hgr.lt _ _ hm.2.1
      have hne : aheadL (backL (plc o.reverse) g) t ≠ [] := fun hc => by
        have := (mem_aheadL (backL (plc o.reverse) g) t a).2 hm
        rw [hc] at this; cases this
      have : loopRow (predsL g) t (aheadL (backL (plc o.reverse) g) t) o ∈ loopsTo g o g.length := by
        unfold loopsTo
        rw [List.mem_flatMap]
        exact ⟨t, List.mem_range.2 ht, by rw [if_neg hne]; simp⟩
      rw [List.length_eq_zero_iff.1 h] at this; cases this
  · intro h
    have := loops_le hgr o
    omega
/-- How many edges come in, over all blocks. -/
theorem edges_both {g : List (List Nat)} (hgr : Right g) : ((List.range g.length).map fun t => ((predsL g).getD t []).length).sum = ((List.range g.length).map fun i => (g.getD i []).length).sum := by
  rw [← edges_len g g.length, ← sum_ahead g.length (edgesTo g g.length) (fun e he => by obtain ⟨a, b⟩ := e; rw [mem_edgesTo] at he; exact hgr.lt _ _ he.2)]
  congr 1
  refine List.map_congr_left fun t ht => ?_
  rw [predsL_at _ _ (List.mem_range.1 ht)]; rfl

end Go.Proofs.Ytchnjjdhffmkpaa
