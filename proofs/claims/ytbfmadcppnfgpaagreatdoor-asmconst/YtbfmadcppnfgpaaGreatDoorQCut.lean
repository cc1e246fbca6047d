/-
  A region that draws its order, cut ahead of an operation that all operations ahead of it lead to (no Go program is named here).
-/
import Derived.BigQuiet
import Derived.WalkKit
namespace Go.Proofs.YtbfmadcppnfgpaaGreatDoor.Q
open Go.RowKit

/-- All operations ahead of place k lead to it, all behind it wait for it; none is guarded. -/
def cutB (ops : Array Oper) (k : Nat) : Bool :=
  (List.range ops.size).all fun i => match ops[i]? with
    | none => true
    | some o => (o.guard.isNone && (decide (k < i) || o.after.all fun e => !Region.binds .any e || decide (e.on < i))) &&
      ((decide (k ≤ i) || (List.range ops.size).any fun j => decide (i < j) && decide (j ≤ k) && (match ops[j]? with | some q => q.after.any (fun e => Region.binds .any e && e.on == i) | none => false)) &&
        (decide (i ≤ k) || o.after.any fun e => Region.binds .any e && e.on == k))

structure CutP (ops : Array Oper) (k : Nat) : Prop where
  guard : ∀ (i : Nat) (o : Oper), ops[i]? = some o → o.guard = none
  lower : ∀ (i : Nat) (o : Oper), i ≤ k → ops[i]? = some o → ∀ e ∈ o.after, Region.binds .any e = true → e.on < i
  leads : ∀ (i : Nat) (o : Oper), i < k → ops[i]? = some o → ∃ (j : Nat) (q : Oper), i < j ∧ j ≤ k ∧ ops[j]? = some q ∧ ∃ e ∈ q.after, Region.binds .any e = true ∧ e.on = i
  waits : ∀ (i : Nat) (o : Oper), k < i → ops[i]? = some o → ∃ e ∈ o.after, Region.binds .any e = true ∧ e.on = k

theorem cut_spec {ops : Array Oper} {k : Nat} (h : cutB ops k = true) : CutP ops k := by
  have key : ∀ (i : Nat) (o : Oper), ops[i]? = some o → ((o.guard.isNone = true ∧ (decide (k < i) || o.after.all fun e => !Region.binds .any e || decide (e.on < i)) = true) ∧
      ((decide (k ≤ i) || (List.range ops.size).any fun j => decide (i < j) && decide (j ≤ k) && (match ops[j]? with | some q => q.after.any (fun e => Region.binds .any e && e.on == i) | none => false)) = true ∧
        (decide (i ≤ k) || o.after.any fun e => Region.binds .any e && e.on == k) = true)) := fun i o ho => by
    unfold cutB at h
    rw [List.all_eq_true] at h
    have := h i (by rw [List.mem_range]; exact (Array.getElem?_eq_some_iff.1 ho).1)
    rw [ho] at this
    simp only [Bool.and_eq_true] at this
    exact this
  refine ⟨fun i o ho => by simpa using (key i o ho).1.1, fun i o hi ho e he hb => ?_, fun i o hi ho => ?_, fun i o hi ho => ?_⟩
  · have := (key i o ho).1.2
    rw [decide_eq_false (by omega), Bool.false_or] at this
    have h1 := Array.all_eq_true_iff_forall_mem.1 this e he
    simpa [hb] using h1
  · have := (key i o ho).2.1
    rw [decide_eq_false (by omega), Bool.false_or, List.any_eq_true] at this
    obtain ⟨j, _, hj⟩ := this
    rw [Bool.and_eq_true, Bool.and_eq_true] at hj
    obtain ⟨⟨h1, h2⟩, h3⟩ := hj
    cases hq : ops[j]? with
    | none => rw [hq] at h3; cases h3
    | some q =>
      rw [hq] at h3
      obtain ⟨ix, hix, hp⟩ := Array.any_eq_true.1 h3
      rw [Bool.and_eq_true, beq_iff_eq] at hp
      exact ⟨j, q, of_decide_eq_true h1, of_decide_eq_true h2, hq, q.after[ix], Array.getElem_mem hix, hp.1, hp.2⟩
  · have := (key i o ho).2.2
    rw [decide_eq_false (by omega), Bool.false_or] at this
    obtain ⟨ix, hix, hp⟩ := Array.any_eq_true.1 this
    rw [Bool.and_eq_true, beq_iff_eq] at hp
    exact ⟨o.after[ix], Array.getElem_mem hix, hp.1, hp.2⟩

theorem any_more {P : Program} {md : Region.Mode} {ops : Array Oper} {Q : Exit → Act → World → Prop} : ∀ (n m : Nat) (A : Array Bool) (a : Act) (w : World), wpAny P md ops Q n A a w → wpAny P md ops Q (n + m) A a w
  | 0, m, A, a, w, h => by
    cases m with
    | zero => exact h
    | succ m => exact ⟨fun _ => h.2, fun i hi => by rw [h.1] at hi; cases hi⟩
  | n + 1, m, A, a, w, h => by
    rw [show n + 1 + m = (n + m) + 1 by omega]
    exact ⟨h.1, fun i hi => wpOp_mono (fun a w h => any_more n m _ a w h) (h.2 i hi)⟩

/-- The first k of A are A1's, the rest have not come up. -/
structure Half (n k : Nat) (A A1 : Array Bool) : Prop where
  s1 : A1.size = k
  sz : A.size = n
  low : ∀ i, i < k → A[i]? = A1[i]?
  high : ∀ i, k ≤ i → i < n → A[i]? = some false

theorem Half.set {n k i : Nat} {A A1 : Array Bool} (h : Half n k A A1) (hi : i < k) (hk : k ≤ n) : Half n k (A.setIfInBounds i true) (A1.setIfInBounds i true) where
  s1 := by simp [h.s1]
  sz := by simp [h.sz]
  low := fun j hj => by
    by_cases e : i = j
    · subst e
      rw [Array.getElem?_setIfInBounds_self_of_lt (by rw [h.sz]; omega), Array.getElem?_setIfInBounds_self_of_lt (by rw [h.s1]; omega)]
    · rw [Array.getElem?_setIfInBounds_ne e, Array.getElem?_setIfInBounds_ne e]; exact h.low j hj
  high := fun j h1 h2 => by rw [Array.getElem?_setIfInBounds_ne (by omega)]; exact h.high j h1 h2

theorem getD_of {A : Array Bool} {i : Nat} {b d : Bool} (h : A[i]? = some b) : A.getD i d = b := by
  rw [Array.getD_eq_getD_getElem?, h]; rfl
theorem of_getD {A : Array Bool} {i : Nat} (h : A.getD i false = true) : A[i]? = some true := by
  rw [Array.getD_eq_getD_getElem?] at h
  cases hA : A[i]? with
  | none => rw [hA] at h; cases h
  | some b => rw [hA] at h; simp at h; rw [h]

/-- What has come up waited for nothing that has not. -/
def Down (ops : Array Oper) (k : Nat) (A : Array Bool) : Prop := ∀ (i : Nat) (o : Oper), i < k → ops[i]? = some o → A[i]? = some true → ∀ e ∈ o.after, Region.binds .any e = true → A[e.on]? = some true

theorem cut_go {P : Program} {ops ops1 : Array Oper} {k : Nat} {Q : Exit → Act → World → Prop} {C : World → Prop} {Q1 : Act → Prop} (hc : CutP ops k) (hk : k < ops.size) (h1s : ops1.size = k) (h1 : ∀ i, i < k → ops1[i]? = ops[i]?)
    (m : Nat) (hQ1 : ∀ A a w, A.size = ops.size → (∀ i, i < k → A[i]? = some true) → (∀ i, k ≤ i → i < ops.size → A[i]? = some false) → C w → Q1 a → wpAny P .any ops Q m A a w) :
    ∀ (fuel : Nat) (A A1 : Array Bool) (a : Act) (w : World), Half ops.size k A A1 → Down ops k A → C w → wpAnyQ P .any ops1 C Q1 fuel A1 a → wpAny P .any ops Q (fuel + m) A a w := by
  -- none is ready: all have come up
  have allUp : ∀ A A1, Half ops.size k A A1 → Region.ready .any ops1 A1 = [] → ∀ i, i < k → A[i]? = some true := fun A A1 hh hr i hi => by
    induction i using Nat.strongRecOn with
    | _ i ih =>
      have hlt : i < ops.size := by omega
      obtain ⟨o, ho⟩ : ∃ o, ops[i]? = some o := ⟨_, Array.getElem?_eq_getElem hlt⟩
      have hA : ∃ b, A[i]? = some b := ⟨_, Array.getElem?_eq_getElem (by rw [hh.sz]; exact hlt)⟩
      obtain ⟨b, hb⟩ := hA
      cases b with
      | true => exact hb
      | false =>
        have : i ∈ Region.ready .any ops1 A1 := by
          rw [mem_ready]
          refine ⟨getD_of ((hh.low i hi).symm.trans hb), o, (h1 i hi).trans ho, fun e he hbd => ?_⟩
          have hlo := hc.lower i o (Nat.le_of_lt hi) ho e he hbd
          exact getD_of ((hh.low e.on (by omega)).symm.trans (ih e.on hlo (by omega)))
        rw [hr] at this
        cases this
  -- where one ahead of k has not come up, only such may
  have only : ∀ A A1, Half ops.size k A A1 → Down ops k A → Region.ready .any ops1 A1 ≠ [] → ∀ i, i ∈ Region.ready .any ops A → i < k := fun A A1 hh hd hr i hi => by
    apply Classical.byContradiction
    intro hge
    obtain ⟨_, o, ho, hall⟩ := mem_ready.1 hi
    have hlt : i < ops.size := (Array.getElem?_eq_some_iff.1 ho).1
    by_cases e : i = k
    · subst e
      have up : ∀ d j, j + d + 1 = i → A[j]? = some true := fun d => by
        induction d using Nat.strongRecOn with
        | _ d ih =>
          intro j hj
          have hjl : j < ops.size := by omega
          obtain ⟨oj, hoj⟩ : ∃ o, ops[j]? = some o := ⟨_, Array.getElem?_eq_getElem hjl⟩
          obtain ⟨q, oq, hq1, hq2, hoq, e, he, hb, hon⟩ := hc.leads j oj (by omega) hoj
          by_cases eq : q = i
          · subst eq
            rw [ho] at hoq
            injection hoq with hoq
            subst hoq
            have := of_getD (hall e he hb)
            rw [hon] at this; exact this
          · have hup := ih (i - q - 1) (by omega) q (by omega)
            have := hd q oq (by omega) hoq hup e he hb
            rw [hon] at this; exact this
      apply hr
      apply List.eq_nil_iff_forall_not_mem.2
      intro j hj
      obtain ⟨hjf, oj, hoj, _⟩ := mem_ready.1 hj
      have hjk : j < i := by rw [← h1s]; exact (Array.getElem?_eq_some_iff.1 hoj).1
      have hu := up (i - j - 1) j (by omega)
      rw [getD_of ((hh.low j hjk).symm.trans hu)] at hjf
      cases hjf
    · obtain ⟨e', he, hb, hon⟩ := hc.waits i o (by omega) ho
      have := of_getD (hall e' he hb)
      rw [hon, hh.high k (Nat.le_refl _) hk] at this
      cases this
  intro fuel
  induction fuel with
  | zero =>
    intro A A1 a w hh hd hC h
    rw [Nat.zero_add]
    exact hQ1 A a w hh.sz (allUp A A1 hh h.1) hh.high hC h.2
  | succ fuel ih =>
    intro A A1 a w hh hd hC h
    by_cases hr : Region.ready .any ops1 A1 = []
    · have := hQ1 A a w hh.sz (allUp A A1 hh hr) hh.high hC (h.1 hr)
      rw [show fuel + 1 + m = m + (fuel + 1) by omega]
      exact any_more m (fuel + 1) A a w this
    · rw [show fuel + 1 + m = (fuel + m) + 1 by omega]
      have sub : ∀ i, i < k → i ∈ Region.ready .any ops A → i ∈ Region.ready .any ops1 A1 := fun i hi hm => by
        obtain ⟨hf, o, ho, hall⟩ := mem_ready.1 hm
        rw [mem_ready]
        have hA : ∃ b, A[i]? = some b := ⟨_, Array.getElem?_eq_getElem (by rw [hh.sz]; omega)⟩
        obtain ⟨b, hb⟩ := hA
        rw [getD_of hb] at hf
        subst hf
        refine ⟨getD_of ((hh.low i hi).symm.trans hb), o, (h1 i hi).trans ho, fun e he hbd => ?_⟩
        have hlo := hc.lower i o (Nat.le_of_lt hi) ho e he hbd
        exact getD_of ((hh.low e.on (by omega)).symm.trans (of_getD (hall e he hbd)))
      have sup : ∀ i, i ∈ Region.ready .any ops1 A1 → i ∈ Region.ready .any ops A := fun i hm => by
        obtain ⟨hf, o, ho, hall⟩ := mem_ready.1 hm
        have hi : i < k := by rw [← h1s]; exact (Array.getElem?_eq_some_iff.1 ho).1
        rw [h1 i hi] at ho
        rw [mem_ready]
        have hA : ∃ b, A1[i]? = some b := ⟨_, Array.getElem?_eq_getElem (by rw [hh.s1]; omega)⟩
        obtain ⟨b, hb⟩ := hA
        rw [getD_of hb] at hf
        subst hf
        refine ⟨getD_of ((hh.low i hi).trans hb), o, ho, fun e he hbd => ?_⟩
        have hlo := hc.lower i o (Nat.le_of_lt hi) ho e he hbd
        exact getD_of ((hh.low e.on (by omega)).trans (of_getD (hall e he hbd)))
      refine ⟨fun h0 => ?_, fun i hi => ?_⟩
      · exfalso
        apply hr
        apply List.eq_nil_iff_forall_not_mem.2
        intro i hi
        have := sup i hi
        rw [h0] at this
        cases this
      · have hik := only A A1 hh hd hr i hi
        have hq := h.2 i (sub i hik hi)
        obtain ⟨_, o, ho, hall⟩ := mem_ready.1 hi
        have hg := hc.guard i o ho
        -- the operation, in the whole region
        have hq' : qOp P ops C i (wpAnyQ P .any ops1 C Q1 fuel (A1.setIfInBounds i true)) a := by
          unfold qOp at hq ⊢
          rw [h1 i hik, ho] at hq
          rw [ho]
          simpa [Region.wanted, hg] using hq
        refine wpOp_of_qOp hC (fun a' w' hw' hn => ih _ _ a' w' (hh.set hik (Nat.le_of_lt hk)) ?_ hw' hn) hq'
        intro j oj hj hoj hA e he hb
        by_cases eij : i = j
        · subst eij
          rw [ho] at hoj
          injection hoj with hoj
          subst hoj
          exact of_getD (getD_set_true (hall e he hb))
        · rw [Array.getElem?_setIfInBounds_ne eij] at hA
          exact of_getD (getD_set_true (getD_of (hd j oj hj hoj hA e he hb)))

/-- **THE CUT**: what stands ahead of c only reads; c is carried out in a world of the class; what stands behind it looks at no memory. -/
theorem wp_region_cut {P : Program} {id : Nat} {Q : Exit → Act → World → Prop} {a : Act} {w : World} {pre suf : List Oper} {c : Oper} {l : List Oper} (hl : l = pre ++ c :: suf) (hm : P.follows .mixedOrders = true)
    (hB : cutB l.toArray pre.length = true) (hL : Region.lexB .any pre.toArray = true) (hN : Region.noSelect l.toArray = true)
    (hS : Region.lexFrom .any l.toArray suf.length (pre.length + 1) ((List.replicate (pre.length + 1) true ++ List.replicate suf.length false).toArray) = true)
    (h : wpQuiet P pre.toArray (fun w' => ∃ n, w' = w.drewN n) (fun a1 => ∀ w1, (∃ n, w1 = w.drewN n) → c.wp P a1 w1 (fun a2 w2 => wpQuiet P l.toArray (fun w' => ∃ n, w' = w2.drewN n) (fun a' => ∀ w', (∃ n, w' = w2.drewN n) → Q .normal a' w') suf a2) Q) pre a) :
    (Code.region id l.toArray true).wp P Q a w := by
  have hc := cut_spec hB
  have hn : l.toArray.size = pre.length + 1 + suf.length := by rw [hl]; simp; omega
  have hcat : l.toArray[pre.length]? = some c := by rw [hl]; simp
  simp only [Region.lexB, Bool.and_eq_true] at hL
  refine wp_region_any hm ?_
  have hq := wpAnyQ_lex (P := P) (C := fun w' => ∃ n, w' = w.drewN n) (md := .any) hL.1 pre 0 (Array.replicate pre.length false) a (by simp) (by simpa using hL.2) h
  have hgo := cut_go (P := P) (ops := l.toArray) (ops1 := pre.toArray) (k := pre.length) (Q := Q) (C := fun w' => ∃ n, w' = w.drewN n) hc (by omega) (by simp) (fun i hi => by rw [hl, List.getElem?_toArray, List.getElem?_toArray, List.getElem?_append_left hi]) (suf.length + 1)
    (fun A a1 w1 hsz hlo hhi hC hc1 => by
      have hA : A = (List.replicate pre.length true ++ false :: List.replicate suf.length false).toArray := by
        apply Array.ext_getElem?
        intro i
        by_cases h1 : i < pre.length
        · rw [hlo i h1, List.getElem?_toArray, List.getElem?_append_left (by simpa using h1)]; simp [h1]
        · by_cases h2 : i < l.toArray.size
          · have h3 : i < pre.length + 1 + suf.length := by omega
            rw [hhi i (by omega) h2]
            have : ((List.replicate pre.length true ++ List.replicate (suf.length + 1) false).toArray)[i]? = some false := by
              rw [List.getElem?_toArray, List.getElem?_append_right (by simp; omega), List.getElem?_replicate, if_pos (by simp; omega)]
            simpa [List.replicate_succ] using this.symm
          · rw [Array.getElem?_eq_none (by omega), List.getElem?_toArray, List.getElem?_eq_none (by simp; omega)]
      have hset : A.setIfInBounds pre.length true = (List.replicate (pre.length + 1) true ++ List.replicate suf.length false).toArray := by
        rw [hA]; simp [List.set_append_right, List.replicate_succ', List.append_assoc]
      have hg := hc.guard _ _ hcat
      -- only c may come up
      have hready : ∀ i, i ∈ Region.ready .any l.toArray A → i = pre.length := fun i hi => by
        obtain ⟨hf, o, ho, hall⟩ := mem_ready.1 hi
        apply Classical.byContradiction
        intro hne
        by_cases h1 : i < pre.length
        · rw [getD_of (hlo i h1)] at hf; cases hf
        · obtain ⟨e, he, hb, hon⟩ := hc.waits i o (by omega) ho
          have := of_getD (hall e he hb)
          rw [hon, hhi _ (Nat.le_refl _) (by omega)] at this
          cases this
      have hin : pre.length ∈ Region.ready .any l.toArray A := by
        rw [mem_ready]
        refine ⟨getD_of (hhi _ (Nat.le_refl _) (by omega)), c, hcat, fun e he hb => ?_⟩
        exact getD_of (hlo _ (hc.lower _ _ (Nat.le_refl _) hcat e he hb))
      refine ⟨(fun h0 => absurd hin (by rw [h0]; simp)), fun i hi => ?_⟩
      obtain rfl := hready i hi
      unfold wpOp
      rw [hcat]
      simp only [Region.wanted, hg, if_true]
      refine .inl (Oper.wp_mono (fun a2 w2 h2 => ?_) (hc1 w1 hC))
      rw [hset]
      refine wpAny_of_quiet (C := fun w' => ∃ n, w' = w2.drewN n) (Q := fun a' => ∀ w', (∃ n, w' = w2.drewN n) → Q .normal a' w') (fun _ w' hw' h => h w' hw') _ _ _ _ ⟨0, rfl⟩ ?_
      exact wpAnyQ_lex (P := P) (md := .any) hN suf (pre.length + 1) _ a2 (fun j => by rw [hl, List.getElem?_toArray, List.getElem?_append_right (by omega), show pre.length + 1 + j - pre.length = j + 1 by omega, List.getElem?_cons_succ]) hS h2)
    pre.length (Array.replicate l.toArray.size false) (Array.replicate pre.length false) a { w with drawn := w.drawn + 1 }
    ⟨by simp, by simp, fun i hi => by rw [Array.getElem?_replicate, Array.getElem?_replicate, if_pos (by omega), if_pos hi], fun i h1 h2 => by rw [Array.getElem?_replicate, if_pos h2]⟩ (fun i o hi ho hA => by
      rw [Array.getElem?_replicate, if_pos (by omega)] at hA
      cases hA) ⟨1, rfl⟩ hq
  rw [show l.toArray.size = pre.length + (suf.length + 1) by omega]
  rw [show l.toArray.size = pre.length + (suf.length + 1) by omega] at hgo
  exact hgo

end Go.Proofs.YtbfmadcppnfgpaaGreatDoor.Q
