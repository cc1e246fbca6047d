/-
  Rows of rows (layer 8): each its own, one more appended.
-/
import Derived.Test.YtcebidhfgdchlaaUnK
namespace Go.Proofs.Ytcebidhfgdchlaa
open Go.ChangeShapes Go.WideShapes Go.ChangeAt Go.RowKit
set_option maxRecDepth 100000 in
theorem typR : ∃ i, Try.prog.info? 36 = some i ∧ i.zero = some (.slice none 0 0) ∧ i.bytes = 24 ∧ i.size = 1 := ⟨_, rfl, rfl, rfl, rfl⟩
theorem grown_turns {W w' : World} {o : Obj} {v : Value} {base : Nat} {e : TypeId} {size n : Nat} {xs : List Value} (ho : W.ownsRow base e size v n xs) (hgb : (W.alloc o).grownBy w' v.ownBlock) : Turns (fun b => base ≤ b) W w' := by
  have hsz := hgb.size
  rw [World.size_alloc] at hsz
  exact ⟨hgb.os, hgb.tape, hgb.output, by omega, fun b hb hq => (hgb.block b (by simp; omega) (fun e => hq (ho.lt b e.symm).1)).trans (Below.heap_alloc _ _ _ hb)⟩
/-- No two have one block. -/
def Apart (vs : List Value) : Prop := ∀ (i j : Nat) (u u' : Value), i ≠ j → vs[i]? = some u → vs[j]? = some u' → ∀ b, u.ownBlock = some b → u'.ownBlock ≠ some b
theorem Apart.more {vs : List Value} {u : Value} (h : Apart vs) (hf : ∀ x b, x ∈ vs → x.ownBlock = some b → u.ownBlock ≠ some b) : Apart (vs ++ [u]) := by
  intro i j x y hij hx hy b hb hc
  rw [List.getElem?_append] at hx hy
  by_cases hi : i < vs.length
  · rw [if_pos hi] at hx
    by_cases hj : j < vs.length
    · rw [if_pos hj] at hy; exact h i j x y hij hx hy b hb hc
    · rw [if_neg hj] at hy
      have : y = u := by
        have h1 := (List.getElem?_eq_some_iff.1 hy).1
        simp at h1
        rw [h1] at hy; simpa using hy.symm
      subst this
      exact hf x b (List.mem_of_getElem? hx) hb hc
  · rw [if_neg hi] at hx
    have hxu : x = u := by
      have h1 := (List.getElem?_eq_some_iff.1 hx).1
      simp at h1
      rw [h1] at hx; simpa using hx.symm
    have hil : i - vs.length = 0 := by have h1 := (List.getElem?_eq_some_iff.1 hx).1; simpa using h1
    by_cases hj : j < vs.length
    · rw [if_pos hj] at hy
      subst hxu
      exact hf y b (List.mem_of_getElem? hy) hc hb
    · rw [if_neg hj] at hy
      have hjl : j - vs.length = 0 := by have h1 := (List.getElem?_eq_some_iff.1 hy).1; simpa using h1
      omega
theorem owns_det {w : World} {base base' : Nat} {e : TypeId} {size : Nat} {v : Value} {n : Nat} {xs ys : List Value} (h : w.ownsRow base e size v n xs) (k : w.ownsRow base' e size v n ys) : xs = ys := by
  have hx := h.1
  have hy := k.1
  rcases h.2 with ⟨rfl, rfl⟩ | ⟨g, cap, cur, rfl, _, e1, _, _, _, t1⟩
  · rw [Nat.zero_mul] at hx hy
    rw [List.length_eq_zero_iff.1 hx, List.length_eq_zero_iff.1 hy]
  · rcases k.2 with ⟨e0, _⟩ | ⟨g2, cap2, cur2, e0, _, e2, _, _, _, t2⟩
    · cases e0
    · cases e0
      rw [e1] at e2
      cases e2
      rw [← t1, ← t2]
/-- A row of rows, each its own. -/
def RowsI (W : World) (base : Nat) (v : Value) (xss : List (List Int)) : Prop := ∃ vs : List Value, W.ownsRow base 36 1 v xss.length vs ∧ (∀ i, i < xss.length → ∃ u, vs[i]? = some u ∧ W.ownsRow base 3 1 u (xss.getD i []).length (intsI (xss.getD i []))) ∧ Apart vs
theorem RowsI.turns {W W' : World} {base : Nat} {v : Value} {xss : List (List Int)} {Q : Nat → Prop} (h : RowsI W base v xss) (ht : Turns Q W W') (hq : ∀ b, base ≤ b → b < W.heap.size → ¬ Q b) : RowsI W' base v xss := by
  obtain ⟨vs, h1, h2, h3⟩ := h
  refine ⟨vs, owns_turns h1 ht (fun b hb => hq b (h1.lt b hb).1 (h1.lt b hb).2), fun i hi => ?_, h3⟩
  obtain ⟨u, hu, ho⟩ := h2 i hi
  exact ⟨u, hu, owns_turns ho ht (fun b hb => hq b (ho.lt b hb).1 (ho.lt b hb).2)⟩
theorem app_row (w : World) (ty : TypeId) (base : Nat) (v : Value) (n : Nat) (xs : List Value) (hown : w.ownsRow base 36 1 v n xs) (u : Value) (hu1 : u.oneCell' = true) (hbd : n ≤ 100000000) (hbase : base ≤ w.heap.size) :
    ∃ g cap w', (Builtin.append_ #[43, 43] ty #[v, .slice (some ⟨w.heap.size, 0, none⟩) 1 1]).run Try.prog (w.alloc (.cells #[u] 36)) = .ok (.slice (some ⟨g, 0, none⟩) (n + 1) cap) w' ∧ w'.ownsRow base 36 1 (.slice (some ⟨g, 0, none⟩) (n + 1) cap) (n + 1) (xs ++ [u]) ∧ (w.alloc (.cells #[u] 36)).grownBy w' v.ownBlock ∧ (v.ownBlock = some g ∨ g = w.heap.size + 1) ∧ g < w'.heap.size := by
  obtain ⟨i, h1, h2, h3, h4⟩ := typR
  exact run_append_lies (P := Try.prog) (w.alloc (.cells #[u] 36)) 43 ty base 36 i _ 1 24 Try.underlying43 h1 h2 h4 h3 rfl (by decide) v n xs (hown.alloc _) ⟨w.heap.size, 0, none⟩ 1 1 [u] rfl
    (fun j x hx => by
      rw [Addr.add_mid]
      have hj : j = 0 := by have := (List.getElem?_eq_some_iff.1 hx).1; simp at this; omega
      subst hj
      simp at hx; subst hx
      rw [cell_of (World.alloc_heap_new w _)]; rfl)
    (fun x hx => by simp at hx; subst hx; exact hu1) (by decide) (by unfold maxLen; omega) (by omega) (by simp; omega) _ (by simp)
/-- One row more. -/
theorem rowsI_step {W : World} {base : Nat} {v : Value} {xss : List (List Int)} (h : RowsI W base v xss) (ty : TypeId) (u : Value) (xs : List Int) (hu : W.ownsRow base 3 1 u xs.length (intsI xs)) (hl : xss.length ≤ 100000000) (hbase : base ≤ W.heap.size) (hfr : ∀ (vs : List Value) (x : Value) (b : Nat), W.ownsRow base 36 1 v xss.length vs → x ∈ vs → x.ownBlock = some b → u.ownBlock ≠ some b) :
    ∃ g cap w', (Builtin.append_ #[43, 43] ty #[v, .slice (some ⟨W.heap.size, 0, none⟩) 1 1]).run Try.prog (W.alloc (.cells #[u] 36)) = .ok (.slice (some ⟨g, 0, none⟩) (xss.length + 1) cap) w' ∧ Turns (fun b => base ≤ b) W w' ∧ RowsI w' base (.slice (some ⟨g, 0, none⟩) (xss.length + 1) cap) (xss ++ [xs]) := by
  obtain ⟨vs, h1, h2, h3⟩ := h
  have hu1 : u.oneCell' = true := by obtain ⟨av, cap, rfl, _⟩ := owns_shape hu; rfl
  obtain ⟨g, cap, w', hap, ho, hgb, hat, hlt⟩ := app_row W ty base v xss.length vs h1 u hu1 hl hbase
  have hT := grown_turns h1 hgb
  have hTv : Turns (fun b => v.ownBlock = some b) W w' := by
    have hsz := hgb.size
    rw [World.size_alloc] at hsz
    exact ⟨hgb.os, hgb.tape, hgb.output, by omega, fun b hb hq => (hgb.block b (by simp; omega) (fun e => hq e.symm)).trans (Below.heap_alloc _ _ _ hb)⟩
  have keep : ∀ (x : Value) (ys : List Int), W.ownsRow base 3 1 x ys.length (intsI ys) → w'.ownsRow base 3 1 x ys.length (intsI ys) := fun x ys hx => by
    refine owns_turns hx hTv (fun b hb hq => ?_)
    rcases hx.2 with ⟨rfl, _⟩ | ⟨g1, c1, cur1, rfl, _, e1, _⟩
    · cases hb
    · rcases h1.2 with ⟨rfl, _⟩ | ⟨g2, c2, cur2, rfl, _, e2, _⟩
      · cases hq
      · have a1 : g1 = b := by simpa [Value.ownBlock] using hb
        have a2 : g2 = b := by simpa [Value.ownBlock] using hq
        subst a1; subst a2
        rw [e1] at e2
        injection e2 with e2
        injection e2 with e2 e3
        exact absurd e3 (by decide)
  have hvl : vs.length = xss.length := by have := h1.1; omega
  refine ⟨g, cap, w', hap, hT, vs ++ [u], by rw [List.length_append]; exact ho, fun i hi => ?_, h3.more fun x b hx hb => hfr vs x b h1 hx hb⟩
  rw [List.length_append, List.length_singleton] at hi
  by_cases hil : i < xss.length
  · obtain ⟨x, hx, hox⟩ := h2 i hil
    refine ⟨x, by rw [List.getElem?_append_left (by omega)]; exact hx, ?_⟩
    rw [show (xss ++ [xs]).getD i [] = xss.getD i [] by rw [List.getD_eq_getElem?_getD, List.getD_eq_getElem?_getD, List.getElem?_append_left hil]]
    exact keep x _ hox
  · obtain rfl : i = xss.length := by omega
    refine ⟨u, by rw [List.getElem?_append_right (by omega)]; simp [hvl], ?_⟩
    rw [show (xss ++ [xs]).getD xss.length [] = xs by rw [List.getD_eq_getElem?_getD, List.getElem?_append_right (Nat.le_refl _)]; simp]
    exact keep u xs hu

end Go.Proofs.Ytcebidhfgdchlaa
