/-
  Rows of rows (layer 7), as those of layer 6: those of a made slice, and those that were appended.
-/
import Derived.Test.YtonoeodlchkiaaaDrawn
import Derived.Test.YtonoeodlchkiaaaSeq
import Derived.Deep.RegionHeldLaw
namespace Go.Proofs.Ytonoeodlchkiaaa
open Go.ChangeShapes Go.WideShapes Go.ChangeAt Go.RowKit Go.Shelf

attribute [local go_sem] Oper.semAt_some

def RowsB (W : World) (base H n : Nat) (f : Nat → List Nat) : Prop := ∃ vs : List Value, vs.length = n ∧ W.heap[H]? = some (.cells vs.toArray 25 (0, 0)) ∧ (∀ t, t < n → ∃ v, vs[t]? = some v ∧ W.ownsRow base 3 1 v (f t).length (intsV (f t))) ∧
  ∀ (s t : Nat) (v u : Value) (b : Nat), vs[s]? = some v → vs[t]? = some u → v.ownBlock = some b → u.ownBlock = some b → s = t
theorem RowsB.turns {W W' : World} {base H n : Nat} {f : Nat → List Nat} {Q : Nat → Prop} (h : RowsB W base H n f) (ht : Turns Q W W') (hq : ∀ b, base ≤ b ∨ b = H → b < W.heap.size → ¬ Q b) : RowsB W' base H n f := by
  obtain ⟨vs, h1, h2, h3, h4⟩ := h
  refine ⟨vs, h1, (ht.block H (lt_of h2) (hq H (.inr rfl) (lt_of h2))).trans h2, fun t htn => ?_, h4⟩
  obtain ⟨v, hv, ho⟩ := h3 t htn
  exact ⟨v, hv, owns_turns ho ht (fun b hb => hq b (.inl (ho.lt b hb).1) (ho.lt b hb).2)⟩
theorem RowsB.congr {W : World} {base H n : Nat} {f f' : Nat → List Nat} (h : RowsB W base H n f) (he : ∀ t, t < n → f' t = f t) : RowsB W base H n f' := by
  obtain ⟨vs, h1, h2, h3, h4⟩ := h
  exact ⟨vs, h1, h2, fun t ht => by rw [he t ht]; exact h3 t ht, h4⟩
theorem rowsB_new (w : World) (n base : Nat) : RowsB (w.alloc (.cells (List.replicate n (.slice none 0 0)).toArray 25)) base w.heap.size n (fun _ => []) := by
  refine ⟨List.replicate n (.slice none 0 0), by simp, World.alloc_heap_new w _, fun t ht => ⟨.slice none 0 0, by simp [ht], World.ownsRow_nil _ _ _ _⟩, ?_⟩
  intro s t v u b hv _ hb _
  rw [List.getElem?_replicate] at hv
  split at hv
  · cases hv; cases hb
  · cases hv
theorem heap_set_same {W : World} {H : Nat} {cs : List Value} {T : TypeId} (h : W.heap[H]? = some (.cells cs.toArray T (0, 0))) (t : Nat) (v : Value) : (W.setCell ⟨H, t, none⟩ v).heap[H]? = some (.cells (cs.set t v).toArray T (0, 0)) := by
  unfold World.setCell
  rw [Array.getElem?_modify, if_pos rfl, h]
  simp
/-- One row grows. -/
theorem rowsB_step {W : World} {base H n : Nat} {f : Nat → List Nat} (h : RowsB W base H n f) (ty : TypeId) (t x : Nat) (ht : t < n) (hH : H < base) (hbase : base ≤ W.heap.size) (hl : (f t).length ≤ 100000000) :
    ∃ v g cap w', W.cell? ⟨H, t, none⟩ = some v ∧ (Builtin.append_ #[25, 25] ty #[v, .slice (some ⟨W.heap.size, 0, none⟩) 1 1]).run Try.prog (W.alloc (.cells #[.int .i64 (x : Int)] 3)) = .ok (.slice (some ⟨g, 0, none⟩) ((f t).length + 1) cap) w' ∧
      (∀ b, b < W.heap.size → b < base ∨ (∀ cur, W.heap[b]? ≠ some (.cells cur 3 (0, 0))) → w'.heap[b]? = W.heap[b]?) ∧ W.heap.size ≤ w'.heap.size ∧ RowsB (w'.setCell ⟨H, t, none⟩ (.slice (some ⟨g, 0, none⟩) ((f t).length + 1) cap)) base H n (fun s => if s = t then f s ++ [x] else f s) ∧
      Turns (fun b => base ≤ b ∨ b = H) W (w'.setCell ⟨H, t, none⟩ (.slice (some ⟨g, 0, none⟩) ((f t).length + 1) cap)) := by
  obtain ⟨vs, h1, h2, h3, h4⟩ := h
  obtain ⟨v, hv, ho⟩ := h3 t ht
  obtain ⟨g, cap, w', hap, ho', hgb, hat, hlt⟩ := app_int W ty base v (f t).length (intsV (f t)) ho (x : Int) hl hbase
  have hsz := hgb.size
  rw [World.size_alloc] at hsz
  have hk : ∀ b, b < W.heap.size → v.ownBlock ≠ some b → w'.heap[b]? = W.heap[b]? := fun b hb hn => (hgb.block b (by simp; omega) (fun e => hn e.symm)).trans (Below.heap_alloc _ _ _ hb)
  have hkb : ∀ b, b < base → w'.heap[b]? = W.heap[b]? := fun b hb => hk b (by omega) (fun e => by have := (ho.lt b e).1; omega)
  have hkc : ∀ b, b < W.heap.size → b < base ∨ (∀ cur, W.heap[b]? ≠ some (.cells cur 3 (0, 0))) → w'.heap[b]? = W.heap[b]? := fun b hb h => by
    rcases h with h | h
    · exact hkb b h
    · refine hk b hb (fun e => ?_)
      rcases ho.2 with ⟨rfl, _⟩ | ⟨g1, c1, cur1, rfl, _, e1, _⟩
      · cases e
      · have a1 : g1 = b := by simpa [Value.ownBlock] using e
        subst a1
        exact h cur1 e1
  have hH' : w'.heap[H]? = some (.cells vs.toArray 25 (0, 0)) := (hkb H hH).trans h2
  have hT : Turns (fun b => base ≤ b ∨ b = H) W (w'.setCell ⟨H, t, none⟩ (.slice (some ⟨g, 0, none⟩) ((f t).length + 1) cap)) := by
    refine Turns.trans (B := w') ⟨hgb.os, hgb.tape, hgb.output, by omega, fun b hb hq => hk b hb (fun e => hq (.inl (ho.lt b e).1))⟩ (Turns.setCell w' ⟨H, t, none⟩ _ (.inr rfl))
  refine ⟨v, g, cap, w', by rw [cell_of h2]; simpa using hv, hap, hkc, by omega, ⟨vs.set t (.slice (some ⟨g, 0, none⟩) ((f t).length + 1) cap), by simpa using h1, heap_set_same hH' t _, fun s hs => ?_, ?_⟩, hT⟩
  · by_cases e : s = t
    · subst e
      refine ⟨_, List.getElem?_set_self (by omega), ?_⟩
      simp only [↓reduceIte]
      rw [List.length_append, show intsV (f s ++ [x]) = intsV (f s) ++ [.int .i64 (x : Int)] by simp [intsV]]
      refine owns_turns ho' (Turns.setCell (Q := fun b => b = H) w' ⟨H, s, none⟩ _ rfl) (fun b hb e => ?_)
      have := (ho'.lt b hb).1
      omega
    · obtain ⟨u, hu, hou⟩ := h3 s hs
      refine ⟨u, by rw [List.getElem?_set_ne (fun e' => e e'.symm)]; exact hu, ?_⟩
      simp only [if_neg e]
      refine owns_turns hou (Turns.trans (B := w') (Q := fun b => v.ownBlock = some b ∨ b = H) ⟨hgb.os, hgb.tape, hgb.output, by omega, fun b hb hq => hk b hb (fun e => hq (.inl e))⟩ (Turns.setCell w' ⟨H, t, none⟩ _ (.inr rfl))) (fun b hb hq => ?_)
      rcases hq with hq | hq
      · exact e (h4 s t u v b hu hv hb hq)
      · have := (hou.lt b hb).1; omega
  · intro s r p q b hp hq hpb hqb
    have gNew : ∀ y, (.slice (some ⟨g, 0, none⟩) ((f t).length + 1) cap : Value).ownBlock = some y → y = g := fun y hy => by simpa [Value.ownBlock] using hy.symm
    have other : ∀ (s : Nat) (p : Value), s ≠ t → (vs.set t (.slice (some ⟨g, 0, none⟩) ((f t).length + 1) cap))[s]? = some p → p.ownBlock = some g → False := fun s p hne hp hpg => by
      rw [List.getElem?_set_ne (fun e => hne e.symm)] at hp
      have hs : s < n := by rw [← h1]; exact (List.getElem?_eq_some_iff.1 hp).1
      obtain ⟨u, hu, hou⟩ := h3 s hs
      rw [hp] at hu; cases hu
      rcases hat with h | h
      · exact hne (h4 s t p v g hp hv hpg h)
      · have := (hou.lt g hpg).2; omega
    by_cases e1 : s = t
    · by_cases e2 : r = t
      · rw [e1, e2]
      · subst e1
        rw [List.getElem?_set_self (by omega)] at hp
        cases hp
        obtain rfl := gNew b hpb
        exact (other r q e2 hq hqb).elim
    · by_cases e2 : r = t
      · subst e2
        rw [List.getElem?_set_self (by omega)] at hq
        cases hq
        obtain rfl := gNew b hqb
        exact (other s p e1 hp hpb).elim
      · rw [List.getElem?_set_ne (fun e => e1 e.symm)] at hp
        rw [List.getElem?_set_ne (fun e => e2 e.symm)] at hq
        exact h4 s r p q b hp hq hpb hqb
/-- What one row's growth leaves of others. -/
theorem grown_turns {W w' : World} {o : Obj} {v : Value} {base : Nat} {e : TypeId} {size n : Nat} {xs : List Value} (ho : W.ownsRow base e size v n xs) (hgb : (W.alloc o).grownBy w' v.ownBlock) : Turns (fun b => base ≤ b) W w' := by
  have hsz := hgb.size
  rw [World.size_alloc] at hsz
  exact ⟨hgb.os, hgb.tape, hgb.output, by omega, fun b hb hq => (hgb.block b (by simp; omega) (fun e => hq (ho.lt b e.symm).1)).trans (Below.heap_alloc _ _ _ hb)⟩
theorem RowsB.cell {W : World} {base H n : Nat} {f : Nat → List Nat} (h : RowsB W base H n f) (t : Nat) (ht : t < n) : ∃ av cap, W.cell? ⟨H, t, none⟩ = some (.slice av (f t).length cap) := by
  obtain ⟨vs, h1, h2, h3, h4⟩ := h
  obtain ⟨v, hv, ho⟩ := h3 t ht
  obtain ⟨av, cap, rfl, _⟩ := owns_shape ho
  exact ⟨av, cap, by rw [cell_of h2]; simpa using hv⟩

theorem RowsB.row {W : World} {base H n : Nat} {f : Nat → List Nat} (h : RowsB W base H n f) (t : Nat) (ht : t < n) (hne : 0 < (f t).length) : ∃ gb cap, W.cell? ⟨H, t, none⟩ = some (.slice (some ⟨gb, 0, none⟩) (f t).length cap) ∧ base ≤ gb ∧ gb < W.heap.size ∧ ∀ k, k < (f t).length → W.cell? ⟨gb, 0 + k, none⟩ = some (.int .i64 (((f t).getD k 0 : Nat) : Int)) := by
  obtain ⟨vs, h1, h2, h3, h4⟩ := h
  obtain ⟨v, hv, ho⟩ := h3 t ht
  obtain ⟨gb, cap, rfl, hb, hlt⟩ := ho.form hne
  refine ⟨gb, cap, by rw [cell_of h2]; simpa using hv, hb, hlt, fun k hk => ?_⟩
  rw [Nat.zero_add, ho.cellAt k (by omega), List.getElem?_map, List.getD_eq_getElem?_getD, List.getElem?_eq_getElem hk]; rfl
/-- Rows that grow are a graph. -/
theorem RowsB.gat {W : World} {base H : Nat} {p : List (List Nat)} (h : RowsB W base H p.length (fun t => p.getD t [])) : ∃ hd, GAt W (some ⟨H, 0, none⟩) H 0 hd (castG p) := by
  have h' := h
  obtain ⟨vs, h1, h2, h3, h4⟩ := h
  have hH := lt_of h2
  have each : ∀ t, ∃ x : Hdr, t < p.length → (W.cell? ⟨H, 0 + t, none⟩ = some (.slice x.av (p.getD t []).length x.cap) ∧ (0 < (p.getD t []).length → x.av = some ⟨x.blk, x.off, none⟩ ∧ x.blk < W.heap.size) ∧ (p.getD t []).length ≤ x.cap ∧ ∀ k, k < (p.getD t []).length → W.cell? ⟨x.blk, x.off + k, none⟩ = some (.int .i64 (((p.getD t []).getD k 0 : Nat) : Int))) := by
    intro t
    by_cases ht : t < p.length
    · obtain ⟨v, hv, ho0⟩ := h3 t ht
      have ho : W.ownsRow base 3 1 v (p.getD t []).length (intsV (p.getD t [])) := ho0
      obtain ⟨av, cap, rfl, hc⟩ := owns_shape ho
      have hcell : W.cell? ⟨H, 0 + t, none⟩ = some (.slice av (p.getD t []).length cap) := by rw [Nat.zero_add, cell_of h2]; simpa using hv
      by_cases h0 : 0 < (p.getD t []).length
      · obtain ⟨gb, cap', e, hb, hlt⟩ := ho.form h0
        injection e with e1 e2 e3
        subst e1
        refine ⟨⟨some ⟨gb, 0, none⟩, cap, gb, 0⟩, fun _ => ⟨hcell, fun _ => ⟨rfl, hlt⟩, hc, fun k hk => ?_⟩⟩
        show W.cell? ⟨gb, 0 + k, none⟩ = _
        rw [Nat.zero_add, ho.cellAt k (by omega), List.getElem?_map, List.getD_eq_getElem?_getD (l := p.getD t []), List.getElem?_eq_getElem hk]; rfl
      · exact ⟨⟨av, cap, 0, 0⟩, fun _ => ⟨hcell, fun h => absurd h h0, hc, fun k hk => absurd hk (by omega)⟩⟩
    · exact ⟨⟨none, 0, 0, 0⟩, fun h => absurd h ht⟩
  obtain ⟨hd, hhd⟩ := Classical.axiomOfChoice each
  refine ⟨hd, ⟨fun _ => rfl, fun _ => hH, fun b hb => ?_, fun b hb h0 => ?_, fun b hb h0 => ?_, fun b hb => ?_, fun b k hb hk => ?_⟩⟩
  · rw [castG_len] at hb; rw [castG_at, List.length_map]; exact (hhd b hb).1
  · rw [castG_len] at hb; rw [castG_at, List.length_map] at h0; exact ((hhd b hb).2.1 h0).1
  · rw [castG_len] at hb; rw [castG_at, List.length_map] at h0; exact ((hhd b hb).2.1 h0).2
  · rw [castG_len] at hb; rw [castG_at, List.length_map]; exact (hhd b hb).2.2.1
  · rw [castG_len] at hb; rw [castG_at, List.length_map] at hk; rw [castG_at, cast_at]; exact (hhd b hb).2.2.2 k hk

/-- A row of rows, each its own. -/
def RowsR (W : World) (base : Nat) (v : Value) (xss : List (List Nat)) : Prop := ∃ vs : List Value, W.ownsRow base 25 1 v xss.length vs ∧ ∀ i, i < xss.length → ∃ u, vs[i]? = some u ∧ W.ownsRow base 3 1 u (xss.getD i []).length (intsV (xss.getD i []))
theorem RowsR.turns {W W' : World} {base : Nat} {v : Value} {xss : List (List Nat)} {Q : Nat → Prop} (h : RowsR W base v xss) (ht : Turns Q W W') (hq : ∀ b, base ≤ b → b < W.heap.size → ¬ Q b) : RowsR W' base v xss := by
  obtain ⟨vs, h1, h2⟩ := h
  refine ⟨vs, owns_turns h1 ht (fun b hb => hq b (h1.lt b hb).1 (h1.lt b hb).2), fun i hi => ?_⟩
  obtain ⟨u, hu, ho⟩ := h2 i hi
  exact ⟨u, hu, owns_turns ho ht (fun b hb => hq b (ho.lt b hb).1 (ho.lt b hb).2)⟩
theorem app_row (w : World) (ty : TypeId) (base : Nat) (v : Value) (n : Nat) (xs : List Value) (hown : w.ownsRow base 25 1 v n xs) (u : Value) (hu1 : u.oneCell' = true) (hbd : n ≤ 100000000) (hbase : base ≤ w.heap.size) :
    ∃ g cap w', (Builtin.append_ #[22, 22] ty #[v, .slice (some ⟨w.heap.size, 0, none⟩) 1 1]).run Try.prog (w.alloc (.cells #[u] 25)) = .ok (.slice (some ⟨g, 0, none⟩) (n + 1) cap) w' ∧ w'.ownsRow base 25 1 (.slice (some ⟨g, 0, none⟩) (n + 1) cap) (n + 1) (xs ++ [u]) ∧ (w.alloc (.cells #[u] 25)).grownBy w' v.ownBlock ∧ (v.ownBlock = some g ∨ g = w.heap.size + 1) ∧ g < w'.heap.size := by
  obtain ⟨i, h1, h2, h3, h4⟩ := typR
  exact run_append_lies (P := Try.prog) (w.alloc (.cells #[u] 25)) 22 ty base 25 i _ 1 24 Try.underlying22 h1 h2 h4 h3 rfl (by decide) v n xs (hown.alloc _) ⟨w.heap.size, 0, none⟩ 1 1 [u] rfl
    (fun j x hx => by
      rw [Addr.add_mid]
      have hj : j = 0 := by have := (List.getElem?_eq_some_iff.1 hx).1; simp at this; omega
      subst hj
      simp at hx; subst hx
      rw [cell_of (World.alloc_heap_new w _)]; rfl)
    (fun x hx => by simp at hx; subst hx; exact hu1) (by decide) (by unfold maxLen; omega) (by omega) (by simp; omega) _ (by simp)
/-- One row more. -/
theorem rowsR_step {W : World} {base : Nat} {v : Value} {xss : List (List Nat)} (h : RowsR W base v xss) (ty : TypeId) (u : Value) (xs : List Nat) (hu : W.ownsRow base 3 1 u xs.length (intsV xs)) (hl : xss.length ≤ 100000000) (hbase : base ≤ W.heap.size) :
    ∃ g cap w', (Builtin.append_ #[22, 22] ty #[v, .slice (some ⟨W.heap.size, 0, none⟩) 1 1]).run Try.prog (W.alloc (.cells #[u] 25)) = .ok (.slice (some ⟨g, 0, none⟩) (xss.length + 1) cap) w' ∧ Turns (fun b => base ≤ b) W w' ∧ RowsR w' base (.slice (some ⟨g, 0, none⟩) (xss.length + 1) cap) (xss ++ [xs]) := by
  obtain ⟨vs, h1, h2⟩ := h
  have hu1 : u.oneCell' = true := by obtain ⟨av, cap, rfl, _⟩ := owns_shape hu; rfl
  obtain ⟨g, cap, w', hap, ho, hgb, hat, hlt⟩ := app_row W ty base v xss.length vs h1 u hu1 hl hbase
  have hT := grown_turns h1 hgb
  have hTv : Turns (fun b => v.ownBlock = some b) W w' := by
    have hsz := hgb.size
    rw [World.size_alloc] at hsz
    exact ⟨hgb.os, hgb.tape, hgb.output, by omega, fun b hb hq => (hgb.block b (by simp; omega) (fun e => hq e.symm)).trans (Below.heap_alloc _ _ _ hb)⟩
  have keep : ∀ (x : Value) (ys : List Nat), W.ownsRow base 3 1 x ys.length (intsV ys) → w'.ownsRow base 3 1 x ys.length (intsV ys) := fun x ys hx => by
    refine owns_turns hx hTv (fun b hb hq => ?_)
    rcases hx.2 with ⟨rfl, _⟩ | ⟨g1, c1, cur1, rfl, _, e1, _⟩
    · cases hb
    · rcases h1.2 with ⟨rfl, _⟩ | ⟨g2, c2, cur2, rfl, _, e2, _⟩
      · cases hq
      · have a1 : g1 = b := by simpa [Value.ownBlock] using hb
        have a2 : g2 = b := by simpa [Value.ownBlock] using hq
        subst a1; subst a2
        rw [e1] at e2
        injection e2 with e2
        injection e2 with e2 e3
        exact absurd e3 (by decide)
  have hvl : vs.length = xss.length := by have := h1.1; omega
  refine ⟨g, cap, w', hap, hT, vs ++ [u], by rw [List.length_append]; exact ho, fun i hi => ?_⟩
  rw [List.length_append, List.length_singleton] at hi
  by_cases hil : i < xss.length
  · obtain ⟨x, hx, hox⟩ := h2 i hil
    refine ⟨x, by rw [List.getElem?_append_left (by omega)]; exact hx, ?_⟩
    rw [show (xss ++ [xs]).getD i [] = xss.getD i [] by rw [List.getD_eq_getElem?_getD, List.getD_eq_getElem?_getD, List.getElem?_append_left hil]]
    exact keep x _ hox
  · obtain rfl : i = xss.length := by omega
    refine ⟨u, by rw [List.getElem?_append_right (by omega)]; simp [hvl], ?_⟩
    rw [show (xss ++ [xs]).getD xss.length [] = xs by rw [List.getD_eq_getElem?_getD, List.getElem?_append_right (Nat.le_refl _)]; simp]
    exact keep u xs hu

end Go.Proofs.Ytonoeodlchkiaaa
