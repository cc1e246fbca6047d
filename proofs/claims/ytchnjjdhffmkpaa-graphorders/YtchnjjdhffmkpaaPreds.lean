/-
  Those ahead (layer 6): rows that grow, the contract of graph's own Preds.
-/
import Derived.Test.YtchnjjdhffmkpaaDrawn
namespace Go.Proofs.Ytchnjjdhffmkpaa
open Go.ChangeShapes Go.WideShapes Go.ChangeAt Go.RowKit Go.Shelf

attribute [local go_sem] Oper.semAt_some

/-- Rows that grow, each its own. -/
def RowsB (W : World) (base H n : Nat) (f : Nat → List Nat) : Prop := ∃ vs : List Value, vs.length = n ∧ W.heap[H]? = some (.cells vs.toArray 27 (0, 0)) ∧ (∀ t, t < n → ∃ v, vs[t]? = some v ∧ W.ownsRow base 3 1 v (f t).length (intsV (f t))) ∧
  ∀ (s t : Nat) (v u : Value) (b : Nat), vs[s]? = some v → vs[t]? = some u → v.ownBlock = some b → u.ownBlock = some b → s = t
theorem RowsB.turns {W W' : World} {base H n : Nat} {f : Nat → List Nat} {Q : Nat → Prop} (h : RowsB W base H n f) (ht : Turns Q W W') (hq : ∀ b, base ≤ b ∨ b = H → b < W.heap.size → ¬ Q b) : RowsB W' base H n f := by
  obtain ⟨vs, h1, h2, h3, h4⟩ := h
  refine ⟨vs, h1, (ht.block H (lt_of h2) (hq H (.inr rfl) (lt_of h2))).trans h2, fun t htn => ?_, h4⟩
  obtain ⟨v, hv, ho⟩ := h3 t htn
  exact ⟨v, hv, owns_turns ho ht (fun b hb => hq b (.inl (ho.lt b hb).1) (ho.lt b hb).2)⟩
theorem RowsB.congr {W : World} {base H n : Nat} {f f' : Nat → List Nat} (h : RowsB W base H n f) (he : ∀ t, t < n → f' t = f t) : RowsB W base H n f' := by
  obtain ⟨vs, h1, h2, h3, h4⟩ := h
  exact ⟨vs, h1, h2, fun t ht => by rw [he t ht]; exact h3 t ht, h4⟩
theorem rowsB_new (w : World) (n base : Nat) : RowsB (w.alloc (.cells (List.replicate n (.slice none 0 0)).toArray 27)) base w.heap.size n (fun _ => []) := by
  refine ⟨List.replicate n (.slice none 0 0), by simp, World.alloc_heap_new w _, fun t ht => ⟨.slice none 0 0, by simp [ht], World.ownsRow_nil _ _ _ _⟩, ?_⟩
  intro s t v u b hv _ hb _
  rw [List.getElem?_replicate] at hv
  split at hv
  · cases hv; cases hb
  · cases hv
theorem heap_set_same {W : World} {H : Nat} {cs : List Value} {T : TypeId} (h : W.heap[H]? = some (.cells cs.toArray T (0, 0))) (t : Nat) (v : Value) : (W.setCell ⟨H, t, none⟩ v).heap[H]? = some (.cells (cs.set t v).toArray T (0, 0)) := by
  unfold World.setCell
  rw [Array.getElem?_modify, if_pos rfl, h]
  simp
/-- One row grows. -/
theorem rowsB_step {W : World} {base H n : Nat} {f : Nat → List Nat} (h : RowsB W base H n f) (ty : TypeId) (t x : Nat) (ht : t < n) (hH : H < base) (hbase : base ≤ W.heap.size) (hl : (f t).length ≤ 100000000) :
    ∃ v g cap w', W.cell? ⟨H, t, none⟩ = some v ∧ (Builtin.append_ #[27, 27] ty #[v, .slice (some ⟨W.heap.size, 0, none⟩) 1 1]).run Try.prog (W.alloc (.cells #[.int .i64 (x : Int)] 3)) = .ok (.slice (some ⟨g, 0, none⟩) ((f t).length + 1) cap) w' ∧
      (∀ b, b < W.heap.size → b < base ∨ (∀ cur, W.heap[b]? ≠ some (.cells cur 3 (0, 0))) → w'.heap[b]? = W.heap[b]?) ∧ W.heap.size ≤ w'.heap.size ∧ RowsB (w'.setCell ⟨H, t, none⟩ (.slice (some ⟨g, 0, none⟩) ((f t).length + 1) cap)) base H n (fun s => if s = t then f s ++ [x] else f s) ∧
      Turns (fun b => base ≤ b ∨ b = H) W (w'.setCell ⟨H, t, none⟩ (.slice (some ⟨g, 0, none⟩) ((f t).length + 1) cap)) := by
  obtain ⟨vs, h1, h2, h3, h4⟩ := h
  obtain ⟨v, hv, ho⟩ := h3 t ht
  obtain ⟨g, cap, w', hap, ho', hgb, hat, hlt⟩ := app_int W ty base v (f t).length (intsV (f t)) ho (x : Int) hl hbase
  have hsz := hgb.size
  rw [World.size_alloc] at hsz
  have hk : ∀ b, b < W.heap.size → v.ownBlock ≠ some b → w'.heap[b]? = W.heap[b]? := fun b hb hn => (hgb.block b (by simp; omega) (fun e => hn e.symm)).trans (Below.heap_alloc _ _ _ hb)
  have hkb : ∀ b, b < base → w'.heap[b]? = W.heap[b]? := fun b hb => hk b (by omega) (fun e => by have := (ho.lt b e).1; omega)
  have hkc : ∀ b, b < W.heap.size → b < base ∨ (∀ cur, W.heap[b]? ≠ some (.cells cur 3 (0, 0))) → w'.heap[b]? = W.heap[b]? := fun b hb h => by
    rcases h with h | h
    · exact hkb b h
    · refine hk b hb (fun e => ?_)
      rcases ho.2 with ⟨rfl, _⟩ | ⟨g1, c1, cur1, rfl, _, e1, _⟩
      · cases e
      · have a1 : g1 = b := by simpa [Value.ownBlock] using e
        subst a1
        exact h cur1 e1
  have hH' : w'.heap[H]? = some (.cells vs.toArray 27 (0, 0)) := (hkb H hH).trans h2
  have hT : Turns (fun b => base ≤ b ∨ b = H) W (w'.setCell ⟨H, t, none⟩ (.slice (some ⟨g, 0, none⟩) ((f t).length + 1) cap)) := by
    refine Turns.trans (B := w') ⟨hgb.os, hgb.tape, hgb.output, by omega, fun b hb hq => hk b hb (fun e => hq (.inl (ho.lt b e).1))⟩ (Turns.setCell w' ⟨H, t, none⟩ _ (.inr rfl))
  refine ⟨v, g, cap, w', by rw [cell_of h2]; simpa using hv, hap, hkc, by omega, ⟨vs.set t (.slice (some ⟨g, 0, none⟩) ((f t).length + 1) cap), by simpa using h1, heap_set_same hH' t _, fun s hs => ?_, ?_⟩, hT⟩
  · by_cases e : s = t
    · subst e
      refine ⟨_, List.getElem?_set_self (by omega), ?_⟩
      simp only [↓reduceIte]
      rw [List.length_append, show intsV (f s ++ [x]) = intsV (f s) ++ [.int .i64 (x : Int)] by simp [intsV]]
      refine owns_turns ho' (Turns.setCell (Q := fun b => b = H) w' ⟨H, s, none⟩ _ rfl) (fun b hb e => ?_)
      have := (ho'.lt b hb).1
      omega
    · obtain ⟨u, hu, hou⟩ := h3 s hs
      refine ⟨u, by rw [List.getElem?_set_ne (fun e' => e e'.symm)]; exact hu, ?_⟩
      simp only [if_neg e]
      refine owns_turns hou (Turns.trans (B := w') (Q := fun b => v.ownBlock = some b ∨ b = H) ⟨hgb.os, hgb.tape, hgb.output, by omega, fun b hb hq => hk b hb (fun e => hq (.inl e))⟩ (Turns.setCell w' ⟨H, t, none⟩ _ (.inr rfl))) (fun b hb hq => ?_)
      rcases hq with hq | hq
      · exact e (h4 s t u v b hu hv hb hq)
      · have := (hou.lt b hb).1; omega
  · intro s r p q b hp hq hpb hqb
    have gNew : ∀ y, (.slice (some ⟨g, 0, none⟩) ((f t).length + 1) cap : Value).ownBlock = some y → y = g := fun y hy => by simpa [Value.ownBlock] using hy.symm
    have other : ∀ (s : Nat) (p : Value), s ≠ t → (vs.set t (.slice (some ⟨g, 0, none⟩) ((f t).length + 1) cap))[s]? = some p → p.ownBlock = some g → False := fun s p hne hp hpg => by
      rw [List.getElem?_set_ne (fun e => hne e.symm)] at hp
      have hs : s < n := by rw [← h1]; exact (List.getElem?_eq_some_iff.1 hp).1
      obtain ⟨u, hu, hou⟩ := h3 s hs
      rw [hp] at hu; cases hu
      rcases hat with h | h
      · exact hne (h4 s t p v g hp hv hpg h)
      · have := (hou.lt g hpg).2; omega
    by_cases e1 : s = t
    · by_cases e2 : r = t
      · rw [e1, e2]
      · subst e1
        rw [List.getElem?_set_self (by omega)] at hp
        cases hp
        obtain rfl := gNew b hpb
        exact (other r q e2 hq hqb).elim
    · by_cases e2 : r = t
      · subst e2
        rw [List.getElem?_set_self (by omega)] at hq
        cases hq
        obtain rfl := gNew b hqb
        exact (other s p e1 hp hpb).elim
      · rw [List.getElem?_set_ne (fun e => e1 e.symm)] at hp
        rw [List.getElem?_set_ne (fun e => e2 e.symm)] at hq
        exact h4 s r p q b hp hq hpb hqb

/-- Edges as numbers from 0 on. -/
def natE (s : List (Nat × Int)) : List (Nat × Nat) := s.map fun e => (e.1, e.2.toNat)
theorem natE_all (g : List (List Nat)) : natE (edgI (castG g) (castG g).length 0) = edgesL g := by
  unfold natE edgI edgesL edgesTo
  rw [castG_len]
  simp only [List.take_zero, List.map_nil, List.append_nil, List.map_flatMap, castG_at, List.map_map]
  rfl
theorem aheadL_len (E : List (Nat × Nat)) (t : Nat) : (aheadL E t).length ≤ E.length := by
  unfold aheadL; rw [List.length_map]; exact List.length_filter_le _ _
theorem edgI_len (g : List (List Int)) (h : ∀ b, (g.getD b []).length ≤ 8) (k : Nat) : ∀ i, (edgI g i k).length ≤ 8 * i + 8 := by
  intro i
  unfold edgI
  rw [List.length_append, List.length_map, List.length_take]
  have h1 : ∀ i, ((List.range i).flatMap fun j => (g.getD j []).map fun t => (j, t)).length ≤ 8 * i := by
    intro i
    induction i with
    | zero => simp
    | succ i ih =>
      rw [outs_range, List.length_append, List.length_map]
      have := h i
      omega
  have := h1 i
  have := h i
  omega

set_option maxRecDepth 100000 in
set_option maxHeartbeats 2000000 in
/-- Preds of a right graph. -/
theorem preds_is (av : Option Addr) (cap blk off : Nat) (hd : Nat → Hdr) (g : List (List Nat)) (hgr : Right g) (w : World) (hG : GAt w av blk off hd (castG g)) :
    Calls Try.prog 12 #[.slice av g.length cap] w fun e w' => Below w.heap.size w w' ∧ ∃ H base, w.heap.size ≤ H ∧ H < base ∧ e = .returned (.slice (some ⟨H, 0, none⟩) g.length g.length) ∧ RowsB w' base H g.length (aheadL (edgesL g)) := by
  refine (callsIn_wide (n := 0)).1 ?_
  have hr := right_any av cap blk off hd (castG g) w hG
  rw [castG_len, rightB_true.2 hgr.toI] at hr
  have hone := hgr.one
  have hmost := hgr.most
  have hrows := hgr.rows
  have HG := hide hG
  clear hG
  have mk : ∀ w : World, (Instr.makeSlice 22 (.int .i64 (g.length : Int)) (.int .i64 (g.length : Int))).run Try.prog w = .ok (.slice (some ⟨w.heap.size, 0, none⟩) g.length g.length) (w.alloc (.cells (Array.replicate g.length (.slice none 0 0)) 27)) := fun w => by rw [make_rows g.length (by omega) w, List.toArray_replicate]
  refine callsIn_of_wp_marks Try.func12 rfl trivial ?_
  simp only [Try.ntmps12, List.size_toArray, List.length_cons, List.length_nil, Nat.reduceAdd, Nat.reduceSub, Array.replicate_succ, Array.replicate_zero, List.push_toArray, List.append_toArray, List.nil_append, List.cons_append]
  gi_wp2
  refine ⟨by trivial, by trivial, (callsIn_wide.2 hr).mono ?_⟩
  rintro e w1 ⟨rfl, hb1⟩
  gi_wp2
  have hle := hb1.size
  generalize hW : (w1.alloc (.cells (Array.replicate g.length (.slice none 0 0)) 27)).alloc (.cells #[.slice (some ⟨w1.heap.size, 0, none⟩) g.length g.length] 22) = w2
  have hb2 : Below w1.heap.size w1 w2 := by rw [← hW]; exact ((Below.refl _ w1).alloc (Nat.le_refl _) _).alloc (by simp) _
  have kb : w2.heap[w1.heap.size + 1]? = some (.cells #[.slice (some ⟨w1.heap.size, 0, none⟩) g.length g.length] 22 (0, 0)) := by
    rw [← hW]
    have := World.alloc_heap_new (w1.alloc (.cells (Array.replicate g.length (.slice none 0 0)) 27)) (.cells #[.slice (some ⟨w1.heap.size, 0, none⟩) g.length g.length] 22)
    rwa [World.size_alloc] at this
  have kr : RowsB w2 (w1.heap.size + 5) w1.heap.size g.length (fun _ => []) := by
    rw [← hW, ← List.toArray_replicate]; exact (rowsB_new w1 g.length (w1.heap.size + 5)).turns (Turns.alloc (fun _ => False) _ _) (fun _ _ _ h => h)
  have hs2 : w2.heap.size = w1.heap.size + 2 := by rw [← hW]; simp
  have hB2 : Below w.heap.size w w2 := hb1.trans (hb2.mono hle)
  clear hW mk hb1 hb2 hr
  generalize w1.heap.size = h at *
  refine ⟨by trivial, by trivial, (edges_in 0 _ _ _ _).mono ?_⟩
  rintro e w3 ⟨rfl, rfl⟩
  rw [hs2]
  have hb3 : Below w2.heap.size w2 (w2.alloc (.cells #[.slice av g.length cap] 22)) := (Below.refl _ w2).alloc (Nat.le_refl _) _
  have k3 := World.alloc_heap_new w2 (.cells #[.slice av g.length cap] 22)
  rw [hs2] at hb3 k3
  have hs3 : (w2.alloc (.cells #[.slice av g.length cap] 22)).heap.size = h + 3 := by simp; omega
  have hr3 : RowsB (w2.alloc (.cells #[.slice av g.length cap] 22)) (h + 5) h g.length (fun _ => []) := kr.turns (Turns.alloc (fun _ => False) _ _) (fun _ _ _ h => h)
  generalize w2.alloc (.cells #[.slice av g.length cap] 22) = w3 at *
  gi_wp2
  have hlc := castG_len g
  refine range_it (α := Nat × Int) (kk := 0) (gf := 40) (lb := #[.pointer (some ⟨h + 2, 0, none⟩)]) (P := fun _ => False) (Rd := fun W => GAt W av blk off hd (castG g)) (V := nextE (castG g)) (S := fun s _ => s = edgI (castG g) (castG g).length 0) (enc := encE) rfl enter40 (fun _ => rfl) (fun _ _ _ h _ => h) (fun _ h => h.elim)
    (fun W1 hb hs => edges_gives (h + 2) blk off cap hd (castG g) _ (by omega) (fun b => ?_) W1 _ ?_)
    (fun s W => Below w.heap.size w W ∧ W.heap[h + 1]? = some (.cells #[.slice (some ⟨h, 0, none⟩) g.length g.length] 22 (0, 0)) ∧ RowsB W (h + 5) h g.length (aheadL (natE s))) (fun _ => False) ?hI (fun _ _ h _ => h) ?hRd ?h0 ?hround ?hdone (fun _ _ h => h.elim)
  · rw [castG_at, List.length_map]; have := hrows b; omega
  · rw [castG_len]; exact (hb.cell (p := ⟨h + 2, 0, none⟩) (by show h + 2 < _; omega)).trans (cell_of k3 0)
  case hI =>
    rintro s W W' ⟨i1, i2, i3⟩ ht
    have hq : ∀ b, b < h + 3 ∨ h + 5 ≤ b → ¬ (False ∨ b = w3.heap.size + 1) := fun b hb h => by rcases h with h | h; exact h; omega
    have := lt_of i2
    exact ⟨ht.below i1 i1.size (fun b hb => hq b (by omega)), (ht.block _ (by omega) (hq _ (by omega))).trans i2, i3.turns ht (fun b hb _ => hq b (by omega))⟩
  case hRd => exact fun s W h => HG.out.below h.1
  case h0 => exact ⟨hB2.trans (hb3.mono (by omega)), (hb3.block _ (by omega)).trans kb, hr3⟩
  case hround =>
    rintro l s ⟨i, t⟩ W K hv hK
    have HK := hide hK
    clear hK
    gi_wp2
    refine HK.out _ ?_
    rintro Wb ⟨i1, i2, i3⟩ hsz
    obtain ⟨i', k', hi, hk', hs, e⟩ := hv
    rw [castG_at, List.length_map] at hk'
    rw [Prod.mk.injEq, castG_at, cast_at] at e
    obtain ⟨rfl, rfl⟩ := e
    rw [castG_len] at hi
    have htn := hgr.lt i _ (getD_mem _ _ hk')
    have hsl : (natE s).length ≤ 40000 := by
      unfold natE; rw [List.length_map, hs]
      have := edgI_len (castG g) (fun b => by rw [castG_at, List.length_map]; exact hrows b) k' i
      omega
    have hfl := aheadL_len (natE s) ((g.getD i []).getD k' 0)
    have hnx : natE (s ++ [(i, (((g.getD i []).getD k' 0 : Nat) : Int))]) = natE s ++ [(i, (g.getD i []).getD k' 0)] := by simp [natE]
    clear hs hk'
    generalize (g.getD i []).getD k' 0 = tn at *
    have hi2 : i ≤ 4096 := by omega
    obtain ⟨v, g', cp, w', c2, hap, hkb, hsz', hR, hT⟩ := rowsB_step (W := Wb.drew) i3 27 tn i htn (by omega) (by show h + 5 ≤ Wb.heap.size; omega) (by omega)
    have HAP := hide hap
    have c2' : Wb.cell? ⟨h, tn, none⟩ = some v := c2
    have c1 : Wb.cell? ⟨h + 1, 0, none⟩ = some (.slice (some ⟨h, 0, none⟩) g.length g.length) := cell_of i2 0
    have c3 : w'.cell? ⟨h + 1, 0, none⟩ = some (.slice (some ⟨h, 0, none⟩) g.length g.length) := (World.cell?_of_block (hkb (h + 1) (by show h + 1 < Wb.heap.size; omega) (.inl (by omega)))).trans c1
    have c4 : w'.cell? ⟨h, tn, none⟩ = some v := (World.cell?_of_block (hkb h (by show h < Wb.heap.size; omega) (.inl (by omega)))).trans c2
    have c5 : (Wb.alloc (.cells #[.int .i64 (i : Int)] 3)).cell? ⟨h, tn, none⟩ = some v := (World.cell?_of_block (Below.heap_alloc _ _ _ (by show h < _; omega))).trans c2
    have c6 : (Wb.alloc (.cells #[.int .i64 (i : Int)] 3)).cell? ⟨h + 1, 0, none⟩ = some (.slice (some ⟨h, 0, none⟩) g.length g.length) := (World.cell?_of_block (Below.heap_alloc _ _ _ (by show h + 1 < _; omega))).trans c1
    have f4 : w'.frozen? ⟨h, tn, none⟩ = false := by
      obtain ⟨vs, _, h2, _⟩ := i3
      exact (World.frozen?_of_block (hkb h (by show h < Wb.heap.size; omega) (.inl (by omega)))).trans (frozen_of h2 tn)
    have hti : ((tn : Int) < (g.length : Int)) = True := by simp; omega
    have ht2 : tn ≤ 4096 := by omega
    have FIN : Hid (∀ a : Act, itPost (fun b => (fun _ => False) b ∨ b = w3.heap.size ∨ b = w3.heap.size + 1) (fun s W => Below w.heap.size w W ∧ W.heap[h + 1]? = some (.cells #[.slice (some ⟨h, 0, none⟩) g.length g.length] 22 (0, 0)) ∧ RowsB W (h + 5) h g.length (aheadL (natE s))) (fun _ => False) (s ++ [(i, (tn : Int))]) Wb .normal a (w'.setCell ⟨h, tn, none⟩ (.slice (some ⟨g', 0, none⟩) ((aheadL (natE s) tn).length + 1) cp))) := by
      intro a
      have hT2 : Turns (fun b => h + 5 ≤ b ∨ b = h) Wb (w'.setCell ⟨h, tn, none⟩ (.slice (some ⟨g', 0, none⟩) ((aheadL (natE s) tn).length + 1) cp)) := ⟨hT.os, hT.tape, hT.output, hT.size, hT.block⟩
      refine ⟨hT2.size, fun b hb => ?_, hT2.below i1 i1.size (fun b hb hq => by omega), (hT2.block _ (lt_of i2) (by omega)).trans i2, hR.congr (fun x _ => ?_)⟩
      · rcases hb with hb | hb | hb
        · exact hb.elim
        · exact hT2.block b (by omega) (by omega)
        · exact hT2.block b (by omega) (by omega)
      · rw [hnx, aheadL_snoc]
    clear hap hR hT hkb c2 hnx hfl hsl i1 i2 i3
    generalize (aheadL (natE s) tn).length = n at *
    gi_wp2
    refine region_round (by kernel_rfl) (by kernel_rfl) ?_
    refine wpAnyIn_take (i := 1) (v := ?_) rfl rfl (by kernel_rfl) (by kernel_rfl) (by kernel_rfl) (fun _ _ _ h => h) ⟨Or.inl ⟨by rfl, ?_⟩, fun _ => rfl⟩ ?_
    rotate_left 1
    · intro w; go_simp; try with_reducible rfl
    refine wpAnyIn_take (i := 3) (v := ?_) rfl rfl (by kernel_rfl) (by kernel_rfl) (by kernel_rfl) (fun _ _ _ h => h) ⟨Or.inl ⟨by rfl, ?_⟩, fun _ => rfl⟩ ?_
    rotate_left 1
    · intro w; go_simp; try with_reducible rfl
    refine wpAnyIn_take (i := 6) (v := ?_) rfl rfl (by kernel_rfl) (by kernel_rfl) (by kernel_rfl) (fun _ _ _ h => h) ⟨Or.inl ⟨by rfl, ?_⟩, fun _ => rfl⟩ ?_
    rotate_left 1
    · intro w; go_simp; try with_reducible rfl
    refine wpAnyIn_ready (rs := [0, 2, 7]) (by kernel_rfl) (by simp) (AllReadyIn.cons rfl (fun K hK => ?_) (AllReadyIn.cons rfl (fun K hK => ?_) (AllReadyIn.cons rfl (fun K hK => ?_) (AllReadyIn.nil))))
    · go_simp
      refine hK _ _ ?_
      clear hK K
      refine wpAnyIn_ready (rs := [2, 7]) (by kernel_rfl) (by simp) (AllReadyIn.cons rfl (fun K hK => ?_) (AllReadyIn.cons rfl (fun K hK => ?_) (AllReadyIn.nil)))
      · go_simp
        refine hK _ _ ?_
        clear hK K
        refine wpAnyIn_take (i := 4) (v := ?_) rfl rfl (by kernel_rfl) (by kernel_rfl) (by kernel_rfl) (fun _ _ _ h => h) ⟨Or.inl ⟨by rfl, ?_⟩, fun _ => rfl⟩ ?_
        rotate_left 1
        · intro w; go_simp; try with_reducible rfl
        refine wpAnyIn_ready (rs := [5, 7]) (by kernel_rfl) (by simp) (AllReadyIn.cons rfl (fun K hK => ?_) (AllReadyIn.cons rfl (fun K hK => ?_) (AllReadyIn.nil)))
        · go_simp
          refine hK _ _ ?_
          clear hK K
          refine wpAnyIn_ready (rs := [7]) (by kernel_rfl) (by simp) (AllReadyIn.cons rfl (fun K hK => ?_) (AllReadyIn.nil))
          · go_simp
            refine hK _ _ ?_
            clear hK K
            refine wpAnyIn_ready (rs := [8]) (by kernel_rfl) (by simp) (AllReadyIn.cons rfl (fun K hK => ?_) (AllReadyIn.nil))
            · refine stepIn_append rfl (.tmp 21) (.tmp 23) 27 rfl rfl rfl HAP.out ?_
              refine hK _ _ ?_
              clear hK K
              refine wpAnyIn_take (i := 9) (v := ?_) rfl rfl (by kernel_rfl) (by kernel_rfl) (by kernel_rfl) (fun _ _ _ h => h) ⟨Or.inl ⟨by rfl, ?_⟩, fun _ => rfl⟩ ?_
              rotate_left 1
              · intro w; go_simp; try with_reducible rfl
              refine wpAnyIn_ready (rs := [10]) (by kernel_rfl) (by simp) (AllReadyIn.cons rfl (fun K hK => ?_) (AllReadyIn.nil))
              · go_simp
                refine hK _ _ ?_
                clear hK K
                refine wpAnyIn_done (by kernel_rfl) ?_ _
                exact FIN.out { tmps := #[], defers := [] }
        · go_simp
          refine hK _ _ ?_
          clear hK K
          refine wpAnyIn_ready (rs := [5]) (by kernel_rfl) (by simp) (AllReadyIn.cons rfl (fun K hK => ?_) (AllReadyIn.nil))
          · go_simp
            refine hK _ _ ?_
            clear hK K
            refine wpAnyIn_ready (rs := [8]) (by kernel_rfl) (by simp) (AllReadyIn.cons rfl (fun K hK => ?_) (AllReadyIn.nil))
            · refine stepIn_append rfl (.tmp 21) (.tmp 23) 27 rfl rfl rfl HAP.out ?_
              refine hK _ _ ?_
              clear hK K
              refine wpAnyIn_take (i := 9) (v := ?_) rfl rfl (by kernel_rfl) (by kernel_rfl) (by kernel_rfl) (fun _ _ _ h => h) ⟨Or.inl ⟨by rfl, ?_⟩, fun _ => rfl⟩ ?_
              rotate_left 1
              · intro w; go_simp; try with_reducible rfl
              refine wpAnyIn_ready (rs := [10]) (by kernel_rfl) (by simp) (AllReadyIn.cons rfl (fun K hK => ?_) (AllReadyIn.nil))
              · go_simp
                refine hK _ _ ?_
                clear hK K
                refine wpAnyIn_done (by kernel_rfl) ?_ _
                exact FIN.out { tmps := #[], defers := [] }
      · go_simp
        refine hK _ _ ?_
        clear hK K
        refine wpAnyIn_ready (rs := [2]) (by kernel_rfl) (by simp) (AllReadyIn.cons rfl (fun K hK => ?_) (AllReadyIn.nil))
        · go_simp
          refine hK _ _ ?_
          clear hK K
          refine wpAnyIn_take (i := 4) (v := ?_) rfl rfl (by kernel_rfl) (by kernel_rfl) (by kernel_rfl) (fun _ _ _ h => h) ⟨Or.inl ⟨by rfl, ?_⟩, fun _ => rfl⟩ ?_
          rotate_left 1
          · intro w; go_simp; try with_reducible rfl
          refine wpAnyIn_ready (rs := [5]) (by kernel_rfl) (by simp) (AllReadyIn.cons rfl (fun K hK => ?_) (AllReadyIn.nil))
          · go_simp
            refine hK _ _ ?_
            clear hK K
            refine wpAnyIn_ready (rs := [8]) (by kernel_rfl) (by simp) (AllReadyIn.cons rfl (fun K hK => ?_) (AllReadyIn.nil))
            · refine stepIn_append rfl (.tmp 21) (.tmp 23) 27 rfl rfl rfl HAP.out ?_
              refine hK _ _ ?_
              clear hK K
              refine wpAnyIn_take (i := 9) (v := ?_) rfl rfl (by kernel_rfl) (by kernel_rfl) (by kernel_rfl) (fun _ _ _ h => h) ⟨Or.inl ⟨by rfl, ?_⟩, fun _ => rfl⟩ ?_
              rotate_left 1
              · intro w; go_simp; try with_reducible rfl
              refine wpAnyIn_ready (rs := [10]) (by kernel_rfl) (by simp) (AllReadyIn.cons rfl (fun K hK => ?_) (AllReadyIn.nil))
              · go_simp
                refine hK _ _ ?_
                clear hK K
                refine wpAnyIn_done (by kernel_rfl) ?_ _
                exact FIN.out { tmps := #[], defers := [] }
    · go_simp
      refine hK _ _ ?_
      clear hK K
      refine wpAnyIn_take (i := 4) (v := ?_) rfl rfl (by kernel_rfl) (by kernel_rfl) (by kernel_rfl) (fun _ _ _ h => h) ⟨Or.inl ⟨by rfl, ?_⟩, fun _ => rfl⟩ ?_
      rotate_left 1
      · intro w; go_simp; try with_reducible rfl
      refine wpAnyIn_ready (rs := [0, 5, 7]) (by kernel_rfl) (by simp) (AllReadyIn.cons rfl (fun K hK => ?_) (AllReadyIn.cons rfl (fun K hK => ?_) (AllReadyIn.cons rfl (fun K hK => ?_) (AllReadyIn.nil))))
      · go_simp
        refine hK _ _ ?_
        clear hK K
        refine wpAnyIn_ready (rs := [5, 7]) (by kernel_rfl) (by simp) (AllReadyIn.cons rfl (fun K hK => ?_) (AllReadyIn.cons rfl (fun K hK => ?_) (AllReadyIn.nil)))
        · go_simp
          refine hK _ _ ?_
          clear hK K
          refine wpAnyIn_ready (rs := [7]) (by kernel_rfl) (by simp) (AllReadyIn.cons rfl (fun K hK => ?_) (AllReadyIn.nil))
          · go_simp
            refine hK _ _ ?_
            clear hK K
            refine wpAnyIn_ready (rs := [8]) (by kernel_rfl) (by simp) (AllReadyIn.cons rfl (fun K hK => ?_) (AllReadyIn.nil))
            · refine stepIn_append rfl (.tmp 21) (.tmp 23) 27 rfl rfl rfl HAP.out ?_
              refine hK _ _ ?_
              clear hK K
              refine wpAnyIn_take (i := 9) (v := ?_) rfl rfl (by kernel_rfl) (by kernel_rfl) (by kernel_rfl) (fun _ _ _ h => h) ⟨Or.inl ⟨by rfl, ?_⟩, fun _ => rfl⟩ ?_
              rotate_left 1
              · intro w; go_simp; try with_reducible rfl
              refine wpAnyIn_ready (rs := [10]) (by kernel_rfl) (by simp) (AllReadyIn.cons rfl (fun K hK => ?_) (AllReadyIn.nil))
              · go_simp
                refine hK _ _ ?_
                clear hK K
                refine wpAnyIn_done (by kernel_rfl) ?_ _
                exact FIN.out { tmps := #[], defers := [] }
        · go_simp
          refine hK _ _ ?_
          clear hK K
          refine wpAnyIn_ready (rs := [5]) (by kernel_rfl) (by simp) (AllReadyIn.cons rfl (fun K hK => ?_) (AllReadyIn.nil))
          · go_simp
            refine hK _ _ ?_
            clear hK K
            refine wpAnyIn_ready (rs := [8]) (by kernel_rfl) (by simp) (AllReadyIn.cons rfl (fun K hK => ?_) (AllReadyIn.nil))
            · refine stepIn_append rfl (.tmp 21) (.tmp 23) 27 rfl rfl rfl HAP.out ?_
              refine hK _ _ ?_
              clear hK K
              refine wpAnyIn_take (i := 9) (v := ?_) rfl rfl (by kernel_rfl) (by kernel_rfl) (by kernel_rfl) (fun _ _ _ h => h) ⟨Or.inl ⟨by rfl, ?_⟩, fun _ => rfl⟩ ?_
              rotate_left 1
              · intro w; go_simp; try with_reducible rfl
              refine wpAnyIn_ready (rs := [10]) (by kernel_rfl) (by simp) (AllReadyIn.cons rfl (fun K hK => ?_) (AllReadyIn.nil))
              · go_simp
                refine hK _ _ ?_
                clear hK K
                refine wpAnyIn_done (by kernel_rfl) ?_ _
                exact FIN.out { tmps := #[], defers := [] }
      · go_simp
        refine hK _ _ ?_
        clear hK K
        refine wpAnyIn_ready (rs := [0, 7]) (by kernel_rfl) (by simp) (AllReadyIn.cons rfl (fun K hK => ?_) (AllReadyIn.cons rfl (fun K hK => ?_) (AllReadyIn.nil)))
        · go_simp
          refine hK _ _ ?_
          clear hK K
          refine wpAnyIn_ready (rs := [7]) (by kernel_rfl) (by simp) (AllReadyIn.cons rfl (fun K hK => ?_) (AllReadyIn.nil))
          · go_simp
            refine hK _ _ ?_
            clear hK K
            refine wpAnyIn_ready (rs := [8]) (by kernel_rfl) (by simp) (AllReadyIn.cons rfl (fun K hK => ?_) (AllReadyIn.nil))
            · refine stepIn_append rfl (.tmp 21) (.tmp 23) 27 rfl rfl rfl HAP.out ?_
              refine hK _ _ ?_
              clear hK K
              refine wpAnyIn_take (i := 9) (v := ?_) rfl rfl (by kernel_rfl) (by kernel_rfl) (by kernel_rfl) (fun _ _ _ h => h) ⟨Or.inl ⟨by rfl, ?_⟩, fun _ => rfl⟩ ?_
              rotate_left 1
              · intro w; go_simp; try with_reducible rfl
              refine wpAnyIn_ready (rs := [10]) (by kernel_rfl) (by simp) (AllReadyIn.cons rfl (fun K hK => ?_) (AllReadyIn.nil))
              · go_simp
                refine hK _ _ ?_
                clear hK K
                refine wpAnyIn_done (by kernel_rfl) ?_ _
                exact FIN.out { tmps := #[], defers := [] }
        · go_simp
          refine hK _ _ ?_
          clear hK K
          refine wpAnyIn_ready (rs := [0, 8]) (by kernel_rfl) (by simp) (AllReadyIn.cons rfl (fun K hK => ?_) (AllReadyIn.cons rfl (fun K hK => ?_) (AllReadyIn.nil)))
          · go_simp
            refine hK _ _ ?_
            clear hK K
            refine wpAnyIn_ready (rs := [8]) (by kernel_rfl) (by simp) (AllReadyIn.cons rfl (fun K hK => ?_) (AllReadyIn.nil))
            · refine stepIn_append rfl (.tmp 21) (.tmp 23) 27 rfl rfl rfl HAP.out ?_
              refine hK _ _ ?_
              clear hK K
              refine wpAnyIn_take (i := 9) (v := ?_) rfl rfl (by kernel_rfl) (by kernel_rfl) (by kernel_rfl) (fun _ _ _ h => h) ⟨Or.inl ⟨by rfl, ?_⟩, fun _ => rfl⟩ ?_
              rotate_left 1
              · intro w; go_simp; try with_reducible rfl
              refine wpAnyIn_ready (rs := [10]) (by kernel_rfl) (by simp) (AllReadyIn.cons rfl (fun K hK => ?_) (AllReadyIn.nil))
              · go_simp
                refine hK _ _ ?_
                clear hK K
                refine wpAnyIn_done (by kernel_rfl) ?_ _
                exact FIN.out { tmps := #[], defers := [] }
          · refine stepIn_append rfl (.tmp 21) (.tmp 23) 27 rfl rfl rfl HAP.out ?_
            refine hK _ _ ?_
            clear hK K
            refine wpAnyIn_ready (rs := [0]) (by kernel_rfl) (by simp) (AllReadyIn.cons rfl (fun K hK => ?_) (AllReadyIn.nil))
            · go_simp
              refine hK _ _ ?_
              clear hK K
              refine wpAnyIn_take (i := 9) (v := ?_) rfl rfl (by kernel_rfl) (by kernel_rfl) (by kernel_rfl) (fun _ _ _ h => h) ⟨Or.inl ⟨by rfl, ?_⟩, fun _ => rfl⟩ ?_
              rotate_left 1
              · intro w; go_simp; try with_reducible rfl
              refine wpAnyIn_ready (rs := [10]) (by kernel_rfl) (by simp) (AllReadyIn.cons rfl (fun K hK => ?_) (AllReadyIn.nil))
              · go_simp
                refine hK _ _ ?_
                clear hK K
                refine wpAnyIn_done (by kernel_rfl) ?_ _
                exact FIN.out { tmps := #[], defers := [] }
      · go_simp
        refine hK _ _ ?_
        clear hK K
        refine wpAnyIn_ready (rs := [0, 5]) (by kernel_rfl) (by simp) (AllReadyIn.cons rfl (fun K hK => ?_) (AllReadyIn.cons rfl (fun K hK => ?_) (AllReadyIn.nil)))
        · go_simp
          refine hK _ _ ?_
          clear hK K
          refine wpAnyIn_ready (rs := [5]) (by kernel_rfl) (by simp) (AllReadyIn.cons rfl (fun K hK => ?_) (AllReadyIn.nil))
          · go_simp
            refine hK _ _ ?_
            clear hK K
            refine wpAnyIn_ready (rs := [8]) (by kernel_rfl) (by simp) (AllReadyIn.cons rfl (fun K hK => ?_) (AllReadyIn.nil))
            · refine stepIn_append rfl (.tmp 21) (.tmp 23) 27 rfl rfl rfl HAP.out ?_
              refine hK _ _ ?_
              clear hK K
              refine wpAnyIn_take (i := 9) (v := ?_) rfl rfl (by kernel_rfl) (by kernel_rfl) (by kernel_rfl) (fun _ _ _ h => h) ⟨Or.inl ⟨by rfl, ?_⟩, fun _ => rfl⟩ ?_
              rotate_left 1
              · intro w; go_simp; try with_reducible rfl
              refine wpAnyIn_ready (rs := [10]) (by kernel_rfl) (by simp) (AllReadyIn.cons rfl (fun K hK => ?_) (AllReadyIn.nil))
              · go_simp
                refine hK _ _ ?_
                clear hK K
                refine wpAnyIn_done (by kernel_rfl) ?_ _
                exact FIN.out { tmps := #[], defers := [] }
        · go_simp
          refine hK _ _ ?_
          clear hK K
          refine wpAnyIn_ready (rs := [0, 8]) (by kernel_rfl) (by simp) (AllReadyIn.cons rfl (fun K hK => ?_) (AllReadyIn.cons rfl (fun K hK => ?_) (AllReadyIn.nil)))
          · go_simp
            refine hK _ _ ?_
            clear hK K
            refine wpAnyIn_ready (rs := [8]) (by kernel_rfl) (by simp) (AllReadyIn.cons rfl (fun K hK => ?_) (AllReadyIn.nil))
            · refine stepIn_append rfl (.tmp 21) (.tmp 23) 27 rfl rfl rfl HAP.out ?_
              refine hK _ _ ?_
              clear hK K
              refine wpAnyIn_take (i := 9) (v := ?_) rfl rfl (by kernel_rfl) (by kernel_rfl) (by kernel_rfl) (fun _ _ _ h => h) ⟨Or.inl ⟨by rfl, ?_⟩, fun _ => rfl⟩ ?_
              rotate_left 1
              · intro w; go_simp; try with_reducible rfl
              refine wpAnyIn_ready (rs := [10]) (by kernel_rfl) (by simp) (AllReadyIn.cons rfl (fun K hK => ?_) (AllReadyIn.nil))
              · go_simp
                refine hK _ _ ?_
                clear hK K
                refine wpAnyIn_done (by kernel_rfl) ?_ _
                exact FIN.out { tmps := #[], defers := [] }
          · refine stepIn_append rfl (.tmp 21) (.tmp 23) 27 rfl rfl rfl HAP.out ?_
            refine hK _ _ ?_
            clear hK K
            refine wpAnyIn_ready (rs := [0]) (by kernel_rfl) (by simp) (AllReadyIn.cons rfl (fun K hK => ?_) (AllReadyIn.nil))
            · go_simp
              refine hK _ _ ?_
              clear hK K
              refine wpAnyIn_take (i := 9) (v := ?_) rfl rfl (by kernel_rfl) (by kernel_rfl) (by kernel_rfl) (fun _ _ _ h => h) ⟨Or.inl ⟨by rfl, ?_⟩, fun _ => rfl⟩ ?_
              rotate_left 1
              · intro w; go_simp; try with_reducible rfl
              refine wpAnyIn_ready (rs := [10]) (by kernel_rfl) (by simp) (AllReadyIn.cons rfl (fun K hK => ?_) (AllReadyIn.nil))
              · go_simp
                refine hK _ _ ?_
                clear hK K
                refine wpAnyIn_done (by kernel_rfl) ?_ _
                exact FIN.out { tmps := #[], defers := [] }
    · go_simp
      refine hK _ _ ?_
      clear hK K
      refine wpAnyIn_ready (rs := [0, 2]) (by kernel_rfl) (by simp) (AllReadyIn.cons rfl (fun K hK => ?_) (AllReadyIn.cons rfl (fun K hK => ?_) (AllReadyIn.nil)))
      · go_simp
        refine hK _ _ ?_
        clear hK K
        refine wpAnyIn_ready (rs := [2]) (by kernel_rfl) (by simp) (AllReadyIn.cons rfl (fun K hK => ?_) (AllReadyIn.nil))
        · go_simp
          refine hK _ _ ?_
          clear hK K
          refine wpAnyIn_take (i := 4) (v := ?_) rfl rfl (by kernel_rfl) (by kernel_rfl) (by kernel_rfl) (fun _ _ _ h => h) ⟨Or.inl ⟨by rfl, ?_⟩, fun _ => rfl⟩ ?_
          rotate_left 1
          · intro w; go_simp; try with_reducible rfl
          refine wpAnyIn_ready (rs := [5]) (by kernel_rfl) (by simp) (AllReadyIn.cons rfl (fun K hK => ?_) (AllReadyIn.nil))
          · go_simp
            refine hK _ _ ?_
            clear hK K
            refine wpAnyIn_ready (rs := [8]) (by kernel_rfl) (by simp) (AllReadyIn.cons rfl (fun K hK => ?_) (AllReadyIn.nil))
            · refine stepIn_append rfl (.tmp 21) (.tmp 23) 27 rfl rfl rfl HAP.out ?_
              refine hK _ _ ?_
              clear hK K
              refine wpAnyIn_take (i := 9) (v := ?_) rfl rfl (by kernel_rfl) (by kernel_rfl) (by kernel_rfl) (fun _ _ _ h => h) ⟨Or.inl ⟨by rfl, ?_⟩, fun _ => rfl⟩ ?_
              rotate_left 1
              · intro w; go_simp; try with_reducible rfl
              refine wpAnyIn_ready (rs := [10]) (by kernel_rfl) (by simp) (AllReadyIn.cons rfl (fun K hK => ?_) (AllReadyIn.nil))
              · go_simp
                refine hK _ _ ?_
                clear hK K
                refine wpAnyIn_done (by kernel_rfl) ?_ _
                exact FIN.out { tmps := #[], defers := [] }
      · go_simp
        refine hK _ _ ?_
        clear hK K
        refine wpAnyIn_take (i := 4) (v := ?_) rfl rfl (by kernel_rfl) (by kernel_rfl) (by kernel_rfl) (fun _ _ _ h => h) ⟨Or.inl ⟨by rfl, ?_⟩, fun _ => rfl⟩ ?_
        rotate_left 1
        · intro w; go_simp; try with_reducible rfl
        refine wpAnyIn_ready (rs := [0, 5]) (by kernel_rfl) (by simp) (AllReadyIn.cons rfl (fun K hK => ?_) (AllReadyIn.cons rfl (fun K hK => ?_) (AllReadyIn.nil)))
        · go_simp
          refine hK _ _ ?_
          clear hK K
          refine wpAnyIn_ready (rs := [5]) (by kernel_rfl) (by simp) (AllReadyIn.cons rfl (fun K hK => ?_) (AllReadyIn.nil))
          · go_simp
            refine hK _ _ ?_
            clear hK K
            refine wpAnyIn_ready (rs := [8]) (by kernel_rfl) (by simp) (AllReadyIn.cons rfl (fun K hK => ?_) (AllReadyIn.nil))
            · refine stepIn_append rfl (.tmp 21) (.tmp 23) 27 rfl rfl rfl HAP.out ?_
              refine hK _ _ ?_
              clear hK K
              refine wpAnyIn_take (i := 9) (v := ?_) rfl rfl (by kernel_rfl) (by kernel_rfl) (by kernel_rfl) (fun _ _ _ h => h) ⟨Or.inl ⟨by rfl, ?_⟩, fun _ => rfl⟩ ?_
              rotate_left 1
              · intro w; go_simp; try with_reducible rfl
              refine wpAnyIn_ready (rs := [10]) (by kernel_rfl) (by simp) (AllReadyIn.cons rfl (fun K hK => ?_) (AllReadyIn.nil))
              · go_simp
                refine hK _ _ ?_
                clear hK K
                refine wpAnyIn_done (by kernel_rfl) ?_ _
                exact FIN.out { tmps := #[], defers := [] }
        · go_simp
          refine hK _ _ ?_
          clear hK K
          refine wpAnyIn_ready (rs := [0, 8]) (by kernel_rfl) (by simp) (AllReadyIn.cons rfl (fun K hK => ?_) (AllReadyIn.cons rfl (fun K hK => ?_) (AllReadyIn.nil)))
          · go_simp
            refine hK _ _ ?_
            clear hK K
            refine wpAnyIn_ready (rs := [8]) (by kernel_rfl) (by simp) (AllReadyIn.cons rfl (fun K hK => ?_) (AllReadyIn.nil))
            · refine stepIn_append rfl (.tmp 21) (.tmp 23) 27 rfl rfl rfl HAP.out ?_
              refine hK _ _ ?_
              clear hK K
              refine wpAnyIn_take (i := 9) (v := ?_) rfl rfl (by kernel_rfl) (by kernel_rfl) (by kernel_rfl) (fun _ _ _ h => h) ⟨Or.inl ⟨by rfl, ?_⟩, fun _ => rfl⟩ ?_
              rotate_left 1
              · intro w; go_simp; try with_reducible rfl
              refine wpAnyIn_ready (rs := [10]) (by kernel_rfl) (by simp) (AllReadyIn.cons rfl (fun K hK => ?_) (AllReadyIn.nil))
              · go_simp
                refine hK _ _ ?_
                clear hK K
                refine wpAnyIn_done (by kernel_rfl) ?_ _
                exact FIN.out { tmps := #[], defers := [] }
          · refine stepIn_append rfl (.tmp 21) (.tmp 23) 27 rfl rfl rfl HAP.out ?_
            refine hK _ _ ?_
            clear hK K
            refine wpAnyIn_ready (rs := [0]) (by kernel_rfl) (by simp) (AllReadyIn.cons rfl (fun K hK => ?_) (AllReadyIn.nil))
            · go_simp
              refine hK _ _ ?_
              clear hK K
              refine wpAnyIn_take (i := 9) (v := ?_) rfl rfl (by kernel_rfl) (by kernel_rfl) (by kernel_rfl) (fun _ _ _ h => h) ⟨Or.inl ⟨by rfl, ?_⟩, fun _ => rfl⟩ ?_
              rotate_left 1
              · intro w; go_simp; try with_reducible rfl
              refine wpAnyIn_ready (rs := [10]) (by kernel_rfl) (by simp) (AllReadyIn.cons rfl (fun K hK => ?_) (AllReadyIn.nil))
              · go_simp
                refine hK _ _ ?_
                clear hK K
                refine wpAnyIn_done (by kernel_rfl) ?_ _
                exact FIN.out { tmps := #[], defers := [] }
  case hdone =>
    rintro D s W ⟨i1, i2, i3⟩ hS hD hK
    have c1 : W.cell? ⟨h + 1, 0, none⟩ = some (.slice (some ⟨h, 0, none⟩) g.length g.length) := cell_of i2 0
    rw [hS, natE_all] at i3
    gi_wp2
    refine ⟨by simp, .inl ⟨_, _, rfl, run_takeDeferred hK, ?_⟩⟩
    refine ⟨.slice (some ⟨h, 0, none⟩) g.length g.length, by simp [results, Try.results12, go_sem], bel_put i1 D _ (by omega), h, h + 5, hle, by omega, rfl, ?_⟩
    refine i3.turns (Turns.putObj (Q := fun b => b = D) _ _ _ rfl) (fun b hb hlt e => ?_)
    omega
theorem preds_none (av : Option Addr) (cap blk off : Nat) (hd : Nat → Hdr) (g : List (List Int)) (hno : ¬ RightI g) (w : World) (hG : GAt w av blk off hd g) :
    Calls Try.prog 12 #[.slice av g.length cap] w fun e w' => Below w.heap.size w w' ∧ e = .returned (.slice none 0 0) := by
  refine (callsIn_wide (n := 0)).1 ?_
  have hr := right_any av cap blk off hd g w hG
  rw [rightB_false hno] at hr
  clear hG
  refine callsIn_of_wp_marks Try.func12 rfl trivial ?_
  simp only [Try.ntmps12, List.size_toArray, List.length_cons, List.length_nil, Nat.reduceAdd, Nat.reduceSub, Array.replicate_succ, Array.replicate_zero, List.push_toArray, List.append_toArray, List.nil_append, List.cons_append]
  gi_wp2
  refine ⟨by trivial, by trivial, (callsIn_wide.2 hr).mono ?_⟩
  rintro e w1 ⟨rfl, hb1⟩
  gi_wp2
  exact ⟨.slice none 0 0, by simp [results, Try.results12, go_sem], hb1, rfl⟩

end Go.Proofs.Ytchnjjdhffmkpaa
