/-
  Which graphs are right (layer 6): the contract of graph's own Right.
-/
import Derived.Test.YtonoeodlchkiaaaLeave
namespace Go.Proofs.Ytonoeodlchkiaaa
open Go.ChangeShapes Go.WideShapes Go.ChangeAt Go.RowKit Go.Shelf

attribute [local go_sem] Oper.semAt_some

theorem hide {p : Prop} (h : p) : Hid p := h

structure RightI (g : List (List Int)) : Prop where
  one : 1 ≤ g.length
  most : g.length ≤ 4096
  rows : ∀ j, j < g.length → (g.getD j []).length ≤ 8
  lt : ∀ e ∈ edgI g g.length 0, 0 ≤ e.2 ∧ e.2 < (g.length : Int)
/-- Is a graph right? -/
noncomputable def rightB (g : List (List Int)) : Bool := @decide (RightI g) (Classical.propDecidable _)
theorem rightB_true {g : List (List Int)} : rightB g = true ↔ RightI g := by unfold rightB; simp
theorem rightB_false {g : List (List Int)} (h : ¬ RightI g) : rightB g = false := by unfold rightB; simp [h]
theorem mem_edgI (g : List (List Int)) (i : Nat) (t : Int) : (i, t) ∈ edgI g g.length 0 ↔ i < g.length ∧ t ∈ g.getD i [] := by
  unfold edgI
  simp only [List.take_zero, List.map_nil, List.append_nil, List.mem_flatMap, List.mem_range, List.mem_map, Prod.mk.injEq]
  constructor
  · rintro ⟨j, hj, t', ht, rfl, rfl⟩; exact ⟨hj, ht⟩
  · rintro ⟨h, ht⟩; exact ⟨i, h, t, ht, rfl, rfl⟩
theorem getDI_ge (g : List (List Int)) (b : Nat) (h : g.length ≤ b) : g.getD b [] = [] := by
  rw [List.getD_eq_getElem?_getD, List.getElem?_eq_none h]; rfl
theorem getDI_of_mem {g : List (List Int)} {r : List Int} (h : r ∈ g) : ∃ i, i < g.length ∧ g.getD i [] = r := by
  obtain ⟨i, hi, e⟩ := List.getElem_of_mem h
  exact ⟨i, hi, by rw [List.getD_eq_getElem?_getD, List.getElem?_eq_getElem hi, ← e]; rfl⟩
/-- A right graph has natural numbers. -/
theorem RightI.nat {g : List (List Int)} (h : RightI g) : ∃ gn, Right gn ∧ g = castG gn := by
  have hc : g = castG (g.map fun r => r.map Int.toNat) := by
    unfold castG
    rw [List.map_map]
    conv => lhs; rw [← List.map_id g]
    apply List.map_congr_left
    intro r hr
    show r = (r.map Int.toNat).map fun n : Nat => (n : Int)
    rw [List.map_map]
    conv => lhs; rw [← List.map_id r]
    apply List.map_congr_left
    intro t ht
    obtain ⟨i, hi, e⟩ := getDI_of_mem hr
    have := (h.lt (i, t) ((mem_edgI g i t).2 ⟨hi, by rw [e]; exact ht⟩)).1
    show t = ((t.toNat : Nat) : Int)
    have h2 : (0 : Int) ≤ t := this
    omega
  refine ⟨_, ⟨?_, ?_, ?_, ?_⟩, hc⟩
  · have := h.one; simpa using this
  · have := h.most; simpa using this
  · intro b
    have := castG_at (g.map fun r => r.map Int.toNat) b
    rw [← hc] at this
    have hl := congrArg List.length this
    rw [List.length_map] at hl
    rw [← hl]
    by_cases hb : b < g.length
    · exact h.rows b hb
    · rw [getDI_ge g b (by omega)]; exact Nat.zero_le _
  · intro b t ht
    have := castG_at (g.map fun r => r.map Int.toNat) b
    rw [← hc] at this
    have hm : (t : Int) ∈ g.getD b [] := by rw [this]; exact List.mem_map.2 ⟨t, ht, rfl⟩
    have hb : b < g.length := by
      rcases Nat.lt_or_ge b g.length with h' | h'
      · exact h'
      · rw [getDI_ge g b h'] at hm; cases hm
    have h2 : (0 : Int) ≤ t ∧ (t : Int) < (g.length : Int) := h.lt (b, (t : Int)) ((mem_edgI g b t).2 ⟨hb, hm⟩)
    simp only [List.length_map]
    omega

set_option maxRecDepth 100000 in
set_option maxHeartbeats 2000000 in
theorem right_any (av : Option Addr) (cap blk off : Nat) (hd : Nat → Hdr) (g : List (List Int)) (w : World) (hG : GAt w av blk off hd g) :
    Calls Try.prog 19 #[.slice av g.length cap] w fun e w' => e = .returned (.bool (rightB g)) ∧ Below w.heap.size w w' := by
  refine (callsIn_wide (n := 0)).1 ?_
  have hbx : ∀ v, Below w.heap.size w ((w.alloc (.cells #[.slice av g.length cap] 22)).alloc (.cells #[.bool v] 4)) := fun v => ((Below.refl _ w).alloc (Nat.le_refl _) _).alloc (by simp) _
  refine callsIn_of_wp_marks Try.func19 rfl trivial ?_
  simp only [Try.ntmps19, List.size_toArray, List.length_cons, List.length_nil, Nat.reduceAdd, Nat.reduceSub, Array.replicate_succ, Array.replicate_zero, List.push_toArray, List.append_toArray, List.nil_append, List.cons_append]
  by_cases h1 : (g.length : Int) < 1
  · gi_wp2
    exact ⟨.bool false, by simp [results, Try.results19, go_sem], by rw [rightB_false (fun h => by have := h.one; omega)], hbx _⟩
  by_cases h2 : (4096 : Int) < (g.length : Int)
  · gi_wp2
    exact ⟨.bool false, by simp [results, Try.results19, go_sem], by rw [rightB_false (fun h => by have := h.most; omega)], hbx _⟩
  obtain rfl := hG.at_ (by omega)
  have HG : Hid (GAt w (some ⟨blk, off, none⟩) blk off hd g) := hG
  clear hG
  gi_wp2
  generalize hW : (w.alloc (.cells #[.slice (some ⟨blk, off, none⟩) g.length cap] 22)).alloc (.cells #[.bool false] 4) = W2
  have hB2 : Below w.heap.size w W2 := by rw [← hW]; exact hbx _
  have k0 : W2.heap[w.heap.size]? = some (.cells #[.slice (some ⟨blk, off, none⟩) g.length cap] 22 (0, 0)) := by rw [← hW]; exact (Below.heap_alloc _ _ _ (by simp)).trans (World.alloc_heap_new w _)
  have k1 : W2.heap[w.heap.size + 1]? = some (.cells #[.bool false] 4 (0, 0)) := by
    rw [← hW]; have := World.alloc_heap_new (w.alloc (.cells #[.slice (some ⟨blk, off, none⟩) g.length cap] 22)) (.cells #[.bool false] 4); rwa [World.size_alloc] at this
  have hs2 : W2.heap.size = w.heap.size + 2 := by rw [← hW]; simp
  clear hW hbx
  have c0 : W2.cell? ⟨w.heap.size, 0, none⟩ = some (.slice (some ⟨blk, off, none⟩) g.length cap) := cell_of k0 0
  have c1 : W2.cell? ⟨w.heap.size + 1, 0, none⟩ = some (.bool false) := cell_of k1 0
  have f1 := frozen_of k1 0
  have hG2 := HG.out.below hB2
  have HG2 : Hid (GAt W2 (some ⟨blk, off, none⟩) blk off hd g) := hG2
  clear hG2
  gi_loopw [17] (fun i wr => wr = W2 ∧ ∃ k : Nat, i = .int .i64 k ∧ k ≤ g.length ∧ ∀ j, j < k → (g.getD j []).length ≤ 8) (fun i _ => g.length - (intOf i).toNat)
  case atStart => exact ⟨rfl, 0, rfl, Nat.zero_le _, fun j hj => by omega⟩
  case round =>
    obtain ⟨rfl, k, rfl, hk, hrows⟩ := hrel
    have HR : Hid (∀ j, j < k → (g.getD j []).length ≤ 8) := hrows
    clear hrows
    by_cases hlt : k < g.length
    · have e1 : ((k : Int) < (g.length : Int)) = True := by simp; omega
      have d1 := HG2.out.has k hlt
      by_cases h8 : (8 : Int) < ((g.getD k []).length : Int)
      · have hno : Hid (rightB g = false) := rightB_false fun h => by have := h.rows k hlt; omega
        generalize (g.getD k []).length = n at *
        gi_wp2
        have cs : (wr.setCell ⟨w.heap.size + 1, 0, none⟩ (.bool false)).cell? ⟨w.heap.size + 1, 0, none⟩ = some (.bool false) := World.cell?_setCell_same _ _ _ c1
        exact ⟨.bool false, by simp [results, Try.results19, go_sem, cs], by rw [hno.out], hB2.setCell (p := ⟨w.heap.size + 1, 0, none⟩) (by show _ ≤ _ + 1; omega) _⟩
      · have hR2 : Hid (∀ j, j < k + 1 → (g.getD j []).length ≤ 8) := fun j hj => by
          rcases Nat.lt_or_ge j k with h | h
          · exact HR.out j h
          · obtain rfl : j = k := by omega
            omega
        generalize (g.getD k []).length = n at *
        gi_wp2
        exact ⟨⟨trivial, k + 1, by go_num, hlt, hR2.out⟩, by simp [intOf]; omega⟩
    · obtain rfl : k = g.length := by omega
      have e1 : ((g.length : Int) < (g.length : Int)) = False := by simp
      gi_wp2
      refine ⟨by trivial, by trivial, (edges_in 0 _ _ _ _).mono ?_⟩
      rintro e w3 ⟨rfl, rfl⟩
      gi_wp2
      have HB : Hid (Below w.heap.size w wr) := hB2
      have hb3 : Below wr.heap.size wr (wr.alloc (.cells #[.slice (some ⟨blk, off, none⟩) g.length cap] 22)) := (Below.refl _ wr).alloc (Nat.le_refl _) _
      have k3 := World.alloc_heap_new wr (.cells #[.slice (some ⟨blk, off, none⟩) g.length cap] 22)
      have hs3 : (wr.alloc (.cells #[.slice (some ⟨blk, off, none⟩) g.length cap] 22)).heap.size = w.heap.size + 3 := by simp; omega
      generalize wr.alloc (.cells #[.slice (some ⟨blk, off, none⟩) g.length cap] 22) = w3 at *
      refine range_it (α := Nat × Int) (kk := 0) (gf := 50) (lb := #[.pointer (some ⟨w.heap.size + 2, 0, none⟩)]) (P := fun _ => False) (Rd := fun W => GAt W (some ⟨blk, off, none⟩) blk off hd g) (V := nextE g) (S := fun s _ => s = edgI g g.length 0) (enc := encE) rfl enter40 (fun _ => rfl) (fun _ _ _ h _ => h) (fun _ h => h.elim)
        (fun W1 hb hs => edges_gives (w.heap.size + 2) blk off cap hd g _ (by omega) (fun b => ?_) W1 _ ?_)
        (fun s W => Below w.heap.size w W ∧ W.heap[w.heap.size]? = some (.cells #[.slice (some ⟨blk, off, none⟩) g.length cap] 22 (0, 0)) ∧ W.heap[w.heap.size + 1]? = some (.cells #[.bool false] 4 (0, 0)) ∧ ∀ e ∈ s, 0 ≤ e.2 ∧ e.2 < (g.length : Int))
        (fun W => Below w.heap.size w W ∧ W.heap[w.heap.size + 1]? = some (.cells #[.bool false] 4 (0, 0)) ∧ rightB g = false) ?hI ?hIx ?hRd ?h0 ?hround ?hdone ?hstop
      · rcases Nat.lt_or_ge b g.length with h | h
        · have := HR.out b h; omega
        · rw [getDI_ge g b h]; exact Nat.zero_le _
      · exact (hb.cell (p := ⟨w.heap.size + 2, 0, none⟩) (by show w.heap.size + 2 < _; omega)).trans (cell_of (hs2 ▸ k3) 0)
      case hI =>
        rintro s W W' ⟨i1, i2, i3, i4⟩ ht
        have hq : ∀ b, b < w.heap.size + 2 → ¬ (False ∨ b = w3.heap.size + 1) := fun b hb h => by rcases h with h | h; exact h; omega
        have := lt_of i3
        exact ⟨ht.below i1 i1.size (fun b hb => hq b (by omega)), (ht.block _ (by omega) (hq _ (by omega))).trans i2, (ht.block _ (by omega) (hq _ (by omega))).trans i3, i4⟩
      case hIx =>
        rintro W W' ⟨i1, i3, i4⟩ ht
        have := lt_of i3
        exact ⟨ht.below i1 i1.size (fun b hb h => by omega), (ht.block _ (by omega) (by omega)).trans i3, i4⟩
      case hRd => exact fun s W h => HG.out.below h.1
      case h0 => exact ⟨HB.out.trans (hb3.mono HB.out.size), (hb3.block _ (by omega)).trans k0, (hb3.block _ (by omega)).trans k1, fun e he => by cases he⟩
      case hround =>
        rintro l s ⟨i, t⟩ W K hv hK
        have HK := hide hK
        clear hK
        gi_wp2
        refine HK.out _ ?_
        rintro Wb ⟨i1, i2, i3, i4⟩ hsz
        have c0 : Wb.cell? ⟨w.heap.size, 0, none⟩ = some (.slice (some ⟨blk, off, none⟩) g.length cap) := cell_of i2 0
        gi_wp2
        refine ⟨by trivial, by trivial, (CallsIn.inRound l (callsIn_wide.2 (isBlock_any _ _ _ _ _))).mono ?_⟩
        rintro e W4 ⟨rfl, rfl⟩
        by_cases hb : 0 ≤ t ∧ t < (g.length : Int)
        · rw [decide_eq_true hb]
          gi_wp2
          refine ⟨Nat.le_refl _, fun _ _ => rfl, i1, i2, i3, fun e he => ?_⟩
          rcases List.mem_append.1 he with he | he
          · exact i4 e he
          · obtain rfl := List.mem_singleton.1 he; exact hb
        · rw [decide_eq_false hb]
          have c1 : W4.cell? ⟨w.heap.size + 1, 0, none⟩ = some (.bool false) := cell_of i3 0
          have f1 := frozen_of i3 0
          gi_wp2
          refine ⟨by simp, fun b hb => Below.heap_setCell _ _ _ _ (by rcases hb with h | h | h; exact h.elim; all_goals (show b ≠ w.heap.size + 1; omega)), i1.setCell (p := ⟨w.heap.size + 1, 0, none⟩) (by show _ ≤ _ + 1; omega) _, ?_, ?_⟩
          · unfold World.setCell
            rw [Array.getElem?_modify, if_pos rfl, i3]; simp
          · refine rightB_false fun h => hb ?_
            obtain ⟨i', k', hi, hk', _, e⟩ := hv
            have := h.lt (i, t) ((mem_edgI g i t).2 ?_)
            · exact this
            · rw [Prod.mk.injEq] at e
              obtain ⟨rfl, rfl⟩ := e
              exact ⟨hi, by rw [getD_int _ _ hk']; exact List.getElem_mem hk'⟩
      case hdone =>
        rintro D s W ⟨i1, i2, i3, i4⟩ hS hD hK
        have c1 : W.cell? ⟨w.heap.size + 1, 0, none⟩ = some (.bool false) := cell_of i3 0
        have f1 := frozen_of i3 0
        have hr : Hid (rightB g = true) := rightB_true.2 ⟨by omega, by omega, HR.out, by rw [← hS]; exact i4⟩
        gi_wp2
        refine ⟨by simp, .inl ⟨_, _, rfl, run_takeDeferred (w := W.setCell ⟨w.heap.size + 1, 0, none⟩ (.bool true)) ((Below.heap_setCell _ _ _ _ (by show D ≠ _ + 1; omega)).trans hK), ?_⟩⟩
        have cs : (W.setCell ⟨w.heap.size + 1, 0, none⟩ (.bool true)).cell? ⟨w.heap.size + 1, 0, none⟩ = some (.bool true) := World.cell?_setCell_same _ _ _ c1
        have cp : ∀ o, ((W.setCell ⟨w.heap.size + 1, 0, none⟩ (.bool true)).putObj D o).cell? ⟨w.heap.size + 1, 0, none⟩ = some (.bool true) := fun o => (World.cell?_of_block (World.putObj_heap_other (by show w.heap.size + 1 ≠ D; omega))).trans cs
        exact ⟨.bool true, by simp [results, Try.results19, go_sem, cp], by rw [hr.out], (i1.setCell (p := ⟨w.heap.size + 1, 0, none⟩) (by show _ ≤ _ + 1; omega) _).trans ⟨rfl, rfl, rfl, by simp [World.putObj], fun b hb => World.putObj_heap_other (by omega)⟩⟩
      case hstop =>
        rintro D W ⟨i1, i2, i3⟩ hD hK
        have c1 : W.cell? ⟨w.heap.size + 1, 0, none⟩ = some (.bool false) := cell_of i2 0
        gi_wp2
        refine ⟨by simp, .inl ⟨_, _, rfl, run_takeDeferred hK, ?_⟩⟩
        have cp : ∀ o, (W.putObj D o).cell? ⟨w.heap.size + 1, 0, none⟩ = some (.bool false) := fun o => (World.cell?_of_block (World.putObj_heap_other (by show w.heap.size + 1 ≠ D; omega))).trans c1
        exact ⟨.bool false, by simp [results, Try.results19, go_sem, cp], by rw [i3], i1.trans ⟨rfl, rfl, rfl, by simp [World.putObj], fun b hb => World.putObj_heap_other (by omega)⟩⟩

end Go.Proofs.Ytonoeodlchkiaaa
