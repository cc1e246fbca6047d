/-
  Dominates (layer 7): the contract of dom's own.
-/
import Derived.Test.YtonoeodlchkiaaaUpw
namespace Go.Proofs.Ytonoeodlchkiaaa
open Go.ChangeShapes Go.WideShapes Go.ChangeAt Go.RowKit Go.Shelf

attribute [local go_sem] Oper.semAt_some

/-- Does one come from b to a by asking? -/
noncomputable def domB (o : List Nat) (d : List Int) (a b : Int) : Bool := @decide (∃ x y : Nat, a = (x : Int) ∧ b = (y : Int) ∧ x ∈ o ∧ y ∈ o ∧ Anc d y x) (Classical.propDecidable _)
theorem domB_true {o : List Nat} {d : List Int} {a b : Int} : domB o d a b = true ↔ ∃ x y : Nat, a = (x : Int) ∧ b = (y : Int) ∧ x ∈ o ∧ y ∈ o ∧ Anc d y x := by unfold domB; simp
theorem domB_false {o : List Nat} {d : List Int} {a b : Int} (h : ¬ ∃ x y : Nat, a = (x : Int) ∧ b = (y : Int) ∧ x ∈ o ∧ y ∈ o ∧ Anc d y x) : domB o d a b = false := by unfold domB; simp only [h]; simp
theorem reached_iff {g : List (List Nat)} {o : List Nat} (ho : Ord g o) {d : List Int} (hf : Fin g o d) (a : Int) : reachedB g.length d a = true ↔ ∃ x : Nat, a = (x : Int) ∧ x ∈ o := by
  unfold reachedB
  rw [@decide_eq_true_iff _ (Classical.propDecidable _)]
  constructor
  · rintro ⟨h1, h2, h3⟩
    obtain ⟨x, rfl⟩ := Int.eq_ofNat_of_zero_le h1
    refine ⟨x, rfl, ?_⟩
    rcases h3 with h3 | h3
    · have : x = 0 := by omega
      rw [this]; exact ho.zero
    · rw [Int.toNat_natCast] at h3
      exact (hf.up x h3).1
  · rintro ⟨x, rfl, hx⟩
    refine ⟨by omega, by have := ho.lt x hx; omega, ?_⟩
    rcases hf.all x hx with h | h
    · exact .inl (by omega)
    · exact .inr (by rw [Int.toNat_natCast]; exact h)

set_option maxRecDepth 100000 in
set_option maxHeartbeats 4000000 in
theorem dominates_is (g : List (List Nat)) (hmost : g.length ≤ 4096) (o : List Nat) (ho : Ord g o) (d : List Int) (hf : Fin g o d) (B : Nat) (a b : Int) (w : World) (hB : w.heap[B]? = some (.cells (intsI d).toArray 3 (0, 0))) :
    Calls Try.prog 10 #[.slice (some ⟨B, 0, none⟩) g.length g.length, .int .i64 a, .int .i64 b] w fun e w' => Below w.heap.size w w' ∧ e = .returned (.bool (domB o d a b)) := by
  refine (callsIn_wide (n := 0)).1 ?_
  have hBl := lt_of hB
  have ha := reached_iff ho hf a
  have hb := reached_iff ho hf b
  have HB := hide hB
  have HO := hide ho
  have HF := hide hf
  have hlen := hf.len
  clear hB ho hf
  refine callsIn_of_wp_marks Try.func10 rfl trivial ?_
  simp only [Try.ntmps10, List.size_toArray, List.length_cons, List.length_nil, Nat.reduceAdd, Nat.reduceSub, Array.replicate_succ, Array.replicate_zero, List.push_toArray, List.append_toArray, List.nil_append, List.cons_append]
  gi_wp2
  generalize hW : (w.alloc (.cells #[.int .i64 a] 3)).alloc (.cells #[.bool false] 4) = W2
  have kk : Below w.heap.size w W2 ∧ W2.heap.size = w.heap.size + 2 ∧ W2.heap[w.heap.size]? = some (.cells #[.int .i64 a] 3 (0, 0)) ∧ W2.heap[w.heap.size + 1]? = some (.cells #[.bool false] 4 (0, 0)) := by
    rw [← hW]
    refine ⟨((Below.refl _ w).alloc (Nat.le_refl _) _).alloc (by simp) _, by simp, (Below.heap_alloc _ _ _ (by simp)).trans (World.alloc_heap_new w _), ?_⟩
    have := World.alloc_heap_new (w.alloc (.cells #[.int .i64 a] 3)) (.cells #[.bool false] 4)
    rwa [World.size_alloc] at this
  obtain ⟨hB2, hs2, k0, k1⟩ := kk
  clear hW
  have kB : W2.heap[B]? = some (.cells (intsI d).toArray 3 (0, 0)) := (hB2.block B hBl).trans HB.out
  have c0 : W2.cell? ⟨w.heap.size, 0, none⟩ = some (.int .i64 a) := cell_of k0 0
  have c1 : W2.cell? ⟨w.heap.size + 1, 0, none⟩ = some (.bool false) := cell_of k1 0
  have f1 := frozen_of k1 0
  have cs : (W2.setCell ⟨w.heap.size + 1, 0, none⟩ (.bool false)).cell? ⟨w.heap.size + 1, 0, none⟩ = some (.bool false) := World.cell?_setCell_same _ _ _ c1
  have hir := isReached_is B g.length hmost d hlen a W2 kB
  refine ⟨by trivial, by trivial, (callsIn_wide.2 hir).mono ?_⟩
  rintro e W ⟨rfl, rfl⟩
  clear hir
  by_cases hra : reachedB g.length d a = true
  case neg =>
    have hfa : reachedB g.length d a = false := by simpa using hra
    have HN : Hid (domB o d a b = false) := domB_false fun ⟨x, y, h1, h2, h3, h4, h5⟩ => hra (ha.2 ⟨x, h1, h3⟩)
    rw [hfa]
    clear hra hfa ha hb kB
    gi_wp2
    refine ⟨by trivial, ?_⟩
    gi_wp2
    exact ⟨.bool false, by simp [results, Try.results10, go_sem, cs], hB2.setCell (p := ⟨w.heap.size + 1, 0, none⟩) (by show _ ≤ _ + 1; omega) _, by rw [HN.out]⟩
  rw [hra]
  obtain ⟨x, rfl, hx⟩ := ha.1 hra
  have hir := isReached_is B g.length hmost d hlen b W kB
  gi_wp2
  refine ⟨by trivial, by trivial, (callsIn_wide.2 hir).mono ?_⟩
  rintro e W' ⟨rfl, rfl⟩
  clear hir
  by_cases hrb : reachedB g.length d b = true
  case neg =>
    have hfb : reachedB g.length d b = false := by simpa using hrb
    have HN : Hid (domB o d (x : Int) b = false) := domB_false fun ⟨x, y, h1, h2, h3, h4, h5⟩ => hrb (hb.2 ⟨y, h2, h4⟩)
    rw [hfb]
    clear hra hrb hfb ha hb kB
    gi_wp2
    exact ⟨.bool false, by simp [results, Try.results10, go_sem, cs], hB2.setCell (p := ⟨w.heap.size + 1, 0, none⟩) (by show _ ≤ _ + 1; omega) _, by rw [HN.out]⟩
  rw [hrb]
  obtain ⟨y, rfl, hy⟩ := hb.1 hrb
  clear hra hrb ha hb
  gi_wp2
  refine ⟨by trivial, by trivial, (upward_in 0 _ _ _ _ _).mono ?_⟩
  rintro e w3 ⟨rfl, hs3, hb3, k2, k3⟩
  rw [hs2] at hs3 hb3 k2 k3 ⊢
  gi_wp2
  generalize hh : w.heap.size = h at *
  refine range_it (α := Nat) (kk := 0) (gf := 48) (lb := #[.pointer (some ⟨h + 2, 0, none⟩), .pointer (some ⟨h + 2 + 1, 0, none⟩)]) (P := fun c => c = h + 2 + 1) (Rd := fun W => W.heap[h + 2]? = some (.cells #[.slice (some ⟨B, 0, none⟩) g.length g.length] 25 (0, 0)) ∧ W.heap[B]? = some (.cells (intsI d).toArray 3 (0, 0))) (V := fun s x => Chain d y s x ∧ x ∈ o) (S := fun s _ => ∃ s', s = s' ++ [0] ∧ Chain d y s' 0) (enc := fun x : Nat => #[.int .i64 (x : Int)]) rfl enter48 (fun _ => rfl) (fun _ _ _ h _ => h) (fun c hc => by omega)
    (fun W1 hb hs => upward_gives g o HO.out hmost d HF.out (h + 2) (h + 2 + 1) B y hy W1 _ ((hb.block _ (by omega)).trans k2) ((hb.block _ (by omega)).trans k3))
    (fun s W => Below h w W ∧ W.heap[h]? = some (.cells #[.int .i64 (x : Int)] 3 (0, 0)) ∧ W.heap[h + 1]? = some (.cells #[.bool false] 4 (0, 0)) ∧ W.heap[h + 2]? = some (.cells #[.slice (some ⟨B, 0, none⟩) g.length g.length] 25 (0, 0)) ∧ x ∉ s)
    (fun W => Below h w W ∧ W.heap[h + 1]? = some (.cells #[.bool true] 4 (0, 0)) ∧ Anc d y x) ?hI ?hIx ?hRd ?h0 ?hround ?hdone ?hstop
  case hI =>
    rintro s W W' ⟨i1, i2, i3, i4, i5⟩ ht
    have hq : ∀ c, c < h + 3 → ¬ (c = h + 2 + 1 ∨ c = w3.heap.size + 1) := fun c hc h => by omega
    have := lt_of i2
    have := lt_of i3
    have := lt_of i4
    have := i1.size
    exact ⟨ht.below i1 (by omega) (fun c hc => hq c (by omega)), (ht.block _ (by omega) (hq _ (by omega))).trans i2, (ht.block _ (by omega) (hq _ (by omega))).trans i3, (ht.block _ (by omega) (hq _ (by omega))).trans i4, i5⟩
  case hIx =>
    rintro W W' ⟨i1, i3, i4⟩ ht
    have := lt_of i3
    have := i1.size
    exact ⟨ht.below i1 (by omega) (fun c hc h => by omega), (ht.block _ (by omega) (by omega)).trans i3, i4⟩
  case hRd =>
    rintro s W ⟨i1, i2, i3, i4, i5⟩
    exact ⟨i4, (i1.block B (by omega)).trans HB.out⟩
  case h0 => exact ⟨hB2.trans (hb3.mono (by omega)), (hb3.block _ (by omega)).trans k0, (hb3.block _ (by omega)).trans k1, k2, fun h => by cases h⟩
  case hround =>
    rintro l s z W K hv hK
    have HK := hide hK
    clear hK
    gi_wp2
    refine HK.out _ ?_
    rintro Wb ⟨i1, i2, i3, i4, i5⟩ hsz
    have c0 : Wb.cell? ⟨h, 0, none⟩ = some (.int .i64 (x : Int)) := cell_of i2 0
    have c1 : Wb.cell? ⟨h + 1, 0, none⟩ = some (.bool false) := cell_of i3 0
    have f1 := frozen_of i3 0
    by_cases hzx : z = x
    · subst hzx
      have hA := hv.1.anc.1
      gi_wp2
      refine ⟨by simp, fun c hc => Below.heap_setCell _ _ _ _ (by show c ≠ h + 1; omega), i1.setCell (p := ⟨h + 1, 0, none⟩) (by show _ ≤ _ + 1; omega) _, heap_set_same (cs := [.bool false]) i3 0 (.bool true), hA⟩
    · have e1 : ((z : Int) == (x : Int)) = false := by simp; omega
      have e2 : ((z : Int) = (x : Int)) = False := eq_false (by omega)
      have HN : Hid (x ∉ s ++ [z]) := fun hm => by
        rcases List.mem_append.1 hm with hm | hm
        · exact i5 hm
        · simp at hm; exact hzx hm.symm
      clear hzx
      gi_wp2
      exact ⟨Nat.le_refl _, fun _ _ => rfl, i1, i2, i3, i4, HN.out⟩
  case hdone =>
    rintro D s W ⟨i1, i2, i3, i4, i5⟩ ⟨s', hs', hch⟩ hD hK
    have HN : Hid (domB o d (x : Int) (y : Int) = false) := domB_false fun ⟨x', y', h1, h2, h3, h4, h5⟩ => by
      have ex : x' = x := by omega
      have ey : y' = y := by omega
      subst ex; subst ey
      exact i5 (by rw [hs']; exact hch.all HF.out.zero h5)
    have c1 : W.cell? ⟨h + 1, 0, none⟩ = some (.bool false) := cell_of i3 0
    have f1 := frozen_of i3 0
    clear hch
    gi_wp2
    refine ⟨by simp, .inl ⟨_, _, rfl, run_takeDeferred (w := W.setCell ⟨h + 1, 0, none⟩ (.bool false)) ((Below.heap_setCell _ _ _ _ (by show D ≠ _ + 1; omega)).trans hK), ?_⟩⟩
    have cs : (W.setCell ⟨h + 1, 0, none⟩ (.bool false)).cell? ⟨h + 1, 0, none⟩ = some (.bool false) := World.cell?_setCell_same _ _ _ c1
    have cp : ∀ o, ((W.setCell ⟨h + 1, 0, none⟩ (.bool false)).putObj D o).cell? ⟨h + 1, 0, none⟩ = some (.bool false) := fun o => (World.cell?_of_block (World.putObj_heap_other (by show h + 1 ≠ D; omega))).trans cs
    exact ⟨.bool false, by simp [results, Try.results10, go_sem, cp], by rw [hh]; exact (i1.setCell (p := ⟨h + 1, 0, none⟩) (by show _ ≤ _ + 1; omega) _).trans ⟨rfl, rfl, rfl, by simp [World.putObj], fun b hb => World.putObj_heap_other (by omega)⟩, by rw [HN.out]⟩
  case hstop =>
    rintro D W ⟨i1, i2, i3⟩ hD hK
    have c1 : W.cell? ⟨h + 1, 0, none⟩ = some (.bool true) := cell_of i2 0
    have HN : Hid (domB o d (x : Int) (y : Int) = true) := domB_true.2 ⟨x, y, rfl, rfl, hx, hy, i3⟩
    gi_wp2
    refine ⟨by simp, .inl ⟨_, _, rfl, run_takeDeferred hK, ?_⟩⟩
    have cp : ∀ o, (W.putObj D o).cell? ⟨h + 1, 0, none⟩ = some (.bool true) := fun o => (World.cell?_of_block (World.putObj_heap_other (by show h + 1 ≠ D; omega))).trans c1
    exact ⟨.bool true, by simp [results, Try.results10, go_sem, cp], by rw [hh]; exact i1.trans ⟨rfl, rfl, rfl, by simp [World.putObj], fun b hb => World.putObj_heap_other (by omega)⟩, by rw [HN.out]⟩

end Go.Proofs.Ytonoeodlchkiaaa
