/-
  Critical edges (layer 6): rows of pairs, the contract of graph's own Critical.
-/
import Derived.Test.YtchnjjdhffmkpaaPreds
namespace Go.Proofs.Ytchnjjdhffmkpaa
open Go.ChangeShapes Go.WideShapes Go.ChangeAt Go.RowKit Go.Shelf

attribute [local go_sem] Oper.semAt_some

abbrev pairV (p : Nat × Nat) : List Value := [.int .i64 (p.1 : Int), .int .i64 (p.2 : Int)]
abbrev pairsV (l : List (Nat × Nat)) : List Value := l.flatMap pairV
set_option maxRecDepth 100000 in
theorem typP : ∃ i, Try.prog.info? 37 = some i ∧ i.zero = some (.agg #[.int .i64 0, .int .i64 0]) ∧ i.bytes = 16 ∧ i.size = 2 := ⟨_, rfl, rfl, rfl, rfl⟩
/-- One pair more behind a row. -/
theorem app_pair (w : World) (ty : TypeId) (base : Nat) (v : Value) (n : Nat) (xs : List Value) (hown : w.ownsRow base 37 2 v n xs) (x y : Int) (hbd : n ≤ 100000000) (hbase : base ≤ w.heap.size) :
    ∃ g cap w', (Builtin.append_ #[32, 32] ty #[v, .slice (some ⟨w.heap.size, 0, none⟩) 1 1]).run Try.prog (w.alloc (.cells #[.int .i64 x, .int .i64 y] 37)) = .ok (.slice (some ⟨g, 0, none⟩) (n + 1) cap) w' ∧ w'.ownsRow base 37 2 (.slice (some ⟨g, 0, none⟩) (n + 1) cap) (n + 1) (xs ++ [.int .i64 x, .int .i64 y]) ∧ (w.alloc (.cells #[.int .i64 x, .int .i64 y] 37)).grownBy w' v.ownBlock ∧ (v.ownBlock = some g ∨ g = w.heap.size + 1) ∧ g < w'.heap.size := by
  obtain ⟨i, h1, h2, h3, h4⟩ := typP
  exact run_append_lies (P := Try.prog) (w.alloc (.cells #[.int .i64 x, .int .i64 y] 37)) 32 ty base 37 i _ 2 16 Try.underlying32 h1 h2 h4 h3 rfl (by decide) v n xs (hown.alloc _) ⟨w.heap.size, 0, none⟩ 1 1 [.int .i64 x, .int .i64 y] rfl
    (fun j u hu => by
      rw [Addr.add_mid]
      rw [cell_of (World.alloc_heap_new w _)]
      simpa using hu)
    (fun u hu => by simp at hu; rcases hu with rfl | rfl <;> rfl) (by decide) (by unfold maxLen; omega) (by omega) (by simp; omega) _ (by simp)
/-- What one row's growth leaves of others. -/
theorem grown_turns {W w' : World} {o : Obj} {v : Value} {base : Nat} {e : TypeId} {size n : Nat} {xs : List Value} (ho : W.ownsRow base e size v n xs) (hgb : (W.alloc o).grownBy w' v.ownBlock) : Turns (fun b => base ≤ b) W w' := by
  have hsz := hgb.size
  rw [World.size_alloc] at hsz
  exact ⟨hgb.os, hgb.tape, hgb.output, by omega, fun b hb hq => (hgb.block b (by simp; omega) (fun e => hq (ho.lt b e.symm).1)).trans (Below.heap_alloc _ _ _ hb)⟩
theorem RowsB.cell {W : World} {base H n : Nat} {f : Nat → List Nat} (h : RowsB W base H n f) (t : Nat) (ht : t < n) : ∃ av cap, W.cell? ⟨H, t, none⟩ = some (.slice av (f t).length cap) := by
  obtain ⟨vs, h1, h2, h3, h4⟩ := h
  obtain ⟨v, hv, ho⟩ := h3 t ht
  obtain ⟨av, cap, rfl, _⟩ := owns_shape ho
  exact ⟨av, cap, by rw [cell_of h2]; simpa using hv⟩

def critB (g : List (List Nat)) (e : Nat × Nat) : Bool := decide (1 < (g.getD e.1 []).length) && decide (1 < (aheadL (edgesL g) e.2).length)
def critL (g : List (List Nat)) : List (Nat × Nat) := (edgesL g).filter (critB g)

set_option maxRecDepth 100000 in
set_option maxHeartbeats 2000000 in
/-- Critical of a right graph. -/
theorem critical_is (av : Option Addr) (cap blk off : Nat) (hd : Nat → Hdr) (g : List (List Nat)) (hgr : Right g) (w : World) (hG : GAt w av blk off hd (castG g)) :
    Calls Try.prog 21 #[.slice av g.length cap] w fun e w' => Below w.heap.size w w' ∧ ∃ v, e = .returned v ∧ w'.ownsRow w.heap.size 37 2 v (critL g).length (pairsV (critL g)) := by
  refine (callsIn_wide (n := 0)).1 ?_
  have hone := hgr.one
  have hmost := hgr.most
  have hrows := hgr.rows
  have HG := hide hG
  have hr := right_any av cap blk off hd (castG g) (w.alloc (.cells #[.slice av g.length cap] 22)) (hG.below ((Below.refl _ w).alloc (Nat.le_refl _) _))
  rw [castG_len, rightB_true.2 hgr.toI] at hr
  have HR := hide hr
  clear hr hG
  refine callsIn_of_wp_marks Try.func21 rfl trivial ?_
  simp only [Try.ntmps21, List.size_toArray, List.length_cons, List.length_nil, Nat.reduceAdd, Nat.reduceSub, Array.replicate_succ, Array.replicate_zero, List.push_toArray, List.append_toArray, List.nil_append, List.cons_append]
  gi_wp2
  have hb1 : Below w.heap.size w (w.alloc (.cells #[.slice av g.length cap] 22)) := (Below.refl _ w).alloc (Nat.le_refl _) _
  have k1 := World.alloc_heap_new w (.cells #[.slice av g.length cap] 22)
  have hs1 : (w.alloc (.cells #[.slice av g.length cap] 22)).heap.size = w.heap.size + 1 := by simp
  generalize w.alloc (.cells #[.slice av g.length cap] 22) = w1 at *
  refine ⟨by trivial, by trivial, (callsIn_wide.2 HR.out).mono ?_⟩
  rintro e w2 ⟨rfl, hb2⟩
  clear HR
  rw [hs1] at hb2
  have k2 : w2.heap[w.heap.size]? = some (.cells #[.slice av g.length cap] 22 (0, 0)) := (hb2.block _ (by omega)).trans k1
  have c2 : w2.cell? ⟨w.heap.size, 0, none⟩ = some (.slice av g.length cap) := cell_of k2 0
  have hB2 : Below w.heap.size w w2 := hb1.trans (hb2.mono (by omega))
  have hp := preds_is av cap blk off hd g hgr w2 (HG.out.below hB2)
  have hs2 : w.heap.size + 1 ≤ w2.heap.size := by have := hb2.size; omega
  clear hb1 hb2 k1 hs1
  gi_wp2
  refine ⟨by trivial, by trivial, (callsIn_wide.2 hp).mono ?_⟩
  rintro e w3 ⟨hb3, H, base, hH1, hH2, rfl, hR3⟩
  clear hp
  have hs3 := hb3.size
  have k3 : w3.heap[w.heap.size]? = some (.cells #[.slice av g.length cap] 22 (0, 0)) := (hb3.block _ (by omega)).trans k2
  have hB3 : Below w.heap.size w w3 := hB2.trans (hb3.mono (by omega))
  clear hb3 k2 c2 hB2
  have hRl : H < w3.heap.size := by obtain ⟨vs, _, h2, _⟩ := hR3; exact lt_of h2
  have c3 : w3.cell? ⟨w.heap.size, 0, none⟩ = some (.slice av g.length cap) := cell_of k3 0
  have hwl : w.heap.size < w3.heap.size := by omega
  have c4 : ((w3.alloc (.cells #[.slice (some ⟨H, 0, none⟩) g.length g.length] 22)).alloc (.cells #[.slice none 0 0] 32)).cell? ⟨w.heap.size, 0, none⟩ = some (.slice av g.length cap) := by
    rw [World.cell?_of_block (Below.heap_alloc _ _ _ (by simp; omega)), World.cell?_of_block (Below.heap_alloc _ _ _ hwl)]; exact c3
  gi_wp2
  generalize hW : (w3.alloc (.cells #[.slice (some ⟨H, 0, none⟩) g.length g.length] 22)).alloc (.cells #[.slice none 0 0] 32) = w4 at *
  have hb4 : Below w3.heap.size w3 w4 := by rw [← hW]; exact ((Below.refl _ w3).alloc (Nat.le_refl _) _).alloc (by simp) _
  have ka : w4.heap[w3.heap.size]? = some (.cells #[.slice (some ⟨H, 0, none⟩) g.length g.length] 22 (0, 0)) := by
    rw [← hW]; exact (Below.heap_alloc _ _ _ (by simp)).trans (World.alloc_heap_new w3 _)
  have kc : w4.heap[w3.heap.size + 1]? = some (.cells #[.slice none 0 0] 32 (0, 0)) := by
    rw [← hW]; have := World.alloc_heap_new (w3.alloc (.cells #[.slice (some ⟨H, 0, none⟩) g.length g.length] 22)) (.cells #[.slice none 0 0] 32); rwa [World.size_alloc] at this
  have hs4 : w4.heap.size = w3.heap.size + 2 := by rw [← hW]; simp
  refine ⟨by trivial, by trivial, (edges_in 0 _ _ _ _).mono ?_⟩
  rintro e w5 ⟨rfl, rfl⟩
  rw [hs4]
  have hb5 : Below w4.heap.size w4 (w4.alloc (.cells #[.slice av g.length cap] 22)) := (Below.refl _ w4).alloc (Nat.le_refl _) _
  have k5 := World.alloc_heap_new w4 (.cells #[.slice av g.length cap] 22)
  rw [hs4] at hb5 k5
  have hs5 : (w4.alloc (.cells #[.slice av g.length cap] 22)).heap.size = w3.heap.size + 3 := by simp; omega
  generalize w4.alloc (.cells #[.slice av g.length cap] 22) = w5 at *
  have hB5 : Below w.heap.size w w5 := (hB3.trans (hb4.mono (by omega))).trans (hb5.mono (by omega))
  have j0 : w5.heap[w.heap.size]? = some (.cells #[.slice av g.length cap] 22 (0, 0)) := (hb5.block _ (by omega)).trans ((hb4.block _ (by omega)).trans k3)
  have ja := (hb5.block _ (by omega)).trans ka
  have jc := (hb5.block _ (by omega)).trans kc
  have hb35 : Below w3.heap.size w3 w5 := hb4.trans (hb5.mono (by omega))
  have hR5 : RowsB w5 base H g.length (aheadL (edgesL g)) := hR3.turns (Turns.of_below hb35) (fun b _ hb => by omega)
  clear hW hb4 hb5 ka kc c4 c3 k3 hR3 hb35 hB3
  generalize hh : w3.heap.size = h at *
  gi_wp2
  have hlc := castG_len g
  refine range_it (α := Nat × Int) (kk := 0) (gf := 40) (lb := #[.pointer (some ⟨h + 2, 0, none⟩)]) (P := fun _ => False) (Rd := fun W => GAt W av blk off hd (castG g)) (V := nextE (castG g)) (S := fun s _ => s = edgI (castG g) (castG g).length 0) (enc := encE) rfl enter40 (fun _ => rfl) (fun _ _ _ h _ => h) (fun _ h => h.elim)
    (fun W1 hb hs => edges_gives (h + 2) blk off cap hd (castG g) _ (by omega) (fun b => ?_) W1 _ ?_)
    (fun s W => Below w.heap.size w W ∧ W.heap[w.heap.size]? = some (.cells #[.slice av g.length cap] 22 (0, 0)) ∧ W.heap[h]? = some (.cells #[.slice (some ⟨H, 0, none⟩) g.length g.length] 22 (0, 0)) ∧ (∀ t, t < g.length → ∃ av cap, W.cell? ⟨H, t, none⟩ = some (.slice av (aheadL (edgesL g) t).length cap)) ∧ ∃ v, W.heap[h + 1]? = some (.cells #[v] 32 (0, 0)) ∧ W.ownsRow (h + 5) 37 2 v ((natE s).filter (critB g)).length (pairsV ((natE s).filter (critB g)))) (fun _ => False) ?hI (fun _ _ h _ => h) ?hRd ?h0 ?hround ?hdone (fun _ _ h => h.elim)
  · rw [castG_at, List.length_map]; have := hrows b; omega
  · rw [castG_len]; exact (hb.cell (p := ⟨h + 2, 0, none⟩) (by show h + 2 < _; omega)).trans (cell_of k5 0)
  case hI =>
    rintro s W W' ⟨i1, i2, i3, i4, v, i5, i6⟩ ht
    have hq : ∀ b, b < h + 3 ∨ h + 5 ≤ b → ¬ (False ∨ b = w5.heap.size + 1) := fun b hb h => by rcases h with h | h; exact h; omega
    have := lt_of i5
    refine ⟨ht.below i1 i1.size (fun b hb => hq b (by omega)), (ht.block _ (by omega) (hq _ (by omega))).trans i2, (ht.block _ (by omega) (hq _ (by omega))).trans i3, fun t htn => ?_, v, (ht.block _ (by omega) (hq _ (by omega))).trans i5, owns_turns i6 ht (fun b hb => hq b (.inr (i6.lt b hb).1))⟩
    obtain ⟨a1, c1, hc⟩ := i4 t htn
    exact ⟨a1, c1, (World.cell?_of_block (ht.block H (by omega) (hq _ (by omega)))).trans hc⟩
  case hRd => exact fun s W h => HG.out.below h.1
  case h0 => exact ⟨hB5, j0, ja, fun t ht => hR5.cell t ht, _, jc, World.ownsRow_nil _ _ _ _⟩
  case hround =>
    rintro l s ⟨i, t⟩ W K hv hK
    have HK := hide hK
    clear hK
    gi_wp2
    refine HK.out _ ?_
    rintro Wb ⟨i1, i2, i3, i4, v, i5, i6⟩ hsz
    obtain ⟨i', k', hi, hk', hs, e⟩ := hv
    rw [castG_at, List.length_map] at hk'
    rw [Prod.mk.injEq, castG_at, cast_at] at e
    obtain ⟨rfl, rfl⟩ := e
    have hic := hi
    rw [castG_len] at hi
    have htn := hgr.lt i _ (getD_mem _ _ hk')
    have hsl : ((natE s).filter (critB g)).length ≤ 40000 := by
      have h1 := List.length_filter_le (critB g) (natE s)
      have h2 : (natE s).length = s.length := by simp [natE]
      have := edgI_len (castG g) (fun b => by rw [castG_at, List.length_map]; exact hrows b) k' i
      rw [← hs] at this
      omega
    have hnx : natE (s ++ [(i, (((g.getD i []).getD k' 0 : Nat) : Int))]) = natE s ++ [(i, (g.getD i []).getD k' 0)] := by simp [natE]
    clear hs hk'
    generalize (g.getD i []).getD k' 0 = tn at *
    have hG := HG.out.below i1
    obtain rfl := hG.at_ (by omega)
    have c1 : Wb.cell? ⟨blk, off + i, none⟩ = some (.slice (hd i).av (g.getD i []).length (hd i).cap) := by
      have := hG.has i hic; rwa [castG_at, List.length_map] at this
    obtain ⟨av2, cp2, c2⟩ := i4 tn htn
    have c3 : Wb.cell? ⟨w.heap.size, 0, none⟩ = some (.slice (some ⟨blk, off, none⟩) g.length cap) := cell_of i2 0
    have c4 : Wb.cell? ⟨h, 0, none⟩ = some (.slice (some ⟨H, 0, none⟩) g.length g.length) := cell_of i3 0
    have c5 : Wb.cell? ⟨h + 1, 0, none⟩ = some v := cell_of i5 0
    have hii : ((i : Int) < (g.length : Int)) = True := by simp; omega
    have hti : ((tn : Int) < (g.length : Int)) = True := by simp; omega
    have hi2 : i ≤ 4096 := by omega
    have ht2 : tn ≤ 4096 := by omega
    have HB : Hid (critB g (i, tn) = (decide (1 < (g.getD i []).length) && decide (1 < (aheadL (edgesL g) tn).length))) := rfl
    have HI := hide (And.intro i1 (And.intro i2 (And.intro i3 (And.intro i4 (And.intro i5 i6)))))
    clear i1 i2 i3 i4 hG hic
    have hl1 := hrows i
    have hl2 : (aheadL (edgesL g) tn).length ≤ 1000000 := by
      have h1 := aheadL_len (edgesL g) tn
      have h2 := edgI_len (castG g) (fun b => by rw [castG_at, List.length_map]; exact hrows b) 0 (castG g).length
      have h3 : (edgesL g).length = (edgI (castG g) (castG g).length 0).length := by rw [← natE_all]; simp [natE]
      omega
    generalize hn1 : (g.getD i []).length = n1 at *
    generalize hn2 : (aheadL (edgesL g) tn).length = n2 at *
    have HN1 := hide hn1
    have HN2 := hide hn2
    clear hn1 hn2
    by_cases h1 : (1 : Int) < (n1 : Int)
    · by_cases h2 : (1 : Int) < (n2 : Int)
      · have hc : critB g (i, tn) = true := by rw [HB.out]; simp; omega
        have hfil : (natE (s ++ [(i, (tn : Int))])).filter (critB g) = (natE s).filter (critB g) ++ [(i, tn)] := by rw [hnx, List.filter_append]; simp [hc]
        have HF := hide hfil
        clear hfil hnx hc
        obtain ⟨g', cp, w', hap, ho, hgb, hat, hlt⟩ := app_pair Wb 32 (h + 5) v _ _ i6 (i : Int) (tn : Int) (by omega) (by omega)
        have hT := grown_turns i6 hgb
        have HAP := hide hap
        have i5' : w'.heap[h + 1]? = some (.cells #[v] 32 (0, 0)) := (hT.block _ (lt_of i5) (by omega)).trans i5
        have c6 : w'.cell? ⟨h + 1, 0, none⟩ = some v := cell_of i5' 0
        have f6 := frozen_of i5' 0
        have HO := hide ho
        have HT := hide hT
        clear hap ho hT hgb
        generalize hm : ((natE s).filter (critB g)).length = m at *
        have HM := hide hm
        clear hm
        gi_wp2_with (gi_at_builtin; refine wpListIn_append_run rfl _ _ 32 rfl rfl rfl HAP.out ?_)
        obtain ⟨i1, i2, i3, i4, _, _⟩ := HI.out
        have hT := HT.out
        have hT2 : Turns (fun b => h + 5 ≤ b ∨ b = h + 1) Wb (w'.setCell ⟨h + 1, 0, none⟩ (.slice (some ⟨g', 0, none⟩) (m + 1) cp)) := (hT.mono (fun b hb => .inl hb)).trans (Turns.setCell _ _ _ (.inr rfl))
        refine ⟨hT2.size, fun b hb => ?_, hT2.below i1 i1.size (fun b hb hq => by omega), (hT2.block _ (lt_of i2) (by omega)).trans i2, (hT2.block _ (lt_of i3) (by omega)).trans i3, fun t' htn' => ?_, .slice (some ⟨g', 0, none⟩) (m + 1) cp, ?_, ?_⟩
        · rcases hb with hb | hb | hb
          · exact hb.elim
          · exact hT2.block b (by omega) (by omega)
          · exact hT2.block b (by omega) (by omega)
        · obtain ⟨a1, c1, hc⟩ := i4 t' htn'
          exact ⟨a1, c1, (World.cell?_of_block (hT2.block H (by omega) (by show ¬ (h + 5 ≤ H ∨ H = h + 1); omega))).trans hc⟩
        · exact heap_set_same (cs := [v]) i5' 0 _
        · rw [HF.out, List.length_append, HM.out, show pairsV ((natE s).filter (critB g) ++ [(i, tn)]) = pairsV ((natE s).filter (critB g)) ++ [.int .i64 (i : Int), .int .i64 (tn : Int)] by simp [pairsV]]
          refine owns_turns HO.out (Turns.setCell (Q := fun b => b = h + 1) _ _ _ rfl) (fun b hb e => ?_)
          have := (HO.out.lt b hb).1
          omega
      · have hc : critB g (i, tn) = false := by rw [HB.out]; simp; omega
        have hfil : (natE (s ++ [(i, (tn : Int))])).filter (critB g) = (natE s).filter (critB g) := by rw [hnx, List.filter_append]; simp [hc]
        have HF := hide hfil
        clear hfil hnx hc
        gi_wp2
        obtain ⟨i1, i2, i3, i4, _, _⟩ := HI.out
        exact ⟨Nat.le_refl _, fun _ _ => rfl, i1, i2, i3, i4, v, i5, by rw [HF.out]; exact i6⟩
    · have hc : critB g (i, tn) = false := by rw [HB.out]; simp; omega
      have hfil : (natE (s ++ [(i, (tn : Int))])).filter (critB g) = (natE s).filter (critB g) := by rw [hnx, List.filter_append]; simp [hc]
      have HF := hide hfil
      clear hfil hnx hc
      gi_wp2
      obtain ⟨i1, i2, i3, i4, _, _⟩ := HI.out
      exact ⟨Nat.le_refl _, fun _ _ => rfl, i1, i2, i3, i4, v, i5, by rw [HF.out]; exact i6⟩
  case hdone =>
    rintro D s W ⟨i1, i2, i3, i4, v, i5, i6⟩ hS hD hK
    have c1 : W.cell? ⟨h + 1, 0, none⟩ = some v := cell_of i5 0
    rw [hS, natE_all] at i6
    have HO := hide i6
    clear i6
    gi_wp2
    refine ⟨by simp, .inl ⟨_, _, rfl, run_takeDeferred hK, ?_⟩⟩
    refine ⟨v, by simp [results, Try.results21, go_sem], bel_put i1 D _ (by omega), v, rfl, ?_⟩
    have ho : W.ownsRow w.heap.size 37 2 v (critL g).length (pairsV (critL g)) := by
      refine ⟨HO.out.1, ?_⟩
      rcases HO.out.2 with h' | ⟨g', cp, cur, h1, h2, h3⟩
      · exact .inl h'
      · exact .inr ⟨g', cp, cur, h1, by omega, h3⟩
    refine owns_turns ho (Turns.putObj (Q := fun b => b = D) _ _ _ rfl) (fun b hb e => ?_)
    have := (HO.out.lt b hb).1
    omega
theorem critical_none (av : Option Addr) (cap blk off : Nat) (hd : Nat → Hdr) (g : List (List Int)) (hno : ¬ RightI g) (w : World) (hG : GAt w av blk off hd g) :
    Calls Try.prog 21 #[.slice av g.length cap] w fun e w' => Below w.heap.size w w' ∧ e = .returned (.slice none 0 0) := by
  refine (callsIn_wide (n := 0)).1 ?_
  have hb1 : Below w.heap.size w (w.alloc (.cells #[.slice av g.length cap] 22)) := (Below.refl _ w).alloc (Nat.le_refl _) _
  have hr := right_any av cap blk off hd g _ (hG.below hb1)
  rw [rightB_false hno] at hr
  have HR := hide hr
  clear hG hr
  refine callsIn_of_wp_marks Try.func21 rfl trivial ?_
  simp only [Try.ntmps21, List.size_toArray, List.length_cons, List.length_nil, Nat.reduceAdd, Nat.reduceSub, Array.replicate_succ, Array.replicate_zero, List.push_toArray, List.append_toArray, List.nil_append, List.cons_append]
  gi_wp2
  refine ⟨by trivial, by trivial, (callsIn_wide.2 HR.out).mono ?_⟩
  rintro e w1 ⟨rfl, hb2⟩
  gi_wp2
  exact ⟨.slice none 0 0, by simp [results, Try.results21, go_sem], hb1.trans (hb2.mono hb1.size), rfl⟩

end Go.Proofs.Ytchnjjdhffmkpaa
