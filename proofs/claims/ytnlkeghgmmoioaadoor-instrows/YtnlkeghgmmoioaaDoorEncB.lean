/-
  EncodeAll of package inst (layer 2): its contract.
-/
import Derived.Test.YtnlkeghgmmoioaaDoorEncA
namespace Go.Proofs.YtnlkeghgmmoioaaDoor
open Go.ChangeShapes Go.WideShapes Go.ChangeAt Go.RowKit Go.Shelf

attribute [local go_sem] Oper.semAt_some

def EncAns (l : List Ins) (w : World) (e : Ending) (w' : World) : Prop :=
  Below w.heap.size w w' ∧ (((∀ x ∈ l, x.right = true) ∧ ∃ blk, w.heap.size ≤ blk ∧ blk < w'.heap.size ∧ e = .returned (.tuple #[.slice (some ⟨blk, 0, none⟩) (l.length * 8) (l.length * 8), .int .i64 0]) ∧ HasBytes w' blk 0 (l.flatMap Ins.enc)) ∨ ((∃ x ∈ l, x.right = false) ∧ e = .returned (.tuple #[.slice none 0 0, .int .i64 1])))

set_option maxRecDepth 100000 in
set_option maxHeartbeats 2000000 in
theorem encodeAll_in (av : Option Addr) (n cap : Nat) (l : List Ins) (w : World) (hn : l.length = n) (hl : n ≤ 1048576) (hav : 0 < n → ∃ blk off, av = some ⟨blk, off, none⟩ ∧ blk < w.heap.size ∧ HasInsts w blk off l) :
    CallsIn Fence.wide 100 Tryd.prog 28 #[.slice av n cap] w (EncAns l w) := by
  have e1 : ((1048576 : Int) < n) = False := by simp; omega
  have b0 : (0 : Int) ≤ (n : Int) * 8 := by omega
  have b1 : (n : Int) * 8 ≤ 8388608 := by omega
  have hmk := make_bytes n hl
  refine callsIn_of_wp_marks Tryd.func28 rfl trivial ?_
  simp only [Tryd.ntmps28, List.size_toArray, List.length_cons, List.length_nil, Nat.reduceAdd, Nat.reduceSub, Array.replicate_succ, Array.replicate_zero, List.push_toArray, List.append_toArray, List.nil_append, List.cons_append]
  gi_wp2
  refine ⟨trivial, (chunksOf_in Fence.wide 99 trivial rfl _ _ _ _).mono ?_⟩
  rintro e w1 ⟨rfl, hw1⟩
  have hI0 := ew_start w av n cap l (.cells #[.slice (some ⟨w.heap.size + 1 + 1 + 1, 0, none⟩) (n * 8) (n * 8)] 25)
  rw [← hw1] at hI0
  have hcb : w1.cell? ⟨w.heap.size + 1 + 1 + 1 + 1, 0, none⟩ = some (.slice (some ⟨w.heap.size + 1 + 1 + 1, 0, none⟩) (n * 8) (n * 8)) := by rw [hw1]; go_simp
  have hfb : w1.frozen? ⟨w.heap.size + 1 + 1 + 1 + 1, 0, none⟩ = false := by rw [hw1]; go_simp
  have hsz : w1.heap.size = w.heap.size + 1 + 1 + 1 + 1 + 1 := by rw [hw1]; simp
  have hss : ((((w.alloc (.cells #[.slice av n cap] 38)).alloc (.cells #[.slice none 0 0] 25)).alloc (.cells #[.int .i64 0] 26)).alloc (.cells (madeCells #[.int .u8 0] (n * 8)) 5)).heap.size = w.heap.size + 1 + 1 + 1 + 1 := by simp
  simp only [hss]
  clear hmk hw1 hss
  gi_wp2
  refine range_chunks (Bc := w.heap.size + 1 + 1 + 1 + 1) (blk := w.heap.size + 1 + 1 + 1) (off := 0) (len := n * 8) (cap := n * 8) (av := some ⟨w.heap.size + 1 + 1 + 1, 0, none⟩) rfl (by decide) trivial rfl rfl (Nat.le_refl _) (by omega) (by omega) hcb (fun _ => rfl) hfb
    (EW w av n cap l) (EX w l) ?io ?ixo ?is ?start
    (fun k => { tmps := #[.slice av n cap, .pointer (some ⟨w.heap.size, 0, none⟩), .pointer (some ⟨w.heap.size + 1, 0, none⟩), .pointer (some ⟨w.heap.size + 1 + 1, 0, none⟩), .slice (some ⟨w.heap.size + 1 + 1 + 1, 0, none⟩) (n * 8) (n * 8), .int .i64 k, .slice (some ⟨w.heap.size + 1 + 1 + 1, 8 * k, none⟩) (min 8 (n * 8 - 8 * k)) (n * 8 - 8 * k),
          .slice av n cap, .int .i64 n, .bool false, .slice av n cap, .int .i64 n, .int .i64 (n * 8), .slice (some ⟨w.heap.size + 1 + 1 + 1, 0, none⟩) (n * 8) (n * 8), .slice (some ⟨w.heap.size + 1 + 1 + 1, 0, none⟩) (n * 8) (n * 8),
          .func (.func 46) #[] #[.pointer (some ⟨w.heap.size + 1 + 1 + 1 + 1, 0, none⟩)], .int .i64 k, .slice (some ⟨w.heap.size + 1 + 1 + 1, 8 * k, none⟩) (min 8 (n * 8 - 8 * k)) (n * 8 - 8 * k), undef, undef, undef, undef, undef, undef, undef, undef, undef, undef, undef, undef, undef], defers := [] }) ?assign ?body ?done ?stop
  case io => exact fun k W r o o' hI hr _ _ => hI.on (below_put W o' (by omega))
  case ixo => exact fun W r o o' hI hr _ _ => hI.on (below_put W o' (by omega))
  case is => exact fun k W v hI => hI.on ((Below.refl _ _).setCell (p := ⟨w.heap.size + 1 + 1 + 1 + 1, 0, none⟩) (Nat.le_refl _) v)
  case start => exact fun d r => hI0.on (((Below.refl _ w1).alloc (by omega) d).alloc (by simp; omega) r)
  case assign =>
    intro q k W K hk hK
    gi_wp2
    exact hK
  case body =>
    intro q k W hk hI
    have hkn : k < n := by omega
    obtain ⟨blk, off, rfl, hblk, hH⟩ := hav (by omega)
    have hx := (hH k (by omega)).below hI.below hblk
    rw [show min 8 (n * 8 - 8 * k) = 8 by omega]
    generalize hxx : l[k]'(by omega) = x at hx
    obtain ⟨c0, c1, c2, c3, c4⟩ := hx
    have i0 := hI.b0
    have k1 : (k : Int) < n := by omega
    generalize hm : n * 8 - 8 * k = m
    gi_wp2
    refine ⟨trivial, (CallsIn.inRound q (callsIn_wide.2 (right_any _ _ _ _ _ W))).mono ?_⟩
    rintro e W2 ⟨rfl, hb2⟩
    have h4 : w.heap.size + 4 ≤ W.heap.size := by have := hI.sz; omega
    have hI2 := hI.on (hb2.mono h4)
    have ko := keeps_below hb2
    have kc : W2.cell? ⟨w.heap.size + 1 + 1 + 1 + 1, 0, none⟩ = W.cell? ⟨w.heap.size + 1 + 1 + 1 + 1, 0, none⟩ := hb2.cell (p := ⟨w.heap.size + 1 + 1 + 1 + 1, 0, none⟩) hI.sz
    have kf : W2.frozen? ⟨w.heap.size + 1 + 1 + 1 + 1, 0, none⟩ = W.frozen? ⟨w.heap.size + 1 + 1 + 1 + 1, 0, none⟩ := hb2.frozen (p := ⟨w.heap.size + 1 + 1 + 1 + 1, 0, none⟩) hI.sz
    have hlt := hI.below.size
    have hx2 : AtIns W2 blk (off + k * 5) x := AtIns.below ⟨c0, c1, c2, c3, c4⟩ hb2 (by omega)
    clear c0 c1 c2 c3 c4 i0
    cases hr : rightB x.o x.a x.b x.c x.i with
    | false =>
      obtain ⟨_, hsz2, _, j1, g1, j2, g2, _, _, _, _⟩ := id hI2
      gi_wp2
      refine ⟨ko.trans ((KeepsOthers.setCell _ _ _).trans (KeepsOthers.setCell _ _ _)), ?_, ?_, ?_, ⟨x, ?_, hr⟩⟩
      · exact (hI2.below.setCell (p := ⟨w.heap.size + 1, 0, none⟩) (by show _ ≤ w.heap.size + 1; omega) _).setCell (p := ⟨w.heap.size + 1 + 1, 0, none⟩) (by show _ ≤ w.heap.size + 1 + 1; omega) _
      · rw [World.cell?_setCell_other _ _ _ _ (by simp)]; exact World.cell?_setCell_same _ _ _ j1
      · exact World.cell?_setCell_same _ _ _ (by rw [World.cell?_setCell_other _ _ _ _ (by simp)]; exact j2)
      · rw [← hxx]; exact List.getElem_mem _
    | true =>
      obtain ⟨c0, c1, c2, c3, c4⟩ := hx2
      have i0 := hI2.b0
      obtain ⟨_, ha, hb', hc', _⟩ := right_parts hr
      have ho := right_op hr
      have hwr := write_any (w.heap.size + 1 + 1 + 1) (8 * k) m x.o x.a x.b x.c x.i W2 (fun j => (W2.cell? ⟨w.heap.size + 1 + 1 + 1, 8 * k + j, none⟩).get!) (by have := hI2.sz; omega) ho ha hb' hc' (fun j hj => (Option.some_get! _ (hI2.row (8 * k + j) (by omega))).symm) (fun j _ => hI2.frow _)
      gi_wp2
      refine ⟨trivial, (CallsIn.inRound q (callsIn_wide.2 hwr)).mono ?_⟩
      rintro e W3 ⟨rfl, rfl⟩
      have hst := hI2.step hn hkn (by rw [hxx]; exact hr) (.cells #[.int .i64 x.o, .int .i64 x.a, .int .i64 x.b, .int .i64 x.c, .int .i64 x.i] 23)
      rw [hxx] at hst
      gi_wp2
      refine ⟨ko.trans ((keeps_sets _ _ _ _).trans (KeepsOthers.alloc _ _)), ?_, ?_, hst⟩
      · rw [← kc, World.cell?_alloc_lt (h := by show w.heap.size + 1 + 1 + 1 + 1 < _; rw [size_sets]; exact hI2.sz)]
        exact World.cell?_setCells_out _ _ _ _ _ (fun e _ => by simp at e)
      · rw [← kf, ((Below.refl _ (W2.setCells (w.heap.size + 1 + 1 + 1) (8 * k) _)).alloc (Nat.le_refl _) _).frozen (p := ⟨w.heap.size + 1 + 1 + 1 + 1, 0, none⟩) (by show w.heap.size + 1 + 1 + 1 + 1 < _; rw [size_sets]; exact hI2.sz), World.frozen?_setCells]
  case done =>
    intro D k W hk1 hk2 hI hD hK
    have hkn : k = n := by omega
    subst hkn
    have hlt := hI.sz
    obtain ⟨j0, _, _, j1, g1, j2, g2, _, _, jd, jr⟩ := id hI
    rw [List.take_of_length_le (by omega)] at jd jr
    gi_wp2
    generalize hW2 : (W.setCell ⟨w.heap.size + 1, 0, none⟩ (.slice (some ⟨w.heap.size + 1 + 1 + 1, 0, none⟩) (k * 8) (k * 8))).setCell ⟨w.heap.size + 1 + 1, 0, none⟩ (.int .i64 0) = W2
    have hB2 : Below w.heap.size w W2 := by rw [← hW2]; exact (j0.setCell (p := ⟨w.heap.size + 1, 0, none⟩) (by show _ ≤ w.heap.size + 1; omega) _).setCell (p := ⟨w.heap.size + 1 + 1, 0, none⟩) (by show _ ≤ w.heap.size + 1 + 1; omega) _
    have v1 : W2.cell? ⟨w.heap.size + 1, 0, none⟩ = some (.slice (some ⟨w.heap.size + 1 + 1 + 1, 0, none⟩) (k * 8) (k * 8)) := by
      rw [← hW2, World.cell?_setCell_other _ _ _ _ (by simp)]; exact World.cell?_setCell_same _ _ _ j1
    have v2 : W2.cell? ⟨w.heap.size + 1 + 1, 0, none⟩ = some (.int .i64 0) := by
      rw [← hW2]; exact World.cell?_setCell_same _ _ _ (by rw [World.cell?_setCell_other _ _ _ _ (by simp)]; exact j2)
    have v3 : HasBytes W2 (w.heap.size + 1 + 1 + 1) 0 (l.flatMap Ins.enc) := fun j hj => by
      rw [← hW2, World.cell?_setCell_other _ _ _ _ (by simp), World.cell?_setCell_other _ _ _ _ (by simp)]; exact jd j hj
    have hK2 : W2.heap[D]? = some (.deferred (some [])) := by
      rw [← hW2]; exact (Below.heap_setCell _ _ _ D (by show D ≠ w.heap.size + 1 + 1; omega)).trans ((Below.heap_setCell _ _ _ D (by show D ≠ w.heap.size + 1; omega)).trans hK)
    have hs2 : W2.heap.size = W.heap.size := by rw [← hW2]; simp
    refine ⟨by simp, .inl ⟨_, _, rfl, run_takeDeferred hK2, ?_⟩⟩
    have u1 := (cell_put W2 D (w.heap.size + 1) 0 (.deferred none) (by omega)).trans v1
    have u2 := (cell_put W2 D (w.heap.size + 1 + 1) 0 (.deferred none) (by omega)).trans v2
    have hBp := hB2.trans (below_put W2 (r := D) (.deferred none) (show w.heap.size ≤ D by omega))
    have hsp : (W2.putObj D (.deferred none)).heap.size = W2.heap.size := by simp [World.putObj]
    refine ⟨.tuple #[.slice (some ⟨w.heap.size + 1 + 1 + 1, 0, none⟩) (k * 8) (k * 8), .int .i64 0], by simp [results, Tryd.results28, go_sem, u1, u2], hBp, .inl ⟨jr, w.heap.size + 1 + 1 + 1, by omega, by omega, by rw [hn], fun j hj => ?_⟩⟩
    rw [cell_put _ _ _ _ _ (by omega)]; exact v3 j hj
  case stop =>
    intro D W hX hD hK
    obtain ⟨j0, j1, j2, jn⟩ := id hX
    gi_wp2
    refine ⟨by simp, .inl ⟨_, _, rfl, run_takeDeferred hK, ?_⟩⟩
    have u1 := (cell_put W D (w.heap.size + 1) 0 (.deferred none) (by omega)).trans j1
    have u2 := (cell_put W D (w.heap.size + 1 + 1) 0 (.deferred none) (by omega)).trans j2
    have hBp := j0.trans (below_put W (r := D) (.deferred none) (show w.heap.size ≤ D by omega))
    exact ⟨.tuple #[.slice none 0 0, .int .i64 1], by simp [results, Tryd.results28, go_sem, u1, u2], hBp, .inr ⟨jn, rfl⟩⟩

theorem encodeAll_any (av : Option Addr) (n cap : Nat) (l : List Ins) (w : World) (hn : l.length = n) (hl : n ≤ 1048576) (hav : 0 < n → ∃ blk off, av = some ⟨blk, off, none⟩ ∧ blk < w.heap.size ∧ HasInsts w blk off l) :
    Calls Tryd.prog 28 #[.slice av n cap] w (EncAns l w) := callsIn_wide.1 (encodeAll_in av n cap l w hn hl hav)

end Go.Proofs.YtnlkeghgmmoioaaDoor
