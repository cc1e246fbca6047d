/-
  DecodeAll of package inst (layer 2): its contract.
-/
import Derived.Test.YtnlkeghgmmoioaaDoorDecA
namespace Go.Proofs.YtnlkeghgmmoioaaDoor
open Go.ChangeShapes Go.WideShapes Go.ChangeAt Go.RowKit Go.Shelf

attribute [local go_sem] Oper.semAt_some

def DecAns (b : List UInt8) (w : World) (e : Ending) (w' : World) : Prop :=
  Below w.heap.size w w' ∧ ((∃ xs v, DecAll b xs ∧ e = .returned (.tuple #[v, .int .i64 0]) ∧ IsRow w' v xs) ∨ (DecNo b ∧ e = .returned (.tuple #[.slice none 0 0, .int .i64 2])))

set_option maxRecDepth 100000 in
set_option maxHeartbeats 2000000 in
theorem decodeAll_in (av : Option Addr) (n cap : Nat) (b : List UInt8) (w : World) (hn : b.length = n) (hl : n ≤ 8388608) (hnc : n ≤ cap) (hcap : cap ≤ 9223372036854775807) (hav : 0 < n → ∃ blk off, av = some ⟨blk, off, none⟩ ∧ blk < w.heap.size ∧ HasBytes w blk off b) :
    CallsIn Fence.wide 100 Tryd.prog 25 #[.slice av n cap] w (DecAns b w) := by
  obtain ⟨m, hm⟩ : ∃ m : Nat, n / 8 = m := ⟨_, rfl⟩
  have e1 : ((1048576 : Int) < m) = False := by simp; omega
  have hm8 : m ≤ 100000000 := by omega
  have hq : (n : Int).tdiv 8 = (m : Int) := by rw [Int.tdiv_eq_ediv_of_nonneg (by omega)]; omega
  have hmk := make_insts m hm8
  refine callsIn_of_wp_marks Tryd.func25 rfl trivial ?_
  simp only [Tryd.ntmps25, List.size_toArray, List.length_cons, List.length_nil, Nat.reduceAdd, Nat.reduceSub, Array.replicate_succ, Array.replicate_zero, List.push_toArray, List.append_toArray, List.nil_append, List.cons_append]
  gi_wp2
  refine ⟨trivial, (chunksOf_in Fence.wide 99 trivial rfl _ _ _ _).mono ?_⟩
  rintro e w1 ⟨rfl, hw1⟩
  have hI0 := dw_start w b m hm8 (.slice av n cap)
  rw [← hw1] at hI0
  have hcb : w1.cell? ⟨w.heap.size + 1 + 1 + 1 + 1, 0, none⟩ = some (.slice av n cap) := by rw [hw1]; go_simp
  have hfb : w1.frozen? ⟨w.heap.size + 1 + 1 + 1 + 1, 0, none⟩ = false := by rw [hw1]; go_simp
  have hsz : w1.heap.size = w.heap.size + 1 + 1 + 1 + 1 + 1 := by rw [hw1]; simp
  have hss : ((((w.alloc (.cells #[.slice none 0 0] 38)).alloc (.cells #[.int .i64 0] 26)).alloc (.cells (madeCells z5 (m * 5)) 23)).alloc (.cells #[.slice (some ⟨w.heap.size + 1 + 1, 0, none⟩) 0 m] 38)).heap.size = w.heap.size + 1 + 1 + 1 + 1 := by simp
  simp only [hss]
  clear hmk hw1 hss
  gi_wp2
  obtain ⟨blk, off, hbo⟩ : ∃ blk off, 0 < n → av = some ⟨blk, off, none⟩ ∧ blk < w.heap.size ∧ HasBytes w blk off b := by
    by_cases h0 : 0 < n
    · obtain ⟨blk, off, h⟩ := hav h0
      exact ⟨blk, off, fun _ => h⟩
    · exact ⟨0, 0, fun h => absurd h h0⟩
  clear hav
  have HB : Hid (0 < n → av = some ⟨blk, off, none⟩ ∧ blk < w.heap.size ∧ HasBytes w blk off b) := hbo
  clear hbo
  refine range_chunks (Bc := w.heap.size + 1 + 1 + 1 + 1) (blk := blk) (off := off) (len := n) (cap := cap) (av := av) rfl (by decide) trivial rfl rfl hnc hcap (by omega) hcb (fun h0 => (HB.out h0).1) hfb
    (DW w b) (DX w b) ?io ?ixo ?is ?start
    (fun k => { tmps := #[.slice av n cap, undef, .pointer (some ⟨w.heap.size, 0, none⟩), .pointer (some ⟨w.heap.size + 1, 0, none⟩), .int .i64 m, .pointer (some ⟨w.heap.size + 1 + 1 + 1, 0, none⟩), undef, .slice (some ⟨blk, off + 8 * k, none⟩) (min 8 (n - 8 * k)) (cap - 8 * k), undef, undef,
          .slice av n cap, .int .i64 n, .int .i64 m, .int .i64 m, .bool false, .int .i64 m, .slice (some ⟨w.heap.size + 1 + 1, 0, none⟩) 0 m, .slice av n cap,
          .func (.func 46) #[] #[.pointer (some ⟨w.heap.size + 1 + 1 + 1 + 1, 0, none⟩)], .int .i64 k, .slice (some ⟨blk, off + 8 * k, none⟩) (min 8 (n - 8 * k)) (cap - 8 * k), undef, undef, undef, undef, undef, undef, undef, undef, undef, undef, undef, undef, undef], defers := [] }) ?assign ?body ?done ?stop
  case io => exact fun k W r o o' hI hr hro hoc => hI.on (below_put W o' (by omega)) (fun g _ _ cur hg => World.putObj_heap_other (fun e => by subst e; rw [hg] at hro; cases hro; cases hoc))
  case ixo => exact fun W r o o' hI hr _ _ => hI.on (below_put W o' (by omega))
  case is => exact fun k W v hI => hI.on ((Below.refl _ _).setCell (p := ⟨w.heap.size + 1 + 1 + 1 + 1, 0, none⟩) (Nat.le_refl _) v) (fun g _ hne _ _ => Below.heap_setCell _ _ _ _ hne)
  case start => exact fun d r => hI0.on (((Below.refl _ w1).alloc (by omega) d).alloc (by simp; omega) r) (fun g hg _ _ _ => (Below.heap_alloc _ _ _ (by simp; omega)).trans (Below.heap_alloc _ _ _ hg))
  case assign =>
    intro q k W K hk hK
    gi_wp2
    exact hK
  case body =>
    intro q k W hk hI
    obtain ⟨rfl, hblk, hH⟩ := HB.out (by omega)
    have hc := (chunk_has hH k)
    have hc2 : HasBytes W blk (off + 8 * k) (chunk b k) := fun j hj => (hI.below.cell (p := ⟨blk, off + 8 * k + j, none⟩) hblk).trans (hc j hj)
    rw [show min 8 (n - 8 * k) = (chunk b k).length by rw [chunk_len, hn]]
    have hdec := decode_any blk (off + 8 * k) (cap - 8 * k) (chunk b k) W (Nat.lt_of_lt_of_le hblk hI.below.size) hc2
    rw [decR_is] at hdec
    have h4 : w.heap.size + 4 ≤ W.heap.size := by have := hI.sz; omega
    generalize hcl : (chunk b k).length = cl at hdec
    generalize hco : cap - 8 * k = co at hdec
    generalize hoo : off + 8 * k = oo at hdec
    cases hd : decI (chunk b k) with
    | none =>
      rw [hd] at hdec
      dsimp only [noIns, Ins.val] at hdec
      gi_wp2
      refine ⟨trivial, (CallsIn.inRound q (callsIn_wide.2 hdec)).mono ?_⟩
      rintro e W2 ⟨rfl, hb2⟩
      have hI2 := hI.on (hb2.mono h4) (fun g hg _ _ _ => hb2.block g hg)
      have ko := keeps_below hb2
      obtain ⟨_, hsz2, j1, g1, j2, g2, _, _⟩ := id hI2
      have l0 : w.heap.size < W2.heap.size := by omega
      have l1 : w.heap.size + 1 < W2.heap.size := by omega
      have l3 : w.heap.size + 1 + 1 + 1 < W2.heap.size := by omega
      clear hdec hc hc2
      gi_wp2
      refine ⟨ko.trans (((KeepsOthers.setCell _ _ _).trans (KeepsOthers.setCell _ _ _)).trans (KeepsOthers.alloc _ _)), ?_, ?_, ?_, ⟨k, by omega, hd⟩⟩
      · exact ((hI2.below.setCell (p := ⟨w.heap.size, 0, none⟩) (Nat.le_refl _) _).setCell (p := ⟨w.heap.size + 1, 0, none⟩) (by show _ ≤ w.heap.size + 1; omega) _).alloc (by simp; omega) _
      · rw [World.cell?_alloc_lt (h := by simp; omega), World.cell?_setCell_other _ _ _ _ (by simp)]; exact World.cell?_setCell_same _ _ _ j1
      · rw [World.cell?_alloc_lt (h := by simp; omega)]; exact World.cell?_setCell_same _ _ _ (by rw [World.cell?_setCell_other _ _ _ _ (by simp)]; exact j2)
    | some x =>
      rw [hd] at hdec
      dsimp only [noIns, Ins.val] at hdec
      gi_wp2
      refine ⟨trivial, (CallsIn.inRound q (callsIn_wide.2 hdec)).mono ?_⟩
      rintro e W2 ⟨rfl, hb2⟩
      have hI2 := hI.on (hb2.mono h4) (fun g hg _ _ _ => hb2.block g hg)
      have ko := keeps_below hb2
      obtain ⟨_, hsz2, _, _, _, _, g3, ⟨g, cp, xs, r1, r2, r3, r4, r5, r6⟩⟩ := id hI2
      have l0 : w.heap.size < W2.heap.size := by omega
      have l1 : w.heap.size + 1 < W2.heap.size := by omega
      have l3 : w.heap.size + 1 + 1 + 1 < W2.heap.size := by omega
      clear hdec hc hc2
      have hx : Value.oneCell' (.int .i64 0) = true := rfl
      generalize hX : Obj.cells #[.int .i64 x.o, .int .i64 x.a, .int .i64 x.b, .int .i64 x.c, .int .i64 x.i] 23 = X
      have hat := at_new (W2.alloc X) x 23
      rw [hX] at hat
      obtain ⟨g', cp', W5, hap, hown5, hgr, hwh, hlt5⟩ := append_ins ((W2.alloc X).alloc X) 38 (w.heap.size + 1 + 1) g k cp _ ((r2.alloc X).alloc X) _ 1 x hat (by omega) (by simp; omega)
      have hst := hI2.step hd r2 r3 r4 r5 r6 (((Below.refl _ W2).alloc (Nat.le_refl _) X).alloc (by simp) X) hown5 hgr hwh hlt5
      have hb4 : Below W2.heap.size W2 ((W2.alloc X).alloc X) := ((Below.refl _ W2).alloc (Nat.le_refl _) X).alloc (by simp) X
      have s1 : W5.cell? ⟨w.heap.size + 1 + 1 + 1, 0, none⟩ = some (.slice (some ⟨g, 0, none⟩) k cp) :=
        (hgr.cell_far ⟨w.heap.size + 1 + 1 + 1, 0, none⟩ (by simp; omega) (by simp; omega)).trans ((hb4.cell (p := ⟨w.heap.size + 1 + 1 + 1, 0, none⟩) l3).trans r1)
      have s2 : W5.frozen? ⟨w.heap.size + 1 + 1 + 1, 0, none⟩ = false :=
        (hgr.frozen_far ⟨w.heap.size + 1 + 1 + 1, 0, none⟩ (by simp; omega) (by simp; omega)).trans ((hb4.frozen (p := ⟨w.heap.size + 1 + 1 + 1, 0, none⟩) l3).trans g3)
      obtain ⟨t1, t2, t3, t4⟩ := hst
      have kc : W2.cell? ⟨w.heap.size + 1 + 1 + 1 + 1, 0, none⟩ = W.cell? ⟨w.heap.size + 1 + 1 + 1 + 1, 0, none⟩ := hb2.cell (p := ⟨w.heap.size + 1 + 1 + 1 + 1, 0, none⟩) hI.sz
      have kf : W2.frozen? ⟨w.heap.size + 1 + 1 + 1 + 1, 0, none⟩ = W.frozen? ⟨w.heap.size + 1 + 1 + 1 + 1, 0, none⟩ := hb2.frozen (p := ⟨w.heap.size + 1 + 1 + 1 + 1, 0, none⟩) hI.sz
      have T : Hid (capPost (w.heap.size + 1 + 1 + 1 + 1) (DW w b) (DX w b) (k + 1) W .normal { tmps := #[], defers := [] } (W5.setCell ⟨w.heap.size + 1 + 1 + 1, 0, none⟩ (.slice (some ⟨g', 0, none⟩) (k + 1) cp'))) := ⟨ko.trans t2, t3.trans kc, t4.trans kf, t1⟩
      clear t1 t2 t3 t4 kc kf
      subst hX
      rw [World.size_alloc] at hap
      gi_wp2_with (gi_at_builtin; refine wpListIn_append_run rfl _ _ 38 rfl rfl rfl hap ?_)
      exact T.out
  case done =>
    intro D k W hk1 hk2 hI hD hK
    have hlt := hI.sz
    obtain ⟨j0, _, j1, g1, j2, g2, _, ⟨g, cp, xs, r1, r2, r3, r4, r5, r6⟩⟩ := id hI
    gi_wp2
    generalize hW2 : (W.setCell ⟨w.heap.size, 0, none⟩ (.slice (some ⟨g, 0, none⟩) k cp)).setCell ⟨w.heap.size + 1, 0, none⟩ (.int .i64 0) = W2
    have hB2 : Below w.heap.size w W2 := by rw [← hW2]; exact (j0.setCell (p := ⟨w.heap.size, 0, none⟩) (Nat.le_refl _) _).setCell (p := ⟨w.heap.size + 1, 0, none⟩) (by show _ ≤ w.heap.size + 1; omega) _
    have v1 : W2.cell? ⟨w.heap.size, 0, none⟩ = some (.slice (some ⟨g, 0, none⟩) k cp) := by
      rw [← hW2, World.cell?_setCell_other _ _ _ _ (by simp)]; exact World.cell?_setCell_same _ _ _ j1
    have v2 : W2.cell? ⟨w.heap.size + 1, 0, none⟩ = some (.int .i64 0) := by
      rw [← hW2]; exact World.cell?_setCell_same _ _ _ (by rw [World.cell?_setCell_other _ _ _ _ (by simp)]; exact j2)
    have gl : w.heap.size + 1 + 1 ≤ g := (r2.lt g rfl).1
    have xl := r6.1
    subst xl
    have hI3 := owns_insts r2
    have v3 : ∀ o, W2.cell? ⟨g, o, none⟩ = W.cell? ⟨g, o, none⟩ := fun o => by
      rw [← hW2, World.cell?_setCell_other _ _ _ _ (fun e => by have := congrArg Addr.block e; simp only at this; omega), World.cell?_setCell_other _ _ _ _ (fun e => by have := congrArg Addr.block e; simp only at this; omega)]
    have hK2 : W2.heap[D]? = some (.deferred (some [])) := by
      rw [← hW2]; exact (Below.heap_setCell _ _ _ D (by show D ≠ w.heap.size + 1; omega)).trans ((Below.heap_setCell _ _ _ D (by show D ≠ w.heap.size; omega)).trans hK)
    have hs2 : W2.heap.size = W.heap.size := by rw [← hW2]; simp
    have hgD : g ≠ D := by
      rintro rfl
      rcases r2.2 with ⟨e, _⟩ | ⟨g0, c0, cur, e, _, q2, _⟩
      · cases e
      · injection e with e1 e2 e3
        obtain rfl : g = g0 := by injection e1 with e1; injection e1
        rw [hK] at q2; cases q2
    refine ⟨by simp, .inl ⟨_, _, rfl, run_takeDeferred hK2, ?_⟩⟩
    have u1 := (cell_put W2 D w.heap.size 0 (.deferred none) (by omega)).trans v1
    have u2 := (cell_put W2 D (w.heap.size + 1) 0 (.deferred none) (by omega)).trans v2
    have hBp := hB2.trans (below_put W2 (r := D) (.deferred none) (show w.heap.size ≤ D by omega))
    have hsp : (W2.putObj D (.deferred none)).heap.size = W2.heap.size := by simp [World.putObj]
    have key : ∀ o, (W2.putObj D (.deferred none)).cell? ⟨g, o, none⟩ = W.cell? ⟨g, o, none⟩ := fun o => (cell_put W2 D g o (.deferred none) hgD).trans (v3 o)
    refine ⟨.tuple #[.slice (some ⟨g, 0, none⟩) xs.length cp, .int .i64 0], by simp [results, Tryd.results25, go_sem, u1, u2], hBp, .inl ⟨xs, _, ⟨r6, by omega, by omega⟩, rfl, _, _, rfl, fun _ => ⟨g, 0, rfl, by omega, fun j hj => ?_⟩⟩⟩
    obtain ⟨a0, a1, a2, a3, a4⟩ := hI3 j hj
    exact ⟨(key _).trans a0, (key _).trans a1, (key _).trans a2, (key _).trans a3, (key _).trans a4⟩
  case stop =>
    intro D W hX hD hK
    obtain ⟨j0, j1, j2, jn⟩ := id hX
    gi_wp2
    refine ⟨by simp, .inl ⟨_, _, rfl, run_takeDeferred hK, ?_⟩⟩
    have u1 := (cell_put W D w.heap.size 0 (.deferred none) (by omega)).trans j1
    have u2 := (cell_put W D (w.heap.size + 1) 0 (.deferred none) (by omega)).trans j2
    have hBp := j0.trans (below_put W (r := D) (.deferred none) (show w.heap.size ≤ D by omega))
    exact ⟨.tuple #[.slice none 0 0, .int .i64 2], by simp [results, Tryd.results25, go_sem, u1, u2], hBp, .inr ⟨jn, rfl⟩⟩

theorem decodeAll_any (av : Option Addr) (n cap : Nat) (b : List UInt8) (w : World) (hn : b.length = n) (hl : n ≤ 8388608) (hnc : n ≤ cap) (hcap : cap ≤ 9223372036854775807) (hav : 0 < n → ∃ blk off, av = some ⟨blk, off, none⟩ ∧ blk < w.heap.size ∧ HasBytes w blk off b) :
    Calls Tryd.prog 25 #[.slice av n cap] w (DecAns b w) := callsIn_wide.1 (decodeAll_in av n cap b w hn hl hnc hcap hav)

end Go.Proofs.YtnlkeghgmmoioaaDoor
