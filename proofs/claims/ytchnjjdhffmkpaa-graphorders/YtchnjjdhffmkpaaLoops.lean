/-
  Loops (layer 6): the contract of graph's own Loops.
-/
import Derived.Test.YtchnjjdhffmkpaaLoop
import Derived.Deep.RegionHeldLaw
namespace Go.Proofs.Ytchnjjdhffmkpaa
open Go.ChangeShapes Go.WideShapes Go.ChangeAt Go.RowKit Go.Shelf

attribute [local go_sem] Oper.semAt_some

theorem RowsB.row {W : World} {base H n : Nat} {f : Nat → List Nat} (h : RowsB W base H n f) (t : Nat) (ht : t < n) (hne : 0 < (f t).length) : ∃ gb cap, W.cell? ⟨H, t, none⟩ = some (.slice (some ⟨gb, 0, none⟩) (f t).length cap) ∧ base ≤ gb ∧ gb < W.heap.size ∧ ∀ k, k < (f t).length → W.cell? ⟨gb, 0 + k, none⟩ = some (.int .i64 (((f t).getD k 0 : Nat) : Int)) := by
  obtain ⟨vs, h1, h2, h3, h4⟩ := h
  obtain ⟨v, hv, ho⟩ := h3 t ht
  obtain ⟨gb, cap, rfl, hb, hlt⟩ := ho.form hne
  refine ⟨gb, cap, by rw [cell_of h2]; simpa using hv, hb, hlt, fun k hk => ?_⟩
  rw [Nat.zero_add, ho.cellAt k (by omega), List.getElem?_map, List.getD_eq_getElem?_getD, List.getElem?_eq_getElem hk]; rfl
/-- Rows that grow are a graph. -/
theorem RowsB.gat {W : World} {base H : Nat} {p : List (List Nat)} (h : RowsB W base H p.length (fun t => p.getD t [])) : ∃ hd, GAt W (some ⟨H, 0, none⟩) H 0 hd (castG p) := by
  have h' := h
  obtain ⟨vs, h1, h2, h3, h4⟩ := h
  have hH := lt_of h2
  have each : ∀ t, ∃ x : Hdr, t < p.length → (W.cell? ⟨H, 0 + t, none⟩ = some (.slice x.av (p.getD t []).length x.cap) ∧ (0 < (p.getD t []).length → x.av = some ⟨x.blk, x.off, none⟩ ∧ x.blk < W.heap.size) ∧ (p.getD t []).length ≤ x.cap ∧ ∀ k, k < (p.getD t []).length → W.cell? ⟨x.blk, x.off + k, none⟩ = some (.int .i64 (((p.getD t []).getD k 0 : Nat) : Int))) := by
    intro t
    by_cases ht : t < p.length
    · obtain ⟨v, hv, ho0⟩ := h3 t ht
      have ho : W.ownsRow base 3 1 v (p.getD t []).length (intsV (p.getD t [])) := ho0
      obtain ⟨av, cap, rfl, hc⟩ := owns_shape ho
      have hcell : W.cell? ⟨H, 0 + t, none⟩ = some (.slice av (p.getD t []).length cap) := by rw [Nat.zero_add, cell_of h2]; simpa using hv
      by_cases h0 : 0 < (p.getD t []).length
      · obtain ⟨gb, cap', e, hb, hlt⟩ := ho.form h0
        injection e with e1 e2 e3
        subst e1
        refine ⟨⟨some ⟨gb, 0, none⟩, cap, gb, 0⟩, fun _ => ⟨hcell, fun _ => ⟨rfl, hlt⟩, hc, fun k hk => ?_⟩⟩
        show W.cell? ⟨gb, 0 + k, none⟩ = _
        rw [Nat.zero_add, ho.cellAt k (by omega), List.getElem?_map, List.getD_eq_getElem?_getD (l := p.getD t []), List.getElem?_eq_getElem hk]; rfl
      · exact ⟨⟨av, cap, 0, 0⟩, fun _ => ⟨hcell, fun h => absurd h h0, hc, fun k hk => absurd hk (by omega)⟩⟩
    · exact ⟨⟨none, 0, 0, 0⟩, fun h => absurd h ht⟩
  obtain ⟨hd, hhd⟩ := Classical.axiomOfChoice each
  refine ⟨hd, ⟨fun _ => rfl, fun _ => hH, fun b hb => ?_, fun b hb h0 => ?_, fun b hb h0 => ?_, fun b hb => ?_, fun b k hb hk => ?_⟩⟩
  · rw [castG_len] at hb; rw [castG_at, List.length_map]; exact (hhd b hb).1
  · rw [castG_len] at hb; rw [castG_at, List.length_map] at h0; exact ((hhd b hb).2.1 h0).1
  · rw [castG_len] at hb; rw [castG_at, List.length_map] at h0; exact ((hhd b hb).2.1 h0).2
  · rw [castG_len] at hb; rw [castG_at, List.length_map]; exact (hhd b hb).2.2.1
  · rw [castG_len] at hb; rw [castG_at, List.length_map] at hk; rw [castG_at, cast_at]; exact (hhd b hb).2.2.2 k hk

theorem edgesL_len (g : List (List Nat)) (h : ∀ b, (g.getD b []).length ≤ 8) : (edgesL g).length ≤ 8 * g.length + 8 := by
  rw [← natE_all]
  have := edgI_len (castG g) (fun b => by rw [castG_at, List.length_map]; exact h b) 0 (castG g).length
  rw [castG_len] at this ⊢
  simpa [natE] using this
theorem Right.preds {g : List (List Nat)} (h : Right g) : Okay (predsL g) := by
  have hl := predsL_len g
  refine ⟨by rw [hl]; exact h.most, fun b => ?_, fun b t ht => ?_⟩
  · by_cases hb : b < g.length
    · rw [predsL_at g b hb]
      have h1 := aheadL_len (edgesL g) b
      have h2 := edgesL_len g h.rows
      have h3 := h.most
      omega
    · rw [getD_ge _ _ (by rw [hl]; omega)]; exact Nat.zero_le _
  · by_cases hb : b < g.length
    · rw [mem_predsL g t b hb] at ht
      rw [hl]; exact h.lt_of ht
    · rw [getD_ge _ _ (by rw [hl]; omega)] at ht; cases ht

/-- A row of rows, each its own. -/
def RowsR (W : World) (base : Nat) (v : Value) (xss : List (List Nat)) : Prop := ∃ vs : List Value, W.ownsRow base 27 1 v xss.length vs ∧ ∀ i, i < xss.length → ∃ u, vs[i]? = some u ∧ W.ownsRow base 3 1 u (xss.getD i []).length (intsV (xss.getD i []))
theorem RowsR.turns {W W' : World} {base : Nat} {v : Value} {xss : List (List Nat)} {Q : Nat → Prop} (h : RowsR W base v xss) (ht : Turns Q W W') (hq : ∀ b, base ≤ b → b < W.heap.size → ¬ Q b) : RowsR W' base v xss := by
  obtain ⟨vs, h1, h2⟩ := h
  refine ⟨vs, owns_turns h1 ht (fun b hb => hq b (h1.lt b hb).1 (h1.lt b hb).2), fun i hi => ?_⟩
  obtain ⟨u, hu, ho⟩ := h2 i hi
  exact ⟨u, hu, owns_turns ho ht (fun b hb => hq b (ho.lt b hb).1 (ho.lt b hb).2)⟩
theorem app_row (w : World) (ty : TypeId) (base : Nat) (v : Value) (n : Nat) (xs : List Value) (hown : w.ownsRow base 27 1 v n xs) (u : Value) (hu1 : u.oneCell' = true) (hbd : n ≤ 100000000) (hbase : base ≤ w.heap.size) :
    ∃ g cap w', (Builtin.append_ #[22, 22] ty #[v, .slice (some ⟨w.heap.size, 0, none⟩) 1 1]).run Try.prog (w.alloc (.cells #[u] 27)) = .ok (.slice (some ⟨g, 0, none⟩) (n + 1) cap) w' ∧ w'.ownsRow base 27 1 (.slice (some ⟨g, 0, none⟩) (n + 1) cap) (n + 1) (xs ++ [u]) ∧ (w.alloc (.cells #[u] 27)).grownBy w' v.ownBlock ∧ (v.ownBlock = some g ∨ g = w.heap.size + 1) ∧ g < w'.heap.size := by
  obtain ⟨i, h1, h2, h3, h4⟩ := typR
  exact run_append_lies (P := Try.prog) (w.alloc (.cells #[u] 27)) 22 ty base 27 i _ 1 24 Try.underlying22 h1 h2 h4 h3 rfl (by decide) v n xs (hown.alloc _) ⟨w.heap.size, 0, none⟩ 1 1 [u] rfl
    (fun j x hx => by
      rw [Addr.add_mid]
      have hj : j = 0 := by have := (List.getElem?_eq_some_iff.1 hx).1; simp at this; omega
      subst hj
      simp at hx; subst hx
      rw [cell_of (World.alloc_heap_new w _)]; rfl)
    (fun x hx => by simp at hx; subst hx; exact hu1) (by decide) (by unfold maxLen; omega) (by omega) (by simp; omega) _ (by simp)
/-- One row more. -/
theorem rowsR_step {W : World} {base : Nat} {v : Value} {xss : List (List Nat)} (h : RowsR W base v xss) (ty : TypeId) (u : Value) (xs : List Nat) (hu : W.ownsRow base 3 1 u xs.length (intsV xs)) (hl : xss.length ≤ 100000000) (hbase : base ≤ W.heap.size) :
    ∃ g cap w', (Builtin.append_ #[22, 22] ty #[v, .slice (some ⟨W.heap.size, 0, none⟩) 1 1]).run Try.prog (W.alloc (.cells #[u] 27)) = .ok (.slice (some ⟨g, 0, none⟩) (xss.length + 1) cap) w' ∧ Turns (fun b => base ≤ b) W w' ∧ RowsR w' base (.slice (some ⟨g, 0, none⟩) (xss.length + 1) cap) (xss ++ [xs]) := by
  obtain ⟨vs, h1, h2⟩ := h
  have hu1 : u.oneCell' = true := by obtain ⟨av, cap, rfl, _⟩ := owns_shape hu; rfl
  obtain ⟨g, cap, w', hap, ho, hgb, hat, hlt⟩ := app_row W ty base v xss.length vs h1 u hu1 hl hbase
  have hT := grown_turns h1 hgb
  have hTv : Turns (fun b => v.ownBlock = some b) W w' := by
    have hsz := hgb.size
    rw [World.size_alloc] at hsz
    exact ⟨hgb.os, hgb.tape, hgb.output, by omega, fun b hb hq => (hgb.block b (by simp; omega) (fun e => hq e.symm)).trans (Below.heap_alloc _ _ _ hb)⟩
  have keep : ∀ (x : Value) (ys : List Nat), W.ownsRow base 3 1 x ys.length (intsV ys) → w'.ownsRow base 3 1 x ys.length (intsV ys) := fun x ys hx => by
    refine owns_turns hx hTv (fun b hb hq => ?_)
    rcases hx.2 with ⟨rfl, _⟩ | ⟨g1, c1, cur1, rfl, _, e1, _⟩
    · cases hb
    · rcases h1.2 with ⟨rfl, _⟩ | ⟨g2, c2, cur2, rfl, _, e2, _⟩
      · cases hq
      · have a1 : g1 = b := by simpa [Value.ownBlock] using hb
        have a2 : g2 = b := by simpa [Value.ownBlock] using hq
        subst a1; subst a2
        rw [e1] at e2
        injection e2 with e2
        injection e2 with e2 e3
        exact absurd e3 (by decide)
  have hvl : vs.length = xss.length := by have := h1.1; omega
  refine ⟨g, cap, w', hap, hT, vs ++ [u], by rw [List.length_append]; exact ho, fun i hi => ?_⟩
  rw [List.length_append, List.length_singleton] at hi
  by_cases hil : i < xss.length
  · obtain ⟨x, hx, hox⟩ := h2 i hil
    refine ⟨x, by rw [List.getElem?_append_left (by omega)]; exact hx, ?_⟩
    rw [show (xss ++ [xs]).getD i [] = xss.getD i [] by rw [List.getD_eq_getElem?_getD, List.getD_eq_getElem?_getD, List.getElem?_append_left hil]]
    exact keep x _ hox
  · obtain rfl : i = xss.length := by omega
    refine ⟨u, by rw [List.getElem?_append_right (by omega)]; simp [hvl], ?_⟩
    rw [show (xss ++ [xs]).getD xss.length [] = xs by rw [List.getD_eq_getElem?_getD, List.getElem?_append_right (Nat.le_refl _)]; simp]
    exact keep u xs hu

/-- The loops of the first k blocks. -/
noncomputable def loopsTo (g : List (List Nat)) (o : List Nat) (k : Nat) : List (List Nat) := (List.range k).flatMap fun h => if aheadL (backL (plc o.reverse) g) h = [] then [] else [loopRow (predsL g) h (aheadL (backL (plc o.reverse) g) h) o]
theorem loopsTo_succ (g : List (List Nat)) (o : List Nat) (k : Nat) : loopsTo g o (k + 1) = loopsTo g o k ++ (if aheadL (backL (plc o.reverse) g) k = [] then [] else [loopRow (predsL g) k (aheadL (backL (plc o.reverse) g) k) o]) := outs_range _ k
theorem loopsTo_len (g : List (List Nat)) (o : List Nat) : ∀ k, (loopsTo g o k).length ≤ k
  | 0 => by simp [loopsTo]
  | k + 1 => by
    have := loopsTo_len g o k
    rw [loopsTo_succ, List.length_append]
    split <;> simp <;> omega

theorem pairs_at (l : List (Nat × Nat)) (k : Nat) (h : k < l.length) : (pairsV l)[k * 2]? = some (.int .i64 ((l.getD k (0, 0)).1 : Int)) ∧ (pairsV l)[k * 2 + 1]? = some (.int .i64 ((l.getD k (0, 0)).2 : Int)) := by
  induction l generalizing k with
  | nil => simp at h
  | cons x r ih =>
    cases k with
    | zero => simp [pairsV]
    | succ k =>
      have := ih k (by simpa using h)
      rw [show (k + 1) * 2 = k * 2 + 2 by omega]
      simpa [pairsV, List.flatMap_cons] using this
theorem take_pair (l : List (Nat × Nat)) (k : Nat) (h : k < l.length) : l.take (k + 1) = l.take k ++ [l.getD k (0, 0)] := by
  rw [List.take_succ_eq_append_getElem h, List.getD_eq_getElem?_getD, List.getElem?_eq_getElem h]; rfl

set_option maxRecDepth 100000 in
set_option maxHeartbeats 2000000 in
/-- Loops of a right graph. -/
theorem loops_is (av : Option Addr) (cap blk off : Nat) (hd : Nat → Hdr) (g : List (List Nat)) (hgr : Right g) (w : World) (hG : GAt w av blk off hd (castG g)) :
    Calls Try.prog 28 #[.slice av g.length cap] w fun e w' => Below w.heap.size w w' ∧ ∃ v m' o, e = .returned v ∧ Walk g [0] (List.replicate g.length false) m' o ∧ RowsR w' w.heap.size v (loopsTo g o g.length) := by
  have hone := hgr.one
  have hmost := hgr.most
  have hrows := hgr.rows
  have hr := right_any av cap blk off hd (castG g) w hG
  rw [castG_len, rightB_true.2 hgr.toI] at hr
  have HG := hide hG
  clear hG
  have mk : ∀ w : World, (Instr.makeSlice 22 (.int .i64 (g.length : Int)) (.int .i64 (g.length : Int))).run Try.prog w = .ok (.slice (some ⟨w.heap.size, 0, none⟩) g.length g.length) (w.alloc (.cells (Array.replicate g.length (.slice none 0 0)) 27)) := fun w => by rw [make_rows g.length (by omega) w, List.toArray_replicate]
  go_enter Try.func28, Try.ntmps28
  go_wp2_with fail
  refine hr.mono ?_
  rintro e w1 ⟨rfl, hb1⟩
  have hs1 := hb1.size
  clear hr
  have hb2 : Below w1.heap.size w1 (w1.alloc (.cells (Array.replicate g.length (.slice none 0 0)) 27)) := (Below.refl _ w1).alloc (Nat.le_refl _) _
  have k2 : ∀ base, RowsB (w1.alloc (.cells (Array.replicate g.length (.slice none 0 0)) 27)) base w1.heap.size g.length (fun _ => []) := fun base => by
    rw [← List.toArray_replicate]; exact rowsB_new w1 g.length _
  have hs2 : (w1.alloc (.cells (Array.replicate g.length (.slice none 0 0)) 27)).heap.size = w1.heap.size + 1 := by simp
  have HO := hide (back_is av cap blk off hd g hgr (w1.alloc (.cells (Array.replicate g.length (.slice none 0 0)) 27)) (HG.out.below (hb1.trans (hb2.mono hs1))))
  go_wp2_with fail
  refine HO.out.mono ?_
  clear HO mk
  generalize w1.alloc (.cells (Array.replicate g.length (.slice none 0 0)) 27) = w2 at *
  rw [hs2]
  rintro e w3 ⟨hb3, v, m', o, rfl, hw, ho⟩
  generalize hh : w1.heap.size = h at *
  have hB3 : Below w.heap.size w w3 := (hb1.trans (hb2.mono hs1)).trans (hb3.mono (by omega))
  have k3 : RowsB w3 w3.heap.size h g.length (fun _ => []) := (k2 _).turns (Turns.of_below hb3) (fun b _ hb => by omega)
  have hs3 := hb3.size
  have HW := hide hw
  have hBm : ∀ e ∈ backL (plc o.reverse) g, e.1 < g.length ∧ e.2 < g.length := fun e he => by
    obtain ⟨e1, e2⟩ := e
    have := (mem_backL _ g e1 e2).1 he
    exact ⟨hgr.lt_of this.2.1, hgr.lt _ _ this.2.1⟩
  have hBl : (backL (plc o.reverse) g).length ≤ 40000 := by have := backTo_len (plc o.reverse) g hrows g.length; unfold backL; omega
  have HLT : Hid (∀ k, loopsTo g o (k + 1) = loopsTo g o k ++ (if aheadL (backL (plc o.reverse) g) k = [] then [] else [loopRow (predsL g) k (aheadL (backL (plc o.reverse) g) k) o])) := fun k => loopsTo_succ g o k
  clear hb1 hb2 hb3 k2 hh hw
  generalize hBB : backL (plc o.reverse) g = B at *
  obtain ⟨bav, bcap, hbv, hbc⟩ := owns_shape ho
  subst hbv
  have HPA : Hid (∀ k, k < B.length → ∃ gb, bav = some ⟨gb, 0, none⟩ ∧ w3.cell? ⟨gb, k * 2, none⟩ = some (.int .i64 ((B.getD k (0, 0)).1 : Int)) ∧ w3.cell? ⟨gb, k * 2 + 1, none⟩ = some (.int .i64 ((B.getD k (0, 0)).2 : Int)) ∧ h + 1 ≤ gb ∧ gb < w3.heap.size) := fun k hk => by
    obtain ⟨gb, c', e, hb, hlt⟩ := ho.form (by omega)
    injection e with e1 e2 e3
    subst e1
    obtain ⟨p1, p2⟩ := pairs_at B k hk
    exact ⟨gb, rfl, (ho.cellAt _ (by omega)).trans p1, (ho.cellAt _ (by omega)).trans p2, by omega, hlt⟩
  have HBM := hide hBm
  clear hBm ho hbc
  go_wp2_with fail
  generalize hhs : w3.heap.size = hs at *
  go_loopw [19] (fun i wr => ∃ k : Nat, i = .int .i64 k ∧ k ≤ B.length ∧ Turns (fun b => hs ≤ b ∨ b = h) w3 wr ∧ RowsB wr hs h g.length (aheadL (B.take k))) (fun i _ => B.length - (intOf i).toNat)
  case atStart => exact ⟨0, rfl, Nat.zero_le _, Turns.refl _ _, k3⟩
  case round =>
    obtain ⟨k, rfl, hk, ht, hR⟩ := hrel
    clear k3
    have hsr := ht.size
    by_cases hkl : k < B.length
    · have e1 : ((k : Int) < (B.length : Int)) = True := eq_true (by omega)
      obtain ⟨gb, rfl, p1, p2, p3, p4⟩ := HPA.out k hkl
      obtain ⟨hm1, hm2⟩ := HBM.out _ (show B.getD k (0, 0) ∈ B by rw [List.getD_eq_getElem?_getD, List.getElem?_eq_getElem hkl]; exact List.getElem_mem hkl)
      have htk := take_pair B k hkl
      have hal := aheadL_len (B.take k) (B.getD k (0, 0)).2
      rw [List.length_take] at hal
      generalize B.getD k (0, 0) = e at *
      obtain ⟨a, b⟩ := e
      simp only at p1 p2 hm1 hm2 hal
      have c1 : wr.cell? ⟨gb, k * 2, none⟩ = some (.int .i64 (a : Int)) := (World.cell?_of_block (ht.block gb (by omega) (by show ¬ (hs ≤ gb ∨ gb = h); omega))).trans p1
      have c2 : wr.cell? ⟨gb, k * 2 + 1, none⟩ = some (.int .i64 (b : Int)) := (World.cell?_of_block (ht.block gb (by omega) (by show ¬ (hs ≤ gb ∨ gb = h); omega))).trans p2
      clear p1 p2
      have hb1 : Below wr.heap.size wr (wr.alloc (.cells #[.int .i64 (a : Int), .int .i64 (b : Int)] 37)) := (Below.refl _ wr).alloc (Nat.le_refl _) _
      have kT := World.alloc_heap_new wr (.cells #[.int .i64 (a : Int), .int .i64 (b : Int)] 37)
      have hs1' : (wr.alloc (.cells #[.int .i64 (a : Int), .int .i64 (b : Int)] 37)).heap.size = wr.heap.size + 1 := by simp
      have hR1 : RowsB (wr.alloc (.cells #[.int .i64 (a : Int), .int .i64 (b : Int)] 37)).drew hs h g.length (aheadL (B.take k)) := (hR.turns (Turns.alloc (fun _ => False) wr (.cells #[.int .i64 (a : Int), .int .i64 (b : Int)] 37)) (fun _ _ _ h => h) : RowsB (wr.alloc (.cells #[.int .i64 (a : Int), .int .i64 (b : Int)] 37)) hs h g.length (aheadL (B.take k)))
      obtain ⟨v, g', cp, w', d1, hap, hkb, hsz', hR', hT'⟩ := rowsB_step hR1 27 b a hm2 (by omega) (by show hs ≤ (wr.alloc _).heap.size; omega) (by omega)
      have hRf : RowsB (w'.setCell ⟨h, b, none⟩ (.slice (some ⟨g', 0, none⟩) ((aheadL (B.take k) b).length + 1) cp)) hs h g.length (aheadL (B.take (k + 1))) := hR'.congr (fun x _ => by rw [htk, aheadL_snoc])
      have HRF := hide hRf
      have hTf : Turns (fun b => hs ≤ b ∨ b = h) w3 (w'.setCell ⟨h, b, none⟩ (.slice (some ⟨g', 0, none⟩) ((aheadL (B.take k) b).length + 1) cp)) := ht.trans (Turns.trans (B := wr.alloc (.cells #[.int .i64 (a : Int), .int .i64 (b : Int)] 37)) (Turns.alloc _ _ _) ⟨hT'.os, hT'.tape, hT'.output, hT'.size, hT'.block⟩)
      have HTF := hide hTf
      rw [show (wr.alloc (.cells #[.int .i64 (a : Int), .int .i64 (b : Int)] 37)).drew.heap.size = wr.heap.size + 1 from hs1'] at hap
      have HAP := hide hap
      have j1 : w'.heap[wr.heap.size]? = some (.cells #[.int .i64 (a : Int), .int .i64 (b : Int)] 37 (0, 0)) := by
        have := hkb wr.heap.size (by show _ < (wr.alloc _).heap.size; omega) (.inr (fun cur hc => by
          have h2 := kT.symm.trans hc
          injection h2 with h2; injection h2 with _ h3; exact absurd h3 (by decide)))
        exact this.trans kT
      have d1' : wr.cell? ⟨h, b, none⟩ = some v := by
        have : (wr.alloc (.cells #[.int .i64 (a : Int), .int .i64 (b : Int)] 37)).cell? ⟨h, b, none⟩ = wr.cell? ⟨h, b, none⟩ := World.cell?_of_block (Below.heap_alloc _ _ _ (by show h < _; omega))
        rw [← this]; exact d1
      have dA : (wr.alloc (.cells #[.int .i64 (a : Int), .int .i64 (b : Int)] 37)).cell? ⟨h, b, none⟩ = some v := d1
      have dB : ((wr.alloc (.cells #[.int .i64 (a : Int), .int .i64 (b : Int)] 37)).alloc (.cells #[.int .i64 (a : Int)] 3)).cell? ⟨h, b, none⟩ = some v := (World.cell?_of_block (Below.heap_alloc _ _ _ (by show h < _; omega))).trans dA
      have dC : ((wr.alloc (.cells #[.int .i64 (a : Int), .int .i64 (b : Int)] 37)).alloc (.cells #[.int .i64 (a : Int)] 3)).cell? ⟨wr.heap.size, 1, none⟩ = some (.int .i64 (b : Int)) := (World.cell?_of_block (Below.heap_alloc _ _ _ (by show wr.heap.size < _; omega))).trans (cell_of kT 1)
      have d2 : w'.cell? ⟨wr.heap.size, 1, none⟩ = some (.int .i64 (b : Int)) := cell_of j1 1
      have d3 : w'.cell? ⟨h, b, none⟩ = some v := (World.cell?_of_block (hkb h (by show h < (wr.alloc _).heap.size; omega) (.inl (by omega)))).trans d1
      have f3 : w'.frozen? ⟨h, b, none⟩ = false := by
        obtain ⟨vs, _, h2, _⟩ := hR1
        exact (World.frozen?_of_block (hkb h (by show h < (wr.alloc _).heap.size; omega) (.inl (by omega)))).trans (frozen_of h2 b)
      have dA0 : (wr.alloc (.cells #[.int .i64 (a : Int), .int .i64 (b : Int)] 37)).cell? ⟨wr.heap.size, 0, none⟩ = some (.int .i64 (a : Int)) := cell_of kT 0
      have dA1 : (wr.alloc (.cells #[.int .i64 (a : Int), .int .i64 (b : Int)] 37)).cell? ⟨wr.heap.size, 1, none⟩ = some (.int .i64 (b : Int)) := cell_of kT 1
      have dC0 : ((wr.alloc (.cells #[.int .i64 (a : Int), .int .i64 (b : Int)] 37)).alloc (.cells #[.int .i64 (a : Int)] 3)).cell? ⟨wr.heap.size, 0, none⟩ = some (.int .i64 (a : Int)) := (World.cell?_of_block (Below.heap_alloc _ _ _ (by show wr.heap.size < _; omega))).trans (cell_of kT 0)
      have d20 : w'.cell? ⟨wr.heap.size, 0, none⟩ = some (.int .i64 (a : Int)) := cell_of j1 0
      have dE0 : (w'.setCell ⟨h, b, none⟩ (.slice (some ⟨g', 0, none⟩) ((aheadL (B.take k) b).length + 1) cp)).cell? ⟨wr.heap.size, 0, none⟩ = some (.int .i64 (a : Int)) := (World.cell?_of_block (Below.heap_setCell _ _ _ _ (by show wr.heap.size ≠ h; omega))).trans d20
      have dE1 : (w'.setCell ⟨h, b, none⟩ (.slice (some ⟨g', 0, none⟩) ((aheadL (B.take k) b).length + 1) cp)).cell? ⟨wr.heap.size, 1, none⟩ = some (.int .i64 (b : Int)) := (World.cell?_of_block (Below.heap_setCell _ _ _ _ (by show wr.heap.size ≠ h; omega))).trans d2
      have hbi : ((b : Int) < (g.length : Int)) = True := eq_true (by omega)
      have hbb : b ≤ 4096 := by omega
      clear hap hRf hTf hR' hT' hkb hR1 hR ht htk hal d1
      generalize (aheadL (B.take k) b).length = n at *
      go_wp2
      refine wp_region_held_drew (S := fun w' => w'.cell? ⟨wr.heap.size, 0, none⟩ = some (.int .i64 (a : Int)) ∧ w'.cell? ⟨wr.heap.size, 1, none⟩ = some (.int .i64 (b : Int))) (by kernel_rfl) ⟨dA0, dA1⟩ (fun hHeld => ?_)
      refine wpAnyH_take (i := 0) (v := ?_) rfl (by kernel_rfl) (by kernel_rfl) (by kernel_rfl) (fun _ _ _ h => h) (Or.inl ⟨by rfl, ?_⟩) hHeld ?_
      rotate_left 1
      · intro w hSw; (try dsimp only at hSw); go_simp; try with_reducible rfl
      refine wpAnyH_take (i := 1) (v := ?_) rfl (by kernel_rfl) (by kernel_rfl) (by kernel_rfl) (fun _ _ _ h => h) (Or.inl ⟨by rfl, ?_⟩) hHeld ?_
      rotate_left 1
      · intro w hSw; (try dsimp only at hSw); go_simp; try with_reducible rfl
      refine wpAnyH_take (i := 2) (v := ?_) rfl (by kernel_rfl) (by kernel_rfl) (by kernel_rfl) (fun _ _ _ h => h) (Or.inl ⟨by rfl, ?_⟩) hHeld ?_
      rotate_left 1
      · intro w hSw; (try dsimp only at hSw); go_simp; try with_reducible rfl
      refine wpAnyH_take (i := 3) (v := ?_) rfl (by kernel_rfl) (by kernel_rfl) (by kernel_rfl) (fun _ _ _ h => h) (Or.inl ⟨by rfl, ?_⟩) hHeld ?_
      rotate_left 1
      · intro w hSw; (try dsimp only at hSw); go_simp; try with_reducible rfl
      refine wpAnyH_take (i := 4) (v := ?_) rfl (by kernel_rfl) (by kernel_rfl) (by kernel_rfl) (fun _ _ _ h => h) (Or.inl ⟨by rfl, ?_⟩) hHeld ?_
      rotate_left 1
      · intro w hSw; (try dsimp only at hSw); go_simp; try with_reducible rfl
      refine wpAnyH_take (i := 5) (v := ?_) rfl (by kernel_rfl) (by kernel_rfl) (by kernel_rfl) (fun _ _ _ h => h) (Or.inl ⟨by rfl, ?_⟩) hHeld ?_
      rotate_left 1
      · intro w hSw; (try dsimp only at hSw); go_simp; try with_reducible rfl
      refine wpAnyH_take (i := 6) (v := ?_) rfl (by kernel_rfl) (by kernel_rfl) (by kernel_rfl) (fun _ _ _ h => h) (Or.inl ⟨by rfl, ?_⟩) hHeld ?_
      rotate_left 1
      · intro w hSw; (try dsimp only at hSw); go_simp; try with_reducible rfl
      refine wpAnyH_take (i := 8) (v := ?_) rfl (by kernel_rfl) (by kernel_rfl) (by kernel_rfl) (fun _ _ _ h => h) (Or.inl ⟨by rfl, ?_⟩) hHeld ?_
      rotate_left 1
      · intro w hSw; (try dsimp only at hSw); go_simp; try with_reducible rfl
      refine wpAnyH_take (i := 9) (v := ?_) rfl (by kernel_rfl) (by kernel_rfl) (by kernel_rfl) (fun _ _ _ h => h) (Or.inl ⟨by rfl, ?_⟩) hHeld ?_
      rotate_left 1
      · intro w hSw; (try dsimp only at hSw); go_simp; try with_reducible rfl
      refine wpAnyH_ready (rs := [7, 10]) (by kernel_rfl) (by simp) (AllReadyH.cons rfl (fun K hK => ?_) (AllReadyH.cons rfl (fun K hK => ?_) (AllReadyH.nil)))
      · go_simp
        refine hK.out _ _ hHeld (fun hHeld => ?_)
        clear hK K
        refine wpAnyH_ready (rs := [10]) (by kernel_rfl) (by simp) (AllReadyH.cons rfl (fun K hK => ?_) (AllReadyH.nil))
        · go_simp
          refine hK.out _ _ ⟨dC0, dC⟩ (fun hHeld => ?_)
          clear hK K
          refine wpAnyH_ready (rs := [11]) (by kernel_rfl) (by simp) (AllReadyH.cons rfl (fun K hK => ?_) (AllReadyH.nil))
          · refine step_append rfl (.tmp 30) (.tmp 33) 27 rfl rfl rfl HAP.out ?_
            refine hK.out _ _ ⟨d20, d2⟩ (fun hHeld => ?_)
            clear hK K
            refine wpAnyH_take (i := 12) (v := ?_) rfl (by kernel_rfl) (by kernel_rfl) (by kernel_rfl) (fun _ _ _ h => h) (Or.inl ⟨by rfl, ?_⟩) hHeld ?_
            rotate_left 1
            · intro w hSw; (try dsimp only at hSw); go_simp; try with_reducible rfl
            refine wpAnyH_ready (rs := [13]) (by kernel_rfl) (by simp) (AllReadyH.cons rfl (fun K hK => ?_) (AllReadyH.nil))
            · go_simp
              refine hK.out _ _ ⟨dE0, dE1⟩ (fun hHeld => ?_)
              clear hK K
              refine wpAnyH_done (by kernel_rfl) ?_ _
              go_wp2
              go_roundw
              case rel => exact ⟨k + 1, by go_num, hkl, HTF.out, HRF.out⟩
              case measure => simp [intOf]; omega
      · go_simp
        refine hK.out _ _ ⟨dC0, dC⟩ (fun hHeld => ?_)
        clear hK K
        refine wpAnyH_ready (rs := [7]) (by kernel_rfl) (by simp) (AllReadyH.cons rfl (fun K hK => ?_) (AllReadyH.nil))
        · go_simp
          refine hK.out _ _ hHeld (fun hHeld => ?_)
          clear hK K
          refine wpAnyH_ready (rs := [11]) (by kernel_rfl) (by simp) (AllReadyH.cons rfl (fun K hK => ?_) (AllReadyH.nil))
          · refine step_append rfl (.tmp 30) (.tmp 33) 27 rfl rfl rfl HAP.out ?_
            refine hK.out _ _ ⟨d20, d2⟩ (fun hHeld => ?_)
            clear hK K
            refine wpAnyH_take (i := 12) (v := ?_) rfl (by kernel_rfl) (by kernel_rfl) (by kernel_rfl) (fun _ _ _ h => h) (Or.inl ⟨by rfl, ?_⟩) hHeld ?_
            rotate_left 1
            · intro w hSw; (try dsimp only at hSw); go_simp; try with_reducible rfl
            refine wpAnyH_ready (rs := [13]) (by kernel_rfl) (by simp) (AllReadyH.cons rfl (fun K hK => ?_) (AllReadyH.nil))
            · go_simp
              refine hK.out _ _ ⟨dE0, dE1⟩ (fun hHeld => ?_)
              clear hK K
              refine wpAnyH_done (by kernel_rfl) ?_ _
              go_wp2
              go_roundw
              case rel => exact ⟨k + 1, by go_num, hkl, HTF.out, HRF.out⟩
              case measure => simp [intOf]; omega
    · have e1 : ((k : Int) < (B.length : Int)) = False := eq_false (by omega)
      rw [List.take_of_length_le (by omega)] at hR
      have hBr : Below w.heap.size w wr := ht.below hB3 hB3.size (fun b hb hq => by omega)
      have hwl := hBr.size
      have hRl : h < wr.heap.size := by omega
      clear ht hB3 HPA
      have HP := hide (preds_is av cap blk off hd g hgr wr (HG.out.below hBr))
      go_wp2_with fail
      refine HP.out.mono ?_
      clear HP
      rintro e w5 ⟨hb5, H, base, hH1, hH2, rfl, hR5⟩
      have hB5 : Below w.heap.size w w5 := hBr.trans (hb5.mono hwl)
      have HQ := hide (reach_is av cap blk off hd g hgr 0 (by omega) w5 (HG.out.below hB5))
      go_wp2_with fail
      refine HQ.out.mono ?_
      clear HQ
      rintro e w6 ⟨hb6, R, m2, o2, hRR, rfl, kR, hw2⟩
      obtain rfl : o2 = o := (hw2.det HW.out).2
      have hs5 := hb5.size
      have hs6 := hb6.size
      have hB6 : Below w.heap.size w w6 := hB5.trans (hb6.mono (by omega))
      have hE6 : RowsB w6 hs h g.length (aheadL B) := hR.turns (Turns.of_below (hb5.trans (hb6.mono hs5))) (fun b _ hb => by omega)
      have hpl := predsL_len g
      have hP6 : RowsB w6 base H (predsL g).length (fun t => (predsL g).getD t []) := by
        rw [hpl]
        exact (hR5.turns (Turns.of_below hb6) (fun b _ hb => by omega)).congr (fun t ht => predsL_at g t ht)
      obtain ⟨hdP, hGP⟩ := hP6.gat
      have hpo := hgr.preds
      have HP := hide (And.intro hpo (And.intro hGP (And.intro kR hE6)))
      have hRl2 := lt_of kR
      have hHl : H < w6.heap.size := by obtain ⟨vs, _, h2, _⟩ := hR5; have := lt_of h2; omega
      clear hb5 hb6 hR hR5 hE6 hP6 hGP kR hpo hw2 hBr hB5 hs5
      generalize hhw : w6.heap.size = hw6 at *
      go_wp2
      go_loopw [43, 8] (fun i v W => ∃ k : Nat, i = .int .i64 k ∧ k ≤ g.length ∧ Below hw6 w6 W ∧ RowsR W hw6 v (loopsTo g o2 k)) (fun i _ _ => g.length - (intOf i).toNat)
      case atStart => exact ⟨0, rfl, Nat.zero_le _, by rw [← hhw]; exact Below.refl _ _, [], World.ownsRow_nil _ _ _ _, fun i hi => absurd hi (Nat.not_lt_zero _)⟩
      case round =>
        obtain ⟨f, rfl, hf, hBW, hRW⟩ := hrel
        have hsW := hBW.size
        by_cases hfl : f < g.length
        · have e2 : ((f : Int) < (g.length : Int)) = True := eq_true (by omega)
          have hfb : f ≤ 4096 := by omega
          have hll := loopsTo_len g o2 f
          have hEW : RowsB wr hs h g.length (aheadL B) := HP.out.2.2.2.turns (Turns.of_below hBW) (fun b _ hb => by omega)
          have hlt := HLT.out f
          by_cases hz : aheadL B f = []
          · obtain ⟨a1, c1', hc⟩ := hEW.cell f hfl
            rw [hz] at hc
            rw [if_pos hz, List.append_nil] at hlt
            rw [← hlt] at hRW
            have HRW := hide hRW
            simp only [List.length_nil] at hc
            clear hRW hlt hEW hz
            go_wp2
            go_roundw
            case rel => exact ⟨f + 1, by go_num, hfl, hBW, HRW.out⟩
            case measure => simp [intOf]; omega
          · have hpos : 0 < (aheadL B f).length := List.length_pos_iff.2 hz
            obtain ⟨gb, c1', hc, hg1, hg2, hgc⟩ := hEW.row f hfl hpos
            rw [if_neg hz] at hlt
            have hal := aheadL_len B f
            have hlo := loop_is H hdP (predsL g) HP.out.1 R o2 f (by rw [hpl]; exact hfl) gb 0 c1' (aheadL B f) (by omega) (fun x hx => by rw [hpl]; exact (HBM.out (x, f) ((mem_aheadL B f x).1 hx)).1) wr (HP.out.2.1.below (by rw [hhw]; exact hBW)) ((hBW.block R (by omega)).trans (by rw [hpl]; exact HP.out.2.2.1)) hgc hg2
            rw [hpl] at hlo
            have HLO := hide hlo
            have hp2 : (0 : Int) < ((aheadL B f).length : Int) := by omega
            obtain ⟨lav, lcap, hlv, _⟩ := (show ∃ lav lcap, _ = Value.slice lav (loopsTo g o2 f).length lcap ∧ True from by obtain ⟨vs, ho, _⟩ := hRW; obtain ⟨x, y, z, _⟩ := owns_shape ho; exact ⟨x, y, z, trivial⟩)
            subst hlv
            have HRW := hide hRW
            have HLQ := hide hlt
            clear hRW hlt hEW hz hgc hlo
            generalize hne : (aheadL B f).length = ne at *
            clear hne
            generalize hnl : (loopsTo g o2 f).length = nl at *
            have HNL := hide hnl
            clear hnl
            go_wp2_with fail
            refine HLO.out.mono ?_
            clear HLO
            rintro e w8 ⟨hb8, rv, rfl, hrv⟩
            have hs8 := hb8.size
            have hRW8 : RowsR w8 hw6 (.slice lav nl lcap) (loopsTo g o2 f) := HRW.out.turns (Turns.of_below hb8) (fun b _ hb => by omega)
            have hrv2 : w8.ownsRow hw6 3 1 rv (loopRow (predsL g) f (aheadL B f) o2).length (intsV (loopRow (predsL g) f (aheadL B f) o2)) := by
              refine ⟨hrv.1, ?_⟩
              rcases hrv.2 with h' | ⟨g', cp, cur, h1, h2, h3⟩
              · exact .inl h'
              · exact .inr ⟨g', cp, cur, h1, by omega, h3⟩
            obtain ⟨g', cp, w9, hap, hT9, hR9⟩ := rowsR_step hRW8 22 rv _ hrv2 (by rw [HNL.out]; omega) (by omega)
            rw [HNL.out] at hap hR9
            have hB9 : Below hw6 w6 w9 := hT9.below (hBW.trans (hb8.mono (by omega))) (by omega) (fun b hb hq => by omega)
            rw [← HLQ.out] at hR9
            obtain ⟨rav, rcap, hrr, _⟩ := owns_shape hrv
            subst hrr
            generalize (loopRow (predsL g) f (aheadL B f) o2).length = rl at *
            have HR9 := hide hR9
            have HAP := hide hap
            clear hap hR9 hRW8 hrv hrv2 hT9 hb8
            go_wp2_with (at_builtin; refine wpList_append_run rfl _ _ 22 rfl rfl rfl HAP.out ?_)
            go_roundw
            case rel => exact ⟨f + 1, by go_num, hfl, hB9, HR9.out⟩
            case measure => simp [intOf]; omega
        · have e2 : ((f : Int) < (g.length : Int)) = False := eq_false (by omega)
          obtain rfl : f = g.length := by omega
          have HRW := hide hRW
          clear hRW
          go_wp2
          go_ret
          refine ⟨hB6.trans (hBW.mono (by omega)), _, m', o2, rfl, HW.out, ?_⟩
          obtain ⟨vs, h1, h2⟩ := HRW.out
          have mono : ∀ {e : TypeId} {v : Value} {n : Nat} {xs : List Value}, wr.ownsRow hw6 e 1 v n xs → wr.ownsRow w.heap.size e 1 v n xs := fun hx => by
            refine ⟨hx.1, ?_⟩
            rcases hx.2 with h' | ⟨g', cp, cur, h1, h2, h3⟩
            · exact .inl h'
            · exact .inr ⟨g', cp, cur, h1, by omega, h3⟩
          exact ⟨vs, mono h1, fun i hi => by obtain ⟨u, hu, ho⟩ := h2 i hi; exact ⟨u, hu, mono ho⟩⟩
theorem loops_none (av : Option Addr) (cap blk off : Nat) (hd : Nat → Hdr) (g : List (List Int)) (hno : ¬ RightI g) (w : World) (hG : GAt w av blk off hd g) :
    Calls Try.prog 28 #[.slice av g.length cap] w fun e w' => Below w.heap.size w w' ∧ e = .returned (.slice none 0 0) := by
  have hr := right_any av cap blk off hd g w hG
  rw [rightB_false hno] at hr
  clear hG
  go_enter Try.func28, Try.ntmps28
  go_wp2_with fail
  refine hr.mono ?_
  rintro e w1 ⟨rfl, hb1⟩
  go_wp2
  go_ret
  exact ⟨hb1, rfl⟩

end Go.Proofs.Ytchnjjdhffmkpaa
