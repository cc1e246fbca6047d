/-
  frontiers (layer 7): the contract of dom's own.
-/
import Derived.Test.YtonoeodlchkiaaaFrP
import Derived.Deep.MidRow
import Derived.Deep.RegionHeldLaw
import Derived.Laws.Cover3
namespace Go.Proofs.Ytonoeodlchkiaaa
open Go.ChangeShapes Go.WideShapes Go.ChangeAt Go.RowKit Go.Shelf Go.Maps

attribute [local go_sem] Oper.semAt_some

theorem eql_none (w : World) : (binOp .eql 51 (.map none) (.map none)).run Try.prog w = .ok (.bool true) w := by
  simp only [binOp]
  simp [run_equal_map_nil w 51 3 54 none Try.underlying51]
theorem eql_some (b : Nat) (w : World) : (binOp .eql 51 (.map (some b)) (.map none)).run Try.prog w = .ok (.bool false) w := by
  simp only [binOp]
  simp [run_equal_map_nil w 51 3 54 (some b) Try.underlying51]
theorem typM : ∃ i, Try.prog.info? 51 = some i ∧ i.zero = some (.map none) ∧ i.bytes = 8 ∧ i.size = 1 := by
  refine ⟨_, rfl, ?_, ?_, ?_⟩ <;> kernel_rfl
theorem make_sets (n : Nat) (hn : n ≤ 100000000) (w : World) : (Instr.makeSlice 49 (.int .i64 (n : Int)) (.int .i64 (n : Int))).run Try.prog w = .ok (.slice (some ⟨w.heap.size, 0, none⟩) n n) (w.alloc (.cells (List.replicate n (.map none)).toArray 51)) := by
  obtain ⟨i, h1, h2, h3, h4⟩ := typM
  have := run_make (P := Try.prog) (w := w) 49 51 i _ Try.underlying49 h1 h2 .i64 .i64 (n : Int) (n : Int) (by omega) (by omega) (by rw [h3]; omega) (by omega)
  rw [h4, show ((n : Int)).toNat = n by omega] at this
  rw [this]
  have e : madeCells (Value.map none).cells (n * 1) = (List.replicate n (Value.map none)).toArray := made_all n _
  rw [e]
/-- A store into a map, as one step. -/
theorem step_mapUpdate {P : Program} {ops : Array Oper} {o : Oper} {a : Act} {w w' : World} {K : Act → World → Prop} {Q : Exit → Act → World → Prop} {E : Prop} (hg : o.guard = none) (m x v : Operand) (t : TypeId)
    (hop : o.op = Op.mapUpdate t m x v) {mv xv vv : Value} (hm : a.eval m = mv) (hx : a.eval x = xv) (hv : a.eval v = vv) (hr : (Instr.mapUpdate t mv xv vv).run P w = .ok () w')
    (hK : K (a.put o.dst undef) w') : if Region.wanted o (yielded ops a.tmps) = true then Oper.wp P o a w K Q else E := by
  have hw : Region.wanted o (yielded ops a.tmps) = true := by simp [Region.wanted, hg]
  rw [if_pos hw]
  unfold Oper.wp
  simp [execOp, hop, hm, hx, hv, hr, Result.andThen]
  exact hK
theorem Chain.above {g : List (List Nat)} {o : List Nat} {d : List Int} (hd : Tr g o d) {b : Nat} {s : List Nat} {x : Nat} (h : Chain d b s x) (hb : Told o d b) : ∀ z ∈ s, plc o.reverse x < plc o.reverse z := by
  induction h with
  | nil => intro z hz; cases hz
  | @snoc s x y hc e ih =>
    intro z hz
    have hx := (hc.places hd hb).1
    have h0 : x ≠ 0 := fun e' => by subst e'; rw [hd.zero] at e; omega
    obtain ⟨y', h1, h2, h3⟩ := hd.next hx h0
    have : y' = y := by rw [e] at h1; omega
    subst this
    rcases List.mem_append.1 hz with hz | hz
    · have := ih z hz; omega
    · simp at hz; subst hz; exact h3

theorem Sets.far {W : World} {A A' : Nat → Prop} {SB n : Nat} {f : Nat → List Nat} (h : Sets W A SB n f) (hA : ∀ b, A b → (∀ cs t z, W.heap[b]? ≠ some (.cells cs t z)) → b < W.heap.size → A' b) : Sets W A' SB n f := by
  obtain ⟨ms, h1, h2, h3, h4⟩ := h
  exact ⟨ms, h1, h2, fun a ha => (h3 a ha).imp id fun ⟨b, hb, hAb, hm⟩ => ⟨b, hb, hA b hAb hm.nocells hm.lt, hm⟩, h4⟩
/-- Between two edges. -/
structure FI (g : List (List Nat)) (d : List Int) (w w4 : World) (h : Nat) (s : List (Nat × Nat)) (W : World) : Prop where
  bel : Below w.heap.size w W
  tur : Turns (fun b => b = h + 1 ∨ w4.heap.size ≤ b) w4 W
  sets : ∃ f, Sets W (fun b => w4.heap.size + 2 ≤ b) (h + 1) g.length f ∧ Spec d g.length s f
/-- Between two blocks that one edge comes to. -/
structure FJ (g : List (List Nat)) (d : List Int) (w w4 w5 : World) (h Bt : Nat) (f : Nat → List Nat) (t : Nat) (r : List Nat) (W : World) : Prop where
  bel : Below w.heap.size w W
  tur : Turns (fun b => b = h + 1 ∨ w4.heap.size ≤ b) w4 W
  le : w5.heap.size ≤ W.heap.size
  keep : ∀ b, w4.heap.size ≤ b ∧ b < w4.heap.size + 2 ∨ b = Bt ∨ b = Bt + 1 → W.heap[b]? = w5.heap[b]?
  sets : Sets W (fun b => w4.heap.size + 2 ≤ b ∧ b ≠ Bt ∧ b ≠ Bt + 1 ∧ b ≠ Bt + 2 ∧ b ≠ Bt + 3) (h + 1) g.length (put1 f r t)
  no : ∀ y ∈ r, (y : Int) ≠ ask d t
theorem FJ.turns {g : List (List Nat)} {d : List Int} {w w4 w5 : World} {h Bt : Nat} {f : Nat → List Nat} {t : Nat} {r : List Nat} {W W' : World} (hj : FJ g d w w4 w5 h Bt f t r W) (hw : w.heap.size ≤ w4.heap.size) (h4 : h + 1 < w4.heap.size) (hBt : w4.heap.size + 2 ≤ Bt) (h5 : w5.heap.size = Bt + 3) {Q : Nat → Prop} (hQ : ∀ b, Q b → b = Bt + 2 ∨ b = Bt + 3) (ht : Turns Q W W') : FJ g d w w4 w5 h Bt f t r W' := by
  have hs := hj.le
  refine ⟨ht.below hj.bel hj.bel.size (fun b hb hq => by have := hQ b hq; omega), hj.tur.trans (ht.mono fun b hb => .inr (by have := hQ b hb; omega)), Nat.le_trans hj.le ht.size, fun b hb => (ht.block b (by omega) (fun hq => by have := hQ b hq; omega)).trans (hj.keep b hb), hj.sets.turns ht (fun hq => by have := hQ _ hq; omega) (fun b hb _ hq => by have := hQ b hq; omega), hj.no⟩
/-- Behind one edge. -/
structure FX (g : List (List Nat)) (d : List Int) (w w4 w5 : World) (h Bt : Nat) (s : List (Nat × Nat)) (W : World) : Prop where
  bel : Below w.heap.size w W
  tur : Turns (fun b => b = h + 1 ∨ w4.heap.size ≤ b) w4 W
  le : w5.heap.size ≤ W.heap.size
  keep : ∀ b, w4.heap.size ≤ b ∧ b < w4.heap.size + 2 → W.heap[b]? = w5.heap[b]?
  sets : ∃ f, Sets W (fun b => w4.heap.size + 2 ≤ b ∧ b ≠ Bt + 3) (h + 1) g.length f ∧ Spec d g.length s f
theorem FX.turns {g : List (List Nat)} {d : List Int} {w w4 w5 : World} {h Bt : Nat} {s : List (Nat × Nat)} {W W' : World} (hj : FX g d w w4 w5 h Bt s W) (hw : w.heap.size ≤ w4.heap.size) (h4 : h + 1 < w4.heap.size) (hBt : w4.heap.size + 2 ≤ Bt) (h5 : w5.heap.size = Bt + 3) {Q : Nat → Prop} (hQ : ∀ b, Q b → b = Bt + 3) (ht : Turns Q W W') : FX g d w w4 w5 h Bt s W' := by
  have hs := hj.le
  obtain ⟨f, h1, h2⟩ := hj.sets
  exact ⟨ht.below hj.bel hj.bel.size (fun b hb hq => by have := hQ b hq; omega), hj.tur.trans (ht.mono fun b hb => .inr (by have := hQ b hb; omega)), Nat.le_trans hj.le ht.size, fun b hb => (ht.block b (by omega) (fun hq => by have := hQ b hq; omega)).trans (hj.keep b hb), f, h1.turns ht (fun hq => by have := hQ _ hq; omega) (fun b hb _ hq => by have := hQ b hq; omega), h2⟩
theorem FJ.fx {g : List (List Nat)} {d : List Int} {w w4 w5 : World} {h Bt : Nat} {f : Nat → List Nat} {t : Nat} {r : List Nat} {W : World} (hj : FJ g d w w4 w5 h Bt f t r W) {s : List (Nat × Nat)} (hs : Spec d g.length s (put1 f r t)) : FX g d w w4 w5 h Bt s W :=
  ⟨hj.bel, hj.tur, hj.le, fun b hb => hj.keep b (.inl hb), _, hj.sets.mono (fun _ hb _ => ⟨hb.1, hb.2.2.2.2⟩), hs⟩
theorem FX.fi {g : List (List Nat)} {d : List Int} {w w4 w5 : World} {h Bt : Nat} {s : List (Nat × Nat)} {W : World} (hj : FX g d w w4 w5 h Bt s W) : FI g d w w4 h s W := by
  obtain ⟨f, h1, h2⟩ := hj.sets
  exact ⟨hj.bel, hj.tur, f, h1.mono (fun b hb _ => hb.1), h2⟩

theorem FJ.make {g : List (List Nat)} {d : List Int} {w w4 w5 : World} {h Bt : Nat} {f : Nat → List Nat} {t : Nat} {r : List Nat} {W : World} (hj : FJ g d w w4 w5 h Bt f t r W) (hwh : w.heap.size ≤ h) (h4 : h + 1 < w4.heap.size) (hBt : w4.heap.size + 2 ≤ Bt) (h5 : w5.heap.size = Bt + 3) {x : Nat} (hx : x < g.length) (hz : Bt + 4 ≤ W.heap.size) (cN : W.cell? ⟨h + 1, x, none⟩ = some (.map none)) :
    (W.alloc (.map #[] 0)).frozen? ⟨h + 1, x, none⟩ = false ∧ (W.alloc (.map #[] 0)).cell? ⟨h + 1, x, none⟩ = some (.map none) ∧ FJ g d w w4 w5 h Bt f t r ((W.alloc (.map #[] 0)).setCell ⟨h + 1, x, none⟩ (.map (some W.heap.size))) ∧ ((W.alloc (.map #[] 0)).setCell ⟨h + 1, x, none⟩ (.map (some W.heap.size))).cell? ⟨h + 1, x, none⟩ = some (.map (some W.heap.size)) ∧ Turns (fun c => c = h + 1) W ((W.alloc (.map #[] 0)).setCell ⟨h + 1, x, none⟩ (.map (some W.heap.size))) := by
  have hT : Turns (fun c => c = h + 1) W ((W.alloc (.map #[] 0)).setCell ⟨h + 1, x, none⟩ (.map (some W.heap.size))) := (Turns.alloc _ _ _).trans (Turns.setCell _ ⟨h + 1, x, none⟩ _ rfl)
  have hle := hj.le
  have hs := hj.sets
  have hs2 := hs.make x hx cN (by omega) (by omega)
  refine ⟨?_, ?_, ⟨hT.below hj.bel hj.bel.size (fun c hc e => by omega), hj.tur.trans (hT.mono fun c hc => .inl hc), Nat.le_trans hj.le hT.size, fun c hc => (hT.block c (by omega) (by omega)).trans (hj.keep c hc), hs2, hj.no⟩, ?_, hT⟩
  · obtain ⟨ms, h1, h2, h3, h4'⟩ := hs
    exact frozen_of ((Below.heap_alloc W (.map #[] 0) (h + 1) (by omega)).trans h2) x
  · rw [World.cell?_of_block (Below.heap_alloc W (.map #[] 0) (h + 1) (by omega))]; exact cN
  · obtain ⟨ms, h1, h2, h3, h4'⟩ := hs
    rw [cell_of (heap_set_same ((Below.heap_alloc W (.map #[] 0) (h + 1) (by omega)).trans h2) x (.map (some W.heap.size)))]
    rw [List.getElem?_toArray, List.getElem?_set_self (by rw [List.length_map]; omega)]
theorem turns_drew (W : World) : Turns (fun _ => False) W W.drew := ⟨rfl, rfl, rfl, Nat.le_refl _, fun _ _ _ => rfl⟩
theorem FJ.put {g : List (List Nat)} {d : List Int} {w w4 w5 : World} {h Bt : Nat} {f : Nat → List Nat} {t : Nat} {r : List Nat} {W : World} (hj : FJ g d w w4 w5 h Bt f t r W) (hw : w.heap.size ≤ w4.heap.size) (hBt : w4.heap.size + 2 ≤ Bt) (h5 : w5.heap.size = Bt + 3) {x b : Nat} (hx : x < g.length) (ht : t ≤ 4096) (hxr : t ∉ put1 f r t x) (hne : (x : Int) ≠ ask d t) (cM : W.cell? ⟨h + 1, x, none⟩ = some (.map (some b))) :
    ∃ W', (Instr.mapUpdate 51 (.map (some b)) (.int .i64 (t : Int)) (.agg #[])).run Try.prog W.drew = .ok () W' ∧ FJ g d w w4 w5 h Bt f t (r ++ [x]) W' ∧ W.heap.size ≤ W'.heap.size ∧ (w4.heap.size + 2 ≤ b ∧ b ≠ Bt ∧ b ≠ Bt + 1 ∧ b ≠ Bt + 2 ∧ b ≠ Bt + 3) ∧ ∀ c, c < W.heap.size → c ≠ b → W'.heap[c]? = W.heap[c]? := by
  have hs : Sets W.drew (fun b => w4.heap.size + 2 ≤ b ∧ b ≠ Bt ∧ b ≠ Bt + 1 ∧ b ≠ Bt + 2 ∧ b ≠ Bt + 3) (h + 1) g.length (put1 f r t) := hj.sets.turns (turns_drew W) (fun h => h) (fun _ _ _ h => h)
  have cM' : W.drew.cell? ⟨h + 1, x, none⟩ = some (.map (some b)) := cM
  obtain ⟨hA, hm⟩ : (w4.heap.size + 2 ≤ b ∧ b ≠ Bt ∧ b ≠ Bt + 1 ∧ b ≠ Bt + 2 ∧ b ≠ Bt + 3) ∧ SetMap W.drew b (put1 f r t x) := by
    rcases hs.cell x hx with ⟨e, _⟩ | ⟨b', e, h1, h2⟩
    · rw [cM'] at e; cases e
    · rw [cM'] at e; cases e; exact ⟨h1, h2⟩
  have hbl : b < W.heap.size := hm.lt
  obtain ⟨W', hrun, hg, hm'⟩ := hm.add t ht hxr
  have hsz : W.heap.size ≤ W'.heap.size := hg.size
  have hblk : ∀ c, c < W.heap.size → c ≠ b → W'.heap[c]? = W.heap[c]? := fun c hc hn => hg.block c hc (fun e => hn (by cases e; rfl))
  have hT : Turns (fun c => c = b) W W' := ⟨hg.os, hg.tape, hg.output, hsz, fun c hc hn => hblk c hc hn⟩
  have hxn : x ∉ r := fun hin => hxr (mem_put1.2 (.inr ⟨rfl, hin⟩))
  have hle := hj.le
  refine ⟨W', hrun, ⟨hT.below hj.bel hj.bel.size (fun c hc e => by omega), hj.tur.trans (hT.mono fun c hc => .inr (by omega)), by omega, fun c hc => (hblk c (by omega) (by omega)).trans (hj.keep c hc), hs.add x hx cM' t hg hm' r f rfl hxn, fun y hy => ?_⟩, hsz, hA, hblk⟩
  rcases List.mem_append.1 hy with hy | hy
  · exact hj.no y hy
  · simp at hy; subst hy; exact hne

set_option maxRecDepth 100000 in
set_option maxHeartbeats 8000000 in
theorem frontiers_is (av : Option Addr) (cap blk off : Nat) (hd : Nat → Hdr) (g : List (List Nat)) (hgr : Right g) (w : World) (hG : GAt w av blk off hd (castG g)) :
    Calls Try.prog 38 #[.slice av g.length cap] w fun e w' => Below w.heap.size w w' ∧ ∃ SB d m' o f, w.heap.size ≤ SB ∧ e = .returned (.slice (some ⟨SB, 0, none⟩) g.length g.length) ∧ Walk g [0] (List.replicate g.length false) m' o ∧ Fin g o d ∧
      Sets w' (fun b => w.heap.size ≤ b) SB g.length f ∧ ∀ a t, a < g.length → (t ∈ f a ↔ ∃ x ∈ o, t ∈ g.getD x [] ∧ Fr d x t a) := by
  refine (callsIn_wide (n := 0)).1 ?_
  have hone := hgr.one
  have hmost := hgr.most
  have HG := hide hG
  have HID := hide (idom_is av cap blk off hd g hgr w hG)
  clear hG
  refine callsIn_of_wp_marks Try.func38 rfl trivial ?_
  simp only [Try.ntmps38, List.size_toArray, List.length_cons, List.length_nil, Nat.reduceAdd, Nat.reduceSub, Array.replicate_succ, Array.replicate_zero, List.push_toArray, List.append_toArray, List.nil_append, List.cons_append]
  gi_wp2
  refine ⟨by trivial, by trivial, (callsIn_wide.2 HID.out).mono ?_⟩
  clear HID
  rintro e w1 ⟨hb1, IB, d, m', o, hIB, rfl, hdB, hwk, hfin⟩
  have hord := ord_of hone hwk
  have mk := make_sets g.length (by omega)
  gi_wp2
  rw [← List.toArray_replicate]
  generalize hW : (((w1.alloc (.cells #[.slice (some ⟨IB, 0, none⟩) g.length g.length] 25)).alloc (.cells (List.replicate g.length (.map none)).toArray 51)).alloc (.cells #[.slice (some ⟨w1.heap.size + 1, 0, none⟩) g.length g.length] 49)) = w2
  have kk : Below w1.heap.size w1 w2 ∧ w2.heap.size = w1.heap.size + 3 ∧ w2.heap[w1.heap.size]? = some (.cells #[.slice (some ⟨IB, 0, none⟩) g.length g.length] 25 (0, 0)) ∧ Sets w2 (fun _ => False) (w1.heap.size + 1) g.length (fun _ => []) ∧ w2.heap[w1.heap.size + 2]? = some (.cells #[.slice (some ⟨w1.heap.size + 1, 0, none⟩) g.length g.length] 49 (0, 0)) := by
    rw [← hW]
    refine ⟨(((Below.refl _ w1).alloc (Nat.le_refl _) _).alloc (by simp) _).alloc (by simp; omega) _, by simp, ?_, ?_, ?_⟩
    · rw [Below.heap_alloc _ _ _ (by simp; omega), Below.heap_alloc _ _ _ (by simp)]; exact World.alloc_heap_new w1 _
    · have := sets_new (w1.alloc (.cells #[.slice (some ⟨IB, 0, none⟩) g.length g.length] 25)) g.length (fun _ => False)
      rw [World.size_alloc] at this
      exact this.turns (Turns.alloc (fun _ => False) _ _) (fun h => h) (fun _ h _ => h.elim)
    · have := World.alloc_heap_new ((w1.alloc (.cells #[.slice (some ⟨IB, 0, none⟩) g.length g.length] 25)).alloc (.cells (List.replicate g.length (.map none)).toArray 51)) (.cells #[.slice (some ⟨w1.heap.size + 1, 0, none⟩) g.length g.length] 49)
      rwa [World.size_alloc, World.size_alloc] at this
  obtain ⟨hb2, hs2, k0, k1, k2⟩ := kk
  clear hW mk
  have hIl := lt_of hdB
  have hb02 := bel_two hb1 hb2
  have HORDR := hide (order_is av cap blk off hd g hgr w2 (HG.out.below hb02))
  refine ⟨by trivial, by trivial, (callsIn_wide.2 HORDR.out).mono ?_⟩
  clear HORDR
  rintro e w3 ⟨hb3, v, m2, o2, rfl, hov, hwk2⟩
  obtain ⟨hm2, ho2⟩ := hwk2.det hwk
  subst hm2
  subst ho2
  have hlo : 0 < o2.length := List.length_pos_of_mem hord.zero
  obtain ⟨OB, ocap, hve, hOB1, hOB2⟩ := hov.form hlo
  subst hve
  have HOC : Hid (∀ k, k < o2.reverse.length → w3.cell? ⟨OB, k, none⟩ = some (.int .i64 ((o2.reverse.getD k 0 : Nat) : Int))) := fun k hk2 => by
    have hk : k < o2.length := by rw [List.length_reverse] at hk2; exact hk2
    rw [hov.cellAt k (by omega), List.getElem?_map, List.getD_eq_getElem?_getD, List.getElem?_eq_getElem hk2]; rfl
  have hs1 := hb1.size
  have hs3 := hb3.size
  generalize hno : o2.length = no at *
  have HNO := hide hno
  clear hno hov hwk2
  generalize hh : w1.heap.size = h at *
  gi_wp2
  refine ⟨by trivial, by trivial, (edgesO_in 0 _ _ _ _ _ _ _).mono ?_⟩
  rintro e w4 ⟨rfl, hs4, hb4, k3, k4⟩
  have hb34 := hb3.trans (hb4.mono hs3)
  have hFI : FI g d w w4 h [] w4 := by
    refine ⟨bel_two (bel_two hb02 hb3) hb4, Turns.refl _ _, _, (k1.turns (Turns.of_below hb34) (by omega) (fun _ h _ => h.elim)).mono (fun _ h _ => h.elim), fun a t _ => by simp⟩
  have k0' := (hb34.block h (by omega)).trans k0
  have k2' := (hb34.block (h + 2) (by omega)).trans k2
  have kd' := (hb34.block IB (by omega)).trans ((hb2.block IB (by omega)).trans hdB)
  have HOC4 : Hid (∀ k, k < o2.reverse.length → w4.cell? ⟨OB, k, none⟩ = some (.int .i64 ((o2.reverse.getD k 0 : Nat) : Int))) := fun k hk => (hb4.cell (p := ⟨OB, k, none⟩) hOB2).trans (HOC.out k hk)
  have k4' : w4.heap[w3.heap.size + 1]? = some (.cells #[.slice (some ⟨OB, 0, none⟩) o2.reverse.length ocap] 25 (0, 0)) := by rw [List.length_reverse, HNO.out]; exact k4
  have HN0 := hide hFI
  have HK := hide (And.intro k0' (And.intro k2' (And.intro kd' (And.intro k3 k4'))))
  have HFIN := hide hfin
  have HORD := hide hord
  have HWK := hide hwk
  have hw4 : w.heap.size ≤ w4.heap.size := by omega
  clear k0 k1 k2 k3 k4 k0' k2' kd' k4' hFI hdB hfin hord hwk HOC hb1 hb2 hb02 hb3 hb4 hb34
  generalize hBl : w3.heap.size = Bl at *
  gi_wp2
  refine range_box (α := Nat × Nat) (kk := 0) (gf := 58) (lb := #[.pointer (some ⟨Bl + 1, 0, none⟩), .pointer (some ⟨Bl, 0, none⟩)]) (Rd := fun W => GAt W av blk off hd (castG g) ∧ (∀ k, k < o2.reverse.length → W.cell? ⟨OB, k, none⟩ = some (.int .i64 ((o2.reverse.getD k 0 : Nat) : Int))) ∧ W.heap[Bl]? = some (.cells #[.slice av g.length cap] 22 (0, 0))) (V := nextO g o2.reverse) (S := fun s _ => s = edO g o2.reverse o2.reverse.length 0) (enc := encP) rfl enter58 (fun _ => rfl) (fun _ _ _ h _ => h)
    (fun W1 hb hs => edgesO_gives Bl (Bl + 1) blk off cap OB ocap hd g o2.reverse av hgr ?g1 ?g2 W1 _ ?g3)
    (fun s W => FI g d w w4 h s W) ?hI ?hRd HN0.out ?hround ?hdone
  case g1 =>
    have h2 := HORD.out.nodup.length_le_of_subset (l₂ := List.range g.length) (fun x hx => List.mem_range.2 (HORD.out.lt x hx))
    rw [List.length_range] at h2
    rw [List.length_reverse]; omega
  case g2 => exact fun x hx => HORD.out.lt x (List.mem_reverse.1 hx)
  case g3 => exact (hb.block _ (by omega)).trans HK.out.2.2.2.2
  case hI =>
    rintro s W W' ⟨i1, i2, f, i3, i4⟩ ht
    exact ⟨ht.below i1 i1.size (fun b hb hq => by omega), i2.trans (ht.mono fun b hb => .inr (by omega)), f, i3.turns ht (by omega) (fun b hb _ => by omega), i4⟩
  case hRd =>
    rintro s W ⟨i1, i2, _⟩
    exact ⟨HG.out.below i1, fun k hk => (World.cell?_of_block (i2.block OB (by omega) (by show ¬ (OB = h + 1 ∨ w4.heap.size ≤ OB); omega))).trans (HOC4.out k hk), (i2.block Bl (by omega) (by omega)).trans HK.out.2.2.2.1⟩
  case hdone =>
    rintro D s W ⟨i1, i2, f, i3, i4⟩ hS hD hK
    have hil := i2.size
    have c1 : W.cell? ⟨h + 2, 0, none⟩ = some (.slice (some ⟨h + 1, 0, none⟩) g.length g.length) := cell_of ((i2.block (h + 2) (by omega) (by omega)).trans HK.out.2.1) 0
    have HS3 := hide i3
    have HS4 := hide i4
    clear i3 i4
    gi_wp2
    refine ⟨by simp, .inl ⟨_, _, rfl, run_takeDeferred hK, ?_⟩⟩
    refine ⟨_, by simp [results, Try.results38, go_sem], ?_, h + 1, d, _, _, f, by omega, rfl, HWK.out, HFIN.out, ?_, fun a t ha => ?_⟩
    · exact (Turns.putObj (Q := fun b => b = w4.heap.size) W D _ hD).below i1 i1.size (fun b hb hq => by omega)
    · exact (HS3.out.turns (Turns.putObj (Q := fun b => b = w4.heap.size) W D _ hD) (by omega) (fun b hb _ => by omega)).mono (fun b hb _ => by omega)
    · rw [HS4.out a t ha, hS]
      exact ⟨fun ⟨⟨x, y⟩, hp, h1, h2⟩ => by
        simp only at h1 h2; subst h1
        unfold edO at hp
        rw [List.take_length] at hp
        simp at hp
        obtain ⟨h3, h4⟩ := hp
        exact ⟨x, h3, h4, h2⟩, fun ⟨x, h3, h4, h2⟩ => ⟨(x, t), by unfold edO; rw [List.take_length]; simp; exact ⟨h3, h4⟩, rfl, h2⟩⟩
  case hround =>
    rintro s ⟨fr, t⟩ W K hv hK
    have HKK := hide hK
    clear hK
    gi_wp2
    refine HKK.out _ _ ?_
    clear HKK HN0
    rintro Wb ⟨i1, i2, f, i3, i4⟩ hob hsb hge ⟨rc, hrc⟩
    have hfo : fr ∈ o2 ∧ t ∈ g.getD fr [] := by
      obtain ⟨i, k, h1, h2, h3, h4⟩ := hv
      injection h4 with h5 h6
      subst h5 h6
      exact ⟨List.mem_reverse.1 (getD_mem _ i h1), getD_mem _ k h2⟩
    have hto := HORD.out.cl fr hfo.1 t hfo.2
    have htl := HORD.out.lt t hto
    have hfl := HORD.out.lt fr hfo.1
    generalize hBt : W.heap.size = Bt at *
    clear hBt hv
    have ci : Wb.cell? ⟨h, 0, none⟩ = some (.slice (some ⟨IB, 0, none⟩) g.length g.length) := cell_of ((i2.block h (by omega) (by omega)).trans HK.out.1) 0
    have hfb : fr ≤ 4096 := by omega
    gi_wp2
    refine ⟨trivial, by trivial, (CallsIn.inRound (w4.heap.size + 1) (upward_in 0 _ _ _ _ Wb)).mono ?_⟩
    rintro e w5 ⟨rfl, hs5, hb5, k5, k6⟩
    rw [hsb] at hs5 hb5 k5 k6 ⊢
    have hJ0 : FJ g d w w4 w5 h Bt f t [] w5 := by
      have ht5 : Turns (fun b => Bt + 1 ≤ b) Wb w5 := Turns.of_below hb5
      refine ⟨ht5.below i1 i1.size (fun b hb hq => by omega), i2.trans (ht5.mono fun b hb => .inr (by omega)), Nat.le_refl _, fun b _ => rfl, ?_, fun y hy => by cases hy⟩
      rw [put1_nil]
      refine (i3.far (A' := fun b => w4.heap.size + 2 ≤ b ∧ b < Bt) (fun b hb hn hl => ⟨hb, ?_⟩)).turns ht5 (by omega) (fun b hb _ => by omega) |>.mono (fun b hb _ => by omega)
      have : b ≠ Bt := fun e => by
        subst e
        exact hn _ _ _ hob
      omega
    have HJ0 := hide hJ0
    have HK5 := hide (And.intro k5 k6)
    have HI4 := hide i4
    have hb0 := hfo.1
    have hrc5 : w5.heap[w4.heap.size + 1]? = some (.loop rc) := (hb5.block _ (by omega)).trans hrc
    have HKB : Hid (∀ b, w4.heap.size ≤ b ∧ b < w4.heap.size + 2 ∨ b = Bt → w5.heap[b]? = Wb.heap[b]?) := fun b hb => hb5.block b (by omega)
    have HOB := hide hob
    have HRC := hide hrc5
    clear hJ0 k5 k6 i1 i2 i3 i4 hb5 ci hob hrc hrc5
    gi_wp2
    refine range_in (α := Nat) (kk := 0) (ex := 2) (l₀ := w4.heap.size + 1) (r₀ := rc) (gf := 48) (lb := #[.pointer (some ⟨Bt + 1, 0, none⟩), .pointer (some ⟨Bt + 1 + 1, 0, none⟩)]) (P := fun c => c = Bt + 1 + 1) (Rd := fun W => W.heap[Bt + 1]? = some (.cells #[.slice (some ⟨IB, 0, none⟩) g.length g.length] 25 (0, 0)) ∧ W.heap[IB]? = some (.cells (intsI d).toArray 3 (0, 0)))
      (V := fun s x => Chain d fr s x ∧ x ∈ o2) (S := fun s _ => ∃ s', s = s' ++ [0] ∧ Chain d fr s' 0) (enc := fun x : Nat => #[.int .i64 (x : Int)]) HRC.out rfl enter48 (fun _ => rfl) (fun _ _ _ h _ => h) (by intro b hb; omega)
      (fun W1 hb hs => upward_gives g o2 HORD.out hmost d HFIN.out (Bt + 1) (Bt + 1 + 1) IB fr hb0 W1 _ ?g4 ?g5)
      (fun r W => FJ g d w w4 w5 h Bt f t r W) (fun W => FX g d w w4 w5 h Bt (s ++ [(fr, t)]) W) ?hI2 ?hIx2 ?hRd2 HJ0.out ?hround2 ?hdone2 ?hstop2
    case g4 => exact (hb.block _ (by omega)).trans HK5.out.1
    case g5 => exact (hb.block _ (by omega)).trans HK5.out.2
    case hI2 => exact fun r W W' hj ht => hj.turns hw4 (by omega) (by omega) (by omega) (fun b hb => by omega) ht
    case hIx2 => exact fun W W' hj ht => hj.turns hw4 (by omega) (by omega) (by omega) (fun b hb => by omega) ht
    case hRd2 =>
      intro r W hj
      exact ⟨(hj.keep (Bt + 1) (.inr (.inr rfl))).trans HK5.out.1, (hj.tur.block IB (by omega) (by omega)).trans HK.out.2.2.1⟩
    case hdone2 =>
      rintro r W hj ⟨r', rfl, hch⟩
      have hx := (hj.fx (HI4.out.top hch hj.no HFIN.out.zero))
      gi_wp2
      refine ⟨?_, fun b hb => ?_, hx.fi⟩
      · have := hx.le; omega
      · exact (hx.keep b (by omega)).trans (HKB.out b (by omega))
    case hstop2 =>
      intro W hx
      gi_wp2
      refine ⟨?_, fun b hb => ?_, hx.fi⟩
      · have := hx.le; omega
      · exact (hx.keep b (by omega)).trans (HKB.out b (by omega))
    case hround2 =>
      rintro r x W2 K2 ⟨hch, hxo⟩ hK2
      have HKK := hide hK2
      clear hK2
      gi_wp2
      refine HKK.out _ ?_
      clear HKK HJ0
      intro Wc hj hsc
      have hxl := HORD.out.lt x hxo
      have hjl := hj.le
      have c1 : Wc.cell? ⟨h, 0, none⟩ = some (.slice (some ⟨IB, 0, none⟩) g.length g.length) := cell_of ((hj.tur.block h (by omega) (by omega)).trans HK.out.1) 0
      have c2 : Wc.cell? ⟨Bt, 0, none⟩ = some (.int .i64 (t : Int)) := cell_of ((hj.keep Bt (.inr (.inl rfl))).trans ((HKB.out Bt (.inr rfl)).trans HOB.out)) 0
      have c3 := ints_at ((hj.tur.block IB (by omega) (by omega)).trans HK.out.2.2.1) t (by have := HFIN.out.len; omega)
      have c4 : Wc.cell? ⟨h + 2, 0, none⟩ = some (.slice (some ⟨h + 1, 0, none⟩) g.length g.length) := cell_of ((hj.tur.block (h + 2) (by omega) (by omega)).trans HK.out.2.1) 0
      have hti : ((t : Int) < (g.length : Int)) = True := eq_true (by omega)
      have htb : t ≤ 4096 := by omega
      have hxi : ((x : Int) < (g.length : Int)) = True := eq_true (by omega)
      have hxb : x ≤ 4096 := by omega
      have HJ := hide hj
      have HCH := hide hch
      clear hj hch hxo
      by_cases he : (x : Int) = ask d t
      · have HF := hide (HJ.out.fx (HI4.out.stop HCH.out HJ.out.no he))
        rw [← he] at c3
        clear he c4
        gi_wp2
        exact ⟨rfl, Nat.le_refl _, fun _ _ => rfl, HF.out⟩
      · have HNE := hide he
        have e1 : ((x : Int) == ask d t) = false := by simp; exact he
        have e2 : ((x : Int) = ask d t) = False := eq_false he
        clear he
        generalize ask d t = at_ at c3 e1 e2

        gi_wp2
        obtain ⟨m, kn, c5, HLK, HKN⟩ : ∃ (m : Option Nat) (kn : Bool), Wc.cell? ⟨h + 1, x, none⟩ = some (.map m) ∧ Hid (∀ w' : World, (∀ b, b < Wc.heap.size → w'.heap[b]? = Wc.heap[b]?) → (Instr.lookup 51 (.map m) (.int .i64 (t : Int)) true).run Try.prog w' = .ok (.tuple #[.agg #[], .bool kn]) w') ∧ Hid ((kn = true → t ∈ put1 f r t x) ∧ (kn = false → t ∉ put1 f r t x)) := by
          rcases HJ.out.sets.cell x hxl with ⟨cN, hf0⟩ | ⟨b, cM, hA, hM⟩
          · exact ⟨none, false, cN, fun w' _ => look_none w' t htb, by simp, by simp [hf0]⟩
          · exact ⟨some b, decide (t ∈ put1 f r t x), cM, fun w' hw' => (hM.on (hw' b hM.lt)).look t htb, by simp, by simp⟩
        have hlc : h + 1 < Wc.heap.size := by omega
        have HS9 : Hid (∀ w' : World, (∀ b, b < Wc.heap.size → w'.heap[b]? = Wc.heap[b]?) → (w'.cell? ⟨h + 2, 0, none⟩ = some (.slice (some ⟨h + 1, 0, none⟩) g.length g.length) ∧ w'.cell? ⟨h + 1, x, none⟩ = some (.map m) ∧ w'.cell? ⟨Bt, 0, none⟩ = some (.int .i64 (t : Int)) ∧ (Instr.lookup 51 (.map m) (.int .i64 (t : Int)) true).run Try.prog w' = .ok (.tuple #[.agg #[], .bool kn]) w')) :=
          fun w' hw' => ⟨(World.cell?_of_block (hw' (h + 2) (by omega))).trans c4, (World.cell?_of_block (hw' (h + 1) (by omega))).trans c5, (World.cell?_of_block (hw' Bt (by omega))).trans c2, HLK.out w' hw'⟩
        have HT9 : Hid (∀ ob, Turns (fun _ => False) Wc (Wc.alloc ob).drew) := fun ob => (Turns.alloc _ _ _).trans (turns_drew _)
        clear HLK c1 c2 c3 c4 c5 e1 e2
        cases kn with
        | true =>
          have hmem := HKN.out.1 rfl
          have hxf : t ∈ f x := by
            rcases mem_put1.1 hmem with h' | ⟨_, h'⟩
            · exact h'
            · have := HCH.out.above HFIN.out.toTr (HFIN.out.told hb0) x h'; omega
          have HF := hide (HJ.out.fx (HI4.out.known HCH.out HJ.out.no hxl hxf))
          clear hmem hxf
          refine region_round_held (S := fun w' : World => w'.cell? ⟨h + 2, 0, none⟩ = some (.slice (some ⟨h + 1, 0, none⟩) g.length g.length) ∧ w'.cell? ⟨h + 1, x, none⟩ = some (.map m) ∧ w'.cell? ⟨Bt, 0, none⟩ = some (.int .i64 (t : Int)) ∧ (Instr.lookup 51 (.map m) (.int .i64 (t : Int)) true).run Try.prog w' = .ok (.tuple #[.agg #[], .bool true]) w') (by kernel_rfl) (by kernel_rfl) (by rintro ⟨a, w, h⟩; exact h) (HS9.out _ (fun b _ => rfl)) ?_
          intro hHeld
          refine wpAnyH_take (i := 0) (v := ?_) rfl (by kernel_rfl) (by kernel_rfl) (by kernel_rfl) (fun _ _ _ h => h) (Or.inl ⟨by rfl, ?_⟩) hHeld ?_
          rotate_left 1
          · intro w hSw; (try dsimp only at hSw); go_simp; try with_reducible rfl
          refine wpAnyH_take (i := 1) (v := ?_) rfl (by kernel_rfl) (by kernel_rfl) (by kernel_rfl) (fun _ _ _ h => h) (Or.inl ⟨by rfl, ?_⟩) hHeld ?_
          rotate_left 1
          · intro w hSw; (try dsimp only at hSw); go_simp; try with_reducible rfl
          refine wpAnyH_take (i := 2) (v := ?_) rfl (by kernel_rfl) (by kernel_rfl) (by kernel_rfl) (fun _ _ _ h => h) (Or.inl ⟨by rfl, ?_⟩) hHeld ?_
          rotate_left 1
          · intro w hSw; (try dsimp only at hSw); go_simp; try with_reducible rfl
          refine wpAnyH_take (i := 3) (v := ?_) rfl (by kernel_rfl) (by kernel_rfl) (by kernel_rfl) (fun _ _ _ h => h) (Or.inl ⟨by rfl, ?_⟩) hHeld ?_
          rotate_left 1
          · intro w hSw; (try dsimp only at hSw); go_simp; try with_reducible rfl
          refine wpAnyH_take (i := 4) (v := ?_) rfl (by kernel_rfl) (by kernel_rfl) (by kernel_rfl) (fun _ _ _ h => h) (Or.inl ⟨by rfl, ?_⟩) hHeld ?_
          rotate_left 1
          · intro w hSw; (try dsimp only at hSw); go_simp; try with_reducible rfl
          refine wpAnyH_take (i := 5) (v := ?_) rfl (by kernel_rfl) (by kernel_rfl) (by kernel_rfl) (fun _ _ _ h => h) (Or.inl ⟨by rfl, ?_⟩) hHeld ?_
          rotate_left 1
          · intro w hSw; (try dsimp only at hSw); go_simp; try with_reducible rfl
          refine wpAnyH_take (i := 6) (v := ?_) rfl (by kernel_rfl) (by kernel_rfl) (by kernel_rfl) (fun _ _ _ h => h) (Or.inl ⟨by rfl, ?_⟩) hHeld ?_
          rotate_left 1
          · intro w hSw; (try dsimp only at hSw); go_simp; try with_reducible rfl
          refine wpAnyH_take (i := 7) (v := ?_) rfl (by kernel_rfl) (by kernel_rfl) (by kernel_rfl) (fun _ _ _ h => h) (Or.inl ⟨by rfl, ?_⟩) hHeld ?_
          rotate_left 1
          · intro w hSw; (try dsimp only at hSw); go_simp; try with_reducible rfl
          refine wpAnyH_take (i := 8) (v := ?_) rfl (by kernel_rfl) (by kernel_rfl) (by kernel_rfl) (fun _ _ _ h => h) (Or.inl ⟨by rfl, ?_⟩) hHeld ?_
          rotate_left 1
          · intro w hSw; (try dsimp only at hSw); go_simp; try with_reducible rfl
          refine wpAnyH_ready (rs := [9]) (by kernel_rfl) (by simp) (AllReadyH.cons rfl (fun K hK => ?_) (AllReadyH.nil))
          · go_simp
            refine hK.out _ _ (HS9.out _ (fun b hb => Below.heap_alloc _ _ _ hb)) (fun hHeld => ?_)
            clear hK K
            refine wpAnyH_ready (rs := [10]) (by kernel_rfl) (by simp) (AllReadyH.cons rfl (fun K hK => ?_) (AllReadyH.nil))
            · go_simp
              refine hK.out _ _ (HS9.out _ (fun b hb => Below.heap_alloc _ _ _ hb)) (fun hHeld => ?_)
              clear hK K
              refine wpAnyH_ready (rs := [11]) (by kernel_rfl) (by simp) (AllReadyH.cons rfl (fun K hK => ?_) (AllReadyH.nil))
              · go_simp
                refine hK.out _ _ (HS9.out _ (fun b hb => Below.heap_alloc _ _ _ hb)) (fun hHeld => ?_)
                clear hK K
                refine wpAnyH_done (by kernel_rfl) ?_ _
                gi_wp2
                exact ⟨rfl, (HT9.out _).size, fun b hb => (HT9.out _).block b (by omega) (fun h => h), HF.out.turns hw4 (by omega) (by omega) (by omega) (fun _ h => h.elim) (HT9.out _)⟩
        | false =>
          have hxr := HKN.out.2 rfl
          have HXR := hide hxr
          clear hxr
          refine region_round_held (S := fun w' : World => w'.cell? ⟨h + 2, 0, none⟩ = some (.slice (some ⟨h + 1, 0, none⟩) g.length g.length) ∧ w'.cell? ⟨h + 1, x, none⟩ = some (.map m) ∧ w'.cell? ⟨Bt, 0, none⟩ = some (.int .i64 (t : Int)) ∧ (Instr.lookup 51 (.map m) (.int .i64 (t : Int)) true).run Try.prog w' = .ok (.tuple #[.agg #[], .bool false]) w') (by kernel_rfl) (by kernel_rfl) (by rintro ⟨a, w, h⟩; exact h) (HS9.out _ (fun b _ => rfl)) ?_
          intro hHeld
          refine wpAnyH_take (i := 0) (v := ?_) rfl (by kernel_rfl) (by kernel_rfl) (by kernel_rfl) (fun _ _ _ h => h) (Or.inl ⟨by rfl, ?_⟩) hHeld ?_
          rotate_left 1
          · intro w hSw; (try dsimp only at hSw); go_simp; try with_reducible rfl
          refine wpAnyH_take (i := 1) (v := ?_) rfl (by kernel_rfl) (by kernel_rfl) (by kernel_rfl) (fun _ _ _ h => h) (Or.inl ⟨by rfl, ?_⟩) hHeld ?_
          rotate_left 1
          · intro w hSw; (try dsimp only at hSw); go_simp; try with_reducible rfl
          refine wpAnyH_take (i := 2) (v := ?_) rfl (by kernel_rfl) (by kernel_rfl) (by kernel_rfl) (fun _ _ _ h => h) (Or.inl ⟨by rfl, ?_⟩) hHeld ?_
          rotate_left 1
          · intro w hSw; (try dsimp only at hSw); go_simp; try with_reducible rfl
          refine wpAnyH_take (i := 3) (v := ?_) rfl (by kernel_rfl) (by kernel_rfl) (by kernel_rfl) (fun _ _ _ h => h) (Or.inl ⟨by rfl, ?_⟩) hHeld ?_
          rotate_left 1
          · intro w hSw; (try dsimp only at hSw); go_simp; try with_reducible rfl
          refine wpAnyH_take (i := 4) (v := ?_) rfl (by kernel_rfl) (by kernel_rfl) (by kernel_rfl) (fun _ _ _ h => h) (Or.inl ⟨by rfl, ?_⟩) hHeld ?_
          rotate_left 1
          · intro w hSw; (try dsimp only at hSw); go_simp; try with_reducible rfl
          refine wpAnyH_take (i := 5) (v := ?_) rfl (by kernel_rfl) (by kernel_rfl) (by kernel_rfl) (fun _ _ _ h => h) (Or.inl ⟨by rfl, ?_⟩) hHeld ?_
          rotate_left 1
          · intro w hSw; (try dsimp only at hSw); go_simp; try with_reducible rfl
          refine wpAnyH_take (i := 6) (v := ?_) rfl (by kernel_rfl) (by kernel_rfl) (by kernel_rfl) (fun _ _ _ h => h) (Or.inl ⟨by rfl, ?_⟩) hHeld ?_
          rotate_left 1
          · intro w hSw; (try dsimp only at hSw); go_simp; try with_reducible rfl
          refine wpAnyH_take (i := 7) (v := ?_) rfl (by kernel_rfl) (by kernel_rfl) (by kernel_rfl) (fun _ _ _ h => h) (Or.inl ⟨by rfl, ?_⟩) hHeld ?_
          rotate_left 1
          · intro w hSw; (try dsimp only at hSw); go_simp; try with_reducible rfl
          refine wpAnyH_take (i := 8) (v := ?_) rfl (by kernel_rfl) (by kernel_rfl) (by kernel_rfl) (fun _ _ _ h => h) (Or.inl ⟨by rfl, ?_⟩) hHeld ?_
          rotate_left 1
          · intro w hSw; (try dsimp only at hSw); go_simp; try with_reducible rfl
          refine wpAnyH_ready (rs := [9]) (by kernel_rfl) (by simp) (AllReadyH.cons rfl (fun K hK => ?_) (AllReadyH.nil))
          · go_simp
            refine hK.out _ _ (HS9.out _ (fun b hb => Below.heap_alloc _ _ _ hb)) (fun hHeld => ?_)
            clear hK K
            refine wpAnyH_ready (rs := [10]) (by kernel_rfl) (by simp) (AllReadyH.cons rfl (fun K hK => ?_) (AllReadyH.nil))
            · go_simp
              refine hK.out _ _ (HS9.out _ (fun b hb => Below.heap_alloc _ _ _ hb)) (fun hHeld => ?_)
              clear hK K
              refine wpAnyH_ready (rs := [11]) (by kernel_rfl) (by simp) (AllReadyH.cons rfl (fun K hK => ?_) (AllReadyH.nil))
              · go_simp
                refine hK.out _ _ (HS9.out _ (fun b hb => Below.heap_alloc _ _ _ hb)) (fun hHeld => ?_)
                clear hK K
                refine wpAnyH_done (by kernel_rfl) ?_ _
                have hTd := HT9.out (.cells #[] 54)
                have hSd := HS9.out _ (fun b hb => hTd.block b hb (fun h => h))
                have hJd := HJ.out.turns hw4 (by omega) (by omega) (by omega) (fun _ h => h.elim) hTd
                have hzd : (Wc.alloc (.cells #[] 54)).drew.heap.size = Wc.heap.size + 1 := by simp [World.drew]
                clear hHeld
                generalize (Wc.alloc (.cells #[] 54)).drew = Wd at *
                obtain ⟨d1, d2, d3, -⟩ := hSd
                have HTD := hide hTd
                have hzl : Bt + 4 ≤ Wd.heap.size := by omega
                have hzl2 : Wc.heap.size ≤ Wd.heap.size := by omega
                clear hzd
                have HJD := hide hJd
                clear hTd hJd HT9 HS9 HJ
                cases m with
                | none =>
                  have hmm := @run_makeMap Try.prog
                  have hen := eql_none Wd
                  obtain ⟨hfz, hcz, hJm, hcm, hTm⟩ := HJD.out.make (by omega) (by omega) (by omega) (by omega) hxl (by omega) d2
                  have HFZ := hide (And.intro hfz hcz)
                  have m1 := (World.cell?_of_block (a := ⟨h + 2, 0, none⟩) (hTm.block (h + 2) (by omega) (by omega))).trans d1
                  have m3 := (World.cell?_of_block (a := ⟨Bt, 0, none⟩) (hTm.block Bt (by omega) (by omega))).trans d3
                  have hzm := hTm.size
                  have HTM := hide hTm
                  have HJM := hide hJm
                  have HM := hide (And.intro m1 (And.intro hcm m3))
                  clear hfz hcz hJm hcm hTm m1 m3
                  generalize hwm : (Wd.alloc (.map #[] 0)).setCell ⟨h + 1, x, none⟩ (.map (some Wd.heap.size)) = Wm at *
                  have HWM := hide hwm
                  clear hwm
                  obtain ⟨z1, z2⟩ := HFZ.out
                  gi_wp2
                  rw [HWM.out]
                  clear z1 z2 d1 d2 d3
                  obtain ⟨d1, d2, d3⟩ := HM.out
                  generalize hbz : Wd.heap.size = b at *
                  have HBZ := hide hbz
                  clear hbz
                  obtain ⟨W', hrun, hJn, hsn, hA, hbk⟩ := HJM.out.put hw4 (by omega) (by omega) hxl htb HXR.out HNE.out d2
                  have HU := hide hrun
                  have HS0 : Hid (Wm.drew.cell? ⟨h + 2, 0, none⟩ = some (.slice (some ⟨h + 1, 0, none⟩) g.length g.length) ∧ Wm.drew.cell? ⟨h + 1, x, none⟩ = some (.map (some b)) ∧ Wm.drew.cell? ⟨Bt, 0, none⟩ = some (.int .i64 (t : Int))) := ⟨d1, d2, d3⟩
                  have HS13 : Hid (W'.cell? ⟨h + 2, 0, none⟩ = some (.slice (some ⟨h + 1, 0, none⟩) g.length g.length) ∧ W'.cell? ⟨h + 1, x, none⟩ = some (.map (some b)) ∧ W'.cell? ⟨Bt, 0, none⟩ = some (.int .i64 (t : Int))) := ⟨(World.cell?_of_block (hbk (h + 2) (by omega) (by omega))).trans d1, (World.cell?_of_block (hbk (h + 1) (by omega) (by omega))).trans d2, (World.cell?_of_block (hbk Bt (by omega) (by omega))).trans d3⟩
                  have HFIN2 : Hid (Wc.heap.size ≤ W'.heap.size ∧ (∀ c, c = Bt + 1 + 1 ∨ c = w5.heap.size → W'.heap[c]? = Wc.heap[c]?) ∧ FJ g d w w4 w5 h Bt f t (r ++ [x]) W') := ⟨by omega, fun c hc => (hbk c (by omega) (by omega)).trans ((HTM.out.block c (by have := HBZ.out; omega) (by omega)).trans (HTD.out.block c (by omega) (fun h => h))), hJn⟩
                  clear hrun hJn hsn hA hbk HWM HM HFZ
                  refine region_round_held (S := fun w' : World => w'.cell? ⟨h + 2, 0, none⟩ = some (.slice (some ⟨h + 1, 0, none⟩) g.length g.length) ∧ w'.cell? ⟨h + 1, x, none⟩ = some (.map (some b)) ∧ w'.cell? ⟨Bt, 0, none⟩ = some (.int .i64 (t : Int))) (by kernel_rfl) (by kernel_rfl) (by rintro ⟨a, w, h⟩; exact h) HS0.out ?_
                  intro hHeld
                  refine wpAnyH_take (i := 0) (v := ?_) rfl (by kernel_rfl) (by kernel_rfl) (by kernel_rfl) (fun _ _ _ h => h) (Or.inl ⟨by rfl, ?_⟩) hHeld ?_
                  rotate_left 1
                  · intro w hSw; (try dsimp only at hSw); go_simp; try with_reducible rfl
                  refine wpAnyH_take (i := 1) (v := ?_) rfl (by kernel_rfl) (by kernel_rfl) (by kernel_rfl) (fun _ _ _ h => h) (Or.inl ⟨by rfl, ?_⟩) hHeld ?_
                  rotate_left 1
                  · intro w hSw; (try dsimp only at hSw); go_simp; try with_reducible rfl
                  refine wpAnyH_take (i := 2) (v := ?_) rfl (by kernel_rfl) (by kernel_rfl) (by kernel_rfl) (fun _ _ _ h => h) (Or.inl ⟨by rfl, ?_⟩) hHeld ?_
                  rotate_left 1
                  · intro w hSw; (try dsimp only at hSw); go_simp; try with_reducible rfl
                  refine wpAnyH_take (i := 3) (v := ?_) rfl (by kernel_rfl) (by kernel_rfl) (by kernel_rfl) (fun _ _ _ h => h) (Or.inl ⟨by rfl, ?_⟩) hHeld ?_
                  rotate_left 1
                  · intro w hSw; (try dsimp only at hSw); go_simp; try with_reducible rfl
                  refine wpAnyH_take (i := 4) (v := ?_) rfl (by kernel_rfl) (by kernel_rfl) (by kernel_rfl) (fun _ _ _ h => h) (Or.inl ⟨by rfl, ?_⟩) hHeld ?_
                  rotate_left 1
                  · intro w hSw; (try dsimp only at hSw); go_simp; try with_reducible rfl
                  refine wpAnyH_take (i := 5) (v := ?_) rfl (by kernel_rfl) (by kernel_rfl) (by kernel_rfl) (fun _ _ _ h => h) (Or.inl ⟨by rfl, ?_⟩) hHeld ?_
                  rotate_left 1
                  · intro w hSw; (try dsimp only at hSw); go_simp; try with_reducible rfl
                  refine wpAnyH_all (rs := [6]) (by kernel_rfl) (by simp) ?_
                  intro i hi
                  obtain rfl : i = 6 := by simpa using hi
                  refine wpOp_step (o := { dst := none, op := Op.mapUpdate 51 (Operand.tmp 53) (Operand.tmp 54) (Operand.tmp 55), type := 0, pos := "dom.go:175", after := #[{ on := 3, ground := Ground.data }, { on := 4, ground := Ground.data }, { on := 5, ground := Ground.data }, { on := 0, ground := Ground.phase }, { on := 1, ground := Ground.phase }, { on := 2, ground := Ground.phase }, { on := 3, ground := Ground.phase }, { on := 4, ground := Ground.phase }, { on := 5, ground := Ground.phase }], guard := none }) rfl (fun K hK => ?_)
                  have HK2 := hide hK
                  clear hK
                  have hU := HU.out
                  go_simp
                  refine HK2.out _ _ ⟨HS13.out, ?_⟩
                  clear HK2 hU
                  refine wpAnyH_done (by kernel_rfl) ?_ _
                  gi_wp2
                  exact HFIN2.out
                | some b =>
                  obtain ⟨W', hrun, hJn, hsn, hA, hbk⟩ := HJD.out.put hw4 (by omega) (by omega) hxl htb HXR.out HNE.out d2
                  have HU := hide hrun
                  have HS0 : Hid (Wd.drew.cell? ⟨h + 2, 0, none⟩ = some (.slice (some ⟨h + 1, 0, none⟩) g.length g.length) ∧ Wd.drew.cell? ⟨h + 1, x, none⟩ = some (.map (some b)) ∧ Wd.drew.cell? ⟨Bt, 0, none⟩ = some (.int .i64 (t : Int))) := ⟨d1, d2, d3⟩
                  have HS13 : Hid (W'.cell? ⟨h + 2, 0, none⟩ = some (.slice (some ⟨h + 1, 0, none⟩) g.length g.length) ∧ W'.cell? ⟨h + 1, x, none⟩ = some (.map (some b)) ∧ W'.cell? ⟨Bt, 0, none⟩ = some (.int .i64 (t : Int))) := ⟨(World.cell?_of_block (hbk (h + 2) (by omega) (by omega))).trans d1, (World.cell?_of_block (hbk (h + 1) (by omega) (by omega))).trans d2, (World.cell?_of_block (hbk Bt (by omega) (by omega))).trans d3⟩
                  have HFIN2 : Hid (Wc.heap.size ≤ W'.heap.size ∧ (∀ c, c = Bt + 1 + 1 ∨ c = w5.heap.size → W'.heap[c]? = Wc.heap[c]?) ∧ FJ g d w w4 w5 h Bt f t (r ++ [x]) W') := ⟨by omega, fun c hc => (hbk c (by omega) (by omega)).trans (HTD.out.block c (by omega) (fun h => h)), hJn⟩
                  clear hrun hJn hsn hA hbk
                  have hen := eql_some b Wd
                  gi_wp2
                  refine region_round_held (S := fun w' : World => w'.cell? ⟨h + 2, 0, none⟩ = some (.slice (some ⟨h + 1, 0, none⟩) g.length g.length) ∧ w'.cell? ⟨h + 1, x, none⟩ = some (.map (some b)) ∧ w'.cell? ⟨Bt, 0, none⟩ = some (.int .i64 (t : Int))) (by kernel_rfl) (by kernel_rfl) (by rintro ⟨a, w, h⟩; exact h) HS0.out ?_
                  intro hHeld
                  refine wpAnyH_take (i := 0) (v := ?_) rfl (by kernel_rfl) (by kernel_rfl) (by kernel_rfl) (fun _ _ _ h => h) (Or.inl ⟨by rfl, ?_⟩) hHeld ?_
                  rotate_left 1
                  · intro w hSw; (try dsimp only at hSw); go_simp; try with_reducible rfl
                  refine wpAnyH_take (i := 1) (v := ?_) rfl (by kernel_rfl) (by kernel_rfl) (by kernel_rfl) (fun _ _ _ h => h) (Or.inl ⟨by rfl, ?_⟩) hHeld ?_
                  rotate_left 1
                  · intro w hSw; (try dsimp only at hSw); go_simp; try with_reducible rfl
                  refine wpAnyH_take (i := 2) (v := ?_) rfl (by kernel_rfl) (by kernel_rfl) (by kernel_rfl) (fun _ _ _ h => h) (Or.inl ⟨by rfl, ?_⟩) hHeld ?_
                  rotate_left 1
                  · intro w hSw; (try dsimp only at hSw); go_simp; try with_reducible rfl
                  refine wpAnyH_take (i := 3) (v := ?_) rfl (by kernel_rfl) (by kernel_rfl) (by kernel_rfl) (fun _ _ _ h => h) (Or.inl ⟨by rfl, ?_⟩) hHeld ?_
                  rotate_left 1
                  · intro w hSw; (try dsimp only at hSw); go_simp; try with_reducible rfl
                  refine wpAnyH_take (i := 4) (v := ?_) rfl (by kernel_rfl) (by kernel_rfl) (by kernel_rfl) (fun _ _ _ h => h) (Or.inl ⟨by rfl, ?_⟩) hHeld ?_
                  rotate_left 1
                  · intro w hSw; (try dsimp only at hSw); go_simp; try with_reducible rfl
                  refine wpAnyH_take (i := 5) (v := ?_) rfl (by kernel_rfl) (by kernel_rfl) (by kernel_rfl) (fun _ _ _ h => h) (Or.inl ⟨by rfl, ?_⟩) hHeld ?_
                  rotate_left 1
                  · intro w hSw; (try dsimp only at hSw); go_simp; try with_reducible rfl
                  refine wpAnyH_all (rs := [6]) (by kernel_rfl) (by simp) ?_
                  intro i hi
                  obtain rfl : i = 6 := by simpa using hi
                  refine wpOp_step (o := { dst := none, op := Op.mapUpdate 51 (Operand.tmp 53) (Operand.tmp 54) (Operand.tmp 55), type := 0, pos := "dom.go:175", after := #[{ on := 3, ground := Ground.data }, { on := 4, ground := Ground.data }, { on := 5, ground := Ground.data }, { on := 0, ground := Ground.phase }, { on := 1, ground := Ground.phase }, { on := 2, ground := Ground.phase }, { on := 3, ground := Ground.phase }, { on := 4, ground := Ground.phase }, { on := 5, ground := Ground.phase }], guard := none }) rfl (fun K hK => ?_)
                  have HK2 := hide hK
                  clear hK
                  have hU := HU.out
                  go_simp
                  refine HK2.out _ _ ⟨HS13.out, ?_⟩
                  clear HK2 hU
                  refine wpAnyH_done (by kernel_rfl) ?_ _
                  gi_wp2
                  exact HFIN2.out
end Go.Proofs.Ytonoeodlchkiaaa
