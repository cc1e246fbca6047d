/-
  The small case of the laws of layer 6.
-/
import Derived.Test.YtchnjjdhffmkpaaSame
namespace Go.Proofs.Ytchnjjdhffmkpaa
open Go.ChangeShapes Go.WideShapes Go.ChangeAt Go.RowKit Go.Shelf

def g0 : List (List Nat) := [[1, 2], [3], [3], [0]]
theorem g0_right : Right g0 := by
  refine ⟨by decide, by decide, fun b => ?_, fun b t ht => ?_⟩
  · by_cases h : b < 4
    · have : b = 0 ∨ b = 1 ∨ b = 2 ∨ b = 3 := by omega
      rcases this with rfl | rfl | rfl | rfl <;> decide
    · rw [getD_ge g0 b (by show 4 ≤ b; omega)]; exact Nat.zero_le _
  · by_cases h : b < 4
    · have : b = 0 ∨ b = 1 ∨ b = 2 ∨ b = 3 := by omega
      rcases this with rfl | rfl | rfl | rfl <;> simp [g0] at ht ⊢ <;> omega
    · rw [getD_ge g0 b (by show 4 ≤ b; omega)] at ht; cases ht
theorem g0_walk : Walk g0 [0] (List.replicate 4 false) [true, true, true, true] [3, 1, 2, 0] :=
  .go (b := 0) (o1 := [3, 1, 2]) (o2 := []) rfl (.go (b := 1) (o1 := [3]) (o2 := [2]) rfl (.go (b := 3) (o1 := []) (o2 := []) rfl (.skip rfl (.nil _)) (.nil _)) (.go (b := 2) (o1 := []) (o2 := []) rfl (.skip rfl (.nil _)) (.nil _))) (.nil _)
theorem g0_back : backL (plc [3, 1, 2, 0].reverse) g0 = [(3, 0)] := by decide
theorem g0_preds : predsL g0 = [[3], [0], [0], [1, 2]] := by decide
theorem g0_crit : critL g0 = [] := by decide
theorem g0_loopw : Walk [[3], [0], [0], [1, 2]] [3] [true, false, false, false] [true, true, true, true] [1, 2, 3] :=
  .go (b := 3) (o1 := [1, 2]) (o2 := []) rfl (.go (b := 1) (o1 := []) (o2 := [2]) rfl (.skip rfl (.nil _)) (.go (b := 2) (o1 := []) (o2 := []) rfl (.skip rfl (.nil _)) (.nil _))) (.nil _)
theorem g0_loops : loopsTo g0 [3, 1, 2, 0] 4 = [[0, 1, 2, 3]] := by
  unfold loopsTo
  rw [g0_back, g0_preds]
  have h0 : aheadL [(3, 0)] 0 = [3] := by decide
  have h1 : aheadL [(3, 0)] 1 = [] := by decide
  have h2 : aheadL [(3, 0)] 2 = [] := by decide
  have h3 : aheadL [(3, 0)] 3 = [] := by decide
  have hr : loopRow [[3], [0], [0], [1, 2]] 0 [3] [3, 1, 2, 0] = [0, 1, 2, 3] := by
    unfold loopRow
    rw [show (List.replicate [[3], [0], [0], [1, 2]].length false).set 0 true = [true, false, false, false] from rfl, g0_loopw.out]
    decide
  rw [show List.range 4 = [0, 1, 2, 3] from rfl]
  simp only [List.flatMap_cons, List.flatMap_nil, h0, h1, h2, h3, hr]
  rfl

theorem bel_new (w : World) (o : Obj) : Below w.heap.size w (w.alloc o) := (Below.refl _ w).alloc (Nat.le_refl _) _
theorem bel_two {a b c : World} (h1 : Below a.heap.size a b) (h2 : Below b.heap.size b c) : Below a.heap.size a c := h1.trans (h2.mono h1.size)
theorem bel_q {a : World} {w' : World} (h : ∃ q, w' = a.drewN q) : Below a.heap.size a w' := by obtain ⟨q, rfl⟩ := h; exact below_drewN (Below.refl _ _) q

/-- The heads of a graph in blocks of its own. -/
def hdAt (h : Nat) (g : List (List Int)) (b : Nat) : Hdr := ⟨some ⟨h + b, 0, none⟩, (g.getD b []).length, h + b, 0⟩
/-- A graph in blocks of its own. -/
theorem gat_lit {W : World} {h Bo : Nat} {g : List (List Int)} (hr : ∀ b, b < g.length → W.heap[h + b]? = some (.cells ((g.getD b []).map (Value.int .i64)).toArray 3 (0, 0)))
    (ho : W.heap[Bo]? = some (.cells ((List.range g.length).map fun b => Value.slice (some ⟨h + b, 0, none⟩) (g.getD b []).length (g.getD b []).length).toArray 27 (0, 0))) : GAt W (some ⟨Bo, 0, none⟩) Bo 0 (hdAt h g) g :=
  ⟨fun _ => rfl, fun _ => lt_of ho, fun b hb => by rw [cell_of ho, Nat.zero_add]; simp [hb, hdAt], fun b hb _ => rfl, fun b hb _ => lt_of (hr b hb), fun b hb => Nat.le_refl _, fun b k hb hk => by
    show W.cell? ⟨h + b, 0 + k, none⟩ = _
    rw [cell_of (hr b hb), Nat.zero_add, List.getElem?_toArray, List.getElem?_map, List.getD_eq_getElem?_getD (l := g.getD b []), List.getElem?_eq_getElem hk]; rfl⟩

theorem RowN.shape {W : World} {v : Value} {xs : List Int} (h : RowN W v xs) : ∃ av cap, v = .slice av xs.length cap := by
  obtain ⟨av, cap, _, _, h, _⟩ := h; exact ⟨av, cap, h⟩
theorem PairN.shape {W : World} {v : Value} {xs : List (Nat × Nat)} (h : PairN W v xs) : ∃ av cap, v = .slice av xs.length cap := by
  obtain ⟨av, cap, _, h, _⟩ := h; exact ⟨av, cap, h⟩
theorem RowsN.shape {W : World} {v : Value} {xs : List (List Int)} (h : RowsN W v xs) : ∃ av cap, v = .slice av xs.length cap := by
  obtain ⟨av, cap, _, _, h, _⟩ := h; exact ⟨av, cap, h⟩
theorem heap2 (w : World) (A B : Obj) : Below w.heap.size w ((w.alloc A).alloc B) ∧ ((w.alloc A).alloc B).heap[w.heap.size]? = some A ∧ ((w.alloc A).alloc B).heap[w.heap.size + 1]? = some B := by
  refine ⟨(bel_new w A).alloc (by simp) _, (Below.heap_alloc _ _ _ (by simp)).trans (World.alloc_heap_new w A), ?_⟩
  have := World.alloc_heap_new (w.alloc A) B
  rwa [World.size_alloc] at this
theorem heap5 (w : World) (A B C D E : Obj) : Below w.heap.size w (((((w.alloc A).alloc B).alloc C).alloc D).alloc E) ∧ (((((w.alloc A).alloc B).alloc C).alloc D).alloc E).heap[w.heap.size]? = some A ∧ (((((w.alloc A).alloc B).alloc C).alloc D).alloc E).heap[w.heap.size + 1]? = some B ∧ (((((w.alloc A).alloc B).alloc C).alloc D).alloc E).heap[w.heap.size + 2]? = some C ∧ (((((w.alloc A).alloc B).alloc C).alloc D).alloc E).heap[w.heap.size + 3]? = some D ∧ (((((w.alloc A).alloc B).alloc C).alloc D).alloc E).heap[w.heap.size + 4]? = some E := by
  obtain ⟨h1, h2, h3⟩ := heap2 w A B
  obtain ⟨k1, k2, k3⟩ := heap2 ((w.alloc A).alloc B) C D
  have hs : ((w.alloc A).alloc B).heap.size = w.heap.size + 2 := by simp
  rw [hs] at k1 k2 k3
  have hs4 : ((((w.alloc A).alloc B).alloc C).alloc D).heap.size = w.heap.size + 4 := by simp
  have kE := World.alloc_heap_new ((((w.alloc A).alloc B).alloc C).alloc D) E
  rw [hs4] at kE
  have hE : ∀ b, b < w.heap.size + 4 → (((((w.alloc A).alloc B).alloc C).alloc D).alloc E).heap[b]? = ((((w.alloc A).alloc B).alloc C).alloc D).heap[b]? := fun b hb => Below.heap_alloc _ _ _ (by omega)
  refine ⟨(h1.trans (k1.mono (by omega))).alloc (by omega) _, ?_, ?_, ?_, ?_, kE⟩
  · rw [hE _ (by omega), k1.block _ (by omega)]; exact h2
  · rw [hE _ (by omega), k1.block _ (by omega)]; exact h3
  · rw [hE _ (by omega)]; exact k2
  · rw [hE _ (by omega)]; exact k3
/-- Four rows in five blocks. -/
theorem lit4 (w : World) (r0 r1 r2 r3 : List Int) :
    Below w.heap.size w (((((w.alloc (.cells (r0.map (Value.int .i64)).toArray 3)).alloc (.cells (r1.map (Value.int .i64)).toArray 3)).alloc (.cells (r2.map (Value.int .i64)).toArray 3)).alloc (.cells (r3.map (Value.int .i64)).toArray 3)).alloc (.cells #[.slice (some ⟨w.heap.size, 0, none⟩) r0.length r0.length, .slice (some ⟨w.heap.size + 1, 0, none⟩) r1.length r1.length, .slice (some ⟨w.heap.size + 1 + 1, 0, none⟩) r2.length r2.length, .slice (some ⟨w.heap.size + 1 + 1 + 1, 0, none⟩) r3.length r3.length] 27)) ∧
    GAt (((((w.alloc (.cells (r0.map (Value.int .i64)).toArray 3)).alloc (.cells (r1.map (Value.int .i64)).toArray 3)).alloc (.cells (r2.map (Value.int .i64)).toArray 3)).alloc (.cells (r3.map (Value.int .i64)).toArray 3)).alloc (.cells #[.slice (some ⟨w.heap.size, 0, none⟩) r0.length r0.length, .slice (some ⟨w.heap.size + 1, 0, none⟩) r1.length r1.length, .slice (some ⟨w.heap.size + 1 + 1, 0, none⟩) r2.length r2.length, .slice (some ⟨w.heap.size + 1 + 1 + 1, 0, none⟩) r3.length r3.length] 27)) (some ⟨w.heap.size + 1 + 1 + 1 + 1, 0, none⟩) (w.heap.size + 1 + 1 + 1 + 1) 0 (hdAt w.heap.size [r0, r1, r2, r3]) [r0, r1, r2, r3] := by
  obtain ⟨hb, k0, k1, k2, k3, k4⟩ := heap5 w (.cells (r0.map (Value.int .i64)).toArray 3) (.cells (r1.map (Value.int .i64)).toArray 3) (.cells (r2.map (Value.int .i64)).toArray 3) (.cells (r3.map (Value.int .i64)).toArray 3) (.cells #[.slice (some ⟨w.heap.size, 0, none⟩) r0.length r0.length, .slice (some ⟨w.heap.size + 1, 0, none⟩) r1.length r1.length, .slice (some ⟨w.heap.size + 1 + 1, 0, none⟩) r2.length r2.length, .slice (some ⟨w.heap.size + 1 + 1 + 1, 0, none⟩) r3.length r3.length] 27)
  refine ⟨hb, gat_lit (fun b hb => ?_) k4⟩
  have : b = 0 ∨ b = 1 ∨ b = 2 ∨ b = 3 := by simp at hb; omega
  rcases this with rfl | rfl | rfl | rfl
  · exact k0
  · exact k1
  · exact k2
  · exact k3

set_option maxRecDepth 100000 in
set_option maxHeartbeats 4000000 in
theorem small_is (w : World) : Calls Try.prog 9 #[] w fun e w' => e = .returned (.bool true) ∧ Below w.heap.size w w' := by
  go_enter Try.func9, Try.ntmps9
  obtain ⟨hb1, hG1⟩ := lit4 w [1, 2] [3] [3] [0]
  have HB1 := hide hb1
  have HG1 := hide hG1
  clear hb1 hG1
  go_wp2_with fail
  simp only [List.map_cons, List.map_nil, List.length_cons, List.length_nil, Nat.zero_add, Nat.reduceAdd] at HB1 HG1
  generalize (((((w.alloc (.cells #[.int .i64 1, .int .i64 2] 3)).alloc (.cells #[.int .i64 3] 3)).alloc (.cells #[.int .i64 3] 3)).alloc (.cells #[.int .i64 0] 3)).alloc (.cells #[.slice (some ⟨w.heap.size, 0, none⟩) 2 2, .slice (some ⟨w.heap.size + 1, 0, none⟩) 1 1, .slice (some ⟨w.heap.size + 1 + 1, 0, none⟩) 1 1, .slice (some ⟨w.heap.size + 1 + 1 + 1, 0, none⟩) 1 1] 27)) = w1 at *
  have hB1 := HB1.out
  have hG1 : GAt w1 (some ⟨w.heap.size + 1 + 1 + 1 + 1, 0, none⟩) (w.heap.size + 1 + 1 + 1 + 1) 0 (hdAt w.heap.size [[1, 2], [3], [3], [0]]) (castG g0) := HG1.out
  clear HB1 HG1
  generalize hdAt w.heap.size [[1, 2], [3], [3], [0]] = hd at *
  generalize w.heap.size + 1 + 1 + 1 + 1 = B at *
  have hr := right_any _ 4 B 0 hd (castG g0) w1 hG1
  rw [rightB_true.2 g0_right.toI] at hr
  refine hr.mono ?_
  rintro e w2 ⟨rfl, hb2⟩
  clear hr
  have hB2 := bel_two hB1 hb2
  have hG2 := hG1.below hb2
  have ho := order_is _ 4 B 0 hd g0 g0_right w2 hG2
  go_wp2_with fail
  refine ho.mono ?_
  rintro e w3 ⟨hb3, v, m', o, rfl, hov, hw⟩
  clear ho
  obtain rfl := (hw.det g0_walk).2
  have hv3 : RowN w3 v [0, 2, 1, 3] := RowN.of_owns hov
  clear hov hw
  have hB3 := bel_two hB2 hb3
  have hG3 := hG2.below hb3
  have k4 := World.alloc_heap_new w3 (.cells #[.int .i64 0, .int .i64 2, .int .i64 1, .int .i64 3] 3)
  have hn4 : RowN (w3.alloc (.cells #[.int .i64 0, .int .i64 2, .int .i64 1, .int .i64 3] 3)) (.slice (some ⟨w3.heap.size, 0, none⟩) 4 4) [0, 2, 1, 3] := RowN.of_block k4 rfl
  have HI := hide (ints_same (W := w3.alloc (.cells #[.int .i64 0, .int .i64 2, .int .i64 1, .int .i64 3] 3)) (xs := [0, 2, 1, 3]) (by decide) (hv3.below (bel_new w3 _)) hn4)
  obtain ⟨av3, cp3, hv3e⟩ := hv3.shape
  subst hv3e
  clear hn4 k4 hv3
  go_wp2_with fail
  refine HI.out.mono ?_
  clear HI
  rintro e w5 ⟨rfl, hq5⟩
  have hb5 := bel_two (bel_new w3 _) (bel_q hq5)
  clear hq5
  have hB5 := bel_two hB3 hb5
  have hG5 := hG3.below hb5
  clear hb5
  have hbk := back_is _ 4 B 0 hd g0 g0_right w5 hG5
  go_wp2_with fail
  refine hbk.mono ?_
  rintro e w6 ⟨hb6, v, m', o, rfl, hw, hov⟩
  clear hbk
  obtain rfl := (hw.det g0_walk).2
  rw [g0_back] at hov
  have hv6 := PairN.of_owns hov
  clear hov hw
  have hB6 := bel_two hB5 hb6
  have hG6 := hG5.below hb6
  have k7 := World.alloc_heap_new w6 (.cells #[.int .i64 3, .int .i64 0] 37)
  have hn7 : PairN (w6.alloc (.cells #[.int .i64 3, .int .i64 0] 37)) (.slice (some ⟨w6.heap.size, 0, none⟩) 1 1) [(3, 0)] := ⟨_, 1, w6.heap.size, rfl, fun _ => ⟨rfl, by simp⟩, fun k hk => by
    obtain rfl : k = 0 := by simpa using hk
    exact ⟨cell_of k7 0, cell_of k7 1⟩⟩
  have HI := hide (pairs_same (W := w6.alloc (.cells #[.int .i64 3, .int .i64 0] 37)) (l := [(3, 0)]) (by decide) (hv6.below (bel_new w6 _)) hn7)
  obtain ⟨av6, cp6, hv6e⟩ := hv6.shape
  subst hv6e
  clear hn7 k7 hv6
  go_wp2_with fail
  refine HI.out.mono ?_
  clear HI
  rintro e w8 ⟨rfl, hq8⟩
  have hb8 := bel_two (bel_new w6 _) (bel_q hq8)
  clear hq8
  have hB8 := bel_two hB6 hb8
  have hG8 := hG6.below hb8
  clear hb8
  have hlp := loops_is _ 4 B 0 hd g0 g0_right w8 hG8
  go_wp2_with fail
  refine hlp.mono ?_
  rintro e w9 ⟨hb9, v, m', o, rfl, hw, hov⟩
  clear hlp
  obtain rfl := (hw.det g0_walk).2
  rw [show g0.length = 4 from rfl, g0_loops] at hov
  have hv9 := RowsN.of_rowsR hov
  clear hov hw
  have hB9 := bel_two hB8 hb9
  have hG9 := hG8.below hb9
  obtain ⟨hb10, k10, k11⟩ := heap2 w9 (.cells #[.int .i64 0, .int .i64 1, .int .i64 2, .int .i64 3] 3) (.cells #[.slice (some ⟨w9.heap.size, 0, none⟩) 4 4] 27)
  have hn10 : RowsN ((w9.alloc (.cells #[.int .i64 0, .int .i64 1, .int .i64 2, .int .i64 3] 3)).alloc (.cells #[.slice (some ⟨w9.heap.size, 0, none⟩) 4 4] 27)) (.slice (some ⟨w9.heap.size + 1, 0, none⟩) 1 1) [[0, 1, 2, 3]] := ⟨_, 1, w9.heap.size + 1, 0, rfl, fun _ => ⟨rfl, by simp⟩, fun k hk => by
    obtain rfl : k = 0 := by simpa using hk
    exact ⟨_, cell_of k11 0, RowN.of_block (xs := [0, 1, 2, 3]) k10 rfl⟩⟩
  have HI := hide (rows_same (xss := [[0, 1, 2, 3]]) (by decide) (fun k => by match k with | 0 => decide | k + 1 => simp) (hv9.below hb10) hn10)
  have HB10 := hide hb10
  obtain ⟨av9, cp9, hv9e⟩ := hv9.shape
  subst hv9e
  clear hn10 k10 k11 hb10 hv9
  go_wp2_with fail
  refine HI.out.mono ?_
  clear HI
  rintro e w11 ⟨rfl, hq11⟩
  have hb11 := bel_two HB10.out (bel_q hq11)
  clear hq11 HB10
  have hB11 := bel_two hB9 hb11
  have hG11 := hG9.below hb11
  clear hb11
  have hpp := preds_is _ 4 B 0 hd g0 g0_right w11 hG11
  go_wp2_with fail
  refine hpp.mono ?_
  rintro e w12 ⟨hb12, H, base, -, -, rfl, hov⟩
  clear hpp
  have hv12 := RowsN.of_rowsB hov
  rw [show castG ((List.range g0.length).map (aheadL (edgesL g0))) = [[3], [0], [0], [1, 2]] from congrArg castG g0_preds] at hv12
  clear hov
  have hB12 := bel_two hB11 hb12
  have hG12 := hG11.below hb12
  obtain ⟨hb13, hG13⟩ := lit4 w12 [3] [0] [0] [1, 2]
  have HI := hide (rows_same (xss := [[3], [0], [0], [1, 2]]) (by decide) (fun k => by match k with | 0 => decide | 1 => decide | 2 => decide | 3 => decide | k + 4 => simp) (hv12.below hb13) (RowsN.of_gat (cap := 4) hG13))
  have HB13 := hide hb13
  clear hG13 hb13 hv12
  simp only [List.map_cons, List.map_nil, List.length_cons, List.length_nil, Nat.zero_add, Nat.reduceAdd] at HB13 HI
  go_wp2_with fail
  refine HI.out.mono ?_
  clear HI
  rintro e w14 ⟨rfl, hq14⟩
  have hb14 := bel_two HB13.out (bel_q hq14)
  clear hq14 HB13
  have hB14 := bel_two hB12 hb14
  have hG14 := hG12.below hb14
  clear hb14
  have hcr := critical_is _ 4 B 0 hd g0 g0_right w14 hG14
  go_wp2_with fail
  refine hcr.mono ?_
  rintro e w15 ⟨hb15, v, rfl, hov⟩
  clear hcr
  rw [g0_crit] at hov
  obtain ⟨av15, cp15, hv15e, -⟩ := owns_shape hov
  subst hv15e
  clear hov
  have hB15 := bel_two hB14 hb15
  have hG15 := hG14.below hb15
  have hre := reach_is _ 4 B 0 hd g0 g0_right 1 (by decide) w15 hG15
  rw [show ((1 : Nat) : Int) = 1 from rfl] at hre
  simp only [List.length_nil]
  go_wp2_with fail
  refine hre.mono ?_
  rintro e w16 ⟨hb16, R, m', o, -, rfl, -, -⟩
  rw [show g0.length = 4 from rfl]
  go_wp2
  go_ret
  exact ⟨rfl, bel_two hB15 hb16⟩

end Go.Proofs.Ytchnjjdhffmkpaa
