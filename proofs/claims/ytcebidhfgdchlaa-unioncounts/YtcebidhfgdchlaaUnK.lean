/-
  Sets in memory (layer 8): the contract of class.
-/
import Derived.Test.YtcebidhfgdchlaaUnR
import Derived.Test.YtcebidhfgdchlaaUnH
import Derived.Deep.RegionHeldLaw
namespace Go.Proofs.Ytcebidhfgdchlaa
open Go.ChangeShapes Go.WideShapes Go.ChangeAt Go.RowKit Go.Shelf Go.Maps

attribute [local go_sem] Oper.semAt_some

theorem made_all (n : Nat) (v : Value) : madeCells #[v] (n * 1) = (List.replicate n v).toArray := by
  apply Array.ext_getElem?
  intro i
  by_cases h : i < n
  · simp [madeCells, h, Nat.mod_one]
  · simp [madeCells, h]
theorem make_none (n : Nat) (hn : n ≤ 100000000) (w : World) : (Instr.makeSlice 36 (.int .i64 0) (.int .i64 (n : Int))).run Try.prog w = .ok (.slice (some ⟨w.heap.size, 0, none⟩) 0 n) (w.alloc (.cells (List.replicate n (.int .i64 0)).toArray 3)) := by
  obtain ⟨i, h1, h2, h3, h4⟩ := typI
  have := run_make (P := Try.prog) (w := w) 36 3 i _ Try.underlying36 h1 h2 .i64 .i64 0 (n : Int) (by omega) (by omega) (by rw [h3]; omega) (by omega)
  rw [h4, show ((n : Int)).toNat = n by omega, show (0 : Int).toNat = 0 from rfl] at this
  rw [this]
  have e : madeCells (Value.int .i64 0).cells (n * 1) = (List.replicate n (Value.int .i64 0)).toArray := made_all n _
  rw [e]

/-- How the row of a class is made: its box and its block. -/
structure Made (w W : World) (Bx Bm sz : Nat) : Prop where
  box : W.heap[Bx]? = some (.cells #[.slice (some ⟨Bm, 0, none⟩) 0 sz] 36 (0, 0))
  row : W.heap[Bm]? = some (.cells (Array.replicate sz (.int .i64 0)) 3 (0, 0))
  bel : Below w.heap.size w W
  ne : Bx ≠ Bm
  bx : w.heap.size ≤ Bx
  bm : w.heap.size ≤ Bm
theorem bel_drew {B : Nat} {a b : World} (h : Below B a b) : Below B a b.drew := h.trans ⟨rfl, rfl, rfl, Nat.le_refl _, fun _ _ => rfl⟩
theorem made_mb (w : World) (sz : Nat) : Made w (((w.alloc (.cells (Array.replicate sz (.int .i64 0)) 3)).alloc (.cells #[.slice (some ⟨w.heap.size, 0, none⟩) 0 sz] 36)).drew) (w.heap.size + 1) w.heap.size sz := by
  have k1 := World.alloc_heap_new w (.cells (Array.replicate sz (.int .i64 0)) 3)
  have k2 := World.alloc_heap_new (w.alloc (.cells (Array.replicate sz (.int .i64 0)) 3)) (.cells #[.slice (some ⟨w.heap.size, 0, none⟩) 0 sz] 36)
  rw [World.size_alloc] at k2
  exact ⟨k2, (Below.heap_alloc _ _ _ (by rw [World.size_alloc]; exact Nat.lt_succ_self _)).trans k1, bel_drew (((Below.refl _ w).alloc (Nat.le_refl _) _).alloc (by rw [World.size_alloc]; exact Nat.le_succ _) _), by omega, by omega, Nat.le_refl _⟩
theorem made_bm (w : World) (sz : Nat) : Made w (((w.alloc (.cells #[.slice (some ⟨w.heap.size + 1, 0, none⟩) 0 sz] 36)).alloc (.cells (Array.replicate sz (.int .i64 0)) 3)).drew) w.heap.size (w.heap.size + 1) sz := by
  have k1 := World.alloc_heap_new w (.cells #[.slice (some ⟨w.heap.size + 1, 0, none⟩) 0 sz] 36)
  have k2 := World.alloc_heap_new (w.alloc (.cells #[.slice (some ⟨w.heap.size + 1, 0, none⟩) 0 sz] 36)) (.cells (Array.replicate sz (.int .i64 0)) 3)
  rw [World.size_alloc] at k2
  exact ⟨(Below.heap_alloc _ _ _ (by rw [World.size_alloc]; exact Nat.lt_succ_self _)).trans k1, k2, bel_drew (((Below.refl _ w).alloc (Nat.le_refl _) _).alloc (by rw [World.size_alloc]; exact Nat.le_succ _) _), by omega, Nat.le_refl _, by omega⟩
theorem Made.owns {w W : World} {Bx Bm sz : Nat} (h : Made w W Bx Bm sz) (hsz : sz ≤ 100000) : W.ownsRow w.heap.size 3 1 (.slice (some ⟨Bm, 0, none⟩) 0 sz) 0 [] :=
  ⟨rfl, .inr ⟨Bm, sz, _, rfl, h.bm, h.row, Nat.zero_le _, by unfold maxLen; omega, by simp, by simp⟩⟩
theorem bel_put {B : Nat} {w W : World} (h : Below B w W) (D : Nat) (o : Obj) (hD : B ≤ D) : Below B w (W.putObj D o) := h.trans ⟨rfl, rfl, rfl, by simp [World.putObj], fun b hb => World.putObj_heap_other (by omega)⟩

set_option maxRecDepth 100000 in
set_option maxHeartbeats 4000000 in
theorem class_is (base X mb : Nat) (v : Value) (st : List Th) (i r : Nat) (hr : Top st i r) (hl : st.length ≤ 100000) (w : World) (hS : SAt w base X mb v st) :
    Calls Try.prog 28 #[.pointer (some ⟨X, 0, none⟩), .int .i64 (i : Int)] w fun e w' => ∃ (v' : Value) (l : List Int), e = .returned v' ∧ w'.ownsRow w.heap.size 3 1 v' l.length (intsI l) ∧ Below w.heap.size w w' ∧ l.length ≤ st.length ∧ l.Pairwise (· < ·) ∧ ∀ k, k ∈ l ↔ KS st (at_ st i).key k := by
  refine (callsIn_wide (n := 0)).1 ?_
  have hrl := hr.lt.2.1
  obtain ⟨TB, cap, hve, -, hTB, hc⟩ := hS.cell hrl
  subst hve
  have hsz := hS.uf.pos r hrl
  have hXl := lt_of hS.box
  obtain ⟨t, hring, hrt⟩ := hS.uf.ring i hr.lt.1
  obtain ⟨hrl1, hrl2⟩ := hrt r hr
  have hRK := ring_keys hS.uf hr hrl2 hring.2
  have HSW : Hid (∀ W, Below w.heap.size w W → (W.cell? ⟨X, 2, none⟩ = some (.slice (some ⟨TB, 0, none⟩) st.length cap) ∧ W.cell? ⟨TB, r * 5 + 3, none⟩ = some (.int .i64 ((at_ st r).size : Int)) ∧ Below w.heap.size w W)) := fun W hb => ⟨(hb.cell (p := ⟨X, 2, none⟩) hXl).trans (cell_of hS.box 2), (hb.cell (p := ⟨TB, r * 5 + 3, none⟩) hTB).trans (hc 3 (by decide)), hb⟩
  have HT : Hid (∀ W, (W.cell? ⟨X, 2, none⟩ = some (.slice (some ⟨TB, 0, none⟩) st.length cap) ∧ W.cell? ⟨TB, r * 5 + 3, none⟩ = some (.int .i64 ((at_ st r).size : Int)) ∧ Below w.heap.size w W) → Calls Try.prog 23 #[.pointer (some ⟨X, 0, none⟩), .int .i64 (i : Int)] W fun e w' => e = .returned (.int .i64 (r : Int)) ∧ w' = W) := fun W hW => top_is base X mb _ st i r hr (by omega) W (hS.below hW.2.2)
  have HS0 := hide (HSW.out w.drew ⟨rfl, rfl, rfl, Nat.le_refl _, fun _ _ => rfl⟩)
  have HALL : Hid (∀ k f, k < st.length → f < 5 → w.cell? ⟨TB, k * 5 + f, none⟩ = (tcells (at_ st k))[f]?) := fun k f hk hf => by
    obtain ⟨TB', cap', e, _, _, hc⟩ := hS.cell hk
    injection e with e1
    injection e1 with e1
    injection e1 with e1
    subst e1
    exact hc f hf
  have HX2 : Hid (w.cell? ⟨X, 2, none⟩ = some (.slice (some ⟨TB, 0, none⟩) st.length cap)) := cell_of hS.box 2
  have HRING := hide hring
  have HRK := hide hRK
  have HM : Hid (∀ j, j ∈ i :: t → j < st.length) := fun j hj => ((hrl2 j).1 hj).lt.1
  have hri : ((r : Int) < (st.length : Int)) = True := eq_true (by omega)
  have hrb : r ≤ 100000 := by omega
  have hsz2 : (at_ st r).size ≤ 100000 := by omega
  have hsz3 : (at_ st r).size ≤ st.length := hsz.2
  have HLN : Hid ((i :: t).length = (at_ st r).size) := hrl1
  clear hS hr hc hsz hring hrt hrl1 hrl2 hRK
  generalize (at_ st r).size = sz at *
  have mk := make_none sz (by omega)
  refine callsIn_of_wp_marks Try.func28 rfl trivial ?_
  simp only [Try.ntmps28, List.size_toArray, List.length_cons, List.length_nil, Nat.reduceAdd, Nat.reduceSub, Array.replicate_succ, Array.replicate_zero, List.push_toArray, List.append_toArray, List.nil_append, List.cons_append]
  gi_wp2
  refine wpIn_wide.2 (wp_mono (Q := fun e a W => e = .normal ∧ ∃ (u7 u8 u9 u10 u11 u12 u13 u14 u15 u16 u17 : Value) (Bx Bm : Nat), a = { tmps := #[.pointer (some ⟨X, 0, none⟩), .int .i64 (i : Int), undef, undef, .slice none 0 0, .pointer (some ⟨Bx, 0, none⟩), undef, u7, u8, u9, u10, u11, u12, u13, u14, u15, u16, u17, undef, undef, undef, undef, undef, undef, undef, undef, undef, undef, undef], defers := [] } ∧ Made w W Bx Bm sz) ?_ ?_)
  · refine wp_region_held_drew (S := fun W => W.cell? ⟨X, 2, none⟩ = some (.slice (some ⟨TB, 0, none⟩) st.length cap) ∧ W.cell? ⟨TB, r * 5 + 3, none⟩ = some (.int .i64 (sz : Int)) ∧ Below w.heap.size w W) (by kernel_rfl) HS0.out (fun hHeld => ?_)
    refine wpAnyH_take (i := 0) (v := ?_) rfl (by kernel_rfl) (by kernel_rfl) (by kernel_rfl) (fun _ _ _ h => absurd h.1 (by simp)) (Or.inl ⟨by rfl, ?_⟩) hHeld ?_
    rotate_left 1
    · intro w hSw; (try dsimp only at hSw); go_simp; try with_reducible rfl
    refine wpAnyH_take (i := 1) (v := ?_) rfl (by kernel_rfl) (by kernel_rfl) (by kernel_rfl) (fun _ _ _ h => absurd h.1 (by simp)) (Or.inl ⟨by rfl, ?_⟩) hHeld ?_
    rotate_left 1
    · intro w hSw; (try dsimp only at hSw); go_simp; try with_reducible rfl
    refine wpAnyH_take (i := 2) (v := ?_) rfl (by kernel_rfl) (by kernel_rfl) (by kernel_rfl) (fun _ _ _ h => absurd h.1 (by simp)) (Or.inl ⟨by rfl, ?_⟩) hHeld ?_
    rotate_left 1
    · intro w hSw; (try dsimp only at hSw); go_simp; try with_reducible rfl
    refine wpAnyH_take (i := 3) (v := ?_) rfl (by kernel_rfl) (by kernel_rfl) (by kernel_rfl) (fun _ _ _ h => absurd h.1 (by simp)) (Or.inl ⟨by rfl, ?_⟩) hHeld ?_
    rotate_left 1
    · intro w hSw; (try dsimp only at hSw); go_simp; try with_reducible rfl
    refine wpAnyH_take (i := 4) (v := ?_) rfl (by kernel_rfl) (by kernel_rfl) (by kernel_rfl) (fun _ _ _ h => absurd h.1 (by simp)) (Or.inl ⟨by rfl, ?_⟩) hHeld ?_
    rotate_left 1
    · intro w hSw; (try dsimp only at hSw); go_simp; try with_reducible rfl
    refine wpAnyH_take (i := 5) (v := ?_) rfl (by kernel_rfl) (by kernel_rfl) (by kernel_rfl) (fun _ _ _ h => absurd h.1 (by simp)) (Or.inl ⟨by rfl, ?_⟩) hHeld ?_
    rotate_left 1
    · intro w hSw; (try dsimp only at hSw); go_simp; try with_reducible rfl
    refine wpAnyH_ready (rs := [6, 11]) (by kernel_rfl) (by simp) (AllReadyH.cons rfl (fun K hK => ?_) (AllReadyH.cons rfl (fun K hK => ?_) (AllReadyH.nil)))
    · go_simp
      refine (HT.out _ hHeld).mono ?_
      rintro e w' ⟨rfl, rfl⟩
      refine hK.out _ _ hHeld (fun hHeld => ?_)
      clear hK K
      refine wpAnyH_take (i := 7) (v := ?_) rfl (by kernel_rfl) (by kernel_rfl) (by kernel_rfl) (fun _ _ _ h => absurd h.1 (by simp)) (Or.inl ⟨by rfl, ?_⟩) hHeld ?_
      rotate_left 1
      · intro w hSw; (try dsimp only at hSw); go_simp; try with_reducible rfl
      refine wpAnyH_take (i := 8) (v := ?_) rfl (by kernel_rfl) (by kernel_rfl) (by kernel_rfl) (fun _ _ _ h => absurd h.1 (by simp)) (Or.inl ⟨by rfl, ?_⟩) hHeld ?_
      rotate_left 1
      · intro w hSw; (try dsimp only at hSw); go_simp; try with_reducible rfl
      refine wpAnyH_take (i := 9) (v := ?_) rfl (by kernel_rfl) (by kernel_rfl) (by kernel_rfl) (fun _ _ _ h => absurd h.1 (by simp)) (Or.inl ⟨by rfl, ?_⟩) hHeld ?_
      rotate_left 1
      · intro w hSw; (try dsimp only at hSw); go_simp; try with_reducible rfl
      refine wpAnyH_ready (rs := [10, 11]) (by kernel_rfl) (by simp) (AllReadyH.cons rfl (fun K hK => ?_) (AllReadyH.cons rfl (fun K hK => ?_) (AllReadyH.nil)))
      · go_simp
        refine hK.out _ _ (HSW.out _ (hHeld.2.2.alloc hHeld.2.2.size _)) (fun hHeld => ?_)
        clear hK K
        refine wpAnyH_ready (rs := [11]) (by kernel_rfl) (by simp) (AllReadyH.cons rfl (fun K hK => ?_) (AllReadyH.nil))
        · go_simp
          refine hK.out _ _ (HSW.out _ (hHeld.2.2.alloc hHeld.2.2.size _)) (fun hHeld => ?_)
          clear hK K
          refine wpAnyH_ready (rs := [12]) (by kernel_rfl) (by simp) (AllReadyH.cons rfl (fun K hK => ?_) (AllReadyH.nil))
          · go_simp
            refine hK.out _ _ (HSW.out _ (by first | exact (made_mb w sz).bel | exact (made_bm w sz).bel)) (fun hHeld => ?_)
            clear hK K
            refine wpAnyH_done (by kernel_rfl) ?_ _
            first | exact ⟨rfl, _, _, _, _, _, _, _, _, _, _, _, _, _, rfl, made_mb w sz⟩ | exact ⟨rfl, _, _, _, _, _, _, _, _, _, _, _, _, _, rfl, made_bm w sz⟩
      · go_simp
        refine hK.out _ _ (HSW.out _ (hHeld.2.2.alloc hHeld.2.2.size _)) (fun hHeld => ?_)
        clear hK K
        refine wpAnyH_ready (rs := [10]) (by kernel_rfl) (by simp) (AllReadyH.cons rfl (fun K hK => ?_) (AllReadyH.nil))
        · go_simp
          refine hK.out _ _ (HSW.out _ (hHeld.2.2.alloc hHeld.2.2.size _)) (fun hHeld => ?_)
          clear hK K
          refine wpAnyH_ready (rs := [12]) (by kernel_rfl) (by simp) (AllReadyH.cons rfl (fun K hK => ?_) (AllReadyH.nil))
          · go_simp
            refine hK.out _ _ (HSW.out _ (by first | exact (made_mb w sz).bel | exact (made_bm w sz).bel)) (fun hHeld => ?_)
            clear hK K
            refine wpAnyH_done (by kernel_rfl) ?_ _
            first | exact ⟨rfl, _, _, _, _, _, _, _, _, _, _, _, _, _, rfl, made_mb w sz⟩ | exact ⟨rfl, _, _, _, _, _, _, _, _, _, _, _, _, _, rfl, made_bm w sz⟩
    · go_simp
      refine hK.out _ _ (HSW.out _ (hHeld.2.2.alloc hHeld.2.2.size _)) (fun hHeld => ?_)
      clear hK K
      refine wpAnyH_ready (rs := [6]) (by kernel_rfl) (by simp) (AllReadyH.cons rfl (fun K hK => ?_) (AllReadyH.nil))
      · go_simp
        refine (HT.out _ hHeld).mono ?_
        rintro e w' ⟨rfl, rfl⟩
        refine hK.out _ _ hHeld (fun hHeld => ?_)
        clear hK K
        refine wpAnyH_take (i := 7) (v := ?_) rfl (by kernel_rfl) (by kernel_rfl) (by kernel_rfl) (fun _ _ _ h => absurd h.1 (by simp)) (Or.inl ⟨by rfl, ?_⟩) hHeld ?_
        rotate_left 1
        · intro w hSw; (try dsimp only at hSw); go_simp; try with_reducible rfl
        refine wpAnyH_take (i := 8) (v := ?_) rfl (by kernel_rfl) (by kernel_rfl) (by kernel_rfl) (fun _ _ _ h => absurd h.1 (by simp)) (Or.inl ⟨by rfl, ?_⟩) hHeld ?_
        rotate_left 1
        · intro w hSw; (try dsimp only at hSw); go_simp; try with_reducible rfl
        refine wpAnyH_take (i := 9) (v := ?_) rfl (by kernel_rfl) (by kernel_rfl) (by kernel_rfl) (fun _ _ _ h => absurd h.1 (by simp)) (Or.inl ⟨by rfl, ?_⟩) hHeld ?_
        rotate_left 1
        · intro w hSw; (try dsimp only at hSw); go_simp; try with_reducible rfl
        refine wpAnyH_ready (rs := [10]) (by kernel_rfl) (by simp) (AllReadyH.cons rfl (fun K hK => ?_) (AllReadyH.nil))
        · go_simp
          refine hK.out _ _ (HSW.out _ (hHeld.2.2.alloc hHeld.2.2.size _)) (fun hHeld => ?_)
          clear hK K
          refine wpAnyH_ready (rs := [12]) (by kernel_rfl) (by simp) (AllReadyH.cons rfl (fun K hK => ?_) (AllReadyH.nil))
          · go_simp
            refine hK.out _ _ (HSW.out _ (by first | exact (made_mb w sz).bel | exact (made_bm w sz).bel)) (fun hHeld => ?_)
            clear hK K
            refine wpAnyH_done (by kernel_rfl) ?_ _
            first | exact ⟨rfl, _, _, _, _, _, _, _, _, _, _, _, _, _, rfl, made_mb w sz⟩ | exact ⟨rfl, _, _, _, _, _, _, _, _, _, _, _, _, _, rfl, made_bm w sz⟩
  rintro e a W ⟨rfl, u7, u8, u9, u10, u11, u12, u13, u14, u15, u16, u17, Bx, Bm, rfl, hMd⟩
  clear mk HT HSW HS0 hri hrb
  simp only [Exit.then]
  have hXW := hMd.bel.size
  have hMdx := lt_of hMd.box
  have hMdm := lt_of hMd.row
  gi_wp2
  refine ⟨by trivial, by trivial, (ring_in 0 X (i : Int) W).mono ?_⟩
  rintro e w2 ⟨rfl, hs2, hb2, k1, k2⟩
  have hMB := hMd.bel
  have jx := (hb2.block _ hMdx).trans hMd.box
  have hown := owns_below (hMd.owns (by omega)) hb2
  have hB2 : Below w.heap.size w w2 := hMB.trans (hb2.mono hXW)
  have hne := hMd.ne
  have hbx := hMd.bx
  have hbm := hMd.bm
  clear hMd hMB hb2
  generalize hh : W.heap.size = hz at *
  clear hh
  gi_wp2
  refine range_it (α := Nat) (kk := 0) (gf := 39) (lb := #[.pointer (some ⟨hz + 1, 0, none⟩), .pointer (some ⟨hz, 0, none⟩)]) (P := fun _ => False)
    (Rd := fun W => W.heap[hz + 1]? = some (.cells #[.int .i64 (i : Int)] 3 (0, 0)) ∧ W.heap[hz]? = some (.cells #[.pointer (some ⟨X, 0, none⟩)] 24 (0, 0)) ∧ W.cell? ⟨X, 2, none⟩ = some (.slice (some ⟨TB, 0, none⟩) st.length cap) ∧ ∀ k f, k < st.length → f < 5 → W.cell? ⟨TB, k * 5 + f, none⟩ = (tcells (at_ st k))[f]?)
    (V := fun s x => ∃ u, s ++ x :: u = i :: t) (S := fun s _ => s = i :: t) (enc := fun x : Nat => #[.int .i64 (at_ st x).key]) rfl enter39 (fun _ => rfl) (fun _ _ _ h _ => h) (fun _ h => h.elim)
    (fun W1 hb hs => ring_gives st (by omega) i t HRING.out HM.out (hz + 1) hz X TB cap W1 _)
    (fun s W => Below w.heap.size w W ∧ W.heap[hz]? = some (.cells #[.pointer (some ⟨X, 0, none⟩)] 24 (0, 0)) ∧ W.heap[hz + 1]? = some (.cells #[.int .i64 (i : Int)] 3 (0, 0)) ∧ ∃ v, W.heap[Bx]? = some (.cells #[v] 36 (0, 0)) ∧ W.ownsRow w.heap.size 3 1 v s.length (intsI (s.map fun j => (at_ st j).key)) ∧ ∀ b, v.ownBlock = some b → b = Bm ∨ hz + 4 ≤ b) (fun _ => False) ?hI (fun _ _ h _ => h) ?hRd ?h0 ?hround ?hdone (fun _ _ h => h.elim)
  case hI =>
    rintro s W W' ⟨i1, i2, i3, v, i5, i6, i7⟩ ht
    have hq : ∀ b, b ≠ hz + 3 → ¬ (False ∨ b = w2.heap.size + 1) := fun b hb h => by rcases h with h | h; exact h; omega
    have := lt_of i5
    refine ⟨ht.below i1 i1.size (fun b hb => hq b (by omega)), (ht.block _ (lt_of i2) (hq _ (by omega))).trans i2, (ht.block _ (lt_of i3) (hq _ (by omega))).trans i3, v, (ht.block _ (by omega) (hq _ (by omega))).trans i5, owns_turns i6 ht (fun b hb => hq b (by rcases i7 b hb with h | h <;> omega)), i7⟩
  case hRd =>
    rintro s W ⟨i1, i2, i3, -⟩
    exact ⟨i3, i2, (i1.cell (p := ⟨X, 2, none⟩) hXl).trans HX2.out, fun k f hk hf => (i1.cell (p := ⟨TB, k * 5 + f, none⟩) hTB).trans (HALL.out k f hk hf)⟩
  case h0 => exact ⟨hB2, k1, k2, _, jx, hown, fun b hb => .inl (by injection hb with hb; exact hb.symm)⟩
  case hround =>
    rintro l s x Wr K ⟨u, hv⟩ hK
    have hsl : s.length < sz := by
      have := congrArg List.length hv
      rw [HLN.out] at this
      simp at this; omega
    have HK := hide hK
    clear hK hv
    dsimp only
    generalize hkx : (at_ st x).key = kx at *
    have HKX := hide hkx
    clear hkx
    gi_wp2
    refine HK.out _ ?_
    rintro Wb ⟨i1, i2, i3, v, i5, i6, i7⟩ hsz
    obtain ⟨g', cp, w', hap, ho, hgb, hat, hlt⟩ := app_int Wb 36 w.heap.size v _ _ i6 kx (by omega) i1.size
    have hgT : Turns (fun b => v.ownBlock = some b) Wb w' := ⟨hgb.os, hgb.tape, hgb.output, by have := hgb.size; rw [World.size_alloc] at this; omega, fun b hb hq => (hgb.block b (by rw [World.size_alloc]; omega) (fun e => hq e.symm)).trans (Below.heap_alloc _ _ _ hb)⟩
    have hnb : v.ownBlock ≠ some Bx := fun e => by rcases i7 Bx e with h | h <;> omega
    have i5' : w'.heap[Bx]? = some (.cells #[v] 36 (0, 0)) := (hgT.block _ (lt_of i5) hnb).trans i5
    have c5 : Wb.cell? ⟨Bx, 0, none⟩ = some v := cell_of i5 0
    have c6 : w'.cell? ⟨Bx, 0, none⟩ = some v := cell_of i5' 0
    have f6 := frozen_of i5' 0
    have HAP := hide hap
    have HO := hide ho
    have HT : Hid (Turns (fun b => b = Bx ∨ b = Bm ∨ hz + 4 ≤ b) Wb w') := hgT.mono (fun b hb => .inr (i7 b hb))
    have HI := hide (And.intro i1 (And.intro i2 i3))
    have HAT : Hid (g' = Bm ∨ hz + 4 ≤ g') := hat.elim (fun h' => i7 g' h') (fun h' => .inr (by omega))
    clear hap ho hgT hgb i1 i2 i3 i6 i7 hat hnb
    have HKE : Hid (intsI ((s ++ [x]).map fun j => (at_ st j).key) = intsI (s.map fun j => (at_ st j).key) ++ [.int .i64 kx]) := by rw [Hid, ← HKX.out]; simp [intsI]
    generalize hsn : s.length = m at *
    have HM' := hide hsn
    clear hsn
    gi_wp2_with (gi_at_builtin; refine wpListIn_append_run rfl _ _ 36 rfl rfl rfl HAP.out ?_)
    obtain ⟨i1, i2, i3⟩ := HI.out
    have hT2 : Turns (fun b => b = Bx ∨ b = Bm ∨ hz + 4 ≤ b) Wb (w'.setCell ⟨Bx, 0, none⟩ (.slice (some ⟨g', 0, none⟩) (m + 1) cp)) := HT.out.trans (Turns.setCell _ _ _ (.inl rfl))
    have hnq : ∀ b, b ≠ Bx → b ≠ Bm → b < hz + 4 → ¬ (b = Bx ∨ b = Bm ∨ hz + 4 ≤ b) := fun b h1 h2 h3 hq => by omega
    refine ⟨hT2.size, fun b hb => ?_, hT2.below i1 i1.size (fun b hb => hnq b (by omega) (by omega) (by omega)), (hT2.block _ (lt_of i2) (hnq _ (by omega) (by omega) (by omega))).trans i2, (hT2.block _ (lt_of i3) (hnq _ (by omega) (by omega) (by omega))).trans i3, .slice (some ⟨g', 0, none⟩) (m + 1) cp, heap_set_same' i5' 0 _, ?_, fun b hb => ?_⟩
    · rcases hb with hb | hb | hb
      · exact hb.elim
      · exact hT2.block b (by omega) (hnq b (by omega) (by omega) (by omega))
      · exact hT2.block b (by omega) (hnq b (by omega) (by omega) (by omega))
    · rw [HKE.out, List.length_append, HM'.out]
      refine owns_turns HO.out (Turns.setCell (Q := fun b => b = Bx) _ _ _ rfl) (fun b hb e => ?_)
      have hb' : g' = b := by injection hb
      have := HAT.out
      omega
    · have hb' : g' = b := by injection hb
      rw [← hb']; exact HAT.out
  case hdone =>
    rintro D s W ⟨i1, i2, i3, v, i5, i6, i7⟩ hS hD hK
    subst hS
    obtain rfl : D = hz + 2 := by omega
    clear hD
    have hlen : ((i :: t).map fun j => (at_ st j).key).length = sz := by rw [List.length_map]; exact HLN.out
    have i6' : W.ownsRow w.heap.size 3 1 v ((i :: t).map fun j => (at_ st j).key).length (intsI ((i :: t).map fun j => (at_ st j).key)) := by
      rw [List.length_map]; exact i6
    have HSO := hide (sort_is w.heap.size v _ (by rw [hlen]; omega) W i6')
    have c5 : W.cell? ⟨Bx, 0, none⟩ = some v := cell_of i5 0
    have HI := hide (And.intro i1 (And.intro i5 (And.intro i7 hlen)))
    clear i1 i2 i3 i5 i6 i6' i7 hlen
    gi_wp2
    refine ⟨by trivial, by trivial, (callsIn_wide.2 HSO.out).mono ?_⟩
    clear HSO
    rintro e W3 ⟨rfl, ho, hT⟩
    obtain ⟨i1, i5, i7, hlen⟩ := HI.out
    have hnb : ∀ b, v.ownBlock = some b → b ≠ Bx ∧ b ≠ hz + 2 ∧ w.heap.size ≤ b := fun b hb => by rcases i7 b hb with h | h <;> omega
    have j5 : W3.heap[Bx]? = some (.cells #[v] 36 (0, 0)) := (hT.block _ (lt_of i5) (fun e => (hnb _ e).1 rfl)).trans i5
    have c6 : W3.cell? ⟨Bx, 0, none⟩ = some v := cell_of j5 0
    have hK3 := (hT.block _ (lt_of hK) (fun e => (hnb _ e).2.1 rfl)).trans hK
    have hB3 : Below w.heap.size w W3 := hT.below i1 i1.size (fun b hb e => by have := (hnb b e).2.2; omega)
    have HO := hide ho
    have HB := hide hB3
    have HL := hide hlen
    have HNB := hide hnb
    clear ho hT hB3 i1 i5 i7 hlen hnb HI c5 hK
    gi_wp2
    refine ⟨by simp, .inl ⟨_, _, rfl, run_takeDeferred hK3, ?_⟩⟩
    refine ⟨v, by simp [results, Try.results28, go_sem], v, risenI ((i :: t).map fun j => (at_ st j).key), rfl, ?_, bel_put HB.out (hz + 2) _ (by omega), by rw [risenI_len, HL.out]; exact hsz3, risenI_lt HRK.out.1, fun k => by rw [risenI_mem]; exact HRK.out.2 k⟩
    rw [risenI_len]
    refine owns_turns HO.out (Turns.putObj (Q := fun b => b = hz + 2) _ _ _ rfl) (fun b hb e => ?_)
    exact (HNB.out b hb).2.1 e

end Go.Proofs.Ytcebidhfgdchlaa
