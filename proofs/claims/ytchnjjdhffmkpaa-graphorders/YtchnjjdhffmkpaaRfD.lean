/-
  The document's own Preds (layer 6): its contract.
-/
import Derived.Test.YtchnjjdhffmkpaaRfC
import Derived.Test.YtchnjjdhffmkpaaLoops
namespace Go.Proofs.Ytchnjjdhffmkpaa
open Go.ChangeShapes Go.WideShapes Go.ChangeAt Go.RowKit Go.Shelf

/-- The edges of the first k blocks, and of the next one j. -/
def edgesUp (g : List (List Nat)) (k j : Nat) : List (Nat × Nat) := edgesTo g k ++ ((g.getD k []).take j).map fun t => (k, t)
theorem edgesUp_zero (g : List (List Nat)) (k : Nat) : edgesUp g k 0 = edgesTo g k := by simp [edgesUp]
theorem edgesUp_all (g : List (List Nat)) (k : Nat) : edgesUp g k (g.getD k []).length = edgesTo g (k + 1) := by
  unfold edgesUp; rw [List.take_length, edgesTo_succ]
theorem edgesUp_step (g : List (List Nat)) (k j : Nat) (h : j < (g.getD k []).length) : edgesUp g k (j + 1) = edgesUp g k j ++ [(k, (g.getD k []).getD j 0)] := by
  unfold edgesUp
  rw [List.take_succ_eq_append_getElem h, List.map_append, List.append_assoc, List.getD_eq_getElem?_getD (l := g.getD k []), List.getElem?_eq_getElem h]; rfl
theorem edgesUp_len (g : List (List Nat)) (h : ∀ b, (g.getD b []).length ≤ 8) (k j : Nat) : (edgesUp g k j).length ≤ 8 * k + 8 := by
  unfold edgesUp
  rw [List.length_append, List.length_map, List.length_take]
  have h1 : ∀ k, (edgesTo g k).length ≤ 8 * k := fun k => by
    induction k with
    | zero => simp [edgesTo]
    | succ k ih => rw [edgesTo_succ, List.length_append, List.length_map]; have := h k; omega
  have := h1 k
  have := h k
  omega

set_option maxRecDepth 100000 in
set_option maxHeartbeats 4000000 in
/-- The document's Preds of a right graph. -/
theorem rpreds_is (av : Option Addr) (cap blk off : Nat) (hd : Nat → Hdr) (g : List (List Nat)) (hgr : Right g) (hl : g.length ≤ 40) (w : World) (hG : GAt w av blk off hd (castG g)) :
    Calls Try.prog 14 #[.slice av g.length cap] w fun e w' => Below w.heap.size w w' ∧ ∃ H base, w.heap.size ≤ H ∧ H < base ∧ e = .returned (.slice (some ⟨H, 0, none⟩) g.length g.length) ∧ RowsB w' base H g.length (aheadL (edgesL g)) := by
  have hrows := hgr.rows
  have hone := hgr.one
  have hr := rright_is av cap blk off hd (castG g) (by rw [castG_len]; exact hl) (fun b => by rw [castG_at, List.length_map]; have := hrows b; omega) w hG
  rw [castG_len, rightB_true.2 hgr.toI] at hr
  have HG := hide hG
  clear hG
  have mk : ∀ w : World, (Instr.makeSlice 22 (.int .i64 (g.length : Int)) (.int .i64 (g.length : Int))).run Try.prog w = .ok (.slice (some ⟨w.heap.size, 0, none⟩) g.length g.length) (w.alloc (.cells (Array.replicate g.length (.slice none 0 0)) 27)) := fun w => by rw [make_rows g.length (by omega) w, List.toArray_replicate]
  have hb2 : Below w.heap.size w (w.alloc (.cells (Array.replicate g.length (.slice none 0 0)) 27)) := (Below.refl _ w).alloc (Nat.le_refl _) _
  have k2 : ∀ base, RowsB (w.alloc (.cells (Array.replicate g.length (.slice none 0 0)) 27)) base w.heap.size g.length (fun _ => []) := fun base => by
    rw [← List.toArray_replicate]; exact rowsB_new w g.length _
  have hs2 : (w.alloc (.cells (Array.replicate g.length (.slice none 0 0)) 27)).heap.size = w.heap.size + 1 := by simp
  have HK := hide (And.intro hb2 (And.intro k2 hs2))
  clear hb2 k2 hs2
  go_enter Try.func14, Try.ntmps14
  go_wp2_with fail
  refine hr.mono ?_
  rintro e w1 ⟨rfl, rfl⟩
  clear hr
  go_wp2
  clear mk
  obtain ⟨hb2, k2, hs2⟩ := HK.out
  clear HK
  generalize w1.alloc (.cells (Array.replicate g.length (.slice none 0 0)) 27) = w3 at *
  generalize hh : w1.heap.size = h at *
  have HSUCC : Hid (∀ k, edgesUp g k (g.getD k []).length = edgesUp g (k + 1) 0) := fun k => by rw [edgesUp_all, edgesUp_zero]
  go_loopw [5] (fun i W => ∃ k : Nat, i = .int .i64 k ∧ k ≤ g.length ∧ Turns (fun b => h + 1 ≤ b ∨ b = h) w3 W ∧ RowsB W (h + 1) h g.length (aheadL (edgesUp g k 0))) (fun i _ => g.length - (intOf i).toNat)
  case atStart => exact ⟨0, rfl, Nat.zero_le _, Turns.refl _ _, (k2 _).congr (fun t _ => by simp [edgesUp, edgesTo, aheadL])⟩
  case round =>
    obtain ⟨k, rfl, hk, ht, hR⟩ := hrel
    by_cases hkl : k < g.length
    · have e1 : ((k : Int) < (g.length : Int)) = True := eq_true (by omega)
      have hkb : k ≤ 4096 := by omega
      go_wp2
      go_loopw [6] (fun i W => ∃ j : Nat, i = .int .i64 j ∧ j ≤ (g.getD k []).length ∧ Turns (fun b => h + 1 ≤ b ∨ b = h) w3 W ∧ RowsB W (h + 1) h g.length (aheadL (edgesUp g k j))) (fun i _ => (g.getD k []).length - (intOf i).toNat)
      case atStart => exact ⟨0, rfl, Nat.zero_le _, ht, hR⟩
      case round =>
        clear ht hR
        obtain ⟨j, rfl, hj, ht, hR⟩ := hrel
        have hsz := ht.size
        have hBr : Below h w1 wr := Turns.below hb2 (by omega) ht (fun b hb hq => by omega)
        have hG2 := HG.out.below (by rw [hh]; exact hBr)
        obtain rfl := hG2.at_ (by rw [castG_len]; omega)
        have c1 := hG2.has k (by rw [castG_len]; exact hkl)
        rw [castG_at, List.length_map] at c1
        have hr8 := hrows k
        by_cases hjl : j < (g.getD k []).length
        · have e2 : ((j : Int) < ((g.getD k []).length : Int)) = True := eq_true (by omega)
          have hav := hG2.rat k (by rw [castG_len]; exact hkl) (by rw [castG_at, List.length_map]; omega)
          rw [hav] at c1
          have c2 := hG2.rhas k j (by rw [castG_len]; exact hkl) (by rw [castG_at, List.length_map]; exact hjl)
          rw [castG_at, cast_at] at c2
          have hblk : blk < h := by have := HG.out.lt (by rw [castG_len]; omega); omega
          have hrblk : (hd k).blk < h := by have := HG.out.rlt k (by rw [castG_len]; exact hkl) (by rw [castG_at, List.length_map]; omega); omega
          have htl : (g.getD k []).getD j 0 < g.length := hgr.lt k _ (getD_mem _ _ hjl)
          have hes := edgesUp_step g k j hjl
          have hel := edgesUp_len g hrows k j
          have hal := aheadL_len (edgesUp g k j) ((g.getD k []).getD j 0)
          have hR1 : RowsB wr.drew (h + 1) h g.length (aheadL (edgesUp g k j)) := hR
          obtain ⟨v, g', cp, w', d1, hap, hkb', hsz', hR', hT'⟩ := rowsB_step hR1 27 ((g.getD k []).getD j 0) k htl (by omega) (by show h + 1 ≤ wr.heap.size; omega) (by omega)
          have hRf : RowsB (w'.setCell ⟨h, (g.getD k []).getD j 0, none⟩ (.slice (some ⟨g', 0, none⟩) ((aheadL (edgesUp g k j) ((g.getD k []).getD j 0)).length + 1) cp)) (h + 1) h g.length (aheadL (edgesUp g k (j + 1))) := hR'.congr (fun x _ => by rw [hes, aheadL_snoc])
          have HRF := hide hRf
          have hTf : Turns (fun b => h + 1 ≤ b ∨ b = h) w3 (w'.setCell ⟨h, (g.getD k []).getD j 0, none⟩ (.slice (some ⟨g', 0, none⟩) ((aheadL (edgesUp g k j) ((g.getD k []).getD j 0)).length + 1) cp)) := ht.trans ⟨hT'.os, hT'.tape, hT'.output, hT'.size, hT'.block⟩
          have HTF := hide hTf
          rw [show wr.drew.heap.size = wr.heap.size from rfl] at hap
          have HAP := hide hap
          have dA : wr.cell? ⟨h, (g.getD k []).getD j 0, none⟩ = some v := d1
          have dB : (wr.alloc (.cells #[.int .i64 (k : Int)] 3)).cell? ⟨h, (g.getD k []).getD j 0, none⟩ = some v := (World.cell?_of_block (Below.heap_alloc _ _ _ (by show h < _; omega))).trans dA
          have f3 : w'.frozen? ⟨h, (g.getD k []).getD j 0, none⟩ = false := by
            obtain ⟨vs, _, h2, _⟩ := hR1
            exact (World.frozen?_of_block (hkb' h (by show h < wr.heap.size; omega) (.inl (by omega)))).trans (frozen_of h2 _)
          have d3 : w'.cell? ⟨h, (g.getD k []).getD j 0, none⟩ = some v := (World.cell?_of_block (hkb' h (by show h < wr.heap.size; omega) (.inl (by omega)))).trans d1
          have s1 : (wr.alloc (.cells #[.int .i64 (k : Int)] 3)).cell? ⟨blk, off + k, none⟩ = _ := (World.cell?_of_block (Below.heap_alloc _ _ _ (by show blk < _; omega))).trans c1
          have s2 : (wr.alloc (.cells #[.int .i64 (k : Int)] 3)).cell? ⟨(hd k).blk, (hd k).off + j, none⟩ = _ := (World.cell?_of_block (Below.heap_alloc _ _ _ (by show (hd k).blk < _; omega))).trans c2
          have s3 : w'.cell? ⟨blk, off + k, none⟩ = _ := (World.cell?_of_block (hkb' blk (by show blk < wr.heap.size; omega) (.inl (by omega)))).trans c1
          have s4 : w'.cell? ⟨(hd k).blk, (hd k).off + j, none⟩ = _ := (World.cell?_of_block (hkb' (hd k).blk (by show (hd k).blk < wr.heap.size; omega) (.inl (by omega)))).trans c2
          have s5 : (w'.setCell ⟨h, (g.getD k []).getD j 0, none⟩ (.slice (some ⟨g', 0, none⟩) ((aheadL (edgesUp g k j) ((g.getD k []).getD j 0)).length + 1) cp)).cell? ⟨blk, off + k, none⟩ = _ := (World.cell?_of_block (Below.heap_setCell _ _ _ _ (by show blk ≠ h; omega))).trans s3
          have s6 : (w'.setCell ⟨h, (g.getD k []).getD j 0, none⟩ (.slice (some ⟨g', 0, none⟩) ((aheadL (edgesUp g k j) ((g.getD k []).getD j 0)).length + 1) cp)).cell? ⟨(hd k).blk, (hd k).off + j, none⟩ = _ := (World.cell?_of_block (Below.heap_setCell _ _ _ _ (by show (hd k).blk ≠ h; omega))).trans s4
          clear hap hRf hTf hR' hT' hkb' hR1 hR ht hal d1 hes hel hG2 hBr hav
          generalize (aheadL (edgesUp g k j) ((g.getD k []).getD j 0)).length = n at *
          generalize (g.getD k []).getD j 0 = t at *
          generalize (g.getD k []).length = rl at *
          have hti : ((t : Int) < (g.length : Int)) = True := eq_true (by omega)
          have htb : t ≤ 4096 := by omega
          go_wp2
          refine wp_region_held_drew (S := fun w' => w'.cell? ⟨blk, off + k, none⟩ = some (.slice (some ⟨(hd k).blk, (hd k).off, none⟩) rl (hd k).cap) ∧ w'.cell? ⟨(hd k).blk, (hd k).off + j, none⟩ = some (.int .i64 (t : Int))) (by kernel_rfl) ⟨c1, c2⟩ (fun hHeld => ?_)
          refine wpAnyH_take (i := 0) (v := ?_) rfl (by kernel_rfl) (by kernel_rfl) (by kernel_rfl) (fun _ _ _ h => h) (Or.inl ⟨by rfl, ?_⟩) hHeld ?_
          rotate_left 1
          · intro w hSw; (try dsimp only at hSw); go_simp; try with_reducible rfl
          refine wpAnyH_take (i := 1) (v := ?_) rfl (by kernel_rfl) (by kernel_rfl) (by kernel_rfl) (fun _ _ _ h => h) (Or.inl ⟨by rfl, ?_⟩) hHeld ?_
          rotate_left 1
          · intro w hSw; (try dsimp only at hSw); go_simp; try with_reducible rfl
          refine wpAnyH_take (i := 2) (v := ?_) rfl (by kernel_rfl) (by kernel_rfl) (by kernel_rfl) (fun _ _ _ h => h) (Or.inl ⟨by rfl, ?_⟩) hHeld ?_
          rotate_left 1
          · intro w hSw; (try dsimp only at hSw); go_simp; try with_reducible rfl
          refine wpAnyH_take (i := 3) (v := ?_) rfl (by kernel_rfl) (by kernel_rfl) (by kernel_rfl) (fun _ _ _ h => h) (Or.inl ⟨by rfl, ?_⟩) hHeld ?_
          rotate_left 1
          · intro w hSw; (try dsimp only at hSw); go_simp; try with_reducible rfl
          refine wpAnyH_take (i := 4) (v := ?_) rfl (by kernel_rfl) (by kernel_rfl) (by kernel_rfl) (fun _ _ _ h => h) (Or.inl ⟨by rfl, ?_⟩) hHeld ?_
          rotate_left 1
          · intro w hSw; (try dsimp only at hSw); go_simp; try with_reducible rfl
          refine wpAnyH_take (i := 5) (v := ?_) rfl (by kernel_rfl) (by kernel_rfl) (by kernel_rfl) (fun _ _ _ h => h) (Or.inl ⟨by rfl, ?_⟩) hHeld ?_
          rotate_left 1
          · intro w hSw; (try dsimp only at hSw); go_simp; try with_reducible rfl
          refine wpAnyH_take (i := 6) (v := ?_) rfl (by kernel_rfl) (by kernel_rfl) (by kernel_rfl) (fun _ _ _ h => h) (Or.inl ⟨by rfl, ?_⟩) hHeld ?_
          rotate_left 1
          · intro w hSw; (try dsimp only at hSw); go_simp; try with_reducible rfl
          refine wpAnyH_take (i := 7) (v := ?_) rfl (by kernel_rfl) (by kernel_rfl) (by kernel_rfl) (fun _ _ _ h => h) (Or.inl ⟨by rfl, ?_⟩) hHeld ?_
          rotate_left 1
          · intro w hSw; (try dsimp only at hSw); go_simp; try with_reducible rfl
          refine wpAnyH_take (i := 8) (v := ?_) rfl (by kernel_rfl) (by kernel_rfl) (by kernel_rfl) (fun _ _ _ h => h) (Or.inl ⟨by rfl, ?_⟩) hHeld ?_
          rotate_left 1
          · intro w hSw; (try dsimp only at hSw); go_simp; try with_reducible rfl
          refine wpAnyH_take (i := 9) (v := ?_) rfl (by kernel_rfl) (by kernel_rfl) (by kernel_rfl) (fun _ _ _ h => h) (Or.inl ⟨by rfl, ?_⟩) hHeld ?_
          rotate_left 1
          · intro w hSw; (try dsimp only at hSw); go_simp; try with_reducible rfl
          refine wpAnyH_take (i := 10) (v := ?_) rfl (by kernel_rfl) (by kernel_rfl) (by kernel_rfl) (fun _ _ _ h => h) (Or.inl ⟨by rfl, ?_⟩) hHeld ?_
          rotate_left 1
          · intro w hSw; (try dsimp only at hSw); go_simp; try with_reducible rfl
          refine wpAnyH_take (i := 11) (v := ?_) rfl (by kernel_rfl) (by kernel_rfl) (by kernel_rfl) (fun _ _ _ h => h) (Or.inl ⟨by rfl, ?_⟩) hHeld ?_
          rotate_left 1
          · intro w hSw; (try dsimp only at hSw); go_simp; try with_reducible rfl
          refine wpAnyH_take (i := 12) (v := ?_) rfl (by kernel_rfl) (by kernel_rfl) (by kernel_rfl) (fun _ _ _ h => h) (Or.inl ⟨by rfl, ?_⟩) hHeld ?_
          rotate_left 1
          · intro w hSw; (try dsimp only at hSw); go_simp; try with_reducible rfl
          refine wpAnyH_take (i := 13) (v := ?_) rfl (by kernel_rfl) (by kernel_rfl) (by kernel_rfl) (fun _ _ _ h => h) (Or.inl ⟨by rfl, ?_⟩) hHeld ?_
          rotate_left 1
          · intro w hSw; (try dsimp only at hSw); go_simp; try with_reducible rfl
          refine wpAnyH_take (i := 14) (v := ?_) rfl (by kernel_rfl) (by kernel_rfl) (by kernel_rfl) (fun _ _ _ h => h) (Or.inl ⟨by rfl, ?_⟩) hHeld ?_
          rotate_left 1
          · intro w hSw; (try dsimp only at hSw); go_simp; try with_reducible rfl
          refine wpAnyH_take (i := 15) (v := ?_) rfl (by kernel_rfl) (by kernel_rfl) (by kernel_rfl) (fun _ _ _ h => h) (Or.inl ⟨by rfl, ?_⟩) hHeld ?_
          rotate_left 1
          · intro w hSw; (try dsimp only at hSw); go_simp; try with_reducible rfl
          refine wpAnyH_take (i := 16) (v := ?_) rfl (by kernel_rfl) (by kernel_rfl) (by kernel_rfl) (fun _ _ _ h => h) (Or.inl ⟨by rfl, ?_⟩) hHeld ?_
          rotate_left 1
          · intro w hSw; (try dsimp only at hSw); go_simp; try with_reducible rfl
          refine wpAnyH_take (i := 18) (v := ?_) rfl (by kernel_rfl) (by kernel_rfl) (by kernel_rfl) (fun _ _ _ h => h) (Or.inl ⟨by rfl, ?_⟩) hHeld ?_
          rotate_left 1
          · intro w hSw; (try dsimp only at hSw); go_simp; try with_reducible rfl
          refine wpAnyH_ready (rs := [17, 19]) (by kernel_rfl) (by simp) (AllReadyH.cons rfl (fun K hK => ?_) (AllReadyH.cons rfl (fun K hK => ?_) (AllReadyH.nil)))
          · go_simp
            refine hK.out _ _ hHeld (fun hHeld => ?_)
            clear hK K
            refine wpAnyH_ready (rs := [19]) (by kernel_rfl) (by simp) (AllReadyH.cons rfl (fun K hK => ?_) (AllReadyH.nil))
            · go_simp
              refine hK.out _ _ ⟨s1, s2⟩ (fun hHeld => ?_)
              clear hK K
              refine wpAnyH_ready (rs := [20]) (by kernel_rfl) (by simp) (AllReadyH.cons rfl (fun K hK => ?_) (AllReadyH.nil))
              · refine step_append rfl (.tmp 46) (.tmp 48) 27 rfl rfl rfl HAP.out ?_
                refine hK.out _ _ ⟨s3, s4⟩ (fun hHeld => ?_)
                clear hK K
                refine wpAnyH_take (i := 21) (v := ?_) rfl (by kernel_rfl) (by kernel_rfl) (by kernel_rfl) (fun _ _ _ h => h) (Or.inl ⟨by rfl, ?_⟩) hHeld ?_
                rotate_left 1
                · intro w hSw; (try dsimp only at hSw); go_simp; try with_reducible rfl
                refine wpAnyH_ready (rs := [22]) (by kernel_rfl) (by simp) (AllReadyH.cons rfl (fun K hK => ?_) (AllReadyH.nil))
                · go_simp
                  refine hK.out _ _ ⟨s5, s6⟩ (fun hHeld => ?_)
                  clear hK K
                  refine wpAnyH_done (by kernel_rfl) ?_ _
                  go_wp2
                  go_roundw
                  case rel => exact ⟨j + 1, by go_num, by omega, HTF.out, HRF.out⟩
                  case measure => simp [intOf]; omega
          · go_simp
            refine hK.out _ _ ⟨s1, s2⟩ (fun hHeld => ?_)
            clear hK K
            refine wpAnyH_ready (rs := [17]) (by kernel_rfl) (by simp) (AllReadyH.cons rfl (fun K hK => ?_) (AllReadyH.nil))
            · go_simp
              refine hK.out _ _ hHeld (fun hHeld => ?_)
              clear hK K
              refine wpAnyH_ready (rs := [20]) (by kernel_rfl) (by simp) (AllReadyH.cons rfl (fun K hK => ?_) (AllReadyH.nil))
              · refine step_append rfl (.tmp 46) (.tmp 48) 27 rfl rfl rfl HAP.out ?_
                refine hK.out _ _ ⟨s3, s4⟩ (fun hHeld => ?_)
                clear hK K
                refine wpAnyH_take (i := 21) (v := ?_) rfl (by kernel_rfl) (by kernel_rfl) (by kernel_rfl) (fun _ _ _ h => h) (Or.inl ⟨by rfl, ?_⟩) hHeld ?_
                rotate_left 1
                · intro w hSw; (try dsimp only at hSw); go_simp; try with_reducible rfl
                refine wpAnyH_ready (rs := [22]) (by kernel_rfl) (by simp) (AllReadyH.cons rfl (fun K hK => ?_) (AllReadyH.nil))
                · go_simp
                  refine hK.out _ _ ⟨s5, s6⟩ (fun hHeld => ?_)
                  clear hK K
                  refine wpAnyH_done (by kernel_rfl) ?_ _
                  go_wp2
                  go_roundw
                  case rel => exact ⟨j + 1, by go_num, by omega, HTF.out, HRF.out⟩
                  case measure => simp [intOf]; omega
        · have e2 : ((j : Int) < ((g.getD k []).length : Int)) = False := eq_false (by omega)
          obtain rfl : j = (g.getD k []).length := by omega
          rw [HSUCC.out] at hR
          have HR := hide hR
          clear hR hG2
          generalize (g.getD k []).length = rl at *
          go_wp2
          go_roundw
          case rel => exact ⟨k + 1, by go_num, by omega, ht, HR.out⟩
          case measure => simp [intOf]; omega
    · have e1 : ((k : Int) < (g.length : Int)) = False := eq_false (by omega)
      obtain rfl : k = g.length := by omega
      rw [edgesUp_zero] at hR
      have HR := hide hR
      clear hR
      go_wp2
      go_ret
      exact ⟨by rw [hh]; exact Turns.below hb2 (by omega) ht (fun b hb hq => by omega), h, h + 1, by omega, Nat.lt_succ_self h, rfl, HR.out⟩
theorem rpreds_none (av : Option Addr) (cap blk off : Nat) (hd : Nat → Hdr) (g : List (List Int)) (hl : g.length ≤ 40) (hl2 : ∀ b, (g.getD b []).length ≤ 20) (hno : ¬ RightI g) (w : World) (hG : GAt w av blk off hd g) :
    Calls Try.prog 14 #[.slice av g.length cap] w fun e w' => e = .returned (.slice none 0 0) ∧ w' = w := by
  have hr := rright_is av cap blk off hd g hl hl2 w hG
  rw [rightB_false hno] at hr
  clear hG
  go_enter Try.func14, Try.ntmps14
  go_wp2_with fail
  refine hr.mono ?_
  rintro e w1 ⟨rfl, rfl⟩
  go_wp2
  go_ret
  exact ⟨rfl, rfl⟩
theorem rreach_none (av : Option Addr) (cap blk off : Nat) (hd : Nat → Hdr) (g : List (List Int)) (hl : g.length ≤ 40) (hl2 : ∀ b, (g.getD b []).length ≤ 20) (a : Int) (hno : ¬ (RightI g ∧ 0 ≤ a ∧ a < (g.length : Int))) (w : World) (hG : GAt w av blk off hd g) :
    Calls Try.prog 19 #[.slice av g.length cap, .int .i64 a] w fun e w' => e = .returned (.slice none 0 0) ∧ w' = w := by
  have hr := rright_is av cap blk off hd g hl hl2 w hG
  clear hG
  by_cases h1 : RightI g
  · rw [rightB_true.2 h1] at hr
    by_cases h2 : a < 0
    · go_enter Try.func19, Try.ntmps19
      go_wp2_with fail
      refine hr.mono ?_
      rintro e w1 ⟨rfl, rfl⟩
      go_wp2
      go_ret
      exact ⟨rfl, rfl⟩
    · have h3 : ((g.length : Int) ≤ a) = True := eq_true (by rcases Int.lt_or_le a g.length with h | h; exact absurd ⟨h1, by omega, h⟩ hno; exact h)
      go_enter Try.func19, Try.ntmps19
      go_wp2_with fail
      refine hr.mono ?_
      rintro e w1 ⟨rfl, rfl⟩
      go_wp2
      go_ret
      exact ⟨rfl, rfl⟩
  · rw [rightB_false h1] at hr
    go_enter Try.func19, Try.ntmps19
    go_wp2_with fail
    refine hr.mono ?_
    rintro e w1 ⟨rfl, rfl⟩
    go_wp2
    go_ret
    exact ⟨rfl, rfl⟩

end Go.Proofs.Ytchnjjdhffmkpaa
