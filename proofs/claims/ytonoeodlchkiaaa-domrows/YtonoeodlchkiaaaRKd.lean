/-
  The document's own Kids (layer 7): its contract.
-/
import Derived.Test.YtonoeodlchkiaaaKid
import Derived.Deep.MidRow
import Derived.Deep.RegionHeldLaw
namespace Go.Proofs.Ytonoeodlchkiaaa
open Go.ChangeShapes Go.WideShapes Go.ChangeAt Go.RowKit Go.Shelf

set_option maxRecDepth 100000 in
set_option maxHeartbeats 4000000 in
theorem rkids_is (B n : Nat) (hn : n ≤ 4096) (d : List Int) (hl : d.length = n) (w : World) (hB : w.heap[B]? = some (.cells (intsI d).toArray 3 (0, 0))) :
    Calls Try.prog 15 #[.slice (some ⟨B, 0, none⟩) n n] w fun e w' => Below w.heap.size w w' ∧ ∃ H base, w.heap.size ≤ H ∧ H < base ∧ e = .returned (.slice (some ⟨H, 0, none⟩) n n) ∧ RowsB w' base H n (kidsTo d n) := by
  have hBl := lt_of hB
  have HB := hide hB
  clear hB
  have mk : (Instr.makeSlice 22 (.int .i64 (n : Int)) (.int .i64 (n : Int))).run Try.prog w = .ok (.slice (some ⟨w.heap.size, 0, none⟩) n n) (w.alloc (.cells (Array.replicate n (.slice none 0 0)) 25)) := by rw [make_rows n (by omega) w, List.toArray_replicate]
  have hb2 : Below w.heap.size w (w.alloc (.cells (Array.replicate n (.slice none 0 0)) 25)) := (Below.refl _ w).alloc (Nat.le_refl _) _
  have k2 : ∀ base, RowsB (w.alloc (.cells (Array.replicate n (.slice none 0 0)) 25)) base w.heap.size n (fun _ => []) := fun base => by
    rw [← List.toArray_replicate]; exact rowsB_new w n _
  have hs2 : (w.alloc (.cells (Array.replicate n (.slice none 0 0)) 25)).heap.size = w.heap.size + 1 := by simp
  have HK := hide (And.intro hb2 (And.intro k2 hs2))
  clear hb2 k2 hs2
  go_enter Try.func15, Try.ntmps15
  go_wp2
  clear mk
  obtain ⟨hb2, k2, hs2⟩ := HK.out
  clear HK
  generalize w.alloc (.cells (Array.replicate n (.slice none 0 0)) 25) = w3 at *
  generalize hh : w.heap.size = h at *
  go_loopw [4] (fun i W => ∃ k : Nat, i = .int .i64 k ∧ k ≤ n ∧ Turns (fun b => h + 1 ≤ b ∨ b = h) w3 W ∧ RowsB W (h + 1) h n (kidsTo d k)) (fun i _ => n - (intOf i).toNat)
  case atStart => exact ⟨0, rfl, Nat.zero_le _, Turns.refl _ _, (k2 _).congr (fun t _ => by simp [kidsTo])⟩
  case round =>
    obtain ⟨k, rfl, hk, hT, hR⟩ := hrel
    have hsz := hT.size
    have hBr : Below h w wr := Turns.below hb2 (by omega) hT (fun b hb hq => by omega)
    by_cases hkl : k < n
    · have e1 : ((k : Int) < (n : Int)) = True := eq_true (by omega)
      have hkb : k ≤ 4096 := by omega
      have ck := ints_at ((hBr.block B (by omega)).trans HB.out) k (by omega)
      have HSC : Hid (∀ i, kidsTo d (k + 1) i = kidsTo d k i ++ (if ask d k = (i : Int) then [k] else [])) := kidsTo_succ d k
      by_cases hin : 0 ≤ ask d k ∧ ask d k < (n : Int)
      · obtain ⟨t, ht⟩ := Int.eq_ofNat_of_zero_le hin.1
        have htn : t < n := by omega
        have hal := kidsTo_len d k t
        have hR1 : RowsB wr.drew (h + 1) h n (kidsTo d k) := hR
        obtain ⟨v, g', cp, w', d1, hap, hkb', hsz', hR', hT'⟩ := rowsB_step hR1 25 t k htn (by omega) (by show h + 1 ≤ wr.heap.size; omega) (by omega)
        have hRf : RowsB (w'.setCell ⟨h, t, none⟩ (.slice (some ⟨g', 0, none⟩) ((kidsTo d k t).length + 1) cp)) (h + 1) h n (kidsTo d (k + 1)) := hR'.congr (fun x _ => by
          rw [HSC.out, ht]
          by_cases e : x = t
          · rw [if_pos e, if_pos (by rw [e])]
          · rw [if_neg e, if_neg (by omega), List.append_nil])
        have HRF := hide hRf
        have hTf : Turns (fun b => h + 1 ≤ b ∨ b = h) w3 (w'.setCell ⟨h, t, none⟩ (.slice (some ⟨g', 0, none⟩) ((kidsTo d k t).length + 1) cp)) := hT.trans ⟨hT'.os, hT'.tape, hT'.output, hT'.size, hT'.block⟩
        have HTF := hide hTf
        rw [show wr.drew.heap.size = wr.heap.size from rfl] at hap
        have HAP := hide hap
        have dA : wr.cell? ⟨h, t, none⟩ = some v := d1
        have f3 : w'.frozen? ⟨h, t, none⟩ = false := by
          obtain ⟨vs, _, h2, _⟩ := hR1
          exact (World.frozen?_of_block (hkb' h (by show h < wr.heap.size; omega) (.inl (by omega)))).trans (frozen_of h2 _)
        have d3 : w'.cell? ⟨h, t, none⟩ = some v := (World.cell?_of_block (hkb' h (by show h < wr.heap.size; omega) (.inl (by omega)))).trans d1
        have dB : (wr.alloc (.cells #[.int .i64 (k : Int)] 3)).cell? ⟨h, t, none⟩ = some v := (World.cell?_of_block (Below.heap_alloc _ _ _ (by show h < _; omega))).trans dA
        rw [ht] at ck
        have s1 : (wr.alloc (.cells #[.int .i64 (k : Int)] 3)).cell? ⟨B, k, none⟩ = _ := (World.cell?_of_block (Below.heap_alloc _ _ _ (by show B < _; omega))).trans ck
        have s3 : w'.cell? ⟨B, k, none⟩ = _ := (World.cell?_of_block (hkb' B (by show B < wr.heap.size; omega) (.inl (by omega)))).trans ck
        have s5 : (w'.setCell ⟨h, t, none⟩ (.slice (some ⟨g', 0, none⟩) ((kidsTo d k t).length + 1) cp)).cell? ⟨B, k, none⟩ = _ := (World.cell?_of_block (Below.heap_setCell _ _ _ _ (by show B ≠ h; omega))).trans s3
        clear hap hRf hTf hR' hT' hkb' hR1 hR hT hin hal hBr ht d1
        generalize (kidsTo d k t).length = kl at *
        have hti : ((t : Int) < (n : Int)) = True := eq_true (by omega)
        have htp : ((0 : Int) ≤ (t : Int)) = True := eq_true (by omega)
        have htb : t ≤ 4096 := by omega
        go_wp2
        refine wp_region_held_drew (S := fun w' => w'.cell? ⟨B, k, none⟩ = some (.int .i64 (t : Int))) (by kernel_rfl) ck (fun hHeld => ?_)
        refine wpAnyH_take (i := 0) (v := ?_) rfl (by kernel_rfl) (by kernel_rfl) (by kernel_rfl) (fun _ _ _ h => h) (Or.inl ⟨by rfl, ?_⟩) hHeld ?_
        rotate_left 1
        · intro w hSw; (try dsimp only at hSw); go_simp; try with_reducible rfl
        refine wpAnyH_take (i := 1) (v := ?_) rfl (by kernel_rfl) (by kernel_rfl) (by kernel_rfl) (fun _ _ _ h => h) (Or.inl ⟨by rfl, ?_⟩) hHeld ?_
        rotate_left 1
        · intro w hSw; (try dsimp only at hSw); go_simp; try with_reducible rfl
        refine wpAnyH_take (i := 2) (v := ?_) rfl (by kernel_rfl) (by kernel_rfl) (by kernel_rfl) (fun _ _ _ h => h) (Or.inl ⟨by rfl, ?_⟩) hHeld ?_
        rotate_left 1
        · intro w hSw; (try dsimp only at hSw); go_simp; try with_reducible rfl
        refine wpAnyH_take (i := 3) (v := ?_) rfl (by kernel_rfl) (by kernel_rfl) (by kernel_rfl) (fun _ _ _ h => h) (Or.inl ⟨by rfl, ?_⟩) hHeld ?_
        rotate_left 1
        · intro w hSw; (try dsimp only at hSw); go_simp; try with_reducible rfl
        refine wpAnyH_take (i := 4) (v := ?_) rfl (by kernel_rfl) (by kernel_rfl) (by kernel_rfl) (fun _ _ _ h => h) (Or.inl ⟨by rfl, ?_⟩) hHeld ?_
        rotate_left 1
        · intro w hSw; (try dsimp only at hSw); go_simp; try with_reducible rfl
        refine wpAnyH_take (i := 5) (v := ?_) rfl (by kernel_rfl) (by kernel_rfl) (by kernel_rfl) (fun _ _ _ h => h) (Or.inl ⟨by rfl, ?_⟩) hHeld ?_
        rotate_left 1
        · intro w hSw; (try dsimp only at hSw); go_simp; try with_reducible rfl
        refine wpAnyH_take (i := 6) (v := ?_) rfl (by kernel_rfl) (by kernel_rfl) (by kernel_rfl) (fun _ _ _ h => h) (Or.inl ⟨by rfl, ?_⟩) hHeld ?_
        rotate_left 1
        · intro w hSw; (try dsimp only at hSw); go_simp; try with_reducible rfl
        refine wpAnyH_take (i := 7) (v := ?_) rfl (by kernel_rfl) (by kernel_rfl) (by kernel_rfl) (fun _ _ _ h => h) (Or.inl ⟨by rfl, ?_⟩) hHeld ?_
        rotate_left 1
        · intro w hSw; (try dsimp only at hSw); go_simp; try with_reducible rfl
        refine wpAnyH_take (i := 8) (v := ?_) rfl (by kernel_rfl) (by kernel_rfl) (by kernel_rfl) (fun _ _ _ h => h) (Or.inl ⟨by rfl, ?_⟩) hHeld ?_
        rotate_left 1
        · intro w hSw; (try dsimp only at hSw); go_simp; try with_reducible rfl
        refine wpAnyH_take (i := 9) (v := ?_) rfl (by kernel_rfl) (by kernel_rfl) (by kernel_rfl) (fun _ _ _ h => h) (Or.inl ⟨by rfl, ?_⟩) hHeld ?_
        rotate_left 1
        · intro w hSw; (try dsimp only at hSw); go_simp; try with_reducible rfl
        refine wpAnyH_take (i := 10) (v := ?_) rfl (by kernel_rfl) (by kernel_rfl) (by kernel_rfl) (fun _ _ _ h => h) (Or.inl ⟨by rfl, ?_⟩) hHeld ?_
        rotate_left 1
        · intro w hSw; (try dsimp only at hSw); go_simp; try with_reducible rfl
        refine wpAnyH_take (i := 12) (v := ?_) rfl (by kernel_rfl) (by kernel_rfl) (by kernel_rfl) (fun _ _ _ h => h) (Or.inl ⟨by rfl, ?_⟩) hHeld ?_
        rotate_left 1
        · intro w hSw; (try dsimp only at hSw); go_simp; try with_reducible rfl
        refine wpAnyH_ready (rs := [11, 13]) (by kernel_rfl) (by simp) (AllReadyH.cons rfl (fun K hK => ?_) (AllReadyH.cons rfl (fun K hK => ?_) (AllReadyH.nil)))
        · go_simp
          refine hK.out _ _ hHeld (fun hHeld => ?_)
          clear hK K
          refine wpAnyH_ready (rs := [13]) (by kernel_rfl) (by simp) (AllReadyH.cons rfl (fun K hK => ?_) (AllReadyH.nil))
          · go_simp
            refine hK.out _ _ s1 (fun hHeld => ?_)
            clear hK K
            refine wpAnyH_ready (rs := [14]) (by kernel_rfl) (by simp) (AllReadyH.cons rfl (fun K hK => ?_) (AllReadyH.nil))
            · refine step_append rfl (.tmp 39) (.tmp 41) 25 rfl rfl rfl HAP.out ?_
              refine hK.out _ _ s3 (fun hHeld => ?_)
              clear hK K
              refine wpAnyH_take (i := 15) (v := ?_) rfl (by kernel_rfl) (by kernel_rfl) (by kernel_rfl) (fun _ _ _ h => h) (Or.inl ⟨by rfl, ?_⟩) hHeld ?_
              rotate_left 1
              · intro w hSw; (try dsimp only at hSw); go_simp; try with_reducible rfl
              refine wpAnyH_ready (rs := [16]) (by kernel_rfl) (by simp) (AllReadyH.cons rfl (fun K hK => ?_) (AllReadyH.nil))
              · go_simp
                refine hK.out _ _ s5 (fun hHeld => ?_)
                clear hK K
                refine wpAnyH_done (by kernel_rfl) ?_ _
                go_wp2
                go_roundw
                case rel => exact ⟨k + 1, by go_num, by omega, HTF.out, HRF.out⟩
                case measure => simp [intOf]; omega
        · go_simp
          refine hK.out _ _ s1 (fun hHeld => ?_)
          clear hK K
          refine wpAnyH_ready (rs := [11]) (by kernel_rfl) (by simp) (AllReadyH.cons rfl (fun K hK => ?_) (AllReadyH.nil))
          · go_simp
            refine hK.out _ _ hHeld (fun hHeld => ?_)
            clear hK K
            refine wpAnyH_ready (rs := [14]) (by kernel_rfl) (by simp) (AllReadyH.cons rfl (fun K hK => ?_) (AllReadyH.nil))
            · refine step_append rfl (.tmp 39) (.tmp 41) 25 rfl rfl rfl HAP.out ?_
              refine hK.out _ _ s3 (fun hHeld => ?_)
              clear hK K
              refine wpAnyH_take (i := 15) (v := ?_) rfl (by kernel_rfl) (by kernel_rfl) (by kernel_rfl) (fun _ _ _ h => h) (Or.inl ⟨by rfl, ?_⟩) hHeld ?_
              rotate_left 1
              · intro w hSw; (try dsimp only at hSw); go_simp; try with_reducible rfl
              refine wpAnyH_ready (rs := [16]) (by kernel_rfl) (by simp) (AllReadyH.cons rfl (fun K hK => ?_) (AllReadyH.nil))
              · go_simp
                refine hK.out _ _ s5 (fun hHeld => ?_)
                clear hK K
                refine wpAnyH_done (by kernel_rfl) ?_ _
                go_wp2
                go_roundw
                case rel => exact ⟨k + 1, by go_num, by omega, HTF.out, HRF.out⟩
                case measure => simp [intOf]; omega
      · have hRf : RowsB wr (h + 1) h n (kidsTo d (k + 1)) := hR.congr (fun x hx => by
          rw [HSC.out, if_neg (fun e => hin (by omega)), List.append_nil])
        have HRF := hide hRf
        by_cases hp : 0 ≤ ask d k
        · have q1 : ((0 : Int) ≤ ask d k) = True := eq_true hp
          have q2 : (ask d k < (n : Int)) = False := eq_false (fun h => hin ⟨hp, h⟩)
          clear hR hRf hin hp
          generalize ask d k = v at *
          go_wp2
          go_roundw
          case rel => exact ⟨k + 1, by go_num, by omega, hT, HRF.out⟩
          case measure => simp [intOf]; omega
        · have q1 : ((0 : Int) ≤ ask d k) = False := eq_false hp
          clear hR hRf hin hp
          generalize ask d k = v at *
          go_wp2
          go_roundw
          case rel => exact ⟨k + 1, by go_num, by omega, hT, HRF.out⟩
          case measure => simp [intOf]; omega
    · have e1 : ((k : Int) < (n : Int)) = False := eq_false (by omega)
      obtain rfl : k = n := by omega
      have HR := hide hR
      clear hR
      go_wp2
      go_ret
      exact ⟨by rw [hh]; exact hBr, h, h + 1, by omega, Nat.lt_succ_self h, rfl, HR.out⟩

end Go.Proofs.Ytonoeodlchkiaaa
