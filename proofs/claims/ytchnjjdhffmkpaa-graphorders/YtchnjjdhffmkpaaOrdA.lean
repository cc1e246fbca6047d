/-
  The law GraphOrders (layer 6): its walk.
-/
import Derived.Test.YtchnjjdhffmkpaaRfJ
namespace Go.Proofs.Ytchnjjdhffmkpaa
open Go.ChangeShapes Go.WideShapes Go.ChangeAt Go.RowKit Go.Shelf

set_option maxRecDepth 100000 in
set_option maxHeartbeats 4000000 in
theorem rloops_none (av : Option Addr) (cap blk off : Nat) (hd : Nat → Hdr) (g : List (List Int)) (hl : g.length ≤ 40) (hl2 : ∀ b, (g.getD b []).length ≤ 20) (hno : ¬ RightI g) (w : World) (hG : GAt w av blk off hd g) :
    Calls Try.prog 29 #[.slice av g.length cap] w fun e w' => Below w.heap.size w w' ∧ e = .returned (.slice none 0 0) := by
  have hr := rback_none av cap blk off hd g hl hl2 hno w hG
  have HP := hide (rplaces_none av cap blk off hd g hl hl2 hno w hG)
  clear hG
  go_enter Try.func29, Try.ntmps29
  go_wp2_with fail
  refine hr.mono ?_
  rintro e w1 ⟨rfl, rfl⟩
  clear hr
  go_wp2_with fail
  refine HP.out.mono ?_
  clear HP
  rintro e w2 ⟨hb2, P, l, hP1, rfl, kP, -⟩
  have hs2 := hb2.size
  have mk := make_flags g.length (by omega)
  clear kP hP1
  go_wp2
  go_loopw [6, 5] (fun i v W => ∃ k : Nat, i = .int .i64 k ∧ v = .slice none 0 0 ∧ k ≤ g.length ∧ Below w2.heap.size w2 W) (fun i _ _ => g.length - (intOf i).toNat)
  case atStart => exact ⟨0, rfl, rfl, Nat.zero_le _, Below.refl _ _⟩
  case round =>
    obtain ⟨k, rfl, rfl, hk, hB⟩ := hrel
    generalize hW0 : wr = wr0 at *
    clear hW0
    by_cases hkl : k < g.length
    · have e1 : ((k : Int) < (g.length : Int)) = True := eq_true (by omega)
      have hkb : k ≤ 4096 := by omega
      have kA := World.alloc_heap_new wr0 (flagsO (List.replicate g.length false))
      have hbA : Below wr0.heap.size wr0 (wr0.alloc (flagsO (List.replicate g.length false))) := (Below.refl _ _).alloc (Nat.le_refl _) _
      have cA : (wr0.alloc (flagsO (List.replicate g.length false))).cell? ⟨wr0.heap.size, k, none⟩ = some (.bool false) := by
        rw [cell_of kA, List.getElem?_toArray, List.getElem?_map, List.getElem?_replicate, if_pos hkl]; rfl
      have HK := hide (And.intro cA hbA)
      clear kA cA hbA
      go_wp2
      obtain ⟨cA, hbA⟩ := HK.out
      clear HK
      generalize wr0.alloc (flagsO (List.replicate g.length false)) = w3 at *
      generalize hA : wr0.heap.size = A at *
      go_loopw [8] (fun i W => i = .int .i64 0 ∧ w3 = W) (fun _ _ => 0)
      case atStart => exact ⟨rfl, rfl⟩
      case round =>
        obtain ⟨rfl, rfl⟩ := hrel
        have hsB := hB.size
        go_wp2
        go_roundw
        case rel => exact ⟨k + 1, by go_num, rfl, by omega, hB.trans (hbA.mono (by omega))⟩
        case measure => simp [intOf]; omega
    · have e1 : ((k : Int) < (g.length : Int)) = False := eq_false (by omega)
      go_wp2
      go_ret
      exact ⟨bel_two hb2 hB, rfl⟩

theorem loops_rows {g : List (List Nat)} (hgr : Right g) {m' : List Bool} {o : List Nat} (hw : Walk g [0] (List.replicate g.length false) m' o) (k : Nat) : ((castG (loopsTo g o g.length)).getD k []).length ≤ 100000000 := by
  rw [castG_at, List.length_map]
  rcases Nat.lt_or_ge k (loopsTo g o g.length).length with h | h
  · have hok := loopsTo_ok hgr hw ((loopsTo g o g.length).getD k []) (by rw [List.getD_eq_getElem?_getD, List.getElem?_eq_getElem h]; exact List.getElem_mem h)
    have h1 := hok.nodup.length_le_of_subset (l₂ := List.range g.length) (fun x hx => List.mem_range.2 (hok.lt x hx))
    rw [List.length_range] at h1
    have := hgr.most
    omega
  · rw [getD_ge _ _ h]; simp

set_option maxRecDepth 100000 in
set_option maxHeartbeats 8000000 in
theorem orders_walk (av : Option Addr) (cap blk off : Nat) (hd : Nat → Hdr) (gi : List (List Int)) (w : World) (hG : GAt w av blk off hd gi) :
    Calls Try.prog 4 #[.slice av gi.length cap] w fun e w' => e = .returned (.bool true) ∧ Below w.heap.size w w' := by
  go_enter Try.func4, Try.ntmps4
  go_wp2_with fail
  refine (small_is w).mono ?_
  rintro e w1 ⟨rfl, hb1⟩
  have hG1 := hG.below hb1
  have hf := few_is av cap blk off hd gi w1 hG1
  go_wp2_with fail
  refine hf.mono ?_
  rintro e w1' ⟨rfl, ⟨rfl, hl40, hl20⟩ | rfl⟩
  case inr =>
    go_wp2
    go_ret
    exact ⟨rfl, hb1⟩
  clear hf hG
  have HL2 := hide hl20
  clear hl20
  by_cases hri : RightI gi
  case neg =>
    have h2 := order_none av cap blk off hd gi hri w1' hG1
    go_wp2_with fail
    refine h2.mono ?_
    rintro e w2 ⟨hb2, rfl⟩
    clear h2
    have hB2 := bel_two hb1 hb2
    have hG2 := hG1.below hb2
    clear hb1 hb2 hG1
    have h3 := rorder_none av cap blk off hd gi hl40 HL2.out hri w2 hG2
    go_wp2_with fail
    refine h3.mono ?_
    rintro e w3 ⟨rfl, rfl⟩
    clear h3
    have HI := hide (ints_same (W := w3) (v1 := .slice none 0 0) (v2 := .slice none 0 0) (xs := []) (by simp) ⟨none, 0, 0, 0, rfl, by simp, by simp⟩ ⟨none, 0, 0, 0, rfl, by simp, by simp⟩)
    go_wp2_with fail
    refine HI.out.mono ?_
    clear HI
    rintro e w4 ⟨rfl, hq4⟩
    have hb4 := bel_q hq4
    have hB4 := bel_two hB2 hb4
    have hG4 := hG2.below hb4
    clear hB2 hb4 hG2 hq4
    have h5 := back_none av cap blk off hd gi hri w4 hG4
    go_wp2_with fail
    refine h5.mono ?_
    rintro e w5 ⟨hb5, rfl⟩
    clear h5
    have hB5 := bel_two hB4 hb5
    have hG5 := hG4.below hb5
    clear hB4 hb5 hG4
    have h6 := rback_none av cap blk off hd gi hl40 HL2.out hri w5 hG5
    go_wp2_with fail
    refine h6.mono ?_
    rintro e w6 ⟨rfl, rfl⟩
    clear h6
    have HI := hide (pairs_same (W := w6) (v1 := .slice none 0 0) (v2 := .slice none 0 0) (l := []) (by simp) ⟨none, 0, 0, rfl, by simp, by simp⟩ ⟨none, 0, 0, rfl, by simp, by simp⟩)
    go_wp2_with fail
    refine HI.out.mono ?_
    clear HI
    rintro e w7 ⟨rfl, hq7⟩
    have hb7 := bel_q hq7
    have hB7 := bel_two hB5 hb7
    have hG7 := hG5.below hb7
    clear hB5 hb7 hG5 hq7
    have h8 := loops_none av cap blk off hd gi hri w7 hG7
    go_wp2_with fail
    refine h8.mono ?_
    rintro e w8 ⟨hb8, rfl⟩
    clear h8
    have hB8 := bel_two hB7 hb8
    have hG8 := hG7.below hb8
    clear hB7 hb8 hG7
    have h9 := rloops_none av cap blk off hd gi hl40 HL2.out hri w8 hG8
    go_wp2_with fail
    refine h9.mono ?_
    rintro e w9 ⟨hb9, rfl⟩
    clear h9
    have hB9 := bel_two hB8 hb9
    have HI := hide (rows_same (W := w9) (v1 := .slice none 0 0) (v2 := .slice none 0 0) (xss := []) (by simp) (by simp) ⟨none, 0, 0, 0, rfl, by simp, by simp⟩ ⟨none, 0, 0, 0, rfl, by simp, by simp⟩)
    go_wp2_with fail
    refine HI.out.mono ?_
    clear HI
    rintro e w10 ⟨rfl, hq10⟩
    go_wp2
    go_ret
    exact ⟨rfl, bel_two hB9 (bel_q hq10)⟩
  obtain ⟨g, hgr, rfl⟩ := hri.nat
  have hrows := hgr.rows
  rw [castG_len] at *
  have h2 := order_is av cap blk off hd g hgr w1' hG1
  go_wp2_with fail
  refine h2.mono ?_
  rintro e w2 ⟨hb2, v2, m', o, rfl, ho2, hw⟩
  clear h2
  have HW := hide hw
  have hct := hw.count
  have hun := unmetN_le_len (List.replicate g.length false)
  rw [List.length_replicate] at hun
  have hol : o.length ≤ 40 := by omega
  obtain ⟨av2, cp2, hve2, -⟩ := owns_shape ho2
  subst hve2
  have hv2 : RowN w2 (.slice av2 o.length cp2) (castL o.reverse) := RowN.of_owns (by rw [List.length_reverse]; exact ho2)
  have hB2 := bel_two hb1 hb2
  have hG2 := hG1.below hb2
  clear hb1 hb2 hG1 ho2 hct hun hw
  have h3 := rorder_is av cap blk off hd g hgr hl40 w2 hG2
  go_wp2_with fail
  refine h3.mono ?_
  rintro e w3 ⟨hb3, v3, m3, o3, rfl, ho3, hw3⟩
  clear h3
  obtain rfl := (hw3.det HW.out).2
  clear hw3
  obtain ⟨av3, cp3, hve3, -⟩ := owns_shape ho3
  subst hve3
  have hv3 : RowN w3 (.slice av3 o3.length cp3) (castL o3.reverse) := RowN.of_owns (by rw [List.length_reverse]; exact ho3)
  have HI := hide (ints_same (by rw [List.length_map, List.length_reverse]; omega) (hv2.below hb3) hv3)
  have hB3 := bel_two hB2 hb3
  have hG3 := hG2.below hb3
  clear hB2 hb3 hG2 ho3 hv2 hv3
  go_wp2_with fail
  refine HI.out.mono ?_
  clear HI
  rintro e w4 ⟨rfl, hq4⟩
  have hb4 := bel_q hq4
  have hB4 := bel_two hB3 hb4
  have hG4 := hG3.below hb4
  clear hB3 hb4 hG3 hq4
  have hbl : (backL (plc o3.reverse) g).length ≤ 100000000 := by have := backTo_len (plc o3.reverse) g hrows g.length; unfold backL; omega
  have h5 := back_is av cap blk off hd g hgr w4 hG4
  go_wp2_with fail
  refine h5.mono ?_
  rintro e w5 ⟨hb5, v5, m5, o5, rfl, hw5, ho5⟩
  clear h5
  obtain rfl := (hw5.det HW.out).2
  have hv5 := PairN.of_owns ho5
  obtain ⟨av5, cp5, hve5⟩ := hv5.shape
  subst hve5
  have hB5 := bel_two hB4 hb5
  have hG5 := hG4.below hb5
  clear hB4 hb5 hG4 ho5 hw5
  have h6 := rback_is av cap blk off hd g hgr hl40 w5 hG5
  go_wp2_with fail
  refine h6.mono ?_
  rintro e w6 ⟨hb6, v6, m6, o6, rfl, hw6, ho6⟩
  clear h6
  obtain rfl := (hw6.det HW.out).2
  have hv6 := PairN.of_owns ho6
  obtain ⟨av6, cp6, hve6⟩ := hv6.shape
  subst hve6
  have HI := hide (pairs_same hbl (hv5.below hb6) hv6)
  have hB6 := bel_two hB5 hb6
  have hG6 := hG5.below hb6
  clear hB5 hb6 hG5 ho6 hw6 hv5 hv6
  go_wp2_with fail
  refine HI.out.mono ?_
  clear HI
  rintro e w7 ⟨rfl, hq7⟩
  have hb7 := bel_q hq7
  have hB7 := bel_two hB6 hb7
  have hG7 := hG6.below hb7
  clear hB6 hb7 hG6 hq7 hbl
  have h8 := loops_is av cap blk off hd g hgr w7 hG7
  go_wp2_with fail
  refine h8.mono ?_
  rintro e w8 ⟨hb8, v8, m8, o8, rfl, hw8, hr8⟩
  clear h8
  obtain rfl := (hw8.det HW.out).2
  obtain ⟨av8, cp8, hve8⟩ := (show ∃ lav lcap, v8 = Value.slice lav (loopsTo g o8 g.length).length lcap from by obtain ⟨vs, ho, _⟩ := hr8; obtain ⟨x, y, z, _⟩ := owns_shape ho; exact ⟨x, y, z⟩)
  subst hve8
  have hv8 := RowsN.of_rowsR hr8
  have hB8 := bel_two hB7 hb8
  have hG8 := hG7.below hb8
  clear hB7 hb8 hG7 hr8 hw8
  have h9 := rloops_is av cap blk off hd g hgr hl40 w8 hG8
  go_wp2_with fail
  refine h9.mono ?_
  rintro e w9 ⟨hb9, v9, m9, o9, rfl, hw9, hr9⟩
  clear h9
  obtain rfl := (hw9.det HW.out).2
  obtain ⟨av9, cp9, hve9⟩ := (show ∃ lav lcap, v9 = Value.slice lav (loopsTo g o9 g.length).length lcap from by obtain ⟨vs, ho, _⟩ := hr9; obtain ⟨x, y, z, _⟩ := owns_shape ho; exact ⟨x, y, z⟩)
  subst hve9
  have hv9 := RowsN.of_rowsR hr9
  have hB9 := bel_two hB8 hb9
  have HI := hide (rows_same (by rw [castG_len]; have := loopsTo_len g o9 g.length; omega) (loops_rows hgr HW.out) (hv8.below hb9) hv9)
  clear hB8 hb9 hG8 hr9 hw9 hv8 hv9
  generalize (loopsTo g o9 g.length).length = ll at *
  go_wp2_with fail
  refine HI.out.mono ?_
  clear HI
  rintro e w10 ⟨rfl, hq10⟩
  go_wp2
  go_ret
  exact ⟨rfl, bel_two hB9 (bel_q hq10)⟩

end Go.Proofs.Ytchnjjdhffmkpaa
