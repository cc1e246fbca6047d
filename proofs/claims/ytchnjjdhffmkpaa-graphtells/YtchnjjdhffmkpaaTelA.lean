/-
  The law GraphTells (layer 6): its walk.
-/
import Derived.Test.YtchnjjdhffmkpaaRfE
import Derived.Test.YtchnjjdhffmkpaaSmall
namespace Go.Proofs.Ytchnjjdhffmkpaa
open Go.ChangeShapes Go.WideShapes Go.ChangeAt Go.RowKit Go.Shelf

set_option maxRecDepth 100000 in
theorem flags_nil (w : World) : Calls Try.prog 17 #[.slice none 0 0, .slice none 0 0] w fun e w' => e = .returned (.bool true) ∧ Below w.heap.size w w' := by
  go_enter Try.func17, Try.ntmps17
  go_wp2
  go_loopw [5] (fun i W => i = .int .i64 0 ∧ w = W) (fun _ _ => 0)
  case atStart => exact ⟨rfl, rfl⟩
  case round =>
    obtain ⟨rfl, rfl⟩ := hrel
    go_wp2
    go_ret
    exact ⟨rfl, Below.refl _ _⟩

/-- Rows that may be written over. -/
def RowsW (w W : World) (base H n : Nat) (f : Nat → List Nat) : Prop := ∀ i, i < n → ∃ (av : Option Addr) (cap gb : Nat) (cs : List Value), w.cell? ⟨H, i, none⟩ = some (.slice av (f i).length cap) ∧ (0 < (f i).length → av = some ⟨gb, 0, none⟩ ∧ base ≤ gb ∧ W.heap[gb]? = some (.cells cs.toArray 3 (0, 0)) ∧ (f i).length ≤ cs.length)
theorem RowsW.of_rowsB {W : World} {base H n : Nat} {f : Nat → List Nat} (h : RowsB W base H n f) : RowsW W W base H n f := by
  obtain ⟨vs, h1, h2, h3, h4⟩ := h
  intro i hi
  obtain ⟨v, hv, ho⟩ := h3 i hi
  have hc : W.cell? ⟨H, i, none⟩ = some v := by rw [cell_of h2]; simpa using hv
  rcases ho.2 with ⟨rfl, hn⟩ | ⟨gb, cap, cur, rfl, a1, a2, a3, a4, a5, a6⟩
  · exact ⟨none, 0, 0, [], by rw [hc, hn], fun h => by omega⟩
  · exact ⟨_, cap, gb, cur.toList, hc, fun _ => ⟨rfl, a1, by rw [Array.toArray_toList]; exact a2, Nat.le_trans a3 (Nat.le_of_eq (by simpa using a5.symm))⟩⟩
theorem RowsW.put {w W : World} {base H n : Nat} {f : Nat → List Nat} (h : RowsW w W base H n f) (pb po : Nat) (v : Value) : RowsW w (W.setCell ⟨pb, po, none⟩ v) base H n f := by
  intro i hi
  obtain ⟨av, cap, gb, cs, h1, h2⟩ := h i hi
  by_cases hb : gb = pb
  · refine ⟨av, cap, gb, cs.set po v, h1, fun h0 => ?_⟩
    obtain ⟨a1, a2, a3, a4⟩ := h2 h0
    refine ⟨a1, a2, ?_, by rw [List.length_set]; exact a4⟩
    subst hb
    exact heap_set_same a3 po v
  · exact ⟨av, cap, gb, cs, h1, fun h0 => by obtain ⟨a1, a2, a3, a4⟩ := h2 h0; exact ⟨a1, a2, (Below.heap_setCell W ⟨pb, po, none⟩ v gb hb).trans a3, a4⟩⟩

set_option maxRecDepth 100000 in
set_option maxHeartbeats 8000000 in
theorem tells_walk (av : Option Addr) (cap blk off : Nat) (hd : Nat → Hdr) (gi : List (List Int)) (a : Int) (w : World) (hG : GAt w av blk off hd gi) :
    Calls Try.prog 3 #[.slice av gi.length cap, .int .i64 a] w fun e w' => e = .returned (.bool true) ∧ Below w.heap.size w w' := by
  go_enter Try.func3, Try.ntmps3
  go_wp2_with fail
  refine (small_is w).mono ?_
  rintro e w1 ⟨rfl, hb1⟩
  have hG1 := hG.below hb1
  have hf := few_is av cap blk off hd gi w1 hG1
  go_wp2_with fail
  refine hf.mono ?_
  rintro e w1' ⟨rfl, ⟨rfl, hl40, hl20⟩ | rfl⟩
  case inr =>
    go_wp2
    go_ret
    exact ⟨rfl, hb1⟩
  clear hf
  have hc := copyg_is av cap blk off hd gi hl40 hl20 w1' hG1
  go_wp2_with fail
  refine hc.mono ?_
  rintro e w2 ⟨hb2, v2, rfl, hR2⟩
  clear hc
  have hG2 := hG1.below hb2
  have hB2 := bel_two hb1 hb2
  have hV2 := RowsN.of_rowsI hR2
  obtain ⟨wav, wcap, hwe⟩ := hV2.shape
  subst hwe
  have HL1 := hide hl40
  have HL2 := hide hl20
  clear hG1 hG hb1 hb2 hR2 hl20
  by_cases hri : RightI gi
  case neg =>
    have hp := preds_none av cap blk off hd gi hri w2 hG2
    go_wp2_with fail
    refine hp.mono ?_
    rintro e w3 ⟨hb3, rfl⟩
    clear hp
    have hG3 := hG2.below hb3
    have hB3 := bel_two hB2 hb3
    have hV3 := hV2.below hb3
    clear hG2 hB2 hV2 hb3
    have hp := rpreds_none av cap blk off hd gi HL1.out HL2.out hri w3 hG3
    go_wp2_with fail
    refine hp.mono ?_
    rintro e w4 ⟨rfl, rfl⟩
    clear hp
    have HI := hide (rows_same (W := w4) (v1 := .slice none 0 0) (v2 := .slice none 0 0) (xss := []) (by simp) (by simp) ⟨none, 0, 0, 0, rfl, by simp, by simp⟩ ⟨none, 0, 0, 0, rfl, by simp, by simp⟩)
    go_wp2_with fail
    refine HI.out.mono ?_
    clear HI
    rintro e W ⟨rfl, hq5⟩
    have hb5 := bel_q hq5
    have hG := hG3.below hb5
    have hB := bel_two hB3 hb5
    have hV := hV3.below hb5
    clear hG3 hB3 hV3 hb5 hq5 hl40
    have HNO : Hid (¬ (RightI gi ∧ 0 ≤ a ∧ a < (gi.length : Int))) := fun h => hri h.1
    go_wp2
    go_loopw [10] (fun i wr => i = .int .i64 0 ∧ W = wr) (fun _ _ => 0)
    case atStart => exact ⟨rfl, rfl⟩
    case round =>
      obtain ⟨rfl, rfl⟩ := hrel
      have hr := right_any av cap blk off hd gi W hG
      rw [rightB_false hri] at hr
      go_wp2_with fail
      refine hr.mono ?_
      rintro e w2 ⟨rfl, hb2⟩
      clear hr
      have hG2 := hG.below hb2
      have hB2 := bel_two hB hb2
      have hV2 := hV.below hb2
      clear hG hB hV hb2
      have hq := rright_is av cap blk off hd gi HL1.out HL2.out w2 hG2
      rw [rightB_false hri] at hq
      go_wp2_with fail
      refine hq.mono ?_
      rintro e w3 ⟨rfl, rfl⟩
      clear hq
      have h5 := reach_none av cap blk off hd gi a HNO.out w3 hG2
      go_wp2_with fail
      refine h5.mono ?_
      rintro e w5 ⟨hb5, rfl⟩
      clear h5
      have hG5 := hG2.below hb5
      have hB5 := bel_two hB2 hb5
      have hV5 := hV2.below hb5
      clear hG2 hB2 hV2 hb5
      have h6 := rreach_none av cap blk off hd gi HL1.out HL2.out a HNO.out w5 hG5
      go_wp2_with fail
      refine h6.mono ?_
      rintro e w6 ⟨rfl, rfl⟩
      clear h6
      go_wp2_with fail
      refine (flags_nil w6).mono ?_
      rintro e w7 ⟨rfl, hb7⟩
      have hG7 := hG5.below hb7
      have hB7 := bel_two hB5 hb7
      have hV7 := hV5.below hb7
      clear hG5 hB5 hV5 hb7
      have h8 := critical_none av cap blk off hd gi hri w7 hG7
      go_wp2_with fail
      refine h8.mono ?_
      rintro e w8 ⟨hb8, rfl⟩
      clear h8
      have hG8 := hG7.below hb8
      have hB8 := bel_two hB7 hb8
      have hV8 := hV7.below hb8
      clear hG7 hB7 hV7 hb8
      have h9 := rcritical_none av cap blk off hd gi HL1.out HL2.out hri w8 hG8
      go_wp2_with fail
      refine h9.mono ?_
      rintro e w9 ⟨rfl, rfl⟩
      clear h9
      have hG9 := hG8
      have hB9 := hB8
      have hV9 := hV8
      have HI := hide (pairs_same (W := w9) (v1 := .slice none 0 0) (v2 := .slice none 0 0) (l := []) (by simp) ⟨none, 0, 0, rfl, by simp, by simp⟩ ⟨none, 0, 0, rfl, by simp, by simp⟩)
      clear hG8 hB8 hV8
      go_wp2_with fail
      refine HI.out.mono ?_
      clear HI
      rintro e w10 ⟨rfl, hq10⟩
      have hb10 := bel_q hq10
      clear hq10
      have hG10 := hG9.below hb10
      have hB10 := bel_two hB9 hb10
      have hV10 := hV9.below hb10
      clear hG9 hB9 hV9 hb10
      have HF := hide (rows_same (xss := gi) (by have := HL1.out; omega) (fun k => by have := HL2.out k; omega) (RowsN.of_gat (cap := cap) hG10) hV10)
      clear hG10 hV10
      go_wp2_with fail
      refine HF.out.mono ?_
      clear HF
      rintro e w11 ⟨rfl, hq11⟩
      go_wp2
      go_ret
      exact ⟨rfl, bel_two hB10 (bel_q hq11)⟩
  obtain ⟨g, hgr, rfl⟩ := hri.nat
  have hrows := hgr.rows
  have hone := hgr.one
  clear HL1
  rw [castG_len] at *
  have HL1 : Hid ((castG g).length ≤ 40) := by rw [castG_len]; exact hl40
  have hp := preds_is av cap blk off hd g hgr w2 hG2
  go_wp2_with fail
  refine hp.mono ?_
  rintro e w3 ⟨hb3, H, base, hH1, hH2, rfl, hR3⟩
  clear hp
  have hG3 := hG2.below hb3
  have hs3 := hb3.size
  have hp := rpreds_is av cap blk off hd g hgr hl40 w3 hG3
  go_wp2_with fail
  refine hp.mono ?_
  rintro e w4 ⟨hb4, H', base', hH1', hH2', rfl, hR4⟩
  clear hp
  have hs4 := hb4.size
  have hR34 : RowsB w4 base H g.length (aheadL (edgesL g)) := hR3.turns (Turns.of_below hb4) (fun b _ hb => by omega)
  have hel := edgesL_len g hrows
  have HI := hide (rows_same (xss := castG ((List.range g.length).map (aheadL (edgesL g)))) (by rw [castG_len, List.length_map, List.length_range]; omega) (fun k => by
    rw [castG_at, List.length_map]
    rcases Nat.lt_or_ge k g.length with h | h
    · rw [show ((List.range g.length).map (aheadL (edgesL g))).getD k [] = aheadL (edgesL g) k by rw [List.getD_eq_getElem?_getD]; simp [h]]
      have := aheadL_len (edgesL g) k
      omega
    · rw [getD_ge _ _ (by simpa using h)]; simp) (RowsN.of_rowsB hR34) (RowsN.of_rowsB hR4))
  have hHl : H < w4.heap.size := by obtain ⟨vs, _, h2, _⟩ := hR34; exact lt_of h2
  go_wp2_with fail
  refine HI.out.mono ?_
  clear HI
  rintro e w5 ⟨rfl, hq5⟩
  have hb5 := bel_q hq5
  have hs5 := hb5.size
  have hR5 : RowsB w5 base H g.length (aheadL (edgesL g)) := hR34.turns (Turns.of_below hb5) (fun b _ hb => by omega)
  have hRW := RowsW.of_rowsB hR5
  have hB25 : Below w2.heap.size w2 w5 := hb3.trans ((hb4.mono hs3).trans (hb5.mono (by omega)))
  have HGW := hide (And.intro hG2 (And.intro hB2 hV2))
  have HAL : Hid (∀ i, (aheadL (edgesL g) i).length ≤ 8 * g.length + 8) := fun i => Nat.le_trans (aheadL_len _ _) hel
  clear hq5 hR34 hR4 hR3 hR5 hb5 hb4 hb3 hG3 hG2 hB2 hV2 hel hH1' hH2'
  have HCL : Hid ((critL g).length ≤ 100000000) := by
    have h1 : (critL g).length ≤ (edgesL g).length := List.length_filter_le _ _
    have := edgesL_len g hrows
    show (critL g).length ≤ 100000000
    omega
  generalize aheadL (edgesL g) = f at *
  go_wp2
  go_loopw [10] (fun i W => ∃ k : Nat, i = .int .i64 k ∧ k ≤ g.length ∧ Turns (fun b => base ≤ b) w5 W ∧ RowsW w5 W base H g.length f) (fun i _ => g.length - (intOf i).toNat)
  case atStart => exact ⟨0, rfl, Nat.zero_le _, Turns.refl _ _, hRW⟩
  case round =>
    clear hRW
    obtain ⟨k, rfl, hk, hT, hRW⟩ := hrel
    by_cases hkl : k < g.length
    · have e1 : ((k : Int) < (g.length : Int)) = True := eq_true (by omega)
      have hkb : k ≤ 4096 := by omega
      have hal := HAL.out k
      go_wp2
      go_loopw [11] (fun i W => ∃ j : Nat, i = .int .i64 j ∧ j ≤ (f k).length ∧ Turns (fun b => base ≤ b) w5 W ∧ RowsW w5 W base H g.length f) (fun i _ => (f k).length - (intOf i).toNat)
      case atStart => exact ⟨0, rfl, Nat.zero_le _, hT, hRW⟩
      case round =>
        clear hT hRW
        obtain ⟨j, rfl, hj, hT, hRW⟩ := hrel
        obtain ⟨pav, pcap, gb, cs, c1, c2⟩ := hRW k hkl
        have c3 : wr.cell? ⟨H, k, none⟩ = some (.slice pav (f k).length pcap) := (World.cell?_of_block (hT.block H (by omega) (by show ¬ base ≤ H; omega))).trans c1
        by_cases hjl : j < (f k).length
        · have e2 : ((j : Int) < ((f k).length : Int)) = True := eq_true (by omega)
          obtain ⟨rfl, hgb, hhe, hle⟩ := c2 (by omega)
          have cj : wr.cell? ⟨gb, j, none⟩ = some (cs.getD j (.int .i64 0)) := by
            rw [cell_of hhe, List.getElem?_toArray, List.getD_eq_getElem?_getD, List.getElem?_eq_getElem (by omega)]; rfl
          have fj := frozen_of hhe j
          have HRW := hide (hRW.put gb j (.int .i64 (-7)))
          have HT := hide (hT.trans (Turns.setCell (Q := fun b => base ≤ b) wr ⟨gb, j, none⟩ (.int .i64 (-7)) hgb))
          clear hRW hT c2 hhe c1
          generalize cs.getD j (.int .i64 0) = old at *
          generalize (f k).length = fl at *
          go_wp2
          go_roundw
          case rel => exact ⟨j + 1, by go_num, by omega, HT.out, HRW.out⟩
          case measure => simp [intOf]; omega
        · have e2 : ((j : Int) < ((f k).length : Int)) = False := eq_false (by omega)
          have HRW := hide hRW
          clear hRW c2 c1
          generalize (f k).length = fl at *
          go_wp2
          go_roundw
          case rel => exact ⟨k + 1, by go_num, by omega, hT, HRW.out⟩
          case measure => simp [intOf]; omega
    · have e1 : ((k : Int) < (g.length : Int)) = False := eq_false (by omega)
      have hbW : Below w2.heap.size w2 wr := Turns.below hB25 (by have := hB25.size; omega) hT (fun b hb hq => by omega)
      obtain ⟨hG2, hB2, hV2⟩ := HGW.out
      have hG := hG2.below hbW
      have hB := bel_two hB2 hbW
      have hV := hV2.below hbW
      clear HGW hT hRW hB25 HAL hG2 hB2 hV2 hbW
      generalize hWW : wr = W at *
      clear hWW
      by_cases hin : 0 ≤ a ∧ a < (g.length : Int)
      · obtain ⟨s0, rfl⟩ := Int.eq_ofNat_of_zero_le hin.1
        have hs0 : s0 < g.length := by omega
        clear hin
        have hr := right_any av cap blk off hd (castG g) W hG
        rw [castG_len, rightB_true.2 hgr.toI] at hr
        go_wp2_with fail
        refine hr.mono ?_
        rintro e w2 ⟨rfl, hb2⟩
        clear hr
        have hG2 := hG.below hb2
        have hB2 := bel_two hB hb2
        have hV2 := hV.below hb2
        clear hG hB hV hb2
        have hq := rright_is av cap blk off hd (castG g) HL1.out HL2.out w2 hG2
        rw [castG_len, rightB_true.2 hgr.toI] at hq
        go_wp2_with fail
        refine hq.mono ?_
        rintro e w3 ⟨rfl, rfl⟩
        clear hq
        have h5 := reach_is av cap blk off hd g hgr s0 hs0 w3 hG2
        go_wp2_with fail
        refine h5.mono ?_
        rintro e w5 ⟨hb5, R, m', o, hR1, rfl, kR, hw⟩
        clear h5
        have hG5 := hG2.below hb5
        have hB5 := bel_two hB2 hb5
        have hV5 := hV2.below hb5
        clear hG2 hB2 hV2 hb5 hR1
        have h6 := rreach_is av cap blk off hd g hgr hl40 s0 hs0 m' o hw w5 hG5
        go_wp2_with fail
        refine h6.mono ?_
        rintro e w6 ⟨hb6, R2, hR2, rfl, kR2⟩
        clear h6 hw
        have hG6 := hG5.below hb6
        have hB6 := bel_two hB5 hb6
        have hV6 := hV5.below hb6
        have kR6 := (hb6.block R (lt_of kR)).trans kR
        clear hG5 hB5 hV5 hb6 hR2 kR
        have h7 := flags_same R R2 (flg g.length o) g.length (flg_len _ _) hgr.most w6 kR6 kR2
        clear kR6 kR2
        go_wp2_with fail
        refine h7.mono ?_
        rintro e w7 ⟨rfl, hq7⟩
        clear h7
        have hb7 := bel_q hq7
        clear hq7
        have hG7 := hG6.below hb7
        have hB7 := bel_two hB6 hb7
        have hV7 := hV6.below hb7
        clear hG6 hB6 hV6 hb7
        have h8 := critical_is av cap blk off hd g hgr w7 hG7
        go_wp2_with fail
        refine h8.mono ?_
        rintro e w8 ⟨hb8, v8, rfl, ho8⟩
        clear h8
        have hp8 := PairN.of_owns ho8
        clear ho8
        obtain ⟨pav, pcap, hpe⟩ := hp8.shape
        subst hpe
        have hG8 := hG7.below hb8
        have hB8 := bel_two hB7 hb8
        have hV8 := hV7.below hb8
        clear hG7 hB7 hV7 hb8
        have h9 := rcritical_is av cap blk off hd g hgr hl40 w8 hG8
        go_wp2_with fail
        refine h9.mono ?_
        rintro e w9 ⟨hb9, v9, rfl, ho9⟩
        clear h9
        have hp9 := PairN.of_owns ho9
        clear ho9
        obtain ⟨qav, qcap, hqe⟩ := hp9.shape
        subst hqe
        have hG9 := hG8.below hb9
        have hB9 := bel_two hB8 hb9
        have hV9 := hV8.below hb9
        have HI := hide (pairs_same (l := critL g) HCL.out (hp8.below hb9) hp9)
        clear hG8 hB8 hV8 hb9 hp8 hp9
        go_wp2_with fail
        refine HI.out.mono ?_
        clear HI
        rintro e w10 ⟨rfl, hq10⟩
        have hb10 := bel_q hq10
        clear hq10
        have hG10 := hG9.below hb10
        have hB10 := bel_two hB9 hb10
        have hV10 := hV9.below hb10
        clear hG9 hB9 hV9 hb10
        have HF := hide (rows_same (xss := (castG g)) (by have := HL1.out; omega) (fun k => by have := HL2.out k; omega) (RowsN.of_gat (cap := cap) hG10) hV10)
        rw [castG_len] at HF
        clear hG10 hV10
        go_wp2_with fail
        refine HF.out.mono ?_
        clear HF
        rintro e w11 ⟨rfl, hq11⟩
        go_wp2
        go_ret
        exact ⟨rfl, bel_two hB10 (bel_q hq11)⟩
      · have HNO : Hid (¬ (RightI (castG g) ∧ 0 ≤ a ∧ a < ((castG g).length : Int))) := fun h => hin (by rw [castG_len] at h; exact h.2)
        clear hin
        have hr := right_any av cap blk off hd (castG g) W hG
        rw [castG_len, rightB_true.2 hgr.toI] at hr
        go_wp2_with fail
        refine hr.mono ?_
        rintro e w2 ⟨rfl, hb2⟩
        clear hr
        have hG2 := hG.below hb2
        have hB2 := bel_two hB hb2
        have hV2 := hV.below hb2
        clear hG hB hV hb2
        have hq := rright_is av cap blk off hd (castG g) HL1.out HL2.out w2 hG2
        rw [castG_len, rightB_true.2 hgr.toI] at hq
        go_wp2_with fail
        refine hq.mono ?_
        rintro e w3 ⟨rfl, rfl⟩
        clear hq
        have h5 := reach_none av cap blk off hd (castG g) a HNO.out w3 hG2
        rw [castG_len] at h5
        go_wp2_with fail
        refine h5.mono ?_
        rintro e w5 ⟨hb5, rfl⟩
        clear h5
        have hG5 := hG2.below hb5
        have hB5 := bel_two hB2 hb5
        have hV5 := hV2.below hb5
        clear hG2 hB2 hV2 hb5
        have h6 := rreach_none av cap blk off hd (castG g) HL1.out HL2.out a HNO.out w5 hG5
        rw [castG_len] at h6
        go_wp2_with fail
        refine h6.mono ?_
        rintro e w6 ⟨rfl, rfl⟩
        clear h6
        go_wp2_with fail
        refine (flags_nil w6).mono ?_
        rintro e w7 ⟨rfl, hb7⟩
        have hG7 := hG5.below hb7
        have hB7 := bel_two hB5 hb7
        have hV7 := hV5.below hb7
        clear hG5 hB5 hV5 hb7
        have h8 := critical_is av cap blk off hd g hgr w7 hG7
        go_wp2_with fail
        refine h8.mono ?_
        rintro e w8 ⟨hb8, v8, rfl, ho8⟩
        clear h8
        have hp8 := PairN.of_owns ho8
        clear ho8
        obtain ⟨pav, pcap, hpe⟩ := hp8.shape
        subst hpe
        have hG8 := hG7.below hb8
        have hB8 := bel_two hB7 hb8
        have hV8 := hV7.below hb8
        clear hG7 hB7 hV7 hb8
        have h9 := rcritical_is av cap blk off hd g hgr hl40 w8 hG8
        go_wp2_with fail
        refine h9.mono ?_
        rintro e w9 ⟨hb9, v9, rfl, ho9⟩
        clear h9
        have hp9 := PairN.of_owns ho9
        clear ho9
        obtain ⟨qav, qcap, hqe⟩ := hp9.shape
        subst hqe
        have hG9 := hG8.below hb9
        have hB9 := bel_two hB8 hb9
        have hV9 := hV8.below hb9
        have HI := hide (pairs_same (l := critL g) HCL.out (hp8.below hb9) hp9)
        clear hG8 hB8 hV8 hb9 hp8 hp9
        go_wp2_with fail
        refine HI.out.mono ?_
        clear HI
        rintro e w10 ⟨rfl, hq10⟩
        have hb10 := bel_q hq10
        clear hq10
        have hG10 := hG9.below hb10
        have hB10 := bel_two hB9 hb10
        have hV10 := hV9.below hb10
        clear hG9 hB9 hV9 hb10
        have HF := hide (rows_same (xss := (castG g)) (by have := HL1.out; omega) (fun k => by have := HL2.out k; omega) (RowsN.of_gat (cap := cap) hG10) hV10)
        rw [castG_len] at HF
        clear hG10 hV10
        go_wp2_with fail
        refine HF.out.mono ?_
        clear HF
        rintro e w11 ⟨rfl, hq11⟩
        go_wp2
        go_ret
        exact ⟨rfl, bel_two hB10 (bel_q hq11)⟩

end Go.Proofs.Ytchnjjdhffmkpaa
