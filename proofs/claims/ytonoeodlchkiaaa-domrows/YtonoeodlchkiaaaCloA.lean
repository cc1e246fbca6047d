/-
  A graph one of whose blocks is closed (layer 7): what is reached there; how it lies.
-/
import Derived.Test.YtonoeodlchkiaaaTreA
namespace Go.Proofs.Ytonoeodlchkiaaa
open Go.ChangeShapes Go.WideShapes Go.ChangeAt Go.RowKit Go.Shelf

theorem getD_set_rows (g : List (List Nat)) (a b : Nat) (ha : a < g.length) : (g.set a []).getD b [] = if b = a then [] else g.getD b [] := by
  rw [List.getD_eq_getElem?_getD, List.getD_eq_getElem?_getD]
  by_cases h : b = a
  · subst h; rw [List.getElem?_set_self ha, if_pos rfl]; rfl
  · rw [List.getElem?_set_ne (fun e => h e.symm), if_neg h]
theorem Right.close {g : List (List Nat)} (h : Right g) {a : Nat} (ha : a < g.length) : Right (g.set a []) := by
  refine ⟨by rw [List.length_set]; exact h.one, by rw [List.length_set]; exact h.most, fun b => ?_, fun b t ht => ?_⟩
  · rw [getD_set_rows g a b ha]
    split
    · simp
    · exact h.rows b
  · rw [getD_set_rows g a b ha] at ht
    rw [List.length_set]
    split at ht
    · cases ht
    · exact h.lt b t ht
theorem castG_close (g : List (List Nat)) (a : Nat) : (castG g).set a [] = castG (g.set a []) := by
  unfold castG; rw [List.map_set]; rfl
/-- Without a block just those are reached that it does not dominate. -/
theorem closed_reach {g : List (List Nat)} {a : Nat} (ha : a < g.length) {m' : List Bool} {o' : List Nat} (h1 : 1 ≤ g.length) (hw : Walk (g.set a []) [0] (List.replicate (g.set a []).length false) m' o') (b : Nat) (hb : b ≠ a) : b ∈ o' ↔ ¬ Dom g a b := by
  have ho := ord_of (by rw [List.length_set]; exact h1) hw
  have fwd : ∀ y, Path (g.set a []) (· ∈ o') 0 y → y ≠ a → Path g (· ≠ a) 0 y := fun y hy => by
    induction hy with
    | refl _ => exact fun hn => .refl hn
    | @step x v _ he _ ih =>
      intro hn
      rw [getD_set_rows g a x ha] at he
      by_cases hx : x = a
      · rw [if_pos hx] at he; cases he
      · rw [if_neg hx] at he
        exact .step (ih hx) he hn
  have bwd : ∀ y, Path g (· ≠ a) 0 y → y ∈ o' ∧ y ≠ a := fun y hy => by
    induction hy with
    | refl hs => exact ⟨ho.zero, hs⟩
    | @step x v _ he hs ih =>
      refine ⟨ho.cl x ih.1 v ?_, hs⟩
      rw [getD_set_rows g a x ha, if_neg ih.2]; exact he
  constructor
  · intro hm hd
    obtain ⟨s, hs, hp⟩ := hw.path b hm
    simp at hs; subst hs
    exact hd (fwd b hp hb)
  · intro hn
    exact (bwd b (Classical.not_not.1 hn)).1
/-- A row is taken out of a graph that lies in memory. -/
theorem GAt.close {W : World} {av : Option Addr} {blk off : Nat} {hd : Nat → Hdr} {g : List (List Int)} (h : GAt W av blk off hd g) (a : Nat) (ha : a < g.length) : ∃ hd', GAt (W.setCell ⟨blk, off + a, none⟩ (.slice none 0 0)) av blk off hd' (g.set a []) := by
  have hlen : (g.set a []).length = g.length := List.length_set ..
  have hat : ∀ b, (g.set a []).getD b [] = if b = a then [] else g.getD b [] := fun b => by
    rw [List.getD_eq_getElem?_getD, List.getD_eq_getElem?_getD]
    by_cases e : b = a
    · subst e; rw [List.getElem?_set_self ha, if_pos rfl]; rfl
    · rw [List.getElem?_set_ne (fun e' => e e'.symm), if_neg e]
  have hsz : (W.setCell ⟨blk, off + a, none⟩ (.slice none 0 0)).heap.size = W.heap.size := by simp [World.setCell]
  refine ⟨fun b => if b = a then ⟨none, 0, 0, 0⟩ else hd b, fun h0 => h.at_ (by omega), fun h0 => by rw [hsz]; exact h.lt (by omega), fun b hb => ?_, fun b hb h0 => ?_, fun b hb h0 => ?_, fun b hb => ?_, fun b k hb hk => ?_⟩
  · rw [hlen] at hb
    rw [hat]
    by_cases e : b = a
    · subst e
      rw [if_pos rfl, if_pos rfl]
      exact World.cell?_setCell_same _ _ _ (h.has b hb)
    · rw [if_neg e, if_neg e, World.cell?_setCell_other _ _ _ _ (by intro e'; injection e' with e1 e2; omega)]
      exact h.has b hb
  · rw [hlen] at hb
    rw [hat] at h0
    by_cases e : b = a
    · rw [if_pos e] at h0; simp at h0
    · rw [if_neg e] at h0 ⊢; exact h.rat b hb h0
  · rw [hlen] at hb
    rw [hat] at h0
    rw [hsz]
    by_cases e : b = a
    · rw [if_pos e] at h0; simp at h0
    · rw [if_neg e] at h0 ⊢; exact h.rlt b hb h0
  · rw [hlen] at hb
    rw [hat]
    by_cases e : b = a
    · rw [if_pos e, if_pos e]; exact Nat.le_refl _
    · rw [if_neg e, if_neg e]; exact h.rcap b hb
  · rw [hlen] at hb
    rw [hat] at hk ⊢
    by_cases e : b = a
    · rw [if_pos e] at hk; simp at hk
    · rw [if_neg e] at hk ⊢
      rw [if_neg e]
      have h1 := h.rhas b k hb hk
      rw [World.cell?_setCell_other _ _ _ _ (fun e' => ?_)]
      · exact h1
      · rw [← e', h.has a ha] at h1; cases h1

theorem domB_at {o : List Nat} {d : List Int} (x y : Nat) (hx : x ∈ o) (hy : y ∈ o) : domB o d (x : Int) (y : Int) = @decide (Anc d y x) (Classical.propDecidable _) := by
  by_cases h : Anc d y x
  · rw [@decide_eq_true _ (Classical.propDecidable _) h]; exact domB_true.2 ⟨x, y, rfl, rfl, hx, hy, h⟩
  · rw [@decide_eq_false _ (Classical.propDecidable _) h]
    exact domB_false fun ⟨x', y', h1, h2, _, _, h5⟩ => h (by
      have ex : x' = x := by omega
      have ey : y' = y := by omega
      subst ex; subst ey; exact h5)

set_option maxRecDepth 100000 in
set_option maxHeartbeats 8000000 in
theorem closes_walk (hsm : ∀ w : World, Calls Try.prog 7 #[] w fun e w' => e = .returned (.bool true) ∧ Below w.heap.size w w') (av : Option Addr) (cap blk off : Nat) (hd : Nat → Hdr) (gi : List (List Int)) (ai : Int) (w : World) (hG : GAt w av blk off hd gi) :
    Calls Try.prog 4 #[.slice av gi.length cap, .int .i64 ai] w fun e w' => e = .returned (.bool true) ∧ Below w.heap.size w w' := by
  have HSM := hide (hsm w)
  clear hsm
  go_enter Try.func4, Try.ntmps4
  go_wp2_with fail
  refine HSM.out.mono ?_
  clear HSM
  rintro e w1 ⟨rfl, hb1⟩
  have hG1 := hG.below hb1
  have hf := few7_is av cap blk off hd gi w1 hG1
  go_wp2_with fail
  refine hf.mono ?_
  rintro e w1' ⟨rfl, ⟨rfl, hl24, hl20⟩ | rfl⟩
  case inr =>
    clear hf
    go_wp2
    go_ret
    exact ⟨rfl, hb1⟩
  clear hf hG
  have HL2 := hide hl20
  clear hl20
  have hr := right_any av cap blk off hd gi w1' hG1
  by_cases hri : RightI gi
  case neg =>
    rw [rightB_false hri] at hr
    go_wp2_with fail
    refine hr.mono ?_
    rintro e w3 ⟨rfl, hb3⟩
    go_wp2
    go_ret
    exact ⟨rfl, bel_two hb1 hb3⟩
  obtain ⟨g, hgr, rfl⟩ := hri.nat
  have HL1 : Hid ((castG g).length ≤ 40) := by show (castG g).length ≤ 40; omega
  rw [castG_len] at hl24 hr ⊢
  rw [rightB_true.2 hgr.toI] at hr
  go_wp2_with fail
  refine hr.mono ?_
  rintro e w2 ⟨rfl, hb2⟩
  have hG2 := hG1.below hb2
  have hB2 := bel_two hb1 hb2
  clear hr hG1 hb1 hb2
  by_cases ha1 : ai < 1
  · go_wp2
    go_ret
    exact ⟨rfl, hB2⟩
  by_cases ha2 : (g.length : Int) ≤ ai
  · go_wp2
    go_ret
    exact ⟨rfl, hB2⟩
  obtain ⟨a, rfl⟩ := Int.eq_ofNat_of_zero_le (a := ai) (by omega)
  have hal : a < g.length := by omega
  have ha0 : a ≠ 0 := by omega
  have q1 : ((a : Int) < 1) = False := eq_false ha1
  have q2 : ((g.length : Int) ≤ (a : Int)) = False := eq_false ha2
  have q3 : (g.length ≤ a) = False := eq_false (by omega)
  clear ha1 ha2
  have hone := hgr.one
  have hmost := hgr.most
  have h3 := idom_is av cap blk off hd g hgr w2 hG2
  go_wp2_with fail
  refine h3.mono ?_
  clear q1 q2 q3
  rintro e w3 ⟨hb3, B, d, m', o, hB0, rfl, kB3, hw, hfin⟩
  clear h3
  have hord := ord_of hone hw
  have hG3 := hG2.below hb3
  have hB3 := bel_two hB2 hb3
  have hlen := hfin.len
  have h4 := copyg_is av cap blk off hd (castG g) HL1.out HL2.out w3 hG3
  rw [castG_len] at h4
  clear hG2 hB2 hb3 hB0
  go_wp2_with fail
  refine h4.mono ?_
  rintro e w4 ⟨hb4, v4, rfl, hC4⟩
  clear h4
  obtain ⟨cav, ccap, cblk, chd, hve, hGC⟩ := hC4.gat
  obtain ⟨gb, cc, hve2, hgb1, hgb2⟩ := (show ∃ gb cc, v4 = .slice (some ⟨gb, 0, none⟩) (castG g).length cc ∧ w3.heap.size ≤ gb ∧ gb < w4.heap.size from by
    obtain ⟨vs, ho4, _⟩ := hC4
    obtain ⟨gb, cc, e1, e2, e3⟩ := ho4.form (by rw [castG_len]; omega)
    exact ⟨gb, cc, e1, e2, e3⟩)
  have hcat := hGC.at_ (by rw [castG_len]; omega)
  subst hcat
  rw [hve] at hve2
  injection hve2 with e1 e2 e3
  injection e1 with e1
  injection e1 with e1 e1'
  subst e1
  rw [castG_len] at hve
  subst hve
  have kB4 := (hb4.block B (lt_of kB3)).trans kB3
  have hG4 := hG3.below hb4
  have hB4 := bel_two hB3 hb4
  have hBl3 := lt_of kB3
  have cG := hGC.has a (by rw [castG_len]; exact hal)
  obtain ⟨chd2, hGC2⟩ := hGC.close a (by rw [castG_len]; exact hal)
  rw [castG_close] at hGC2
  have hb45 : Below w3.heap.size w3 (w4.setCell ⟨cblk, 0 + a, none⟩ (.slice none 0 0)) := hb4.setCell (p := ⟨cblk, 0 + a, none⟩) hgb1 _
  have hfz : w4.frozen? ⟨cblk, 0 + a, none⟩ = false := by
    obtain ⟨vs, ho4, _⟩ := hC4
    rcases ho4.2 with ⟨h', _⟩ | ⟨g', cp, cur, h1, h2, h3, _⟩
    · cases h'
    · injection h1 with h1
      injection h1 with h1
      injection h1 with h1
      subst h1
      exact frozen_of h3 _
  have hG5 := hG3.below hb45
  have hB5 := bel_two hB3 hb45
  have kB5 := (hb45.block B hBl3).trans kB3
  rw [Nat.zero_add] at cG hGC2 hb45 hfz hG5 hB5 kB5
  have hai : ((a : Int) < (g.length : Int)) = True := eq_true (by omega)
  have hab : a ≤ 24 := by omega
  clear hC4 hGC hG4 hB4 hb4 kB4 hG3 hB3 e2 e3
  have h6 := reach_is av cap blk off hd g hgr 0 (by omega) (w4.setCell ⟨cblk, a, none⟩ (.slice none 0 0)) hG5
  rw [show ((0 : Nat) : Int) = 0 from rfl] at h6
  have HALL := hide (And.intro h6 (And.intro hGC2 (And.intro hG5 (And.intro hB5 kB5))))
  clear h6 hGC2 hG5 hB5 kB5 hb45 kB3
  go_wp2_with fail
  obtain ⟨h6, hGC2, hG5, hB5, kB5⟩ := HALL.out
  clear HALL
  generalize w4.setCell ⟨cblk, a, none⟩ (.slice none 0 0) = w5 at *
  refine h6.mono ?_
  rintro e w6 ⟨hb6, F, m2, o2, hF1, rfl, kF6, hw2⟩
  obtain rfl := (hw.det hw2).2
  clear h6 hw2
  have h7 := reach_is (some ⟨cblk, 0, none⟩) ccap cblk 0 chd2 (g.set a []) (hgr.close hal) 0 (by rw [List.length_set]; omega) w6 (hGC2.below hb6)
  rw [List.length_set, show ((0 : Nat) : Int) = 0 from rfl] at h7
  have kB6 := (hb6.block B (lt_of kB5)).trans kB5
  have hB6 := bel_two hB5 hb6
  clear hb6 hG5 hGC2 kB5 hB5
  go_wp2_with fail
  refine h7.mono ?_
  rintro e w7 ⟨hb7, F2, m3, o3, hF2, rfl, kF7, hw7⟩
  clear h7
  have hCL := fun b hb => closed_reach hal hone (by rw [List.length_set]; exact hw7) b hb
  have HKB := hide ((hb7.block B (lt_of kB6)).trans kB6)
  have kF67 := (hb7.block F (lt_of kF6)).trans kF6
  have HB7 := hide (bel_two hB6 hb7)
  have hBl7 := lt_of HKB.out
  have hFl := lt_of kF67
  have hF2l := lt_of kF7
  have HCL := hide hCL
  have HF := hide hfin
  have HO := hide hord
  have HIC : Hid (∀ x, x < g.length → w7.cell? ⟨B, x, none⟩ = some (.int .i64 (ask d x))) := fun x hx => ints_at HKB.out x (by omega)
  have HFC : Hid (∀ x, x < g.length → w7.cell? ⟨F, x, none⟩ = some (.bool (decide (x ∈ o)))) := fun x hx => by
    rw [cell_of kF67, List.getElem?_toArray, List.getElem?_map, flg_at _ _ _ hx]; rfl
  have HSC : Hid (∀ x, x < g.length → w7.cell? ⟨F2, x, none⟩ = some (.bool (decide (x ∈ o3)))) := fun x hx => by
    rw [cell_of kF7, List.getElem?_toArray, List.getElem?_map, flg_at _ _ _ hx]; rfl
  clear kB6 kF6 kF7 kF67 hB6 hb7 hCL hfin hord hw hw7 hF1 hF2 cG hfz
  go_wp2
  go_loopw [11] (fun i W => ∃ k : Nat, i = .int .i64 k ∧ k ≤ g.length ∧ Below w7.heap.size w7 W) (fun i _ => g.length - (intOf i).toNat)
  case atStart => exact ⟨0, rfl, Nat.zero_le _, Below.refl _ _⟩
  case round =>
    obtain ⟨k, rfl, hk, hBW⟩ := hrel
    by_cases hkl : k < g.length
    · have e1 : ((k : Int) < (g.length : Int)) = True := eq_true (by omega)
      have hkb : k ≤ 24 := by omega
      have hdm := dominates_is g hmost o HO.out d HF.out B (a : Int) (k : Int) wr ((hBW.block B hBl7).trans HKB.out)
      have ca := (hBW.cell (p := ⟨F, a, none⟩) hFl).trans (HFC.out a hal)
      have cr := (hBW.cell (p := ⟨F, k, none⟩) hFl).trans (HFC.out k hkl)
      have cs := (hBW.cell (p := ⟨F2, k, none⟩) hF2l).trans (HSC.out k hkl)
      have ci := (hBW.cell (p := ⟨B, k, none⟩) hBl7).trans (HIC.out k hkl)
      by_cases hko : k ∈ o
      · rw [decide_eq_true hko] at cr
        by_cases hk0 : k = 0
        · subst hk0
          by_cases hao : a ∈ o
          · have hka : (0 : Nat) ≠ a := Ne.symm ha0
            by_cases hdom : Dom g a 0
            · have hov : domB o d (a : Int) ((0 : Nat) : Int) = true := domB_true.2 ⟨a, 0, rfl, rfl, hao, hko, (HF.out.dominates HO.out hko).2 hdom⟩
              rw [decide_eq_true hao] at ca
              rw [decide_eq_false (fun h => (HCL.out 0 hka).1 h hdom)] at cs
              rw [hov] at hdm
              have g1 : ((0 : Int) != (a : Int)) = true := bne_iff_ne.2 (by omega)
              have g2 : ((0 : Int) = (a : Int)) = False := eq_false (by omega)
              clear hov hko hka hao hdom
              go_wp2_with fail
              refine hdm.mono ?_
              clear hdm
              rintro e w9 ⟨hb9, rfl⟩
              have hB9 := bel_two hBW hb9
              have ca := (hb9.cell (p := ⟨F, a, none⟩) (Nat.lt_of_lt_of_le hFl hBW.size)).trans ca
              have cr := (hb9.cell (p := ⟨F, 0, none⟩) (Nat.lt_of_lt_of_le hFl hBW.size)).trans cr
              have cs := (hb9.cell (p := ⟨F2, 0, none⟩) (Nat.lt_of_lt_of_le hF2l hBW.size)).trans cs
              have ci := (hb9.cell (p := ⟨B, 0, none⟩) (Nat.lt_of_lt_of_le hBl7 hBW.size)).trans ci
              go_wp2
              go_roundw
              case rel => exact ⟨0 + 1, by go_num, by omega, hB9⟩
              case measure => simp [intOf]; omega
            · have hov : domB o d (a : Int) ((0 : Nat) : Int) = false := domB_false fun ⟨x, y, h1, h2, _, _, h5⟩ => hdom (by
                have ex : x = a := by omega
                have ey : y = 0 := by omega
                subst ex; subst ey
                exact (HF.out.dominates HO.out hko).1 h5)
              rw [decide_eq_true hao] at ca
              rw [decide_eq_true ((HCL.out 0 hka).2 hdom)] at cs
              rw [hov] at hdm
              have g1 : ((0 : Int) != (a : Int)) = true := bne_iff_ne.2 (by omega)
              have g2 : ((0 : Int) = (a : Int)) = False := eq_false (by omega)
              clear hov hko hka hao hdom
              go_wp2_with fail
              refine hdm.mono ?_
              clear hdm
              rintro e w9 ⟨hb9, rfl⟩
              have hB9 := bel_two hBW hb9
              have ca := (hb9.cell (p := ⟨F, a, none⟩) (Nat.lt_of_lt_of_le hFl hBW.size)).trans ca
              have cr := (hb9.cell (p := ⟨F, 0, none⟩) (Nat.lt_of_lt_of_le hFl hBW.size)).trans cr
              have cs := (hb9.cell (p := ⟨F2, 0, none⟩) (Nat.lt_of_lt_of_le hF2l hBW.size)).trans cs
              have ci := (hb9.cell (p := ⟨B, 0, none⟩) (Nat.lt_of_lt_of_le hBl7 hBW.size)).trans ci
              go_wp2
              go_roundw
              case rel => exact ⟨0 + 1, by go_num, by omega, hB9⟩
              case measure => simp [intOf]; omega
          · have hov : domB o d (a : Int) ((0 : Nat) : Int) = false := domB_false fun ⟨x, y, h1, _, h3, _, _⟩ => hao (by rw [← (show x = a by omega)]; exact h3)
            rw [decide_eq_false hao] at ca
            rw [hov] at hdm
            clear hov hko hao
            go_wp2_with fail
            refine hdm.mono ?_
            clear hdm
            rintro e w9 ⟨hb9, rfl⟩
            have hB9 := bel_two hBW hb9
            have ca := (hb9.cell (p := ⟨F, a, none⟩) (Nat.lt_of_lt_of_le hFl hBW.size)).trans ca
            have cr := (hb9.cell (p := ⟨F, 0, none⟩) (Nat.lt_of_lt_of_le hFl hBW.size)).trans cr
            have cs := (hb9.cell (p := ⟨F2, 0, none⟩) (Nat.lt_of_lt_of_le hF2l hBW.size)).trans cs
            have ci := (hb9.cell (p := ⟨B, 0, none⟩) (Nat.lt_of_lt_of_le hBl7 hBW.size)).trans ci
            go_wp2
            go_roundw
            case rel => exact ⟨0 + 1, by go_num, by omega, hB9⟩
            case measure => simp [intOf]; omega
        · by_cases hao : a ∈ o
          · by_cases hka : k = a
            · subst hka
              have hov : domB o d (k : Int) (k : Int) = true := domB_true.2 ⟨k, k, rfl, rfl, hko, hko, .refl k⟩
              rw [decide_eq_true hao] at ca
              rw [hov] at hdm
              have hk1 : ((0 : Int) < (k : Int)) = True := eq_true (by omega)
              have hk1n : (0 < k) = True := eq_true (by omega)
              obtain ⟨y, hy1, hy2, hy3⟩ := HF.out.toTr.next (HF.out.told hko) hk0
              rw [hy1] at ci
              have hyn : ((y : Int) < 0) = False := eq_false (by omega)
              have HD2 : Hid (∀ W : World, Below w7.heap.size w7 W → Calls Try.prog 10 #[.slice (some ⟨B, 0, none⟩) g.length g.length, .int .i64 (y : Int), .int .i64 (k : Int)] W fun e w' => Below W.heap.size W w' ∧ e = .returned (.bool true)) := fun W hW => by
                have := dominates_is g hmost o HO.out d HF.out B (y : Int) (k : Int) W ((hW.block B hBl7).trans HKB.out)
                rwa [domB_true.2 ⟨y, k, rfl, rfl, hy2.1, hko, .up hy1 (.refl y)⟩] at this
              clear hov hko hao hy1 hy2 hy3 hk0
              go_wp2_with fail
              refine hdm.mono ?_
              clear hdm
              rintro e w9 ⟨hb9, rfl⟩
              have hB9 := bel_two hBW hb9
              have ca := (hb9.cell (p := ⟨F, k, none⟩) (Nat.lt_of_lt_of_le hFl hBW.size)).trans ca
              have cr := (hb9.cell (p := ⟨F, k, none⟩) (Nat.lt_of_lt_of_le hFl hBW.size)).trans cr
              have cs := (hb9.cell (p := ⟨F2, k, none⟩) (Nat.lt_of_lt_of_le hF2l hBW.size)).trans cs
              have ci := (hb9.cell (p := ⟨B, k, none⟩) (Nat.lt_of_lt_of_le hBl7 hBW.size)).trans ci
              have hd2 := HD2.out w9 hB9
              clear HD2
              go_wp2_with fail
              refine hd2.mono ?_
              clear hd2
              rintro e w10 ⟨hb10, rfl⟩
              have hB10 := bel_two hB9 hb10
              have cr := (hb10.cell (p := ⟨F, k, none⟩) (Nat.lt_of_lt_of_le hFl hB9.size)).trans cr
              have ci := (hb10.cell (p := ⟨B, k, none⟩) (Nat.lt_of_lt_of_le hBl7 hB9.size)).trans ci
              go_wp2
              go_roundw
              case rel => exact ⟨k + 1, by go_num, by omega, hB10⟩
              case measure => simp [intOf]; omega
            · by_cases hdom : Dom g a k
              · have hov : domB o d (a : Int) (k : Int) = true := domB_true.2 ⟨a, k, rfl, rfl, hao, hko, (HF.out.dominates HO.out hko).2 hdom⟩
                rw [decide_eq_true hao] at ca
                rw [decide_eq_false (fun h => (HCL.out k hka).1 h hdom)] at cs
                rw [hov] at hdm
                have g1 : ((k : Int) != (a : Int)) = true := bne_iff_ne.2 (by omega)
                have g2 : ((k : Int) = (a : Int)) = False := eq_false (by omega)
                have hk1 : ((0 : Int) < (k : Int)) = True := eq_true (by omega)
                have hk1n : (0 < k) = True := eq_true (by omega)
                obtain ⟨y, hy1, hy2, hy3⟩ := HF.out.toTr.next (HF.out.told hko) hk0
                rw [hy1] at ci
                have hyn : ((y : Int) < 0) = False := eq_false (by omega)
                have HD2 : Hid (∀ W : World, Below w7.heap.size w7 W → Calls Try.prog 10 #[.slice (some ⟨B, 0, none⟩) g.length g.length, .int .i64 (y : Int), .int .i64 (k : Int)] W fun e w' => Below W.heap.size W w' ∧ e = .returned (.bool true)) := fun W hW => by
                  have := dominates_is g hmost o HO.out d HF.out B (y : Int) (k : Int) W ((hW.block B hBl7).trans HKB.out)
                  rwa [domB_true.2 ⟨y, k, rfl, rfl, hy2.1, hko, .up hy1 (.refl y)⟩] at this
                clear hov hko hka hao hdom hy1 hy2 hy3 hk0
                go_wp2_with fail
                refine hdm.mono ?_
                clear hdm
                rintro e w9 ⟨hb9, rfl⟩
                have hB9 := bel_two hBW hb9
                have ca := (hb9.cell (p := ⟨F, a, none⟩) (Nat.lt_of_lt_of_le hFl hBW.size)).trans ca
                have cr := (hb9.cell (p := ⟨F, k, none⟩) (Nat.lt_of_lt_of_le hFl hBW.size)).trans cr
                have cs := (hb9.cell (p := ⟨F2, k, none⟩) (Nat.lt_of_lt_of_le hF2l hBW.size)).trans cs
                have ci := (hb9.cell (p := ⟨B, k, none⟩) (Nat.lt_of_lt_of_le hBl7 hBW.size)).trans ci
                have hd2 := HD2.out w9 hB9
                clear HD2
                go_wp2_with fail
                refine hd2.mono ?_
                clear hd2
                rintro e w10 ⟨hb10, rfl⟩
                have hB10 := bel_two hB9 hb10
                have cr := (hb10.cell (p := ⟨F, k, none⟩) (Nat.lt_of_lt_of_le hFl hB9.size)).trans cr
                have ci := (hb10.cell (p := ⟨B, k, none⟩) (Nat.lt_of_lt_of_le hBl7 hB9.size)).trans ci
                go_wp2
                go_roundw
                case rel => exact ⟨k + 1, by go_num, by omega, hB10⟩
                case measure => simp [intOf]; omega
              · have hov : domB o d (a : Int) (k : Int) = false := domB_false fun ⟨x, y, h1, h2, _, _, h5⟩ => hdom (by
                  have ex : x = a := by omega
                  have ey : y = k := by omega
                  subst ex; subst ey
                  exact (HF.out.dominates HO.out hko).1 h5)
                rw [decide_eq_true hao] at ca
                rw [decide_eq_true ((HCL.out k hka).2 hdom)] at cs
                rw [hov] at hdm
                have g1 : ((k : Int) != (a : Int)) = true := bne_iff_ne.2 (by omega)
                have g2 : ((k : Int) = (a : Int)) = False := eq_false (by omega)
                have hk1 : ((0 : Int) < (k : Int)) = True := eq_true (by omega)
                have hk1n : (0 < k) = True := eq_true (by omega)
                obtain ⟨y, hy1, hy2, hy3⟩ := HF.out.toTr.next (HF.out.told hko) hk0
                rw [hy1] at ci
                have hyn : ((y : Int) < 0) = False := eq_false (by omega)
                have HD2 : Hid (∀ W : World, Below w7.heap.size w7 W → Calls Try.prog 10 #[.slice (some ⟨B, 0, none⟩) g.length g.length, .int .i64 (y : Int), .int .i64 (k : Int)] W fun e w' => Below W.heap.size W w' ∧ e = .returned (.bool true)) := fun W hW => by
                  have := dominates_is g hmost o HO.out d HF.out B (y : Int) (k : Int) W ((hW.block B hBl7).trans HKB.out)
                  rwa [domB_true.2 ⟨y, k, rfl, rfl, hy2.1, hko, .up hy1 (.refl y)⟩] at this
                clear hov hko hka hao hdom hy1 hy2 hy3 hk0
                go_wp2_with fail
                refine hdm.mono ?_
                clear hdm
                rintro e w9 ⟨hb9, rfl⟩
                have hB9 := bel_two hBW hb9
                have ca := (hb9.cell (p := ⟨F, a, none⟩) (Nat.lt_of_lt_of_le hFl hBW.size)).trans ca
                have cr := (hb9.cell (p := ⟨F, k, none⟩) (Nat.lt_of_lt_of_le hFl hBW.size)).trans cr
                have cs := (hb9.cell (p := ⟨F2, k, none⟩) (Nat.lt_of_lt_of_le hF2l hBW.size)).trans cs
                have ci := (hb9.cell (p := ⟨B, k, none⟩) (Nat.lt_of_lt_of_le hBl7 hBW.size)).trans ci
                have hd2 := HD2.out w9 hB9
                clear HD2
                go_wp2_with fail
                refine hd2.mono ?_
                clear hd2
                rintro e w10 ⟨hb10, rfl⟩
                have hB10 := bel_two hB9 hb10
                have cr := (hb10.cell (p := ⟨F, k, none⟩) (Nat.lt_of_lt_of_le hFl hB9.size)).trans cr
                have ci := (hb10.cell (p := ⟨B, k, none⟩) (Nat.lt_of_lt_of_le hBl7 hB9.size)).trans ci
                go_wp2
                go_roundw
                case rel => exact ⟨k + 1, by go_num, by omega, hB10⟩
                case measure => simp [intOf]; omega
          · have hov : domB o d (a : Int) (k : Int) = false := domB_false fun ⟨x, y, h1, _, h3, _, _⟩ => hao (by rw [← (show x = a by omega)]; exact h3)
            rw [decide_eq_false hao] at ca
            rw [hov] at hdm
            have hk1 : ((0 : Int) < (k : Int)) = True := eq_true (by omega)
            have hk1n : (0 < k) = True := eq_true (by omega)
            obtain ⟨y, hy1, hy2, hy3⟩ := HF.out.toTr.next (HF.out.told hko) hk0
            rw [hy1] at ci
            have hyn : ((y : Int) < 0) = False := eq_false (by omega)
            have HD2 : Hid (∀ W : World, Below w7.heap.size w7 W → Calls Try.prog 10 #[.slice (some ⟨B, 0, none⟩) g.length g.length, .int .i64 (y : Int), .int .i64 (k : Int)] W fun e w' => Below W.heap.size W w' ∧ e = .returned (.bool true)) := fun W hW => by
              have := dominates_is g hmost o HO.out d HF.out B (y : Int) (k : Int) W ((hW.block B hBl7).trans HKB.out)
              rwa [domB_true.2 ⟨y, k, rfl, rfl, hy2.1, hko, .up hy1 (.refl y)⟩] at this
            clear hov hko hao hy1 hy2 hy3 hk0
            go_wp2_with fail
            refine hdm.mono ?_
            clear hdm
            rintro e w9 ⟨hb9, rfl⟩
            have hB9 := bel_two hBW hb9
            have ca := (hb9.cell (p := ⟨F, a, none⟩) (Nat.lt_of_lt_of_le hFl hBW.size)).trans ca
            have cr := (hb9.cell (p := ⟨F, k, none⟩) (Nat.lt_of_lt_of_le hFl hBW.size)).trans cr
            have cs := (hb9.cell (p := ⟨F2, k, none⟩) (Nat.lt_of_lt_of_le hF2l hBW.size)).trans cs
            have ci := (hb9.cell (p := ⟨B, k, none⟩) (Nat.lt_of_lt_of_le hBl7 hBW.size)).trans ci
            have hd2 := HD2.out w9 hB9
            clear HD2
            go_wp2_with fail
            refine hd2.mono ?_
            clear hd2
            rintro e w10 ⟨hb10, rfl⟩
            have hB10 := bel_two hB9 hb10
            have cr := (hb10.cell (p := ⟨F, k, none⟩) (Nat.lt_of_lt_of_le hFl hB9.size)).trans cr
            have ci := (hb10.cell (p := ⟨B, k, none⟩) (Nat.lt_of_lt_of_le hBl7 hB9.size)).trans ci
            go_wp2
            go_roundw
            case rel => exact ⟨k + 1, by go_num, by omega, hB10⟩
            case measure => simp [intOf]; omega
      · rw [decide_eq_false hko] at cr
        have hov : domB o d (a : Int) (k : Int) = false := domB_false fun ⟨x, y, _, h2, _, h4, _⟩ => hko (by rw [← (show y = k by omega)]; exact h4)
        rw [hov] at hdm
        rw [HF.out.none hko] at ci
        clear hov hko
        generalize decide (a ∈ o) = ba at *
        generalize decide (k ∈ o3) = bs at *
        go_wp2_with fail
        refine hdm.mono ?_
        clear hdm
        rintro e w9 ⟨hb9, rfl⟩
        have hB9 := bel_two hBW hb9
        have ca := (hb9.cell (p := ⟨F, a, none⟩) (Nat.lt_of_lt_of_le hFl hBW.size)).trans ca
        have cr := (hb9.cell (p := ⟨F, k, none⟩) (Nat.lt_of_lt_of_le hFl hBW.size)).trans cr
        have ci := (hb9.cell (p := ⟨B, k, none⟩) (Nat.lt_of_lt_of_le hBl7 hBW.size)).trans ci
        by_cases hk0 : (0 : Int) < (k : Int)
        · cases ba with
          | true =>
            go_wp2
            go_roundw
            case rel => exact ⟨k + 1, by go_num, by omega, hB9⟩
            case measure => simp [intOf]; omega
          | false =>
            go_wp2
            go_roundw
            case rel => exact ⟨k + 1, by go_num, by omega, hB9⟩
            case measure => simp [intOf]; omega
        · cases ba with
          | true =>
            go_wp2
            go_roundw
            case rel => exact ⟨k + 1, by go_num, by omega, hB9⟩
            case measure => simp [intOf]; omega
          | false =>
            go_wp2
            go_roundw
            case rel => exact ⟨k + 1, by go_num, by omega, hB9⟩
            case measure => simp [intOf]; omega
    · have e1 : ((k : Int) < (g.length : Int)) = False := eq_false (by omega)
      have c0 := (hBW.cell (p := ⟨B, 0, none⟩) hBl7).trans (HIC.out 0 (by omega))
      rw [HF.out.zero] at c0
      have h0g : ((0 : Int) < (g.length : Int)) = True := eq_true (by omega)
      go_wp2
      go_ret
      exact ⟨rfl, bel_two HB7.out hBW⟩

end Go.Proofs.Ytonoeodlchkiaaa
