/-
  The law DomRows (layer 7): its walk.
-/
import Derived.Test.YtonoeodlchkiaaaRNo
import Derived.Test.YtonoeodlchkiaaaSml
namespace Go.Proofs.Ytonoeodlchkiaaa
open Go.ChangeShapes Go.WideShapes Go.ChangeAt Go.RowKit Go.Shelf

theorem rowN_none (W : World) (av : Option Addr) (cap : Nat) : RowN W (.slice av 0 cap) [] := ⟨av, cap, 0, 0, rfl, fun h => absurd h (by decide), fun k hk => absurd hk (Nat.not_lt_zero _)⟩
theorem rowsN_none (W : World) (av : Option Addr) (cap : Nat) : RowsN W (.slice av 0 cap) [] := ⟨av, cap, 0, 0, rfl, fun h => absurd h (by decide), fun k hk => absurd hk (Nat.not_lt_zero _)⟩

set_option maxRecDepth 100000 in
set_option maxHeartbeats 8000000 in
theorem rows_walk (av : Option Addr) (cap blk off : Nat) (hd : Nat → Hdr) (gi : List (List Int)) (a b : Int) (w : World) (hG : GAt w av blk off hd gi) :
    Calls Try.prog 3 #[.slice av gi.length cap, .int .i64 a, .int .i64 b] w fun e w' => e = .returned (.bool true) ∧ Below w.heap.size w w' := by
  have HSM := hide (small_is w)
  go_enter Try.func3, Try.ntmps3
  go_wp2_with fail
  refine HSM.out.mono ?_
  clear HSM
  rintro e w1 ⟨rfl, hb1⟩
  have hG1 := hG.below hb1
  have hf := few7_is av cap blk off hd gi w1 hG1
  go_wp2_with fail
  refine hf.mono ?_
  rintro e w1' ⟨rfl, ⟨rfl, hl24, hl20⟩ | rfl⟩
  case inr =>
    clear hf
    go_wp2
    go_ret
    exact ⟨rfl, hb1⟩
  clear hf hG
  by_cases hri : RightI gi
  case neg =>
    have HI := hide (idom_none av cap blk off hd gi hri w1' hG1)
    have HRN : Hid (∀ W, Below w1'.heap.size w1' W → Calls Try.prog 12 #[.slice av gi.length cap] W fun e w' => e = .returned (.slice none 0 0) ∧ w' = W) := fun W hb => ridom_no av cap blk off hd gi (by omega) hl20 hri W (hG1.below hb)
    clear hG1 hri hl20
    go_wp2_with fail
    refine HI.out.mono ?_
    clear HI
    rintro e w2 ⟨hb2, rfl⟩
    have hB2 := bel_two hb1 hb2
    go_wp2_with fail
    refine (dominates_no a b w2).mono ?_
    rintro e w3 ⟨rfl, hb3⟩
    have hB3 := bel_two hB2 hb3
    have HR3 := hide (HRN.out w3 (bel_two hb2 hb3))
    clear hb2 hb3 HRN
    go_wp2_with fail
    refine HR3.out.mono ?_
    clear HR3
    rintro e w4 ⟨rfl, rfl⟩
    go_wp2_with fail
    refine (rdominates_no a b w4).mono ?_
    rintro e w5 ⟨rfl, rfl⟩
    go_wp2_with fail
    refine (kids_no w5).mono ?_
    rintro e w6 ⟨⟨ka, kc, rfl⟩, hb6⟩
    have hB6 := bel_two hB3 hb6
    clear hb6
    go_wp2_with fail
    refine (rkids_no w6).mono ?_
    rintro e w7 ⟨⟨ra, rc, rfl⟩, hb7⟩
    have hB7 := bel_two hB6 hb7
    clear hb7
    have HS := hide (rows_same (W := w7) (xss := []) (by decide) (fun k => by simp) (rowsN_none w7 ka kc) (rowsN_none w7 ra rc))
    go_wp2_with fail
    refine HS.out.mono ?_
    clear HS
    rintro e w8 ⟨rfl, hq8⟩
    have hB8 := bel_two hB7 (bel_q hq8)
    clear hq8
    go_wp2_with fail
    refine (depth_no w8).mono ?_
    rintro e w9 ⟨⟨da, dc, rfl⟩, hb9⟩
    have hB9 := bel_two hB8 hb9
    clear hb9
    go_wp2_with fail
    refine (rdepth_no w9).mono ?_
    rintro e w10 ⟨⟨ea, ec, rfl⟩, hb10⟩
    have hB10 := bel_two hB9 hb10
    clear hb10
    have HS := hide (ints_same (W := w10) (xs := []) (by decide) (rowN_none w10 da dc) (rowN_none w10 ea ec))
    go_wp2_with fail
    refine HS.out.mono ?_
    clear HS
    rintro e w11 ⟨rfl, hq11⟩
    have hB11 := bel_two hB10 (bel_q hq11)
    clear hq11
    go_wp2
    go_ret
    exact ⟨rfl, hB11⟩
  obtain ⟨g, hgr, rfl⟩ := hri.nat
  rw [castG_len] at *
  have hone := hgr.one
  have hmost := hgr.most
  have hl2 : ∀ b, (g.getD b []).length ≤ 20 := fun b => by have := hl20 b; rwa [castG_at, List.length_map] at this
  have HI := hide (idom_is av cap blk off hd g hgr w1' hG1)
  go_wp2_with fail
  refine HI.out.mono ?_
  clear HI
  rintro e w2 ⟨hb2, IB, d, m', o, hIB, rfl, hdB, hwk, hfin⟩
  have hord := ord_of hone hwk
  have hlen := hfin.len
  have hB2 := bel_two hb1 hb2
  have hIl := lt_of hdB
  have HIB : Hid (∀ W, Below w2.heap.size w2 W → W.heap[IB]? = some (.cells (intsI d).toArray 3 (0, 0))) := fun W hb => (hb.block IB hIl).trans hdB
  have HG : Hid (∀ W, Below w2.heap.size w2 W → GAt W av blk off hd (castG g)) := fun W hb => (hG1.below hb2).below hb
  have HD1 := hide (dominates_is g hmost o hord d hfin IB a b w2 hdB)
  clear hdB hG1 hb1 hb2 hl20 hri
  generalize hdb : domB o d a b = db at *
  have HDB := hide hdb
  clear hdb
  go_wp2_with fail
  refine HD1.out.mono ?_
  clear HD1
  rintro e w3 ⟨hb3, rfl⟩
  have hB3 := bel_two hB2 hb3
  have HR := hide (ridom_is av cap blk off hd g hgr hl24 hl2 m' o hwk d hfin w3 (HG.out w3 hb3))
  go_wp2_with fail
  refine HR.out.mono ?_
  clear HR
  rintro e w4 ⟨hb4, v, rfl, hov⟩
  have hB4 := bel_two hB3 hb4
  have hb24 := bel_two hb3 hb4
  obtain ⟨RB, rcap, hve, hRB1, hRB2⟩ := hov.form (by omega)
  rw [hlen] at hve
  subst hve
  rw [hlen] at hov
  have HRD : Hid (Calls Try.prog 11 #[.slice (some ⟨RB, 0, none⟩) g.length rcap, .int .i64 a, .int .i64 b] w4 fun e w' => e = .returned (.bool db) ∧ w' = w4) := by
    have := rdominates_is g hmost o hord d hfin RB rcap a b w4 (fun x hx => by
      have hx2 : x < d.length := by rw [hlen]; exact hx
      rw [hov.cellAt x (by omega), List.getElem?_map, List.getElem?_eq_getElem hx2]
      unfold ask
      rw [List.getD_eq_getElem?_getD, List.getElem?_eq_getElem hx2]; rfl)
    rw [HDB.out] at this
    exact this
  have HK1 := hide (kids_is IB g.length hmost d hlen w4 (HIB.out w4 hb24))
  clear hov hb3 hb4
  go_wp2_with fail
  refine HRD.out.mono ?_
  clear HRD
  rintro e w5 ⟨rfl, rfl⟩
  have hbb : (db == db) = true := by cases db <;> rfl
  go_wp2_with fail
  refine HK1.out.mono ?_
  clear HK1
  rintro e w6 ⟨hb6, H6, base6, -, -, rfl, hr6⟩
  have hB6 := bel_two hB4 hb6
  have hb26 := bel_two hb24 hb6
  have HK2 := hide (rkids_is IB g.length hmost d hlen w6 (HIB.out w6 hb26))
  have hv6 := RowsN.of_rowsB hr6
  clear hr6 hb6
  go_wp2_with fail
  refine HK2.out.mono ?_
  clear HK2
  rintro e w7 ⟨hb7, H7, base7, -, -, rfl, hr7⟩
  have hB7 := bel_two hB6 hb7
  have hb27 := bel_two hb26 hb7
  have hv7 := RowsN.of_rowsB hr7
  have HS := hide (rows_same (W := w7) (xss := castG ((List.range g.length).map (kidsTo d g.length))) (by rw [castG_len, List.length_map, List.length_range]; omega) (fun k => by
    rw [castG_at, List.length_map, List.getD_eq_getElem?_getD, List.getElem?_map]
    by_cases hk : k < g.length
    · rw [List.getElem?_range hk]
      have := kidsTo_len d g.length k
      simp only [Option.map_some, Option.getD_some]
      omega
    · rw [List.getElem?_eq_none (by simp; omega)]; simp) (hv6.below hb7) hv7)
  clear hr7 hb7 hv6 hv7
  go_wp2_with fail
  refine HS.out.mono ?_
  clear HS
  rintro e w8 ⟨rfl, hq8⟩
  have hB8 := bel_two hB7 (bel_q hq8)
  have hb28 := bel_two hb27 (bel_q hq8)
  clear hq8
  have HDP := hide (depth_is g hmost o hord d hfin IB w8 (HIB.out w8 hb28))
  go_wp2_with fail
  refine HDP.out.mono ?_
  clear HDP
  rintro e w9 ⟨hb9, R9, de, -, rfl, hR9, hdeep⟩
  have hB9 := bel_two hB8 hb9
  have hb29 := bel_two hb28 hb9
  have HRP := hide (rdepth_is g hmost o hord d hfin de hdeep IB w9 (HIB.out w9 hb29))
  have hv9 : RowN w9 (.slice (some ⟨R9, 0, none⟩) g.length g.length) de := RowN.of_block (xs := de) hR9 hdeep.len.symm
  clear hR9 hb9
  go_wp2_with fail
  refine HRP.out.mono ?_
  clear HRP
  rintro e w10 ⟨hb10, v10, rfl, hov10⟩
  have hB10 := bel_two hB9 hb10
  have hv10 := RowN.of_ownsI hov10
  have hdl := hdeep.len
  have HS := hide (ints_same (W := w10) (xs := de) (by omega) (hv9.below hb10) hv10)
  obtain ⟨av10, cp10, hv10e⟩ := hv10.shape
  rw [hdl] at hv10e
  subst hv10e
  clear hv9 hv10 hov10 hb10 hdl
  go_wp2_with fail
  refine HS.out.mono ?_
  clear HS
  rintro e w11 ⟨rfl, hq11⟩
  have hB11 := bel_two hB10 (bel_q hq11)
  clear hq11
  go_wp2
  go_ret
  exact ⟨rfl, hB11⟩

end Go.Proofs.Ytonoeodlchkiaaa
