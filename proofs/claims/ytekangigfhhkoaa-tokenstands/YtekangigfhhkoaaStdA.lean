/-
  The law TokenStands (layer 9): its walk.
-/
import Derived.Test.YtekangigfhhkoaaGap
namespace Go.Proofs.Ytekangigfhhkoaa
open Go.ChangeShapes Go.WideShapes Go.ChangeAt Go.RowKit Go.Shelf

theorem drop_cons (ts : List Tok) (k : Nat) (h : k < ts.length) : ts.drop k = ts.getD k tok0 :: ts.drop (k + 1) := by
  rw [List.drop_eq_getElem_cons h, List.getD_eq_getElem?_getD, List.getElem?_eq_getElem h]; rfl

set_option maxRecDepth 100000 in
set_option maxHeartbeats 2000000 in
theorem stands_walk (s : ByteArray) (w : World) : Calls Try.prog 6 #[.string s] w fun e w' => e = .returned (.bool true) ∧ Below w.heap.size w w' := by
  go_enter Try.func6, Try.ntmps6
  go_wp2_with fail
  refine (small_is w).mono ?_
  rintro e w1 ⟨rfl, hb1⟩
  have HB1 := hide hb1
  clear hb1
  by_cases hbig : 4096 < s.size
  · have e1 : ((4096 : Int) < (s.size : Int)) = True := eq_true (by omega)
    go_wp2_with fail
    go_ret
    exact ⟨rfl, HB1.out⟩
  have e1 : ((4096 : Int) < (s.size : Int)) = False := eq_false (by omega)
  have hss := s_size s
  go_wp2_with fail
  refine (lex_s s (by omega) w1).mono ?_
  rintro e w2 ⟨r, rfl, ha, hb2⟩
  have HB2 := hide (bel_two HB1.out hb2)
  clear hb2 HB1
  have HA := hide ha.cases
  clear ha
  rcases HA.out with ⟨ts, v, hlx, rfl, hown⟩ | ⟨ts, q, hlx, rfl⟩
  · have hr := TokRow.of_owns hown
    obtain ⟨av, cap, hve, -⟩ := owns_shape hown
    subst hve
    have hl1 := lexS_len s.data.toList
    rw [hlx, hss] at hl1
    simp only at hl1
    rw [lexS_rest] at hlx
    have hst : restL 0 (s.data.toList.drop 0) = (ts.drop 0, none) := by rw [List.drop_zero, List.drop_zero]; exact hlx
    have HST := hide hst
    obtain ⟨b1, o1, a1, r1⟩ := row_at hr rfl
    have R1 := hide r1
    have A1 := hide a1
    clear hown hr hlx hst r1 a1 HA
    generalize hn : ts.length = n at *
    have HN := hide hn
    clear hn
    go_wp2_with fail
    go_loopw [7, 8] (fun en i wr => ∃ e k : Nat, en = .int .i64 (e : Int) ∧ i = .int .i64 (k : Int) ∧ k ≤ n ∧ e ≤ s.size ∧ restL e (s.data.toList.drop e) = (ts.drop k, none) ∧ Below w2.heap.size w2 wr) (fun _ i _ => n - (RowKit.intOf i).toNat)
    case atStart => exact ⟨0, 0, rfl, rfl, Nat.zero_le _, Nat.zero_le _, HST.out, Below.refl _ _⟩
    case round =>
      clear HST
      obtain ⟨en, k, rfl, rfl, hk, hen, hst, hbr⟩ := hrel
      by_cases hlt : k < n
      · have e2 : ((k : Int) < (n : Int)) = True := eq_true (by omega)
        obtain ⟨rfl, hb1l⟩ := A1.out (by omega)
        obtain ⟨y0, y1, y2⟩ := R1.out k hlt
        have y0 := (hbr.cell (p := ⟨b1, o1 + k * 3, none⟩) hb1l).trans y0
        have y1 := (hbr.cell (p := ⟨b1, o1 + k * 3 + 1, none⟩) hb1l).trans y1
        have y2 := (hbr.cell (p := ⟨b1, o1 + k * 3 + 2, none⟩) hb1l).trans y2
        have HBR := hide hbr
        clear hbr
        rw [drop_cons ts k (by rw [HN.out]; exact hlt)] at hst
        generalize ts.getD k tok0 = x at *
        obtain ⟨h1, h2, h3, h4, h5, h6, h7⟩ := restL_step _ en (by rw [hss]; exact hen) hst
        rw [hss] at h4
        have hsz := bs_size x.t
        have hcut : s.extract x.a (x.a + x.t.length) = bs x.t := bs_of (by rw [s_cut, Nat.add_sub_cancel_left, ← h5])
        have hslice := run_cut s x.a (x.a + x.t.length) (x.a : Int) ((x.a : Int) + (x.t.length : Int)) rfl (by omega) (by omega) (by omega)
        rw [hcut] at hslice
        have hgap : ∀ W, Calls Try.prog 21 #[.string s, .int .i64 (en : Int), .int .i64 (x.a : Int)] W fun e w' => e = .returned (.bool true) ∧ w' = W := fun W => gap_s s en x.a h2 (by omega) (by omega) (by rw [h1, Nat.add_sub_cancel_left]; exact gap_betw _ _ (Nat.le_refl _)) W
        have HGAP := hide hgap
        have HNAME : Hid (∀ W, Calls Try.prog 15 #[.string (bs x.t)] W fun e w' => e = .returned (.bool (nameB x.t)) ∧ w' = W) := fun W => name_s (bs x.t) (by rw [hsz]; omega) W
        have HSIGN : Hid (∀ W, Calls Try.prog 17 #[.string (bs x.t)] W fun e w' => e = .returned (.bool (sign x.t)) ∧ w' = W) := fun W => sign_s (bs x.t) W
        have HNUM : Hid (∀ W, Calls Try.prog 13 #[.string (bs x.t)] W fun e w' => e = .returned (numV (num x.t)) ∧ w' = W) := fun W => number_s (bs x.t) (by rw [hsz]; omega) W
        have f0 : ((bs x.t).toList != (bs x.t).toList) = false := by simp
        have f1 : ((x.t.length : Int) < 1) = False := eq_false (by omega)
        have f2 : ((s.size : Int) - (x.a : Int) < (x.t.length : Int)) = False := eq_false (by omega)
        have H7 := hide h7
        have hx4 : x.a + x.t.length ≤ 100000000 := by omega
        have hx5 : x.a + x.t.length ≤ s.size := h4
        have H6 := hide h6.kinds
        clear h1 h2 h3 h4 h5 h6 h7 hcut hgap hst
        rcases H6.out with ⟨hk1, hk2, hk3, hk4⟩ | ⟨hk1, hk2, ⟨m, hk3⟩, hk4⟩ | ⟨hk1, hk2, hk3, hk4⟩
        · rw [hk2] at HNAME
          rw [hk3] at HNUM
          rw [hk4] at HSIGN
          rw [hk1] at y0
          rw [numV_none] at HNUM
          clear H6 hk1 hk2 hk3 hk4
          go_wp2_with fail
          go_quiet ((go_at_call 21; exact Calls.quiet_of_same (HGAP.out _)))
          have hq := bel_q (a := wr) ⟨nq, rfl⟩
          have y0 : (wr.drewN nq).cell? ⟨b1, o1 + k * 3, none⟩ = _ := y0
          have y1 : (wr.drewN nq).cell? ⟨b1, o1 + k * 3 + 1, none⟩ = _ := y1
          have HB3 := hide (bel_two HBR.out hq)
          clear hq HBR
          generalize wr.drewN nq = wd at *
          go_wp2_with fail
          refine (HNUM.out _).mono ?_
          rintro e w3 ⟨rfl, rfl⟩
          go_wp2_with fail
          go_quiet ((first | (go_at_call 15; exact Calls.quiet_of_same (HNAME.out _)) | (go_at_call 17; exact Calls.quiet_of_same (HSIGN.out _))))
          have HB4 := hide (bel_two HB3.out (bel_q (a := w3) ⟨nq, rfl⟩))
          go_wp2
          go_roundw
          case rel => exact ⟨x.a + x.t.length, k + 1, by go_num, by go_num, hlt, hx5, H7.out, HB4.out⟩
          case measure => simp [RowKit.intOf]; omega
        · rw [hk2] at HNAME
          rw [hk3] at HNUM
          rw [hk4] at HSIGN
          rw [hk1] at y0
          rw [numV_some] at HNUM
          clear H6 hk1 hk2 hk3 hk4
          go_wp2_with fail
          go_quiet ((go_at_call 21; exact Calls.quiet_of_same (HGAP.out _)))
          have hq := bel_q (a := wr) ⟨nq, rfl⟩
          have y0 : (wr.drewN nq).cell? ⟨b1, o1 + k * 3, none⟩ = _ := y0
          have y1 : (wr.drewN nq).cell? ⟨b1, o1 + k * 3 + 1, none⟩ = _ := y1
          have HB3 := hide (bel_two HBR.out hq)
          clear hq HBR
          generalize wr.drewN nq = wd at *
          go_wp2_with fail
          refine (HNUM.out _).mono ?_
          rintro e w3 ⟨rfl, rfl⟩
          go_wp2_with fail
          go_quiet ((first | (go_at_call 15; exact Calls.quiet_of_same (HNAME.out _)) | (go_at_call 17; exact Calls.quiet_of_same (HSIGN.out _))))
          have HB4 := hide (bel_two HB3.out (bel_q (a := w3) ⟨nq, rfl⟩))
          go_wp2
          go_roundw
          case rel => exact ⟨x.a + x.t.length, k + 1, by go_num, by go_num, hlt, hx5, H7.out, HB4.out⟩
          case measure => simp [RowKit.intOf]; omega
        · rw [hk2] at HNAME
          rw [hk3] at HNUM
          rw [hk4] at HSIGN
          rw [hk1] at y0
          rw [numV_none] at HNUM
          clear H6 hk1 hk2 hk3 hk4
          go_wp2_with fail
          go_quiet ((go_at_call 21; exact Calls.quiet_of_same (HGAP.out _)))
          have hq := bel_q (a := wr) ⟨nq, rfl⟩
          have y0 : (wr.drewN nq).cell? ⟨b1, o1 + k * 3, none⟩ = _ := y0
          have y1 : (wr.drewN nq).cell? ⟨b1, o1 + k * 3 + 1, none⟩ = _ := y1
          have HB3 := hide (bel_two HBR.out hq)
          clear hq HBR
          generalize wr.drewN nq = wd at *
          go_wp2_with fail
          refine (HNUM.out _).mono ?_
          rintro e w3 ⟨rfl, rfl⟩
          go_wp2_with fail
          go_quiet ((first | (go_at_call 15; exact Calls.quiet_of_same (HNAME.out _)) | (go_at_call 17; exact Calls.quiet_of_same (HSIGN.out _))))
          have HB4 := hide (bel_two HB3.out (bel_q (a := w3) ⟨nq, rfl⟩))
          go_wp2
          go_roundw
          case rel => exact ⟨x.a + x.t.length, k + 1, by go_num, by go_num, hlt, hx5, H7.out, HB4.out⟩
          case measure => simp [RowKit.intOf]; omega
      · have hkn : k = n := by omega
        subst hkn
        have e2 : ((k : Int) < (k : Int)) = False := eq_false (by omega)
        have hd : ts.drop k = [] := List.drop_of_length_le (by rw [HN.out]; exact Nat.le_refl _)
        rw [hd] at hst
        clear hd
        have hse := restL_stop _ en (by rw [hss]; exact hen) hst
        rw [hss] at hse
        have HG := hide (gap_s s en s.size hen (Nat.le_refl _) (by omega) (by rw [← hse, Nat.add_sub_cancel_left]; exact gap_betw _ _ (Nat.le_refl _)) wr)
        have HF := hide (bel_two HB2.out hbr)
        clear hst hse hbr
        go_wp2_with fail
        refine HG.out.mono ?_
        rintro e w5 ⟨rfl, rfl⟩
        go_wp2
        go_ret
        exact ⟨rfl, HF.out⟩
  · have hq := lexS_bound s.data.toList q (by rw [hlx])
    rw [hss] at hq
    have f1 : ((0 : Int) ≤ (q : Int)) = True := eq_true (by omega)
    have f2 : ((q : Int) < (s.size : Int)) = True := eq_true (by omega)
    clear HA hlx hq
    go_wp2
    go_ret
    exact ⟨rfl, HB2.out⟩

end Go.Proofs.Ytekangigfhhkoaa
