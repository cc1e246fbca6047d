/-
  The law TokenMore (layer 9): its walk.
-/
import Derived.Test.YtekangigfhhkoaaJoiA
namespace Go.Proofs.Ytekangigfhhkoaa
open Go.ChangeShapes Go.WideShapes Go.ChangeAt Go.RowKit Go.Shelf

theorem toks_at : ∀ (n at_ : Nat) (l : List UInt8), l.length ≤ n → ∀ x ∈ (toks at_ l).1, x.a ≤ at_ + l.length
  | n, at_, [], _ => by simp [toks_nil]
  | 0, _, c :: t, h => by simp at h
  | n + 1, at_, c :: t, h => by
    by_cases hz : (first (c :: t)).2 = 0
    · rw [toks_bad at_ (by simp) hz]; simp
    · rw [toks_tok at_ hz]
      intro x hx
      rcases List.mem_cons.1 hx with rfl | hx
      · exact Nat.le_add_right _ _
      · have := toks_at n _ _ (by rw [List.length_drop]; simp at h ⊢; omega) x hx
        have h5 := first_le (c :: t)
        have h6 := betw_le _ ((c :: t).drop (first (c :: t)).2) (Nat.le_refl _)
        rw [List.length_drop] at this h6
        omega
theorem lexS_at (s : List UInt8) : ∀ x ∈ (lexS s).1, x.a ≤ s.length := by
  rw [lexS_eq]
  intro x hx
  have := toks_at _ _ _ (Nat.le_refl _) x hx
  have h6 := betw_le _ s (Nat.le_refl _)
  rw [List.length_drop] at this
  omega
theorem toks_bound : ∀ (n at_ : Nat) (l : List UInt8), l.length ≤ n → ∀ q, (toks at_ l).2 = some q → at_ ≤ q ∧ q < at_ + l.length
  | n, at_, [], _ => by simp [toks_nil]
  | 0, _, c :: t, h => by simp at h
  | n + 1, at_, c :: t, h => by
    by_cases hz : (first (c :: t)).2 = 0
    · rw [toks_bad at_ (by simp) hz]; simp
    · rw [toks_tok at_ hz]
      intro q hq
      have := toks_bound n _ _ (by rw [List.length_drop]; simp at h ⊢; omega) q hq
      have h5 := first_le (c :: t)
      have h6 := betw_le _ ((c :: t).drop (first (c :: t)).2) (Nat.le_refl _)
      rw [List.length_drop] at this h6
      omega
theorem lexS_bound (s : List UInt8) : ∀ q, (lexS s).2 = some q → q < s.length := by
  rw [lexS_eq]
  intro q hq
  have := toks_bound _ _ _ (Nat.le_refl _) q hq
  have h6 := betw_le _ s (Nat.le_refl _)
  rw [List.length_drop] at this
  omega
theorem getD_mem {ts : List Tok} {k : Nat} (h : k < ts.length) : ts.getD k tok0 ∈ ts := by
  rw [List.getD_eq_getElem?_getD, List.getElem?_eq_getElem h]; exact List.getElem_mem h
theorem row_at {W : World} {av : Option Addr} {n cap : Nat} {ts : List Tok} (h : TokRow W (.slice av n cap) (ts.map Tok.z)) (hn : ts.length = n) : ∃ blk off, (0 < n → av = some ⟨blk, off, none⟩ ∧ blk < W.heap.size) ∧ ∀ k, k < n → W.cell? ⟨blk, off + k * 3, none⟩ = some (.int .i64 ((ts.getD k tok0).k : Int)) ∧ W.cell? ⟨blk, off + k * 3 + 1, none⟩ = some (.string (bs (ts.getD k tok0).t)) ∧ W.cell? ⟨blk, off + k * 3 + 2, none⟩ = some (.int .i64 ((ts.getD k tok0).a : Int)) := by
  subst hn
  obtain ⟨av', cap', b, o, hv, a, r⟩ := h
  rw [List.length_map] at hv a r
  injection hv with h1 h2 h3
  subst h1
  refine ⟨b, o, a, fun k hk => ⟨?_, ?_, ?_⟩⟩
  · have := r k 0 hk (by decide); rw [z_at ts k hk] at this; exact this
  · have := r k 1 hk (by decide); rw [z_at ts k hk] at this; exact this
  · have := r k 2 hk (by decide); rw [z_at ts k hk] at this; exact this
/-- A token elsewhere. -/
abbrev sh (d : Nat) (x : Tok) : Tok := ⟨x.k, x.t, x.a + d⟩
theorem getD_left (ts us : List Tok) {k : Nat} (h : k < ts.length) : (ts ++ us).getD k tok0 = ts.getD k tok0 := by
  rw [List.getD_eq_getElem?_getD, List.getD_eq_getElem?_getD, List.getElem?_append_left h]
theorem getD_right (ts us : List Tok) {k : Nat} (h : ts.length ≤ k) (d : Nat) (h2 : k - ts.length < us.length) : (ts ++ us.map (sh d)).getD k tok0 = sh d (us.getD (k - ts.length) tok0) := by
  rw [List.getD_eq_getElem?_getD, List.getD_eq_getElem?_getD, List.getElem?_append_right h, List.getElem?_map, List.getElem?_eq_getElem h2]; rfl

set_option maxRecDepth 100000 in
set_option maxHeartbeats 2000000 in
theorem more_walk (s t : ByteArray) (w : World) : Calls Try.prog 7 #[.string s, .string t] w fun e w' => e = .returned (.bool true) ∧ Below w.heap.size w w' := by
  go_enter Try.func7, Try.ntmps7
  go_wp2_with fail
  refine (small_is w).mono ?_
  rintro e w1 ⟨rfl, hb1⟩
  have HB1 := hide hb1
  clear hb1
  by_cases hbig : 2048 < s.size
  · have e1 : ((2048 : Int) < (s.size : Int)) = True := eq_true (by omega)
    go_wp2_with fail
    go_ret
    exact ⟨rfl, HB1.out⟩
  have e1 : ((2048 : Int) < (s.size : Int)) = False := eq_false (by omega)
  by_cases hbig2 : 2048 < t.size
  · have e1' : ((2048 : Int) < (t.size : Int)) = True := eq_true (by omega)
    go_wp2_with fail
    go_ret
    exact ⟨rfl, HB1.out⟩
  have e1' : ((2048 : Int) < (t.size : Int)) = False := eq_false (by omega)
  have hss := s_size s
  have htt := s_size t
  have hb := lexS_both s.data.toList t.data.toList
  rw [hss] at hb
  have HBO := hide hb
  have hcat : (s ++ bs [10] ++ t).data.toList = s.data.toList ++ 10 :: t.data.toList := by simp [ByteArray.data_append, bs]
  have hcsz : (s ++ bs [10] ++ t).size = s.size + t.size + 1 := by
    rw [← s_size, hcat, List.length_append, List.length_cons, hss, htt]; omega
  have hs1 : ¬ 9223372036854775807 < s.size + (⟨#[10]⟩ : ByteArray).size := by
    have : (⟨#[10]⟩ : ByteArray).size = 1 := rfl
    omega
  have hs1' : ¬ 9223372036854775807 < s.size + 1 := by omega
  have hs2 : ¬ 9223372036854775807 < (s ++ (⟨#[10]⟩ : ByteArray)).size + t.size := by
    have : (s ++ (⟨#[10]⟩ : ByteArray)).size = s.size + 1 := ByteArray.size_append
    omega
  have hs3 : ¬ 9223372036854775807 < s.size + 1 + t.size := by omega
  have HC := hide hcat
  have HZ := hide hcsz
  clear hb hcat hcsz
  go_wp2_with fail
  refine (lex_s s (by omega) w1).mono ?_
  rintro e w2 ⟨r, rfl, ha, hb2⟩
  have HB2 := hide (bel_two HB1.out hb2)
  clear hb2 HB1
  have HA := hide ha.cases
  clear ha
  rcases HA.out with ⟨ts, v, hlx, rfl, hown⟩ | ⟨ts, q, hlx, rfl⟩
  · have hr := TokRow.of_owns hown
    obtain ⟨av, cap, hve, -⟩ := owns_shape hown
    subst hve
    have HR := hide hr
    have HLX := hide hlx
    clear hown hr hlx HA
    go_wp2_with fail
    refine (lex_s t (by omega) w2).mono ?_
    rintro e w3 ⟨r, rfl, ha, hb3⟩
    have HB3 := hide (bel_two HB2.out hb3)
    have HR3 := hide (HR.out.below hb3)
    clear hb3 HB2 HR
    have HA := hide ha.cases
    clear ha
    rcases HA.out with ⟨us, v2, hlu, rfl, hown⟩ | ⟨us, q, hlu, rfl⟩
    · have hr := TokRow.of_owns hown
      obtain ⟨av2, cap2, hve, -⟩ := owns_shape hown
      subst hve
      have HR2 := hide hr
      have HLU := hide hlu
      have HBO' : Hid (lexS (s ++ bs [10] ++ t).data.toList = (ts ++ us.map (sh (s.size + 1)), none)) := by
        rw [Hid, HC.out, HBO.out, HLX.out, HLU.out]; rfl
      clear hown hr hlu HA HBO
      go_wp2_with fail
      refine (lex_s (s ++ bs [10] ++ t) (by rw [HZ.out]; omega) w3).mono ?_
      rintro e w4 ⟨r, rfl, ha, hb4⟩
      obtain ⟨v3, hve, hown⟩ := ha.is_good HBO'.out
      rw [s_size] at hve
      subst hve
      have hr := TokRow.of_owns hown
      obtain ⟨av3, cap3, hve, -⟩ := owns_shape hown
      subst hve
      have hlen3 : (ts ++ us.map (sh (s.size + 1))).length = ts.length + us.length := by simp
      rw [hlen3] at hr
      obtain ⟨b1, o1, a1, r1⟩ := row_at (HR3.out.below hb4) rfl
      obtain ⟨b2, o2, a2, r2⟩ := row_at (HR2.out.below hb4) rfl
      obtain ⟨b3, o3, a3, r3⟩ := row_at hr hlen3
      have hsu := lexS_at t.data.toList
      rw [HLU.out, htt] at hsu
      have HSU : Hid (∀ x ∈ us, x.a ≤ t.size) := hsu
      have hl1 := lexS_len s.data.toList
      have hl2 := lexS_len t.data.toList
      rw [HLX.out, hss] at hl1
      rw [HLU.out, htt] at hl2
      simp only at hl1 hl2
      have HB4 := hide (bel_two HB3.out hb4)
      have R1 := hide r1
      have R2 := hide r2
      have R3 := hide r3
      have A1 := hide a1
      have A2 := hide a2
      have A3 := hide a3
      rw [hlen3] at *
      clear ha hown hr hb4 hsu r1 r2 r3 a1 a2 a3 HBO' HB3 HR3 HR2 HLX HLU HC HZ hlen3
      generalize hn : ts.length = n at *
      have HN := hide hn
      clear hn
      generalize hm : us.length = m at *
      have HM := hide hm
      clear hm
      have b1' : n ≤ 2048 := by omega
      have b2' : m ≤ 2048 := by omega
      clear hl1 hl2
      go_wp2_with fail
      go_loopw [15] (fun i wr => ∃ k : Nat, k ≤ n + m ∧ i = .int .i64 (k : Int) ∧ Below w4.heap.size w4 wr) (fun i _ => n + m - (RowKit.intOf i).toNat)
      case atStart => exact ⟨0, Nat.zero_le _, rfl, Below.refl _ _⟩
      case round =>
        obtain ⟨k, hk, rfl, hbr⟩ := hrel
        by_cases hlt : k < n + m
        · have e2 : ((k : Int) < (n : Int) + (m : Int)) = True := eq_true (by omega)
          obtain ⟨rfl, hb3l⟩ := A3.out (by omega)
          obtain ⟨x0, x1, x2⟩ := R3.out k hlt
          have x0 := (hbr.cell (p := ⟨b3, o3 + k * 3, none⟩) hb3l).trans x0
          have x1 := (hbr.cell (p := ⟨b3, o3 + k * 3 + 1, none⟩) hb3l).trans x1
          have x2 := (hbr.cell (p := ⟨b3, o3 + k * 3 + 2, none⟩) hb3l).trans x2
          have hsz := hbr.size
          by_cases hlt2 : k < n
          · have e3 : ((k : Int) < (n : Int)) = True := eq_true (by omega)
            obtain ⟨rfl, hb1l⟩ := A1.out (by omega)
            obtain ⟨y0, y1, y2⟩ := R1.out k hlt2
            have y0 := (hbr.cell (p := ⟨b1, o1 + k * 3, none⟩) hb1l).trans y0
            have y1 := (hbr.cell (p := ⟨b1, o1 + k * 3 + 1, none⟩) hb1l).trans y1
            have y2 := (hbr.cell (p := ⟨b1, o1 + k * 3 + 2, none⟩) hb1l).trans y2
            rw [getD_left ts _ (by rw [HN.out]; exact hlt2)] at x0 x1 x2
            generalize ts.getD k tok0 = x at *
            have hne1 : b1 ≠ wr.heap.size := by omega
            have hbn := bel_new wr (.cells #[.int .i64 (x.k : Int), .string (bs x.t), .int .i64 (x.a : Int)] 30)
            have HF := hide (bel_two hbr hbn)
            have HX := hide (World.alloc_heap_new wr (.cells #[.int .i64 (x.k : Int), .string (bs x.t), .int .i64 (x.a : Int)] 30))
            have z0 : (wr.alloc (.cells #[.int .i64 (x.k : Int), .string (bs x.t), .int .i64 (x.a : Int)] 30)).cell? ⟨wr.heap.size, 0, none⟩ = some (.int .i64 (x.k : Int)) := cell_of HX.out 0
            have z1 : (wr.alloc (.cells #[.int .i64 (x.k : Int), .string (bs x.t), .int .i64 (x.a : Int)] 30)).cell? ⟨wr.heap.size, 1, none⟩ = some (.string (bs x.t)) := cell_of HX.out 1
            have z2 : (wr.alloc (.cells #[.int .i64 (x.k : Int), .string (bs x.t), .int .i64 (x.a : Int)] 30)).cell? ⟨wr.heap.size, 2, none⟩ = some (.int .i64 (x.a : Int)) := cell_of HX.out 2
            have w0 := (hbn.cell (p := ⟨b1, o1 + k * 3, none⟩) (by show b1 < _; omega)).trans y0
            have w1 := (hbn.cell (p := ⟨b1, o1 + k * 3 + 1, none⟩) (by show b1 < _; omega)).trans y1
            have w2 := (hbn.cell (p := ⟨b1, o1 + k * 3 + 2, none⟩) (by show b1 < _; omega)).trans y2
            have f0 : ((x.k : Int) != (x.k : Int)) = false := by simp
            have f1 : ((bs x.t).toList != (bs x.t).toList) = false := by simp
            have f2 : ((x.a : Int) != (x.a : Int)) = false := by simp
            clear hbr hbn hsz HX
            go_wp2_with fail
            generalize (wr.alloc (.cells #[.int .i64 (x.k : Int), .string (bs x.t), .int .i64 (x.a : Int)] 30)) = wa at *
            go_quiet (fail)
            have HF2 := hide (bel_two HF.out (bel_q ⟨nq, rfl⟩))
            go_wp2
            go_roundw
            case rel => exact ⟨k + 1, by omega, by go_num, HF2.out⟩
            case measure => simp [RowKit.intOf]; omega
          · have e3 : ((k : Int) < (n : Int)) = False := eq_false (by omega)
            obtain ⟨j, hkj⟩ : ∃ j, k = n + j := ⟨k - n, by omega⟩
            have hj : j < m := by omega
            have e4 : (k : Int) - (n : Int) = (j : Int) := by omega
            obtain ⟨rfl, hb2l⟩ := A2.out (by omega)
            obtain ⟨y0, y1, y2⟩ := R2.out j hj
            rw [getD_right ts us (by rw [HN.out]; omega) _ (by rw [HN.out, HM.out]; omega), HN.out, show k - n = j by omega] at x0 x1 x2
            have hya : (us.getD j tok0).a ≤ t.size := HSU.out _ (getD_mem (by rw [HM.out]; exact hj))
            generalize us.getD j tok0 = x at *
            have x2 : wr.cell? ⟨b3, o3 + k * 3 + 2, none⟩ = some (.int .i64 ((x.a : Int) + ((s.size : Int) + 1))) := by rw [x2]; simp only [Option.some.injEq, Value.int.injEq, true_and]; omega
            have x0 : wr.cell? ⟨b3, o3 + k * 3, none⟩ = some (.int .i64 (x.k : Int)) := x0
            have x1 : wr.cell? ⟨b3, o3 + k * 3 + 1, none⟩ = some (.string (bs x.t)) := x1
            have hbn := bel_new wr (.cells #[.int .i64 (x.k : Int), .string (bs x.t), .int .i64 ((x.a : Int) + ((s.size : Int) + 1))] 30)
            have hbn2 := bel_new (wr.alloc (.cells #[.int .i64 (x.k : Int), .string (bs x.t), .int .i64 ((x.a : Int) + ((s.size : Int) + 1))] 30)) (.cells #[.int .i64 (x.k : Int), .string (bs x.t), .int .i64 (x.a : Int)] 30)
            have HF := hide (bel_two hbr (bel_two hbn hbn2))
            have hbrn := bel_two hbr hbn
            have y0 := (hbrn.cell (p := ⟨b2, o2 + j * 3, none⟩) hb2l).trans y0
            have y1 := (hbrn.cell (p := ⟨b2, o2 + j * 3 + 1, none⟩) hb2l).trans y1
            have y2 := (hbrn.cell (p := ⟨b2, o2 + j * 3 + 2, none⟩) hb2l).trans y2
            have hB1 := World.alloc_heap_new wr (.cells #[.int .i64 (x.k : Int), .string (bs x.t), .int .i64 ((x.a : Int) + ((s.size : Int) + 1))] 30)
            have hB1' := (hbn2.block wr.heap.size (lt_of hB1)).trans hB1
            have hB2 := World.alloc_heap_new (wr.alloc (.cells #[.int .i64 (x.k : Int), .string (bs x.t), .int .i64 ((x.a : Int) + ((s.size : Int) + 1))] 30)) (.cells #[.int .i64 (x.k : Int), .string (bs x.t), .int .i64 (x.a : Int)] 30)
            rw [World.size_alloc] at hB2
            have z0 : ((wr.alloc (.cells #[.int .i64 (x.k : Int), .string (bs x.t), .int .i64 ((x.a : Int) + ((s.size : Int) + 1))] 30)).alloc (.cells #[.int .i64 (x.k : Int), .string (bs x.t), .int .i64 (x.a : Int)] 30)).cell? ⟨wr.heap.size, 0, none⟩ = some (.int .i64 (x.k : Int)) := cell_of hB1' 0
            have z1 : ((wr.alloc (.cells #[.int .i64 (x.k : Int), .string (bs x.t), .int .i64 ((x.a : Int) + ((s.size : Int) + 1))] 30)).alloc (.cells #[.int .i64 (x.k : Int), .string (bs x.t), .int .i64 (x.a : Int)] 30)).cell? ⟨wr.heap.size, 1, none⟩ = some (.string (bs x.t)) := cell_of hB1' 1
            have z2 : ((wr.alloc (.cells #[.int .i64 (x.k : Int), .string (bs x.t), .int .i64 ((x.a : Int) + ((s.size : Int) + 1))] 30)).alloc (.cells #[.int .i64 (x.k : Int), .string (bs x.t), .int .i64 (x.a : Int)] 30)).cell? ⟨wr.heap.size, 2, none⟩ = some (.int .i64 ((x.a : Int) + ((s.size : Int) + 1))) := cell_of hB1' 2
            have t0 : ((wr.alloc (.cells #[.int .i64 (x.k : Int), .string (bs x.t), .int .i64 ((x.a : Int) + ((s.size : Int) + 1))] 30)).alloc (.cells #[.int .i64 (x.k : Int), .string (bs x.t), .int .i64 (x.a : Int)] 30)).cell? ⟨wr.heap.size + 1, 0, none⟩ = some (.int .i64 (x.k : Int)) := cell_of hB2 0
            have t1 : ((wr.alloc (.cells #[.int .i64 (x.k : Int), .string (bs x.t), .int .i64 ((x.a : Int) + ((s.size : Int) + 1))] 30)).alloc (.cells #[.int .i64 (x.k : Int), .string (bs x.t), .int .i64 (x.a : Int)] 30)).cell? ⟨wr.heap.size + 1, 1, none⟩ = some (.string (bs x.t)) := cell_of hB2 1
            have t2 : ((wr.alloc (.cells #[.int .i64 (x.k : Int), .string (bs x.t), .int .i64 ((x.a : Int) + ((s.size : Int) + 1))] 30)).alloc (.cells #[.int .i64 (x.k : Int), .string (bs x.t), .int .i64 (x.a : Int)] 30)).cell? ⟨wr.heap.size + 1, 2, none⟩ = some (.int .i64 (x.a : Int)) := cell_of hB2 2
            have f0 : ((x.k : Int) != (x.k : Int)) = false := by simp
            have f1 : ((bs x.t).toList != (bs x.t).toList) = false := by simp
            have f2 : ((x.a : Int) + ((s.size : Int) + 1) != (x.a : Int) + ((s.size : Int) + 1)) = false := by simp
            have f3 : ((x.a : Int) + ((s.size : Int) + 1) != (x.a : Int) + (s.size : Int) + 1) = false := by rw [bne_eq_false_iff_eq]; omega
            have hne2 : b2 ≠ wr.heap.size := by omega
            clear hB1 hB1' hB2 hbrn
            have hkm : k < n + m := hlt
            have HK := hide hkj
            clear hbr hbn hbn2 hsz hkj
            go_wp2
            go_roundw
            case rel => exact ⟨k + 1, hkm, by go_num, HF.out⟩
            case measure => simp [RowKit.intOf]; omega
        · have hkn : k = n + m := by omega
          have e2 : ((k : Int) < (n : Int) + (m : Int)) = False := eq_false (by omega)
          have HF := hide (bel_two HB4.out hbr)
          clear hbr
          go_wp2
          go_ret
          exact ⟨rfl, HF.out⟩
    · have HBO' : Hid (lexS (s ++ bs [10] ++ t).data.toList = (ts ++ us.map (sh (s.size + 1)), some (q + (s.size + 1)))) := by
        rw [Hid, HC.out, HBO.out, HLX.out, hlu]; rfl
      have HQ : Hid (q + (s.size + 1) ≤ 100000000 ∧ q ≤ 100000000) := by
        have := lexS_bound t.data.toList
        rw [hlu, htt] at this
        have := this q rfl
        rw [Hid]; omega
      clear HA HBO HLX hlu
      go_wp2_with fail
      refine (lex_s (s ++ bs [10] ++ t) (by rw [HZ.out]; omega) w3).mono ?_
      rintro e w4 ⟨r, rfl, ha, hb4⟩
      obtain rfl := ha.is_bad HBO'.out
      have HB4 := hide (bel_two HB3.out hb4)
      have hq : q + (s.size + 1) ≤ 100000000 ∧ q ≤ 100000000 := HQ.out
      have f1 : (((q + (s.size + 1) : Nat) : Int) == (s.size : Int) + 1 + (q : Int)) = true := beq_iff_eq.2 (by omega)
      have f2 : ((q : Int) + ((s.size : Int) + 1) == (s.size : Int) + 1 + (q : Int)) = true := beq_iff_eq.2 (by omega)
      clear ha hb4 HBO' HB3 HR3
      go_wp2
      go_ret
      exact ⟨rfl, HB4.out⟩
  · have HBO' : Hid (lexS (s ++ bs [10] ++ t).data.toList = (ts, some q)) := by
      rw [Hid, HC.out, HBO.out, hlx]; rfl
    clear HA HBO hlx
    go_wp2_with fail
    refine (lex_s t (by omega) w2).mono ?_
    rintro e w3 ⟨r, rfl, ha, hb3⟩
    have HB3 := hide (bel_two HB2.out hb3)
    clear hb3 HB2
    have HA := hide ha.cases
    clear ha
    rcases HA.out with ⟨us, v2, hlu, rfl, hown⟩ | ⟨us, q2, hlu, rfl⟩ <;>
    · clear HA hlu
      go_wp2_with fail
      refine (lex_s (s ++ bs [10] ++ t) (by rw [HZ.out]; omega) w3).mono ?_
      rintro e w4 ⟨r, rfl, ha, hb4⟩
      obtain rfl := ha.is_bad HBO'.out
      have HB4 := hide (bel_two HB3.out hb4)
      clear ha hb4 HBO' HB3
      go_wp2
      go_ret
      exact ⟨rfl, HB4.out⟩

end Go.Proofs.Ytekangigfhhkoaa
