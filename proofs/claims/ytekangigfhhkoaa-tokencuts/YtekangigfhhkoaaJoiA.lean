/-
  The law TokenJoins (layer 9): its walk.
-/
import Derived.Test.YtekangigfhhkoaaSml
import Derived.Test.YtekangigfhhkoaaPur
namespace Go.Proofs.Ytekangigfhhkoaa
open Go.ChangeShapes Go.WideShapes Go.ChangeAt Go.RowKit Go.Shelf

theorem LexAns.cases {s : ByteArray} {base : Nat} {r : Value} {W : World} (h : LexAns s.data.toList base r W) :
    (∃ ts v, lexS s.data.toList = (ts, none) ∧ r = .tuple #[v, .int .i64 (s.size : Int), .int .i64 0] ∧ W.ownsRow base 30 3 v ts.length (ts.flatMap tcells)) ∨ (∃ ts q, lexS s.data.toList = (ts, some q) ∧ r = .tuple #[.slice none 0 0, .int .i64 (q : Int), .int .i64 2]) := by
  cases h with
  | good ts v _ h1 h2 => exact .inl ⟨ts, v, h1, by rw [s_size], h2⟩
  | bad ts q _ h1 => exact .inr ⟨ts, q, h1, rfl⟩
theorem Alike.len {a b : List Tok} (h : Alike a b) : a.length = b.length := by
  have := congrArg List.length h
  simpa using this
theorem Alike.at : ∀ {a b : List Tok}, Alike a b → ∀ k, k < a.length → (a.getD k tok0).k = (b.getD k tok0).k ∧ (a.getD k tok0).t = (b.getD k tok0).t
  | [], _, _, k, h => by simp at h
  | _ :: _, [], h, _, _ => by simp [Alike] at h
  | x :: a, y :: b, h, 0, _ => by
    simp [Alike] at h
    exact ⟨h.1.1, h.1.2⟩
  | x :: a, y :: b, h, k + 1, hk => by
    simp [Alike] at h
    exact Alike.at (a := a) (b := b) h.2 k (by simpa using hk)

set_option maxRecDepth 100000 in
set_option maxHeartbeats 2000000 in
theorem joins_walk (s : ByteArray) (w : World) : Calls Try.prog 5 #[.string s] w fun e w' => e = .returned (.bool true) ∧ Below w.heap.size w w' := by
  go_enter Try.func5, Try.ntmps5
  go_wp2_with fail
  refine (small_is w).mono ?_
  rintro e w1 ⟨rfl, hb1⟩
  have HB1 := hide hb1
  clear hb1
  by_cases hbig : 4096 < s.size
  · have e1 : ((4096 : Int) < (s.size : Int)) = True := eq_true (by omega)
    go_wp2_with fail
    go_ret
    exact ⟨rfl, HB1.out⟩
  have e1 : ((4096 : Int) < (s.size : Int)) = False := eq_false (by omega)
  have hss := s_size s
  go_wp2_with fail
  refine (lex_s s (by omega) w1).mono ?_
  rintro e w2 ⟨r, rfl, ha, hb2⟩
  have HB2 := hide (bel_two HB1.out hb2)
  clear hb2 HB1
  rcases ha.cases with ⟨ts, v, hlx, rfl, hown⟩ | ⟨ts, q, hlx, rfl⟩
  · have hr := TokRow.of_owns hown
    have hl1 := lexS_len s.data.toList
    have hl2 := joinL_len s.data.toList
    rw [hlx, hss] at hl1 hl2
    simp only at hl1 hl2
    obtain ⟨us, hlu, hal⟩ := lexS_join s.data.toList hlx
    obtain ⟨av, cap, hve, -⟩ := owns_shape hown
    subst hve
    have HR := hide hr
    have HLU := hide hlu
    have HAL := hide hal
    clear ha hown hr hlu hal hlx
    generalize hJ : joinL (ts.map Tok.z) = J at *
    have HJ := hide hJ
    clear hJ
    go_wp2_with fail
    have H1 := join_is _ (ts.map Tok.z) w2 HR.out (by rw [List.length_map]; omega) (by rw [HJ.out]; omega)
    rw [HJ.out] at H1
    refine H1.mono ?_
    rintro e w3 ⟨rfl, hb3⟩
    have HR3 := hide (HR.out.below hb3)
    have HB3 := hide (bel_two HB2.out hb3)
    clear H1 hb3 HR HB2
    have hsz := bs_size J
    go_wp2_with fail
    refine (lex_s (bs J) (by rw [hsz]; omega) w3).mono ?_
    rintro e w4 ⟨r, rfl, ha, hb4⟩
    have ha' : LexAns J w3.heap.size r w4 := ha
    obtain ⟨v2, rfl, hown⟩ := ha'.is_good HLU.out
    have hr4 := TokRow.of_owns hown
    have hlen := HAL.out.len
    have hr4a := HR3.out.below hb4
    obtain ⟨av2, cap2, hve2, -⟩ := owns_shape hown
    subst hve2
    have HR4 := hide (And.intro hr4a hr4)
    have HB4 := hide (bel_two HB3.out hb4)
    rw [hlen] at *
    clear ha ha' hown hr4 hr4a hb4 HR3 HB3
    have e2 : ((65536 : Int) < (J.length : Int)) = False := eq_false (by omega)
    have e3 : ((ts.length : Int) != (ts.length : Int)) = false := by simp
    have e4 : ((J.length : Int) != (J.length : Int)) = false := by simp
    generalize hn : ts.length = n at *
    have HN := hide hn
    clear hn hlen
    have HRU := hide HR4.out.2
    obtain ⟨⟨av', cap', b1, o1, hv1, a1, r1⟩, ⟨av2', cap2', b2, o2, hv2, a2, r2⟩⟩ := HR4.out
    rw [List.length_map] at hv1 hv2 a1 a2 r1 r2
    injection hv1 with h1 h1a h1b
    injection hv2 with h2 h2a h2b
    clear h1a h1b h2a h2b
    subst h1 h2
    rw [HN.out] at a1 r1
    rw [HAL.out.len, HN.out] at a2 r2
    have R1 : Hid (∀ k f, k < n → f < 3 → w4.cell? ⟨b1, o1 + k * 3 + f, none⟩ = (zcells (ts.getD k tok0).z)[f]?) := fun k f hk hf => by rw [r1 k f hk hf, z_at ts k (by rw [HN.out]; exact hk)]
    have R2 : Hid (∀ k f, k < n → f < 3 → w4.cell? ⟨b2, o2 + k * 3 + f, none⟩ = (zcells (us.getD k tok0).z)[f]?) := fun k f hk hf => by rw [r2 k f hk hf, z_at us k (by rw [HAL.out.len, HN.out]; exact hk)]
    have A1 := hide a1
    have A2 := hide a2
    clear a1 a2 r1 r2 HR4
    go_wp2_with fail
    go_loopw [11] (fun i wr => ∃ k q : Nat, k ≤ n ∧ i = .int .i64 k ∧ wr = w4.drewN q) (fun i _ => n - (RowKit.intOf i).toNat)
    case atStart => exact ⟨0, 0, Nat.zero_le _, rfl, rfl⟩
    case round =>
      obtain ⟨k, q, hk, rfl, rfl⟩ := hrel
      by_cases hlt : k < n
      · obtain ⟨rfl, _⟩ := A1.out (by omega)
        obtain ⟨rfl, _⟩ := A2.out (by omega)
        have p0 := R1.out k 0 hlt (by decide)
        have p1 := R1.out k 1 hlt (by decide)
        have q0 := R2.out k 0 hlt (by decide)
        have q1 := R2.out k 1 hlt (by decide)
        obtain ⟨g1, g2⟩ := HAL.out.at k (by rw [HAL.out.len, HN.out]; exact hlt)
        generalize ts.getD k tok0 = x at *
        generalize us.getD k tok0 = y at *
        simp only [g1, g2, Nat.add_zero, List.getElem?_cons_zero, List.getElem?_cons_succ] at p0 p1 q0 q1
        have f0 : ((x.k : Int) != (x.k : Int)) = false := by simp
        have f1 : ((bs x.t).toList != (bs x.t).toList) = false := by simp
        clear g1 g2
        go_wp2
        go_quiet (fail)
        go_wp2
        go_roundw
        case rel => exact ⟨k + 1, q + nq, by omega, by go_num, rfl⟩
        case measure => simp [RowKit.intOf]; omega
      · have hkn : k = n := by omega
        have e5 : ((k : Int) < (n : Int)) = False := eq_false (by omega)
        have hbq : Below w4.heap.size w4 (w4.drewN q) := bel_q ⟨q, rfl⟩
        have HJ2 : Hid (joinL (us.map Tok.z) = J) := (joinL_texts HAL.out.texts).trans HJ.out
        have H1 := join_is _ (us.map Tok.z) (w4.drewN q) (HRU.out.below hbq) (by rw [List.length_map, HAL.out.len, HN.out]; omega) (by rw [HJ2.out]; omega)
        rw [HJ2.out] at H1
        have HF := hide (bel_two HB4.out hbq)
        have hJJ : ((bs J).toList == (bs J).toList) = true := by simp
        clear hbq
        go_wp2_with fail
        refine H1.mono ?_
        rintro e w5 ⟨rfl, hb5⟩
        have HF2 := hide (bel_two HF.out hb5)
        clear H1 hb5 HF
        go_wp2
        go_ret
        exact ⟨rfl, HF2.out⟩
  · clear ha
    go_wp2
    go_ret
    exact ⟨rfl, HB2.out⟩

end Go.Proofs.Ytekangigfhhkoaa
