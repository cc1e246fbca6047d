/-
  Two texts, parsed one by one and together (layer 10): the walk of the law ParsePlaces.
-/
import Derived.Test.YtgndnodahlabiaaMgA
import Derived.Test.YtgndnodahlabiaaMgM
import Derived.Test.YtgndnodahlabiaaPur
import Derived.Deep.AppendSrc
import Derived.Deep.Upon
import Derived.Lib.QuietBelow
namespace Go.Proofs.Ytgndnodahlabiaa
open Go.ChangeShapes Go.WideShapes Go.ChangeAt Go.RowKit Go.Shelf

theorem lexAns_cases {s : List UInt8} {base : Nat} {v : Value} {W : World} (h : LexAns s base v W) :
    (∃ ts w, lexS s = (ts, none) ∧ v = .tuple #[w, .int .i64 (s.length : Int), .int .i64 0] ∧ W.ownsRow base 41 3 w ts.length (ts.flatMap tcells)) ∨ (∃ ts q, lexS s = (ts, some q) ∧ v = .tuple #[.slice none 0 0, .int .i64 (q : Int), .int .i64 2]) := by
  cases h with
  | good ts w W h1 h2 => exact .inl ⟨ts, w, h1, rfl, h2⟩
  | bad ts q W h1 => exact .inr ⟨ts, q, h1, rfl⟩
theorem toks_sh : ∀ (n at_ : Nat) (l : List UInt8), l.length ≤ n → ∀ x ∈ (toks at_ l).1, x.t.length ≤ l.length
  | n, at_, [], _ => by simp [toks_nil]
  | 0, _, c :: t, h => by simp at h
  | n + 1, at_, c :: t, h => by
    by_cases hz : (first (c :: t)).2 = 0
    · rw [toks_bad at_ (by simp) hz]; simp
    · rw [toks_tok at_ hz]
      intro x hx
      rcases List.mem_cons.1 hx with rfl | hx
      · simp only [List.length_take]; omega
      · have := toks_sh n _ _ (by rw [List.length_drop]; simp at h ⊢; omega) x hx
        rw [List.length_drop] at this
        omega
theorem lexS_sh (s : List UInt8) : ∀ x ∈ (lexS s).1, x.t.length ≤ s.length := by
  rw [lexS_eq]
  intro x hx
  have := toks_sh _ _ _ (Nat.le_refl _) x hx
  rw [List.length_drop] at this
  omega
theorem owns_nothing {w : World} {base : Nat} {e : TypeId} {size : Nat} {v : Value} {n : Nat} {xs : List Value} (h : w.ownsRow base e size v n xs) (t ty : TypeId) (i : TypeInfo) (ht : Try.prog.underlying t = some (.slice e)) (hi : Try.prog.info? e = some i) (av : Option Addr) (cap : Nat) :
    (Builtin.append_ #[t, t] ty #[v, .slice av 0 cap]).run Try.prog w = .ok v w := by
  obtain ⟨bv, cp, rfl, h1⟩ := owns_shape h
  cases av with
  | none => exact run_append_nothing w t t ty e i ht hi bv n cp h1 _ (Src.ofNil w ht cap)
  | some a => exact run_append_nothing w t t ty e i ht hi bv n cp h1 _ (Src.ofSlice w ht a 0 cap [] (by simp) (fun j u hu => by simp at hu) (fun u hu => by cases hu))
theorem owns_empty (w : World) (base : Nat) (e : TypeId) (size : Nat) (hb : base ≤ w.heap.size) : (w.alloc (.cells #[] e)).ownsRow base e size (.slice (some ⟨w.heap.size, 0, none⟩) 0 0) 0 [] :=
  ⟨by simp, .inr ⟨w.heap.size, 0, #[], rfl, hb, World.alloc_heap_new _ _, Nat.le_refl _, Nat.zero_le _, by simp, by simp⟩⟩
theorem grown_base {w w' : World} {base : Nat} {e : TypeId} {size : Nat} {v : Value} {n : Nat} {xs : List Value} (h : w.ownsRow base e size v n xs) (hg : w.grownBy w' v.ownBlock) (hb : base ≤ w.heap.size) : Below base w w' := Below.grown (Below.refl _ _) hg hb (fun k hk => (h.lt k hk).1)
theorem tcells_one {l : List Tok} : ∀ u ∈ l.flatMap tcells, u.oneCell' = true := fun u hu => by
  obtain ⟨x, _, hx⟩ := List.mem_flatMap.1 hu
  simp at hx
  rcases hx with rfl | rfl | rfl <;> rfl
/-- Tokens put behind tokens. -/
theorem append_toks (w : World) (ty : TypeId) (base : Nat) (v : Value) (n : Nat) (xs : List Value) (hown : w.ownsRow base 41 3 v n xs) (av : Option Addr) (cap blk off : Nat) (ts : List Tok) (hs : Toks w av blk off ts) (hbd : n ≤ 100000) (hbase : base ≤ w.heap.size) :
    ∃ v' w', (Builtin.append_ #[32, 32] ty #[v, .slice av ts.length cap]).run Try.prog w = .ok v' w' ∧ w'.ownsRow base 41 3 v' (n + ts.length) (xs ++ ts.flatMap tcells) ∧ Below base w w' := by
  obtain ⟨i, h1, h2, h3, h4⟩ := typ30
  by_cases h0 : 0 < ts.length
  · obtain rfl := hs.at_ h0
    have hl := hs.len
    obtain ⟨g', cp, w', hr, k1, k2, _, _⟩ := run_append_lies (P := Try.prog) w 32 ty base 41 i _ 3 32 Try.underlying32 h1 h2 h4 h3 rfl (by decide) v n xs hown ⟨blk, off, none⟩ ts.length cap (ts.flatMap tcells) (flat_len ts)
      (fun j u hu => by
        rw [Addr.add_mid]
        have hj : j < ts.length * 3 := by rw [← flat_len]; exact (List.getElem?_eq_some_iff.1 hu).1
        obtain ⟨q, f, hf, rfl⟩ : ∃ q f, f < 3 ∧ j = q * 3 + f := ⟨j / 3, j % 3, by omega, by omega⟩
        rw [tflat_get ts q f (by omega) hf] at hu
        rw [← Nat.add_assoc]
        exact (hs.has q f (by omega) hf).trans hu) tcells_one h0 (by unfold maxLen; omega) (by omega) hbase _ rfl
    exact ⟨_, w', hr, k1, grown_base hown k2 hbase⟩
  · have hl : ts = [] := List.length_eq_zero_iff.1 (by omega)
    subst hl
    refine ⟨v, w, owns_nothing hown 32 ty i Try.underlying32 h1 av cap, ?_, ⟨rfl, rfl, rfl, Nat.le_refl _, fun _ _ => rfl⟩⟩
    simpa using hown
theorem lex_toks {s : List UInt8} {ts : List Tok} (h : lexS s = (ts, none)) (hs : s.length ≤ 1024) : ts.length ≤ 1024 ∧ ∀ x, x ∈ ts → x.t.length ≤ 1024 := by
  have h1 := lexS_len s
  have h2 := lexS_sh s
  rw [h] at h1 h2
  exact ⟨by simp only at h1; omega, fun x hx => Nat.le_trans (h2 x hx) hs⟩
theorem nd_val (k : Int) (t : List UInt8) (a : Int) (av : Option Addr) (cap blk off : Nat) (ks : List Nv) : (Nv.mk k t a av cap blk off ks).val = .agg #[.int .i64 k, .string (bs t), .int .i64 a, .slice av ks.length cap] := rfl

set_option maxRecDepth 100000 in
set_option maxHeartbeats 16000000 in
theorem places_walk (s t : ByteArray) (w : World) : Calls Try.prog 5 #[.string s, .string t] w fun e w' => e = .returned (.bool true) ∧ Below w.heap.size w w' := by
  go_enter Try.func5, Try.ntmps5
  go_wp2_with fail
  refine (small_is w).mono ?_
  rintro e w1 ⟨rfl, hb1⟩
  have HB1 := hide hb1
  clear hb1
  by_cases hbig : 1024 < s.size
  · have e1 : ((1024 : Int) < (s.size : Int)) = True := eq_true (by omega)
    go_wp2_with fail
    go_ret
    exact ⟨rfl, HB1.out⟩
  have e1 : ((1024 : Int) < (s.size : Int)) = False := eq_false (by omega)
  by_cases hbig2 : 1024 < t.size
  · have e1' : ((1024 : Int) < (t.size : Int)) = True := eq_true (by omega)
    go_wp2_with fail
    go_ret
    exact ⟨rfl, HB1.out⟩
  have e1' : ((1024 : Int) < (t.size : Int)) = False := eq_false (by omega)
  have hss := s_size s
  have htt := s_size t
  go_wp2_with fail
  refine (lex_s s (by omega) w1).mono ?_
  rintro e w2 ⟨r, rfl, ha, hb2⟩
  have HB2 := hide (bel_two HB1.out hb2)
  have HA := hide (lexAns_cases ha)
  clear hb2 HB1 ha
  rcases HA.out with ⟨ls, v, hlx, rfl, hown⟩ | ⟨ts, q, hlx, rfl⟩
  · have HL := hide (lex_toks hlx (by omega))
    have HO := hide hown
    clear hown hlx HA
    go_wp2_with fail
    refine (lex_s t (by omega) w2).mono ?_
    rintro e w3 ⟨r, rfl, ha, hb3⟩
    have HB3 := hide (bel_two HB2.out hb3)
    obtain ⟨lav, lcap, lblk, loff, rfl, hL0, -⟩ := toks_of HO.out (by have := HL.out.1; omega) (fun x hx => by have := HL.out.2 x hx; omega)
    have HL3 := hide (hL0.below hb3)
    have HA := hide (lexAns_cases ha)
    clear hb3 HB2 ha hL0 HO
    rcases HA.out with ⟨ms, v2, hlu, rfl, hown⟩ | ⟨us, q, hlu, rfl⟩
    · have HM := hide (lex_toks hlu (by omega))
      obtain ⟨mav, mcap, mblk, moff, rfl, hM0, -⟩ := toks_of hown (by have := HM.out.1; omega) (fun x hx => by have := HM.out.2 x hx; omega)
      have HM3 := hide hM0
      have HP := hide (parse_is (cap := lcap) HL3.out)
      clear hown hlu HA hM0
      go_wp2_with fail
      refine HP.out.mono ?_
      clear HP
      rintro e w4 ⟨⟨k, tt, a, nav, ncap, nblk, noff, ks⟩, rfl, hn, hnd, hb4⟩
      have N5 := hide (NodB.new hn)
      have hb5 := bel_two hb4 (bel_new w4 (.cells #[.int .i64 k, .string (bs tt), .int .i64 a, .slice nav ks.length ncap] 24))
      have HM5 := hide (HM3.out.below hb5)
      have HL5 := hide (HL3.out.below hb5)
      have HB5 := hide (bel_two HB3.out hb5)
      have HN5 := hide hnd
      have HP := hide (parse_is (cap := mcap) HM5.out)
      clear hb4 hb5 hn hnd HM3 HL3 HB3
      go_wp2_with fail
      refine HP.out.mono ?_
      clear HP
      rintro e w6 ⟨⟨k2, tt2, a2, nav2, ncap2, nblk2, noff2, ks2⟩, rfl, hn, hnd, hb6⟩
      have hb7 := bel_two hb6 (bel_new w6 (.cells #[.int .i64 k2, .string (bs tt2), .int .i64 a2, .slice nav2 ks2.length ncap2] 24))
      have M7 := hide (NodB.new hn)
      have N7 := hide (N5.out.below hb7)
      have hM7 := HM5.out.below hb7
      have hL7 := HL5.out.below hb7
      have HB7 := hide (bel_two HB5.out hb7)
      have HN7 := hide hnd
      clear hb6 hb7 hn hnd N5 HM5 HL5 HB5
      have hb8 := bel_new (w6.alloc (.cells #[.int .i64 k2, .string (bs tt2), .int .i64 a2, .slice nav2 ks2.length ncap2] 24)) (.cells #[] 41)
      obtain ⟨v1, W9, ha1, ho1, hb9⟩ := append_toks _ 32 _ _ 0 [] (owns_empty (w6.alloc (.cells #[.int .i64 k2, .string (bs tt2), .int .i64 a2, .slice nav2 ks2.length ncap2] 24)) (w6.alloc (.cells #[.int .i64 k2, .string (bs tt2), .int .i64 a2, .slice nav2 ks2.length ncap2] 24)).heap.size 41 3 (Nat.le_refl _)) lav lcap lblk loff ls (hL7.below hb8) (by decide) hb8.size
      have hb89 := hb8.trans hb9
      obtain ⟨v2, W10, ha2, ho2, hb10⟩ := append_toks W9 32 _ v1 _ _ ho1 mav mcap mblk moff ms (hM7.below hb89) (by have := HL.out.1; omega) hb89.size
      have hbA := hb89.trans hb10
      rw [Nat.zero_add, List.nil_append, ← List.flatMap_append, ← List.length_append] at ho2
      obtain ⟨av2, cap2, blk2, off2, rfl, hT, -⟩ := toks_of ho2 (by rw [List.length_append]; have := HL.out.1; have := HM.out.1; omega) (fun x hx => by
        rcases List.mem_append.1 hx with hx | hx
        · have := HL.out.2 x hx; omega
        · have := HM.out.2 x hx; omega)
      rw [World.size_alloc] at ha1
      have HA1 := hide ha1
      have HA2 := hide ha2
      have hP := parse_is (cap := cap2) hT
      rw [List.length_append] at hP
      have HP := hide hP
      have HBA := hide hbA
      have HF := hide (places_is ls ms)
      have HKK := hide (places_is ms []).1
      have HMS := hide (fun hx => ((places_is ms []).2.2 hx).2.1)
      have hl1 := HL.out.1
      have hl2 := HM.out.1
      clear hM7 hL7 hb8 ha1 ho1 hb9 hb89 ha2 ho2 hb10 hbA hT hP
      go_wp2_with (at_builtin; first | (refine wpList_append_run rfl (.tmp 63) (.tmp 64) 32 rfl rfl rfl HA1.out ?_; clear HA1) | (refine wpList_append_run rfl (.tmp 65) (.tmp 66) 32 rfl rfl rfl HA2.out ?_; clear HA2))
      refine HP.out.mono ?_
      clear HP
      rintro e w11 ⟨⟨k3, tt3, a3, nav3, ncap3, nblk3, noff3, ks3⟩, rfl, hn, hnd, hb11⟩
      have hb12 := bel_two hb11 (bel_new w11 (.cells #[.int .i64 k3, .string (bs tt3), .int .i64 a3, .slice nav3 ks3.length ncap3] 24))
      have O12 := NodB.new hn
      have hbB := HBA.out.trans (hb12.mono HBA.out.size)
      have M12 := M7.out.below hbB
      have N12 := N7.out.below hbB
      have HB12 := hide (bel_two HB7.out hbB)
      have HN12 := hide hnd
      clear hb11 hb12 hbB hn hnd M7 N7 HB7 HBA HL HM
      generalize hi : (parseS ls).2.1 = i at *
      generalize hg : (parseS ls).2.2 = g at *
      generalize hk : (parseS ms).2.1 = kk at *
      generalize hh : (parseS ms).2.2 = h at *
      generalize hn : (parseS (ls ++ ms)).2.1 = nn at *
      generalize ho : (parseS (ls ++ ms)).2.2 = o at *
      obtain ⟨p1, p2, p3⟩ := HF.out
      have HP2 := hide (show g ≠ 0 → i = ls.length ∨ (nn = i ∧ o = g) from fun hx => by
        rcases p2 hx with h1 | h1
        · exact .inl h1
        · refine .inr ⟨?_, ?_⟩
          · rw [← hn, ← hi, h1]
          · rw [← ho, ← hg, h1])
      have HP3 := hide p3
      generalize hnl : ls.length = L at *
      have HNL := hide hnl
      clear HF p2 p3 hi hg hk hh hn ho hnl
      by_cases hg : g = 0
      · subst hg
        obtain ⟨q1, q2, q3, q4, q5⟩ := HP3.out rfl
        subst q1 q3 q4
        have HSZ := hide q2
        have HQ5 := hide q5
        clear p1 q2 q5 HP2 HP3
        have e3 : ((o : Int) == (o : Int)) = true := by simp
        have e4 : (((i + kk : Nat) : Int) == (i : Int) + (kk : Int)) = true := by rw [beq_iff_eq]; omega
        by_cases hh : o = 0
        · subst hh
          have s1 : (Nv.mk k tt a nav ncap nblk noff ks).nd.sz = (parseS ls).1.sz := by rw [HN5.out]
          have s2 : (Nv.mk k2 tt2 a2 nav2 ncap2 nblk2 noff2 ks2).nd.sz = (parseS ms).1.sz := by rw [HN7.out]
          have s3 : (Nv.mk k3 tt3 a3 nav3 ncap3 nblk3 noff3 ks3).nd.sz = (parseS (ls ++ ms)).1.sz := by rw [HN12.out]
          have s4 := HMS.out rfl
          have s5 := HQ5.out rfl
          have s6 := HSZ.out
          have z2 : (Nv.mk k2 tt2 a2 nav2 ncap2 nblk2 noff2 ks2).nd.sz ≤ 2000 := by omega
          have z1 : (Nv.mk k tt a nav ncap nblk noff ks).nd.sz ≤ 2000 := by omega
          have z3 : (Nv.mk k3 tt3 a3 nav3 ncap3 nblk3 noff3 ks3).nd.sz + 1 = (Nv.mk k tt a nav ncap nblk noff ks).nd.sz + (Nv.mk k2 tt2 a2 nav2 ncap2 nblk2 noff2 ks2).nd.sz := by omega
          clear s1 s2 s3 s4 s5 s6
          obtain ⟨n0, n1, n2, n3⟩ := N12.cells
          obtain ⟨m0, m1, m2, m3⟩ := M12.cells
          obtain ⟨o0, o1, o2, o3⟩ := O12.cells
          have C1 : Hid (∀ d os, Calls Try.prog 11 #[.agg #[.int .i64 k, .string (bs tt), .int .i64 a, .slice nav ks.length ncap]] (Sort.grow (redrawn (w11.alloc (.cells #[.int .i64 k3, .string (bs tt3), .int .i64 a3, .slice nav3 ks3.length ncap3] 24)) d) os) fun e w'' => e = .returned (.int .i64 ((Nv.mk k tt a nav ncap nblk noff ks).nd.sz : Int)) ∧ ∃ p : Regrown, w'' = Sort.grow (redrawn (w11.alloc (.cells #[.int .i64 k3, .string (bs tt3), .int .i64 a3, .slice nav3 ks3.length ncap3] 24)) p.d) p.os) :=
            fun d os => Calls.regrown_of (size_is (.mk k tt a nav ncap nblk noff ks) _ _ (N12.li.turns (turns_b (Q := fun _ => False) (below_regrown _ d os)) (fun _ _ _ h => h)) (by omega))
          have C2 : Hid (∀ d os, Calls Try.prog 11 #[.agg #[.int .i64 k2, .string (bs tt2), .int .i64 a2, .slice nav2 ks2.length ncap2]] (Sort.grow (redrawn (w11.alloc (.cells #[.int .i64 k3, .string (bs tt3), .int .i64 a3, .slice nav3 ks3.length ncap3] 24)) d) os) fun e w'' => e = .returned (.int .i64 ((Nv.mk k2 tt2 a2 nav2 ncap2 nblk2 noff2 ks2).nd.sz : Int)) ∧ ∃ p : Regrown, w'' = Sort.grow (redrawn (w11.alloc (.cells #[.int .i64 k3, .string (bs tt3), .int .i64 a3, .slice nav3 ks3.length ncap3] 24)) p.d) p.os) :=
            fun d os => Calls.regrown_of (size_is (.mk k2 tt2 a2 nav2 ncap2 nblk2 noff2 ks2) _ _ (M12.li.turns (turns_b (Q := fun _ => False) (below_regrown _ d os)) (fun _ _ _ h => h)) (by omega))
          have C3 : Hid (∀ d os, Calls Try.prog 11 #[.agg #[.int .i64 k3, .string (bs tt3), .int .i64 a3, .slice nav3 ks3.length ncap3]] (Sort.grow (redrawn (w11.alloc (.cells #[.int .i64 k3, .string (bs tt3), .int .i64 a3, .slice nav3 ks3.length ncap3] 24)) d) os) fun e w'' => e = .returned (.int .i64 ((Nv.mk k3 tt3 a3 nav3 ncap3 nblk3 noff3 ks3).nd.sz : Int)) ∧ ∃ p : Regrown, w'' = Sort.grow (redrawn (w11.alloc (.cells #[.int .i64 k3, .string (bs tt3), .int .i64 a3, .slice nav3 ks3.length ncap3] 24)) p.d) p.os) :=
            fun d os => Calls.regrown_of (size_is (.mk k3 tt3 a3 nav3 ncap3 nblk3 noff3 ks3) _ _ (O12.li.turns (turns_b (Q := fun _ => False) (below_regrown _ d os)) (fun _ _ _ h => h)) (by omega))
          generalize (Nv.mk k tt a nav ncap nblk noff ks).nd.sz = x1 at *
          generalize (Nv.mk k2 tt2 a2 nav2 ncap2 nblk2 noff2 ks2).nd.sz = x2 at *
          generalize (Nv.mk k3 tt3 a3 nav3 ncap3 nblk3 noff3 ks3).nd.sz = x3 at *
          have e5 : ((x3 : Int) == (x1 : Int) + (x2 : Int) - 1) = true := by rw [beq_iff_eq]; omega
          have n0 := fun d os => cell_regrown n0 d os
          have n1 := fun d os => cell_regrown n1 d os
          have n2 := fun d os => cell_regrown n2 d os
          have n3 := fun d os => cell_regrown n3 d os
          have m0 := fun d os => cell_regrown m0 d os
          have m1 := fun d os => cell_regrown m1 d os
          have m2 := fun d os => cell_regrown m2 d os
          have m3 := fun d os => cell_regrown m3 d os
          have o0 := fun d os => cell_regrown o0 d os
          have o1 := fun d os => cell_regrown o1 d os
          have o2 := fun d os => cell_regrown o2 d os
          have o3 := fun d os => cell_regrown o3 d os
          clear z3 N12 M12 O12
          go_wp2_with fail
          refine wp_region_quiet_below (by kernel_rfl) (by kernel_rfl) ?_
          repeat (go_big_quiet_step (first | (go_at_call 11; first | exact C1.out _ _ | exact C2.out _ _ | exact C3.out _ _)))
          refine wpQuiet_nil ?_
          intro w17 hw'
          have hb17 : Below (w11.alloc (.cells #[.int .i64 k3, .string (bs tt3), .int .i64 a3, .slice nav3 ks3.length ncap3] 24)).heap.size (w11.alloc (.cells #[.int .i64 k3, .string (bs tt3), .int .i64 a3, .slice nav3 ks3.length ncap3] 24)) w17 := by obtain ⟨⟨dq, osq⟩, hw''⟩ := hw'; rw [hw'']; exact below_regrown _ dq osq
          have HB17 := hide (bel_two HB12.out hb17)
          clear hw' hb17
          go_wp2
          go_ret
          exact ⟨rfl, HB17.out⟩
        · have e2 : ((o : Int) != 0) = true := by rw [bne_iff_ne]; omega
          have hkk := HKK.out
          clear N12 M12 O12
          go_wp2_with fail
          go_ret
          exact ⟨rfl, HB12.out⟩
      · have e2 : ((g : Int) != 0) = true := by rw [bne_iff_ne]; omega
        have e3 : ((0 : Int) ≤ (i : Int)) = True := eq_true (by omega)
        have e4 : ((i : Int) ≤ (L : Int)) = True := eq_true (by omega)
        clear O12 M12 N12
        rcases HP2.out hg with h1 | ⟨h1, h2⟩
        · subst h1
          clear p1
          go_wp2_with fail
          go_ret
          exact ⟨rfl, HB12.out⟩
        · subst h1 h2
          cases he : ((nn : Int) == (L : Int)) with
          | true => 
            go_wp2_with fail
            go_ret
            exact ⟨rfl, HB12.out⟩
          | false =>
            have e5 : ((o : Int) == (o : Int)) = true := by simp
            have e6 : ((nn : Int) == (nn : Int)) = true := by simp
            go_wp2_with fail
            go_ret
            exact ⟨rfl, HB12.out⟩
    · clear HA hlu
      go_wp2_with fail
      go_ret
      exact ⟨rfl, HB3.out⟩
  · clear HA hlx
    go_wp2_with fail
    refine (lex_s t (by omega) w2).mono ?_
    rintro e w3 ⟨r, rfl, ha, hb3⟩
    have HB3 := hide (bel_two HB2.out hb3)
    have HA := hide (lexAns_cases ha)
    clear hb3 HB2 ha
    rcases HA.out with ⟨us, v2, hlu, rfl, hown⟩ | ⟨us, q2, hlu, rfl⟩ <;>
    · clear HA hlu
      go_wp2_with fail
      go_ret
      exact ⟨rfl, HB3.out⟩

end Go.Proofs.Ytgndnodahlabiaa
