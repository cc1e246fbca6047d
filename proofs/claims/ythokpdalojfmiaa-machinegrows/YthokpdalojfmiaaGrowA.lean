/-
  The law MachineGrows (layer 4), by walks over the translation.
-/
import Derived.Test.YthokpdalojfmiaaGrowC
namespace Go.Proofs.Ythokpdalojfmiaa
open Go.ChangeShapes Go.WideShapes Go.ChangeAt Go.RowKit

theorem Mac.r16 {w : World} {F : Nat → Prop} {B : Nat} {l : List Ins} {s : MS} (hm : Mac w F B l s) : s.regs.length = 16 := by
  obtain ⟨D, Q, R, cv, nv, ov, p, q, m⟩ := hm; exact m.r16
/-- The first of a row. -/
theorem pre_ints {D : Nat → Prop} {w : World} {v : Value} {a b : List Int} (h : IntsAt D w v b) (hab : b = a ∨ ∃ x, b = a ++ [x]) : ∀ sp n cap, v = .slice sp n cap → IntsAt D w (.slice sp a.length cap) a := by
  rintro sp n cap rfl
  obtain ⟨av, c, e, h1, h2, h3⟩ := h
  injection e with e1 e2 e3
  subst e1; subst e2; subst e3
  have hle : a.length ≤ b.length := by rcases hab with h | ⟨v, h⟩ <;> simp [h]
  refine ⟨_, _, rfl, by omega, h2, fun h0 => ?_⟩
  obtain ⟨blk, off, e, hD, hh⟩ := h3 (by omega)
  refine ⟨blk, off, e, hD, fun j hj => ?_⟩
  have := hh j (by omega)
  rw [this]
  rcases hab with h | ⟨v, h⟩
  · simp [h]
  · simp [h, List.getElem_append_left hj]

set_option maxRecDepth 100000 in
set_option maxHeartbeats 4000000 in
theorem grows_yes {w : World} {cv nv mv : Value} {l : List Ins} {inp more : List Int} (cells : Int) (fuel : Nat) (hc : RowAt (fun k => k < w.heap.size) w cv l) (hi : IntsAt (fun k => k < w.heap.size) w nv inp) (hm : IntsAt (fun k => k < w.heap.size) w mv more)
    (hf : fewB l.length cells inp.length = true) (hmo : more.length ≤ 100) (hfu : fuel ≤ 500) (h0 : newE l cells = 0) :
    Calls Try.prog 4 #[cv, iv cells, nv, mv, iv fuel] w fun e w' => e = .returned (.bool true) ∧ Below w.heap.size w w' := by
  have hfw := few_of hc hi cells
  rw [hf] at hfw
  obtain ⟨hl1, hl2⟩ := few_len hf
  have e1 : ((more.length : Int) ≤ 100) = True := by simp; omega
  have e2 : ((fuel : Int) < 0) = False := by simp
  have e3 : ((500 : Int) < fuel) = False := by simp; omega
  have HC : Hid (RowAt (fun k => k < w.heap.size) w cv l) := hc
  have HI : Hid (IntsAt (fun k => k < w.heap.size) w nv inp) := hi
  have HM : Hid (IntsAt (fun k => k < w.heap.size) w mv more) := hm
  obtain ⟨sp, cp, rfl, _⟩ := hm
  have hmn := hmo
  have HML : Hid (more.length ≤ 100) := hmo
  clear hc hi hf hmo
  have AP : Hid (∀ w2, Below w.heap.size w w2 → ∃ v3 w3 v4 w4, (∀ T, (Builtin.append_ #[23, 23] T #[.slice (some ⟨w2.heap.size, 0, none⟩) 0 0, nv]).run Try.prog (w2.alloc (.cells #[] 3)) = .ok v3 w3) ∧
      (∀ T, (Builtin.append_ #[23, 23] T #[v3, .slice sp more.length cp]).run Try.prog w3 = .ok v4 w4) ∧ Below w2.heap.size w2 w4 ∧ IntsAt (fun k => k < w4.heap.size) w4 v4 (inp ++ more)) := fun w2 hb => by
    have hb3 : Below w2.heap.size w2 (w2.alloc (.cells #[] 3)) := (Below.refl _ w2).alloc (Nat.le_refl _) _
    have hB3 : Below w.heap.size w (w2.alloc (.cells #[] 3)) := hb.trans (hb3.mono hb.size)
    obtain ⟨v3, w3, ap1, own1, bb1⟩ := append_ints (w2.alloc (.cells #[] 3)) w2.heap.size _ 0 [] (owns_empty w2 w2.heap.size 3 1 (Nat.le_refl _)) _ inp (ints_later HI.out hB3) (by omega) hb3.size
    have hB4 : Below w.heap.size w w3 := hB3.trans (bb1.mono hb.size)
    obtain ⟨v4, w4, ap2, own2, bb2⟩ := append_ints w3 w2.heap.size _ _ _ own1 _ more (ints_later HM.out hB4) (by omega) (Nat.le_trans hb3.size bb1.size)
    refine ⟨v3, w3, v4, w4, ap1, ap2, hb3.trans (bb1.trans bb2), ?_⟩
    have := owns_ints (w := w4) (base := w2.heap.size) (v := v4) (l := inp ++ more) (by simpa [vals] using own2)
    exact this.wide (fun _ hk => hk.2)
  have H0 : Hid (newE l cells = 0) := h0
  clear h0
  go_enter Try.func4, Try.ntmps4
  go_wp2_with fail
  refine (small_any w).mono ?_; rintro e w1 ⟨rfl, hb1⟩
  go_wp2_with fail
  refine (hfw w1).mono ?_; rintro e w1' ⟨rfl, rfl⟩
  clear hfw
  have hz1 := hb1.size
  have hn1 := new_good (row_later HC.out hb1) (ints_later HI.out hb1) hl1 (by omega) cells H0.out
  go_wp2_with fail
  refine hn1.mono ?_
  rintro e w2 ⟨B, F, rfl, hb2, hF, mx⟩
  have hB2 := hb1.trans (hb2.mono hz1)
  have hz2 := hB2.size
  have ox : Own w.heap.size w2 F B l (MS.init cells.toNat inp) := ⟨mx, fun k hk => Nat.le_trans hz1 (hF k hk)⟩
  obtain ⟨v3, w3, v4, w4, ap1, ap2, hb4, i4⟩ := AP.out w2 hB2
  have hB4 := hB2.trans (hb4.mono hz2)
  have hz4 := hB4.size
  have A1 : Hid (∀ T, (Builtin.append_ #[23, 23] T #[.slice (some ⟨w2.heap.size, 0, none⟩) 0 0, nv]).run Try.prog (w2.alloc (.cells #[] 3)) = .ok v3 w3) := ap1
  have A2 : Hid (∀ T, (Builtin.append_ #[23, 23] T #[v3, .slice sp more.length cp]).run Try.prog w3 = .ok v4 w4) := ap2
  have hn2 := new_good (row_later HC.out hB4) i4 hl1 (by simp; omega) cells H0.out
  have EX : Hid (MS.init cells.toNat (inp ++ more) = ext (MS.init cells.toNat inp) more) := rfl
  rw [EX.out] at hn2
  clear hn1 hb2 hF mx hb1 hz1 ap1 ap2 AP i4 HC HI H0 HM
  go_wp2_with (first
    | (at_builtin; refine wpList_append_run rfl (.tmp 54) (.tmp 55) 23 rfl rfl rfl (A1.out _) ?_)
    | (at_builtin; refine wpList_append_run rfl (.tmp 56) (.tmp 57) 23 rfl rfl rfl (A2.out _) ?_))
  refine hn2.mono ?_
  rintro e w5 ⟨C, G, rfl, hb5, hG, my⟩
  have hB5 := hB4.trans (hb5.mono hz4)
  have hz5 := hB5.size
  have hb25 := hb4.trans (hb5.mono hb4.size)
  have tw : Two w.heap.size (fun _ => False) w5 B l (MS.init cells.toNat inp) C l (ext (MS.init cells.toNat inp) more) :=
    ⟨F, G, ⟨ox.1.below hb25, ox.2⟩, ⟨my, fun k hk => Nat.le_trans hz4 (hG k hk)⟩, fun k a b => by have := ox.1.lt k a; have := hG k b; have := hb4.size; omega, fun _ h => h.elim⟩
  have ho0 : (MS.init cells.toNat inp).out = [] := rfl
  have hi0 : (MS.init cells.toNat inp).inp = inp := rfl
  clear hn2 hG my ox hb5 hb25 hB4 hz4 EX A1 A2 hB2 hz2
  generalize MS.init cells.toNat inp = s0 at *
  obtain ⟨_, mx0⟩ := tw.fst
  have hl0 := left_mac mx0
  clear mx0
  go_wp2_with fail
  refine hl0.mono ?_; rintro e w6 ⟨rfl, rfl⟩
  clear hl0
  go_wp2_with fail
  go_loopw [17, 18, 19] (fun wv lv i wr => ∃ (k : Nat) (s : MS) (P : Nat → Prop), k ≤ fuel ∧ i = .int .i64 k ∧ lv = .int .i64 s.inp.length ∧ IntsAt P wr wv s.out ∧ s.out.length ≤ k ∧ s.inp.length ≤ 100 ∧ Below w.heap.size w wr ∧ Two w.heap.size P wr B l s C l (ext s more)) (fun _ _ i _ => fuel - (intOf i).toNat)
  case atStart => exact ⟨0, s0, fun _ => False, Nat.zero_le _, rfl, by rw [hi0], by rw [ho0]; exact ints_nil _ _, by rw [ho0]; exact Nat.le_refl _, by rw [hi0]; exact hl2, hB5, tw⟩
  case round =>
    clear tw ho0 hi0 hB5 hz5
    obtain ⟨k, s, P, hk, rfl, rfl, hw, hol, hil, hB, tw⟩ := hrel
    by_cases hlt : k < fuel
    · have q1 : ((k : Int) < fuel) = True := by simp; omega
      have hz := hB.size
      have hr1 := tw.step hz (fun F mm => step_mac mm (by omega))
      have hto := step_out l s
      have htl := step_len l s
      have hti := step_inp l s
      have hte := step_ext l s more
      generalize stepM l s = t at *
      go_wp2_with fail
      refine hr1.mono ?_; rintro e w1 ⟨rfl, hb, hk1, tw1⟩
      have hB1 := hB.trans hb
      have hz1 := hB1.size
      replace hw := hw.keep (W' := w1) (fun k hk => hk1 k hk)
      obtain ⟨_, mx⟩ := tw1.fst
      have hr2 := end_mac mx
      clear hr1 hb hk1 tw hB hz mx
      obtain ⟨x, hx⟩ : ∃ x, t.err = x := ⟨_, rfl⟩
      obtain ⟨y, hy⟩ : ∃ y, t.code = y := ⟨_, rfl⟩
      rw [hx, hy] at hr2
      go_wp2_with fail
      refine hr2.mono ?_; rintro e w2 ⟨rfl, hb2⟩
      have hPl : ∀ k, P k → k < w1.heap.size := fun k hk => by
        obtain ⟨_, _, _, _, _, h4⟩ := tw1
        exact (h4 k hk).1
      have hb3 : Below w2.heap.size w2 (w2.alloc (.cells #[iv x, iv y] 32)) := (Below.refl _ w2).alloc (Nat.le_refl _) _
      have hb13 := hb2.trans (hb3.mono hb2.size)
      have hB3 := hB1.trans (hb13.mono hz1)
      have hz3 := hB3.size
      replace hw := hw.keep (W' := w2.alloc (.cells #[iv x, iv y] 32)) (fun k hk => hb13.block k (hPl k hk))
      have tw3 := tw1.below hb13 P (fun k hk => .inl hk)
      clear hr2 hb2 hb3 hb13 hB1 hz1 tw1 hPl hy
      cases ho : t.over with
      | false =>
        have hte' := hte (by simp [ho])
        have hr3 := tw3.swap.step hz3 (fun F mm => step_mac mm (by show s.out.length ≤ 10000000; omega))
        rw [hte'] at hr3
        clear hte hte' tw3 hx ho
        go_wp2_with fail
        refine hr3.mono ?_; rintro e w4 ⟨rfl, hb, hk4, tw4⟩
        have hB4 := hB3.trans hb
        have hz4 := hB4.size
        replace hw := hw.keep (W' := w4) (fun k hk => hk4 k hk)
        obtain ⟨_, mx⟩ := tw4.snd
        have hr4 := output_mac mx (by omega)
        clear hr3 hb hk4 mx hB3 hz3
        go_wp2_with fail
        refine hr4.mono ?_; rintro e w5 ⟨v5, rfl, hb5, i5⟩
        have hB5 := hB4.trans (hb5.mono hz4)
        have hz5 := hB5.size
        have hPl : ∀ k, P k → k < w4.heap.size := fun k hk => by
          obtain ⟨_, _, _, _, _, h4⟩ := tw4
          exact (h4 k hk).1
        replace hw := hw.keep (W' := w5) (fun k hk => hb5.block k (hPl k hk))
        have tw5 := (tw4.below hb5 (New w4 w5) (fun k hk => .inr hk)).swap
        obtain ⟨v5s, v5c, e5, c5, _⟩ := id i5
        have i5a := pre_ints i5 hto v5s _ v5c e5
        have hr5 := ints_same (by omega) i5a hw
        obtain ⟨was_s, was_c, eW, _⟩ := id hw
        have I5 : Hid (IntsAt (New w4 w5) w5 v5 t.out) := i5
        have hto' : s.out.length ≤ t.out.length := by rcases hto with h | ⟨v, h⟩ <;> simp [h]
        subst e5
        subst eW
        have a1 : ((t.out.length : Int) < s.out.length) = False := by simp; omega
        have a2 : s.out.length ≤ v5c := by omega
        have a3 : ((s.inp.length : Int) < t.inp.length) = False := by simp; omega
        have a4 : (((t.inp.length + more.length : Nat) : Int) != (t.inp.length : Int) + more.length) = false := by simp
        have a5 : t.inp.length + more.length ≤ 10000 := by have := HML.out; omega
        have S1 : Hid (t.out.length ≤ k + 1 ∧ t.inp.length ≤ 100) := ⟨by omega, by omega⟩
        clear hr4 hb5 hB4 hz4 tw4 hw i5 i5a hPl hto
        go_wp2_with fail
        refine hr5.mono ?_; rintro e w6 ⟨rfl, hb6⟩
        have hB6 := hB5.trans (hb6.mono hz5)
        have hz6 := hB6.size
        have tw6 := tw5.below hb6 (New w4 w5) (fun k hk => .inl hk)
        obtain ⟨_, mx⟩ := tw6.fst
        obtain ⟨_, my⟩ := tw6.snd
        have hlx := left_mac mx
        have hly : Calls Try.prog 14 #[ptr C] w6 fun e w' => e = .returned (iv (t.inp.length + more.length : Nat)) ∧ w' = w6 := by
          have := left_mac my
          rw [show (ext t more).inp.length = t.inp.length + more.length by simp [ext]] at this
          exact this
        have hrx := regs_mac mx
        have hneq := neq_regs t.regs mx.r16
        clear hr5 tw5 mx my
        go_wp2_with fail
        refine hlx.mono ?_; rintro e w6' ⟨rfl, rfl⟩
        go_wp2_with fail
        refine hly.mono ?_; rintro e w6'' ⟨rfl, rfl⟩
        go_wp2_with fail
        refine hlx.mono ?_; rintro e w6' ⟨rfl, rfl⟩
        clear hlx hly
        go_wp2_with fail
        refine hrx.mono ?_; rintro e w7 ⟨rfl, hb7⟩
        have hB7 := hB6.trans (hb7.mono hz6)
        have hz7 := hB7.size
        have hb57 := hb6.trans (hb7.mono hb6.size)
        have tw7 := tw6.below hb7 (New w4 w5) (fun k hk => .inl hk)
        obtain ⟨_, my⟩ := tw7.snd
        have hry : Calls Try.prog 15 #[ptr C] w7 fun e w' => e = .returned (.agg (vals t.regs).toArray) ∧ Below w7.heap.size w7 w' := by
          have := regs_mac my
          exact this
        clear hrx tw6 hb6 hb7 my
        go_wp2_with fail
        refine hry.mono ?_; rintro e w8 ⟨rfl, hb8⟩
        have hB8 := hB7.trans (hb8.mono hz7)
        have hz8 := hB8.size
        have hb58 := hb57.trans (hb8.mono hb57.size)
        have tw8 := tw7.below hb8 (New w4 w5) (fun k hk => .inl hk)
        obtain ⟨_, my⟩ := tw8.snd
        have hro : Calls Try.prog 12 #[ptr C] w8 fun e w' => ∃ v', e = .returned v' ∧ Below w8.heap.size w8 w' ∧ IntsAt (New w8 w') w' v' t.out := by
          have := output_mac my (by show t.out.length ≤ 10000000; omega)
          exact this
        clear hry tw7 hb57 hb8 my
        go_wp2_with fail
        refine hro.mono ?_; rintro e w9 ⟨v9, rfl, hb9, i9⟩
        have hB9 := hB8.trans (hb9.mono hz8)
        have hz9 := hB9.size
        have hb59 := hb58.trans (hb9.mono hb58.size)
        have tw9 := tw8.below hb9 (New w4 w5) (fun k hk => .inl hk)
        have hri := ints_same (by omega) (I5.out.keep (W' := w9) (fun k hk => hb59.block k hk.2)) i9
        clear hro tw8 hb58 hb9 i9
        go_wp2_with fail
        refine hri.mono ?_; rintro e w10 ⟨rfl, hb10⟩
        have hB10 := hB9.trans (hb10.mono hz9)
        have hb510 := hb59.trans (hb10.mono hb59.size)
        have tw10 := tw9.below hb10 (New w4 w5) (fun k hk => .inl hk)
        obtain ⟨_, mx⟩ := tw10.fst
        have hlx := left_mac mx
        clear hri tw9 hb59 hb10 mx hneq
        go_wp2_with fail
        refine hlx.mono ?_; rintro e w10' ⟨rfl, rfl⟩
        clear hlx
        go_wp2_with fail
        go_roundw
        case rel => exact ⟨k + 1, t, New w4 w5, by omega, by go_num, rfl, I5.out.keep (fun k hk => hb510.block k hk.2), S1.out.1, S1.out.2, hB10, tw10⟩
        case measure => simp [intOf]; omega

      | true =>
        by_cases h10 : x = 10
        · subst h10
          clear tw3 hte hw
          go_wp2_with fail
          go_ret
          exact ⟨rfl, hB3⟩
        · have q2 : (x == 10) = false := by simp [h10]
          have hte' := hte (by rw [hx]; simp [h10])
          have hr3 := tw3.swap.step hz3 (fun F mm => step_mac mm (by show s.out.length ≤ 10000000; omega))
          rw [hte'] at hr3
          clear hte hte' tw3 hx ho h10
          go_wp2_with fail
          refine hr3.mono ?_; rintro e w4 ⟨rfl, hb, hk4, tw4⟩
          have hB4 := hB3.trans hb
          have hz4 := hB4.size
          replace hw := hw.keep (W' := w4) (fun k hk => hk4 k hk)
          obtain ⟨_, mx⟩ := tw4.snd
          have hr4 := output_mac mx (by omega)
          clear hr3 hb hk4 mx hB3 hz3
          go_wp2_with fail
          refine hr4.mono ?_; rintro e w5 ⟨v5, rfl, hb5, i5⟩
          have hB5 := hB4.trans (hb5.mono hz4)
          have hz5 := hB5.size
          have hPl : ∀ k, P k → k < w4.heap.size := fun k hk => by
            obtain ⟨_, _, _, _, _, h4⟩ := tw4
            exact (h4 k hk).1
          replace hw := hw.keep (W' := w5) (fun k hk => hb5.block k (hPl k hk))
          have tw5 := (tw4.below hb5 (New w4 w5) (fun k hk => .inr hk)).swap
          obtain ⟨v5s, v5c, e5, c5, _⟩ := id i5
          have i5a := pre_ints i5 hto v5s _ v5c e5
          have hr5 := ints_same (by omega) i5a hw
          obtain ⟨was_s, was_c, eW, _⟩ := id hw
          have I5 : Hid (IntsAt (New w4 w5) w5 v5 t.out) := i5
          have hto' : s.out.length ≤ t.out.length := by rcases hto with h | ⟨v, h⟩ <;> simp [h]
          subst e5
          subst eW
          have a1 : ((t.out.length : Int) < s.out.length) = False := by simp; omega
          have a2 : s.out.length ≤ v5c := by omega
          have a3 : ((s.inp.length : Int) < t.inp.length) = False := by simp; omega
          have a4 : (((t.inp.length + more.length : Nat) : Int) != (t.inp.length : Int) + more.length) = false := by simp
          have a5 : t.inp.length + more.length ≤ 10000 := by have := HML.out; omega
          have S1 : Hid (t.out.length ≤ k + 1 ∧ t.inp.length ≤ 100) := ⟨by omega, by omega⟩
          clear hr4 hb5 hB4 hz4 tw4 hw i5 i5a hPl hto
          go_wp2_with fail
          refine hr5.mono ?_; rintro e w6 ⟨rfl, hb6⟩
          have hB6 := hB5.trans (hb6.mono hz5)
          have hz6 := hB6.size
          have tw6 := tw5.below hb6 (New w4 w5) (fun k hk => .inl hk)
          obtain ⟨_, mx⟩ := tw6.fst
          obtain ⟨_, my⟩ := tw6.snd
          have hlx := left_mac mx
          have hly : Calls Try.prog 14 #[ptr C] w6 fun e w' => e = .returned (iv (t.inp.length + more.length : Nat)) ∧ w' = w6 := by
            have := left_mac my
            rw [show (ext t more).inp.length = t.inp.length + more.length by simp [ext]] at this
            exact this
          have hrx := regs_mac mx
          have hneq := neq_regs t.regs mx.r16
          clear hr5 tw5 mx my
          go_wp2_with fail
          refine hlx.mono ?_; rintro e w6' ⟨rfl, rfl⟩
          go_wp2_with fail
          refine hly.mono ?_; rintro e w6'' ⟨rfl, rfl⟩
          go_wp2_with fail
          refine hlx.mono ?_; rintro e w6' ⟨rfl, rfl⟩
          clear hlx hly
          go_wp2_with fail
          refine hrx.mono ?_; rintro e w7 ⟨rfl, hb7⟩
          have hB7 := hB6.trans (hb7.mono hz6)
          have hz7 := hB7.size
          have hb57 := hb6.trans (hb7.mono hb6.size)
          have tw7 := tw6.below hb7 (New w4 w5) (fun k hk => .inl hk)
          obtain ⟨_, my⟩ := tw7.snd
          have hry : Calls Try.prog 15 #[ptr C] w7 fun e w' => e = .returned (.agg (vals t.regs).toArray) ∧ Below w7.heap.size w7 w' := by
            have := regs_mac my
            exact this
          clear hrx tw6 hb6 hb7 my
          go_wp2_with fail
          refine hry.mono ?_; rintro e w8 ⟨rfl, hb8⟩
          have hB8 := hB7.trans (hb8.mono hz7)
          have hz8 := hB8.size
          have hb58 := hb57.trans (hb8.mono hb57.size)
          have tw8 := tw7.below hb8 (New w4 w5) (fun k hk => .inl hk)
          obtain ⟨_, my⟩ := tw8.snd
          have hro : Calls Try.prog 12 #[ptr C] w8 fun e w' => ∃ v', e = .returned v' ∧ Below w8.heap.size w8 w' ∧ IntsAt (New w8 w') w' v' t.out := by
            have := output_mac my (by show t.out.length ≤ 10000000; omega)
            exact this
          clear hry tw7 hb57 hb8 my
          go_wp2_with fail
          refine hro.mono ?_; rintro e w9 ⟨v9, rfl, hb9, i9⟩
          have hB9 := hB8.trans (hb9.mono hz8)
          have hz9 := hB9.size
          have hb59 := hb58.trans (hb9.mono hb58.size)
          have tw9 := tw8.below hb9 (New w4 w5) (fun k hk => .inl hk)
          have hri := ints_same (by omega) (I5.out.keep (W' := w9) (fun k hk => hb59.block k hk.2)) i9
          clear hro tw8 hb58 hb9 i9
          go_wp2_with fail
          refine hri.mono ?_; rintro e w10 ⟨rfl, hb10⟩
          have hB10 := hB9.trans (hb10.mono hz9)
          have hb510 := hb59.trans (hb10.mono hb59.size)
          have tw10 := tw9.below hb10 (New w4 w5) (fun k hk => .inl hk)
          obtain ⟨_, mx⟩ := tw10.fst
          have hlx := left_mac mx
          clear hri tw9 hb59 hb10 mx hneq
          go_wp2_with fail
          refine hlx.mono ?_; rintro e w10' ⟨rfl, rfl⟩
          clear hlx
          go_wp2_with fail
          go_roundw
          case rel => exact ⟨k + 1, t, New w4 w5, by omega, by go_num, rfl, I5.out.keep (fun k hk => hb510.block k hk.2), S1.out.1, S1.out.2, hB10, tw10⟩
          case measure => simp [intOf]; omega

    · have q1 : ((k : Int) < fuel) = False := by simp; omega
      clear tw hw
      go_wp2
      go_ret
      exact ⟨rfl, hB⟩

theorem grows_walk {w : World} {cv nv mv : Value} {l : List Ins} {inp more : List Int} (cells fuel : Int) (hc : RowAt (fun k => k < w.heap.size) w cv l) (hi : IntsAt (fun k => k < w.heap.size) w nv inp) (hm : IntsAt (fun k => k < w.heap.size) w mv more) :
    Calls Try.prog 4 #[cv, iv cells, nv, mv, iv fuel] w fun e w' => e = .returned (.bool true) ∧ Below w.heap.size w w' := by
  by_cases h : fewB l.length cells inp.length = false ∨ 100 < more.length ∨ fuel < 0 ∨ 500 < fuel
  · exact grows_no cells fuel hc hi hm h
  · simp only [not_or, Bool.not_eq_false] at h
    obtain ⟨h1, h2, h3, h4⟩ := h
    obtain ⟨n, rfl⟩ : ∃ k : Nat, fuel = k := ⟨fuel.toNat, by omega⟩
    by_cases h0 : newE l cells = 0
    · exact grows_yes cells n hc hi hm h1 (by omega) (by omega) h0
    · exact grows_fail cells n hc hi hm h1 (by omega) (by omega) h0

end Go.Proofs.Ythokpdalojfmiaa
