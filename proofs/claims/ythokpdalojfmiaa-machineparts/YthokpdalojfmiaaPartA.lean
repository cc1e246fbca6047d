/-
  The law MachineParts (layer 4), by walks over the translation.
-/
import Derived.Test.YthokpdalojfmiaaFew
namespace Go.Proofs.Ythokpdalojfmiaa
open Go.ChangeShapes Go.WideShapes Go.ChangeAt Go.RowKit

theorem new_fail {w : World} {cv nv : Value} {l : List Ins} {inp : List Int} (hc : RowAt (fun k => k < w.heap.size) w cv l) (hi : IntsAt (fun k => k < w.heap.size) w nv inp) (hl : l.length ≤ 200) (hil : inp.length ≤ 1000) (cells E : Int) (hE : newE l cells = E) (hne : ¬ E = 0) :
    Calls Try.prog 8 #[cv, iv cells, nv] w fun e w' => e = .returned (.tuple #[.pointer none, iv E]) ∧ Below w.heap.size w w' := by
  subst hE
  refine (new_mac hc hi hl hil cells).mono ?_
  rintro e w' ⟨hb, (⟨_, he⟩ | ⟨h0, _⟩)⟩
  · exact ⟨he, hb⟩
  · exact absurd h0 hne
theorem new_good {w : World} {cv nv : Value} {l : List Ins} {inp : List Int} (hc : RowAt (fun k => k < w.heap.size) w cv l) (hi : IntsAt (fun k => k < w.heap.size) w nv inp) (hl : l.length ≤ 200) (hil : inp.length ≤ 1000) (cells : Int) (h0 : newE l cells = 0) :
    Calls Try.prog 8 #[cv, iv cells, nv] w fun e w' => ∃ B F, e = .returned (.tuple #[ptr B, iv 0]) ∧ Below w.heap.size w w' ∧ (∀ k, F k → w.heap.size ≤ k) ∧ Mac w' F B l (MS.init cells.toNat inp) := by
  refine (new_mac hc hi hl hil cells).mono ?_
  rintro e w' ⟨hb, (⟨h1, _⟩ | ⟨_, B, F, he, hF, m⟩)⟩
  · exact absurd h0 h1
  · exact ⟨B, F, he, hb, hF, m⟩
/-- What came in, in a later world. -/
theorem row_later {w w' : World} {cv : Value} {l : List Ins} (hc : RowAt (fun k => k < w.heap.size) w cv l) (hb : Below w.heap.size w w') : RowAt (fun k => k < w'.heap.size) w' cv l :=
  (hc.keep (fun k hk => hb.block k hk)).wide (fun _ hk => Nat.lt_of_lt_of_le hk hb.size)
theorem ints_later {w w' : World} {nv : Value} {l : List Int} (hc : IntsAt (fun k => k < w.heap.size) w nv l) (hb : Below w.heap.size w w') : IntsAt (fun k => k < w'.heap.size) w' nv l :=
  (hc.keep (fun k hk => hb.block k hk)).wide (fun _ hk => Nat.lt_of_lt_of_le hk hb.size)
theorem few_len {l : List Ins} {cells : Int} {inp : List Int} (hf : fewB l.length cells inp.length = true) : l.length ≤ 200 ∧ inp.length ≤ 100 := by
  unfold fewB at hf
  have := of_decide_eq_true hf
  exact ⟨this.1, this.2.2⟩

set_option maxRecDepth 100000 in
set_option maxHeartbeats 2000000 in
theorem parts_fail {w : World} {cv nv : Value} {l : List Ins} {inp : List Int} (cells : Int) (n m : Nat) (hc : RowAt (fun k => k < w.heap.size) w cv l) (hi : IntsAt (fun k => k < w.heap.size) w nv inp)
    (hf : fewB l.length cells inp.length = true) (hn : n ≤ 2000) (hm : m ≤ 2000) (hE : ¬ newE l cells = 0) :
    Calls Try.prog 3 #[cv, iv cells, nv, iv n, iv m] w fun e w' => e = .returned (.bool true) ∧ Below w.heap.size w w' := by
  have hfw := few_of hc hi cells
  rw [hf] at hfw
  obtain ⟨hl1, hl2⟩ := few_len hf
  have e1 : ((n : Int) < 0) = False := by simp
  have e2 : ((m : Int) < 0) = False := by simp
  have e3 : ((2000 : Int) < n) = False := by simp; omega
  have e4 : ((2000 : Int) < m) = False := by simp; omega
  have HC : Hid (RowAt (fun k => k < w.heap.size) w cv l) := hc
  have HI : Hid (IntsAt (fun k => k < w.heap.size) w nv inp) := hi
  clear hc hi hf
  obtain ⟨E, HE⟩ : ∃ E, Hid (newE l cells = E) := ⟨_, rfl⟩
  have hne : ¬ E = 0 := by rw [← HE.out]; exact hE
  clear hE
  have q1 : (E == 0) = false := by simp [hne]
  have q2 : (E == E) = true := by simp
  go_enter Try.func3, Try.ntmps3
  go_wp2_with fail
  refine (small_any w).mono ?_; rintro e w1 ⟨rfl, hb1⟩
  go_wp2_with fail
  refine (hfw w1).mono ?_; rintro e w1' ⟨rfl, rfl⟩
  clear hfw
  have hz1 := hb1.size
  have hn1 := new_fail (row_later HC.out hb1) (ints_later HI.out hb1) hl1 (by omega) cells E HE.out hne
  go_wp2_with fail
  refine hn1.mono ?_
  rintro e w2 ⟨rfl, hb⟩
  have hB2 := hb1.trans (hb.mono hz1)
  have hz2 := hB2.size
  have hn2 := new_fail (row_later HC.out hB2) (ints_later HI.out hB2) hl1 (by omega) cells E HE.out hne
  have HNE : Hid (¬ E = 0) := hne
  clear hn1 hb hne
  go_wp2_with fail
  refine hn2.mono ?_
  rintro e w3 ⟨rfl, hb⟩
  have hB3 := hB2.trans (hb.mono hz2)
  clear hn2
  go_wp2_with fail
  go_ret
  exact ⟨ret_bool (by simpa using HNE.out), hB3⟩

theorem init_out (n : Nat) (inp : List Int) : (MS.init n inp).out.length = 0 := rfl

set_option maxRecDepth 100000 in
set_option maxHeartbeats 4000000 in
theorem parts_yes {w : World} {cv nv : Value} {l : List Ins} {inp : List Int} (cells : Int) (n m : Nat) (hc : RowAt (fun k => k < w.heap.size) w cv l) (hi : IntsAt (fun k => k < w.heap.size) w nv inp)
    (hf : fewB l.length cells inp.length = true) (hn : n ≤ 2000) (hm : m ≤ 2000) (h0 : newE l cells = 0) :
    Calls Try.prog 3 #[cv, iv cells, nv, iv n, iv m] w fun e w' => e = .returned (.bool true) ∧ Below w.heap.size w w' := by
  have hfw := few_of hc hi cells
  rw [hf] at hfw
  obtain ⟨hl1, hl2⟩ := few_len hf
  have e1 : ((n : Int) < 0) = False := by simp
  have e2 : ((m : Int) < 0) = False := by simp
  have e3 : ((2000 : Int) < n) = False := by simp; omega
  have e4 : ((2000 : Int) < m) = False := by simp; omega
  have HC : Hid (RowAt (fun k => k < w.heap.size) w cv l) := hc
  have HI : Hid (IntsAt (fun k => k < w.heap.size) w nv inp) := hi
  clear hc hi hf
  have H0 : Hid (newE l cells = 0) := h0
  clear h0
  go_enter Try.func3, Try.ntmps3
  go_wp2_with fail
  refine (small_any w).mono ?_; rintro e w1 ⟨rfl, hb1⟩
  go_wp2_with fail
  refine (hfw w1).mono ?_; rintro e w1' ⟨rfl, rfl⟩
  clear hfw
  have hz1 := hb1.size
  have hn1 := new_good (row_later HC.out hb1) (ints_later HI.out hb1) hl1 (by omega) cells H0.out
  go_wp2_with fail
  refine hn1.mono ?_
  rintro e w2 ⟨B, F, rfl, hb2, hF, mx⟩
  have hB2 := hb1.trans (hb2.mono hz1)
  have hz2 := hB2.size
  have ox : Own w.heap.size w2 F B l (MS.init cells.toNat inp) := ⟨mx, fun k hk => Nat.le_trans hz1 (hF k hk)⟩
  have hn2 := new_good (row_later HC.out hB2) (ints_later HI.out hB2) hl1 (by omega) cells H0.out
  clear hn1 hb2 hF mx hb1 hz1
  go_wp2_with fail
  refine hn2.mono ?_
  rintro e w3 ⟨C, G, rfl, hb3, hG, my⟩
  have hB3 := hB2.trans (hb3.mono hz2)
  have hz3 := hB3.size
  have tw : Two w.heap.size (fun _ => False) w3 B l (MS.init cells.toNat inp) C l (MS.init cells.toNat inp) :=
    ⟨F, G, ⟨ox.1.below hb3, ox.2⟩, ⟨my, fun k hk => Nat.le_trans hz2 (hG k hk)⟩, fun k a b => by have := ox.1.lt k a; have := hG k b; omega, fun _ h => h.elim⟩
  clear hn2 hG my ox hb3 hB2 hz2 HC HI H0
  have i0 := init_out cells.toNat inp
  generalize MS.init cells.toNat inp = s at *
  have g1 := run_add l n m s
  have g2 := run_full l (n + m) s
  have g3 := run_le l n s
  have g4 := run_le l m (runM l n s).1
  have g5 := run_out l n s
  have g6 := run_out l (n + m) s
  have hr1 := tw.step hz3 (fun F mm => run_mac mm n (by omega))
  have R2 : Hid (∀ (w5 : World) (P : Nat → Prop), w.heap.size ≤ w5.heap.size → Two w.heap.size P w5 B l (runM l n s).1 C l s → Calls Try.prog 9 #[ptr B, iv m] w5 fun e w' => e = .returned (iv (runM l m (runM l n s).1).2) ∧ Below w.heap.size w5 w' ∧ (∀ k, P k → w'.heap[k]? = w5.heap[k]?) ∧ Two w.heap.size P w' B l (runM l (n + m) s).1 C l s) :=
    fun w5 P hz tw => by rw [g1]; exact tw.step hz (fun F mm => run_mac mm m (by omega))
  have R3 : Hid (∀ (w5 : World) (P : Nat → Prop) (t : MS), w.heap.size ≤ w5.heap.size → Two w.heap.size P w5 B l t C l s → Calls Try.prog 9 #[ptr C, iv (n + m : Nat)] w5 fun e w' => e = .returned (iv (runM l (n + m) s).2) ∧ Below w.heap.size w5 w' ∧ (∀ k, P k → w'.heap[k]? = w5.heap[k]?) ∧ Two w.heap.size P w' B l t C l (runM l (n + m) s).1) :=
    fun w5 P t hz tw => (tw.swap.step hz (fun F mm => run_mac mm (n + m) (by omega))).mono (fun e w' ⟨h1, h2, h3, h4⟩ => ⟨h1, h2, h3, h4.swap⟩)
  have g7 : (runM l (n + m) s).2 = (runM l n s).2 + (runM l m (runM l n s).1).2 := by rw [g1]
  have g9 : (runM l (n + m) s).1.out.length ≤ 10000000 := by omega
  rw [g7] at R3 g2
  clear g1 g5 g6 i0 g7
  generalize runM l n s = r1 at *
  obtain ⟨s1, a⟩ := r1
  simp only at *
  generalize (runM l m s1).2 = b at *
  generalize (runM l (n + m) s).1 = t at *
  go_wp2_with fail
  refine hr1.mono ?_; rintro e w4 ⟨rfl, hb, _, tw⟩
  have hB4 := hB3.trans hb
  have hz4 := hB4.size
  have hr2 := R2.out w4 _ hz4 tw
  clear hr1 hb hB3 hz3 R2
  go_wp2_with fail
  refine hr2.mono ?_; rintro e w5 ⟨rfl, hb, _, tw⟩
  have hB5 := hB4.trans hb
  have hz5 := hB5.size
  have hr3 := R3.out w5 _ _ hz5 tw
  clear hr2 hb hB4 hz4 R3
  go_wp2_with fail
  refine hr3.mono ?_; rintro e w6 ⟨rfl, hb, _, tw⟩
  have hB6 := hB5.trans hb
  have hz6 := hB6.size
  obtain ⟨_, mx⟩ := tw.fst
  have hr4 := end_mac mx
  clear hr3 hb hB5 hz5 mx
  have g10 := t.out.length
  obtain ⟨x, hx⟩ : ∃ x, t.err = x := ⟨_, rfl⟩
  obtain ⟨y, hy⟩ : ∃ y, t.code = y := ⟨_, rfl⟩
  rw [hx, hy] at hr4
  clear g10
  go_wp2_with fail
  refine hr4.mono ?_; rintro e w7 ⟨rfl, hb7⟩
  have hB7 := hB6.trans (hb7.mono hz6)
  have hz7 := hB7.size
  have hb8 : Below w7.heap.size w7 (w7.alloc (.cells #[iv x, iv y] 32)) := (Below.refl _ w7).alloc (Nat.le_refl _) _
  have tw8 := (tw.below hb7 (fun _ => False) (fun _ h => h.elim)).below hb8 (fun k => k = w7.heap.size) (fun k hk => .inr (by simp; omega))
  have hB8 := hB7.trans (hb8.mono hz7)
  have hz8 := hB8.size
  obtain ⟨_, my⟩ := tw8.snd
  have hr5 := end_mac my
  rw [hx, hy] at hr5
  clear hr4 hb7 hB6 hz6 tw my hB7 hz7 hx hy
  go_wp2_with fail
  refine hr5.mono ?_; rintro e w9 ⟨rfl, hb9⟩
  have hB9 := hB8.trans (hb9.mono hz8)
  have hz9 := hB9.size
  have hp9 : w9.heap[w7.heap.size]? = some (.cells #[iv x, iv y] 32) := (hb9.block _ (by simp)).trans (heap_new _ _ rfl)
  have hl9 : w7.heap.size < w9.heap.size := (Array.getElem?_eq_some_iff.1 hp9).1
  have hb10 : Below w9.heap.size w9 (w9.alloc (.cells #[iv x, iv y] 32)) := (Below.refl _ w9).alloc (Nat.le_refl _) _
  have tw10 := (tw8.below hb9 (fun k => k = w7.heap.size) (fun k hk => .inl hk)).below hb10 (fun k => k = w7.heap.size ∨ k = w9.heap.size) (fun k hk => by
    rcases hk with h | h
    · exact .inl h
    · exact .inr (by simp; omega))
  have hB10 := hB9.trans (hb10.mono hz9)
  have hz10 := hB10.size
  have hp10 := (hb10.block _ hl9).trans hp9
  have hq10 : (w9.alloc (.cells #[iv x, iv y] 32)).heap[w9.heap.size]? = some (.cells #[iv x, iv y] 32) := heap_new _ _ rfl
  obtain ⟨_, mx⟩ := tw10.fst
  have hr6 := output_mac mx g9
  clear hr5 hb9 hB8 hz8 tw8 mx hB9 hz9 hp9 hb8
  go_wp2_with fail
  refine hr6.mono ?_; rintro e w11 ⟨v11, rfl, hb11, hi11⟩
  have hB11 := hB10.trans (hb11.mono hz10)
  have hz11 := hB11.size
  have tw11 := tw10.below hb11 (fun k => k = w7.heap.size ∨ k = w9.heap.size) (fun k hk => .inl hk)
  have hp11 := (hb11.block _ (by simp; omega)).trans hp10
  have hq11 := (hb11.block _ (by simp)).trans hq10
  obtain ⟨_, my⟩ := tw11.snd
  have hr7 := output_mac my g9
  clear hr6 hb11 hB10 hz10 tw10 my hp10 hq10 hb10
  go_wp2_with fail
  refine hr7.mono ?_; rintro e w12 ⟨v12, rfl, hb12, hi12⟩
  have hB12 := hB11.trans (hb12.mono hz11)
  have hz12 := hB12.size
  have tw12 := tw11.below hb12 (fun k => k = w7.heap.size ∨ k = w9.heap.size) (fun k hk => .inl hk)
  have lp11 := (Array.getElem?_eq_some_iff.1 hp11).1
  have lq11 := (Array.getElem?_eq_some_iff.1 hq11).1
  have hp12 := (hb12.block _ lp11).trans hp11
  have hq12 := (hb12.block _ lq11).trans hq11
  have hr8 := ints_same g9 (hi11.keep (W' := w12) (fun k hk => hb12.block k hk.2)) hi12
  clear hr7 hb12 hB11 hz11 tw11 hp11 hq11 hi11 hi12
  go_wp2_with fail
  refine hr8.mono ?_; rintro e w13 ⟨rfl, hb13⟩
  have hB13 := hB12.trans (hb13.mono hz12)
  have hz13 := hB13.size
  have tw13 := tw12.below hb13 (fun k => k = w7.heap.size ∨ k = w9.heap.size) (fun k hk => .inl hk)
  have lp12 := (Array.getElem?_eq_some_iff.1 hp12).1
  have lq12 := (Array.getElem?_eq_some_iff.1 hq12).1
  have hp13 := (hb13.block _ lp12).trans hp12
  have hq13 := (hb13.block _ lq12).trans hq12
  have hr9 := tw13.step hz13 (fun F mm => step_mac mm g9)
  clear hr8 hb13 hB12 hz12 tw12 tw13 hp12 hq12
  go_wp2_with fail
  refine hr9.mono ?_; rintro e w14 ⟨rfl, hb14, hk14, _⟩
  have hB14 := hB13.trans hb14
  have hp14 := (hk14 _ (.inl rfl)).trans hp13
  have hq14 := (hk14 _ (.inr rfl)).trans hq13
  have c0 : w14.cell? ⟨w7.heap.size, 0, none⟩ = some (iv x) := by rw [World.cell?, hp14]; rfl
  have c1 : w14.cell? ⟨w7.heap.size, 1, none⟩ = some (iv y) := by rw [World.cell?, hp14]; rfl
  have d0 : w14.cell? ⟨w9.heap.size, 0, none⟩ = some (iv x) := by rw [World.cell?, hq14]; rfl
  have d1 : w14.cell? ⟨w9.heap.size, 1, none⟩ = some (iv y) := by rw [World.cell?, hq14]; rfl
  have hend := eql_end x y
  clear hr9 hB13 hz13 hp13 hq13 hk14 hp14 hq14 hb14
  cases ho : t.over with
  | true =>
    go_wp2_with fail
    go_ret
    exact ⟨rfl, hB14⟩
  | false =>
    have h2 : a + b = n + m := by
      rcases g2 with g | g
      · rw [ho] at g; cases g
      · exact g
    have H2 : Hid (a + b = n + m) := h2
    clear g2 h2
    go_wp2_with fail
    go_ret
    exact ⟨ret_bool (by have := H2.out; simp; omega), hB14⟩

theorem parts_walk {w : World} {cv nv : Value} {l : List Ins} {inp : List Int} (cells n m : Int) (hc : RowAt (fun k => k < w.heap.size) w cv l) (hi : IntsAt (fun k => k < w.heap.size) w nv inp) :
    Calls Try.prog 3 #[cv, iv cells, nv, iv n, iv m] w fun e w' => e = .returned (.bool true) ∧ Below w.heap.size w w' := by
  by_cases h : fewB l.length cells inp.length = false ∨ n < 0 ∨ m < 0 ∨ 2000 < n ∨ 2000 < m
  · exact parts_no cells n m hc hi h
  · simp only [not_or, Bool.not_eq_false] at h
    obtain ⟨h1, h2, h3, h4, h5⟩ := h
    obtain ⟨n, rfl⟩ : ∃ k : Nat, n = k := ⟨n.toNat, by omega⟩
    obtain ⟨m, rfl⟩ : ∃ k : Nat, m = k := ⟨m.toNat, by omega⟩
    by_cases h0 : newE l cells = 0
    · exact parts_yes cells n m hc hi h1 (by omega) (by omega) h0
    · exact parts_fail cells n m hc hi h1 (by omega) (by omega) h0

end Go.Proofs.Ythokpdalojfmiaa
