/-
  The law MachineGrows (layer 4) where nothing is played, or New refuses.
-/
import Derived.Test.YthokpdalojfmiaaPartA
import Derived.Test.YthokpdalojfmiaaGrowB
namespace Go.Proofs.Ythokpdalojfmiaa
open Go.ChangeShapes Go.WideShapes Go.ChangeAt Go.RowKit

set_option maxRecDepth 100000 in
set_option maxHeartbeats 2000000 in
theorem grows_no {w : World} {cv nv mv : Value} {l : List Ins} {inp more : List Int} (cells : Int) (fuel : Int) (hc : RowAt (fun k => k < w.heap.size) w cv l) (hi : IntsAt (fun k => k < w.heap.size) w nv inp) (hm : IntsAt (fun k => k < w.heap.size) w mv more)
    (h : fewB l.length cells inp.length = false ∨ 100 < more.length ∨ fuel < 0 ∨ 500 < fuel) :
    Calls Try.prog 4 #[cv, iv cells, nv, mv, iv fuel] w fun e w' => e = .returned (.bool true) ∧ Below w.heap.size w w' := by
  have hf := few_of hc hi cells
  obtain ⟨sp, cp, rfl, _⟩ := hm
  generalize more.length = k at *
  cases hb : fewB l.length cells inp.length with
  | false =>
    rw [hb] at hf
    clear h hb hc hi
    go_enter Try.func4, Try.ntmps4
    go_wp2_with fail
    refine (small_any w).mono ?_; rintro e w1 ⟨rfl, hb1⟩
    go_wp2_with fail
    refine (hf w1).mono ?_; rintro e w2 ⟨rfl, rfl⟩
    go_wp2_with fail
    go_ret
    exact ⟨rfl, hb1⟩
  | true =>
    rw [hb] at hf h
    by_cases h1 : 100 < k
    · have e1 : ((k : Int) ≤ 100) = False := by simp; omega
      clear h hb hc hi h1
      go_enter Try.func4, Try.ntmps4
      go_wp2_with fail
      refine (small_any w).mono ?_; rintro e w1 ⟨rfl, hb1⟩
      go_wp2_with fail
      refine (hf w1).mono ?_; rintro e w2 ⟨rfl, rfl⟩
      go_wp2_with fail
      go_ret
      exact ⟨rfl, hb1⟩
    have e1 : ((k : Int) ≤ 100) = True := by simp; omega
    by_cases h2 : fuel < 0
    · have e2 : (fuel < 0) = True := by simp; omega
      clear h hb hc hi h1 h2
      go_enter Try.func4, Try.ntmps4
      go_wp2_with fail
      refine (small_any w).mono ?_; rintro e w1 ⟨rfl, hb1⟩
      go_wp2_with fail
      refine (hf w1).mono ?_; rintro e w2 ⟨rfl, rfl⟩
      go_wp2_with fail
      go_ret
      exact ⟨rfl, hb1⟩
    have e2 : (fuel < 0) = False := by simp; omega
    have h3 : 500 < fuel := by
      rcases h with h | h | h | h
      · cases h
      · omega
      · omega
      · exact h
    have e3 : (500 < fuel) = True := by simp; omega
    clear h hb hc hi h1 h2 h3
    go_enter Try.func4, Try.ntmps4
    go_wp2_with fail
    refine (small_any w).mono ?_; rintro e w1 ⟨rfl, hb1⟩
    go_wp2_with fail
    refine (hf w1).mono ?_; rintro e w2 ⟨rfl, rfl⟩
    go_wp2_with fail
    go_ret
    exact ⟨rfl, hb1⟩

set_option maxRecDepth 100000 in
set_option maxHeartbeats 2000000 in
theorem grows_fail {w : World} {cv nv mv : Value} {l : List Ins} {inp more : List Int} (cells : Int) (fuel : Nat) (hc : RowAt (fun k => k < w.heap.size) w cv l) (hi : IntsAt (fun k => k < w.heap.size) w nv inp) (hm : IntsAt (fun k => k < w.heap.size) w mv more)
    (hf : fewB l.length cells inp.length = true) (hmo : more.length ≤ 100) (hfu : fuel ≤ 500) (hE : ¬ newE l cells = 0) :
    Calls Try.prog 4 #[cv, iv cells, nv, mv, iv fuel] w fun e w' => e = .returned (.bool true) ∧ Below w.heap.size w w' := by
  have hfw := few_of hc hi cells
  rw [hf] at hfw
  obtain ⟨hl1, hl2⟩ := few_len hf
  have e1 : ((more.length : Int) ≤ 100) = True := by simp; omega
  have e2 : ((fuel : Int) < 0) = False := by simp
  have e3 : ((500 : Int) < fuel) = False := by simp; omega
  have HC : Hid (RowAt (fun k => k < w.heap.size) w cv l) := hc
  have HI : Hid (IntsAt (fun k => k < w.heap.size) w nv inp) := hi
  have HM : Hid (IntsAt (fun k => k < w.heap.size) w mv more) := hm
  obtain ⟨sp, cp, rfl, _⟩ := hm
  have hmn := hmo
  have HML : Hid (more.length ≤ 100) := hmo
  clear hc hi hf hmo
  obtain ⟨E, HE⟩ : ∃ E, Hid (newE l cells = E) := ⟨_, rfl⟩
  have hne : ¬ E = 0 := by rw [← HE.out]; exact hE
  clear hE
  have q1 : (E == 0) = false := by simp [hne]
  have q2 : (E == E) = true := by simp
  have AP : Hid (∀ w2, Below w.heap.size w w2 → ∃ v3 w3 v4 w4, (∀ T, (Builtin.append_ #[23, 23] T #[.slice (some ⟨w2.heap.size, 0, none⟩) 0 0, nv]).run Try.prog (w2.alloc (.cells #[] 3)) = .ok v3 w3) ∧
      (∀ T, (Builtin.append_ #[23, 23] T #[v3, .slice sp more.length cp]).run Try.prog w3 = .ok v4 w4) ∧ Below w2.heap.size w2 w4 ∧ IntsAt (fun k => k < w4.heap.size) w4 v4 (inp ++ more)) := fun w2 hb => by
    have hb3 : Below w2.heap.size w2 (w2.alloc (.cells #[] 3)) := (Below.refl _ w2).alloc (Nat.le_refl _) _
    have hB3 : Below w.heap.size w (w2.alloc (.cells #[] 3)) := hb.trans (hb3.mono hb.size)
    obtain ⟨v3, w3, ap1, own1, bb1⟩ := append_ints (w2.alloc (.cells #[] 3)) w2.heap.size _ 0 [] (owns_empty w2 w2.heap.size 3 1 (Nat.le_refl _)) _ inp (ints_later HI.out hB3) (by omega) hb3.size
    have hB4 : Below w.heap.size w w3 := hB3.trans (bb1.mono hb.size)
    obtain ⟨v4, w4, ap2, own2, bb2⟩ := append_ints w3 w2.heap.size _ _ _ own1 _ more (ints_later HM.out hB4) (by omega) (Nat.le_trans hb3.size bb1.size)
    refine ⟨v3, w3, v4, w4, ap1, ap2, hb3.trans (bb1.trans bb2), ?_⟩
    have := owns_ints (w := w4) (base := w2.heap.size) (v := v4) (l := inp ++ more) (by simpa [vals] using own2)
    exact this.wide (fun _ hk => hk.2)
  go_enter Try.func4, Try.ntmps4
  go_wp2_with fail
  refine (small_any w).mono ?_; rintro e w1 ⟨rfl, hb1⟩
  go_wp2_with fail
  refine (hfw w1).mono ?_; rintro e w1' ⟨rfl, rfl⟩
  clear hfw
  have hz1 := hb1.size
  have hn1 := new_fail (row_later HC.out hb1) (ints_later HI.out hb1) hl1 (by omega) cells E HE.out hne
  go_wp2_with fail
  refine hn1.mono ?_
  rintro e w2 ⟨rfl, hb⟩
  have hB2 := hb1.trans (hb.mono hz1)
  have hz2 := hB2.size
  obtain ⟨v3, w3, v4, w4, ap1, ap2, hb4, i4⟩ := AP.out w2 hB2
  have hB4 := hB2.trans (hb4.mono hz2)
  have hz4 := hB4.size
  have A1 : Hid (∀ T, (Builtin.append_ #[23, 23] T #[.slice (some ⟨w2.heap.size, 0, none⟩) 0 0, nv]).run Try.prog (w2.alloc (.cells #[] 3)) = .ok v3 w3) := ap1
  have A2 : Hid (∀ T, (Builtin.append_ #[23, 23] T #[v3, .slice sp more.length cp]).run Try.prog w3 = .ok v4 w4) := ap2
  have hn2 := new_fail (row_later HC.out hB4) i4 hl1 (by simp; omega) cells E HE.out hne
  have HNE : Hid (¬ E = 0) := hne
  clear hn1 hb hne ap1 ap2
  generalize more.length = mn at *
  go_wp2_with (first
    | (at_builtin; refine wpList_append_run rfl (.tmp 54) (.tmp 55) 23 rfl rfl rfl (A1.out _) ?_)
    | (at_builtin; refine wpList_append_run rfl (.tmp 56) (.tmp 57) 23 rfl rfl rfl (A2.out _) ?_))
  refine hn2.mono ?_
  rintro e w5 ⟨rfl, hb⟩
  have hB5 := hB4.trans (hb.mono hz4)
  clear hn2
  go_wp2_with fail
  go_ret
  exact ⟨ret_bool (by simpa using HNE.out), hB5⟩

end Go.Proofs.Ythokpdalojfmiaa
