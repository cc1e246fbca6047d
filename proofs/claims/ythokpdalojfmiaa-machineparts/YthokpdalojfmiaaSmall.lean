/-
  The laws of layer 4: what their walks have in common; their small case.
-/
import Derived.Test.YthokpdalojfmiaaNew
import Derived.Test.YthokpdalojfmiaaStep
namespace Go.Proofs.Ythokpdalojfmiaa
open Go.ChangeShapes Go.WideShapes Go.ChangeAt Go.RowKit

theorem Mac.lt {w : World} {F : Nat → Prop} {B : Nat} {l : List Ins} {s : MS} (hm : Mac w F B l s) : ∀ k, F k → k < w.heap.size := by
  obtain ⟨D, Q, R, cv, nv, ov, p, q, m⟩ := hm; exact m.lt
theorem Mac.below {w w' : World} {F : Nat → Prop} {B : Nat} {l : List Ins} {s : MS} (hm : Mac w F B l s) (hb : Below w.heap.size w w') : Mac w' F B l s := by
  obtain ⟨D, Q, R, cv, nv, ov, p, q, m⟩ := hm; exact (m.below hb).mac
theorem Mac.moves {w w' : World} {F G : Nat → Prop} {B : Nat} {l : List Ins} {s : MS} (hm : Mac w F B l s) (h : Moves G w w') (dj : ∀ k, G k → F k → False) : Mac w' F B l s := by
  obtain ⟨D, Q, R, cv, nv, ov, p, q, m⟩ := hm
  exact (m.keep (fun k hk => h.block k (m.lt k hk) (fun g => dj k g hk)) h.size).mac

/-- A machine whose blocks are new since N. -/
def Own (N : Nat) (w : World) (F : Nat → Prop) (B : Nat) (l : List Ins) (s : MS) : Prop := Mac w F B l s ∧ ∀ k, F k → N ≤ k
theorem Ans.own {N : Nat} {w w' : World} {F : Nat → Prop} {B : Nat} {l : List Ins} {s s' : MS} (h : Ans w F B l s' w') (o : Own N w F B l s) (hN : N ≤ w.heap.size) : Below N w w' ∧ ∃ F', Own N w' F' B l s' := by
  obtain ⟨M, F', hF', m⟩ := h
  refine ⟨M.below hN o.2, F', m, fun k hk => ?_⟩
  rcases hF' k hk with g | g
  · exact o.2 k g
  · omega
/-- Two machines, apart, and blocks that are neither's. -/
def Two (N : Nat) (P : Nat → Prop) (w : World) (B : Nat) (l : List Ins) (s : MS) (C : Nat) (l2 : List Ins) (s2 : MS) : Prop :=
  ∃ F G, Own N w F B l s ∧ Own N w G C l2 s2 ∧ (∀ k, F k → G k → False) ∧ ∀ k, P k → k < w.heap.size ∧ ¬ F k ∧ ¬ G k
theorem Two.swap {N : Nat} {P : Nat → Prop} {w : World} {B : Nat} {l : List Ins} {s : MS} {C : Nat} {l2 : List Ins} {s2 : MS} (h : Two N P w B l s C l2 s2) : Two N P w C l2 s2 B l s := by
  obtain ⟨F, G, h1, h2, h3, h4⟩ := h
  exact ⟨G, F, h2, h1, fun k a b => h3 k b a, fun k hk => ⟨(h4 k hk).1, (h4 k hk).2.2, (h4 k hk).2.1⟩⟩
theorem Two.below {N : Nat} {P : Nat → Prop} {w w' : World} {B : Nat} {l : List Ins} {s : MS} {C : Nat} {l2 : List Ins} {s2 : MS} (h : Two N P w B l s C l2 s2) (hb : Below w.heap.size w w') (P' : Nat → Prop) (hP : ∀ k, P' k → P k ∨ (w.heap.size ≤ k ∧ k < w'.heap.size)) : Two N P' w' B l s C l2 s2 := by
  obtain ⟨F, G, h1, h2, h3, h4⟩ := h
  refine ⟨F, G, ⟨h1.1.below hb, h1.2⟩, ⟨h2.1.below hb, h2.2⟩, h3, fun k hk => ?_⟩
  rcases hP k hk with g | g
  · exact ⟨Nat.lt_of_lt_of_le (h4 k g).1 hb.size, (h4 k g).2⟩
  · exact ⟨g.2, fun f => by have := h1.1.lt k f; omega, fun f => by have := h2.1.lt k f; omega⟩
/-- A contract of the first one's, beside the second. -/
theorem Two.step {N : Nat} {P : Nat → Prop} {w : World} {B : Nat} {l : List Ins} {s : MS} {C : Nat} {l2 : List Ins} {s2 s' : MS} {f : FuncId} {args : Array Value} {v : Value} (h : Two N P w B l s C l2 s2) (hN : N ≤ w.heap.size)
    (hc : ∀ F, Mac w F B l s → Calls Try.prog f args w fun e w' => e = .returned v ∧ Ans w F B l s' w') :
    Calls Try.prog f args w fun e w' => e = .returned v ∧ Below N w w' ∧ (∀ k, P k → w'.heap[k]? = w.heap[k]?) ∧ Two N P w' B l s' C l2 s2 := by
  obtain ⟨F, G, h1, h2, h3, h4⟩ := h
  refine (hc F h1.1).mono ?_
  rintro e w' ⟨rfl, hans⟩
  obtain ⟨M, F', hF', m⟩ := id hans
  obtain ⟨hb, _⟩ := hans.own h1 hN
  refine ⟨rfl, hb, fun k hk => M.block k (h4 k hk).1 (h4 k hk).2.1, F', G, ⟨m, fun k hk => ?_⟩, ⟨h2.1.moves M h3, h2.2⟩, fun k a b => ?_, fun k hk => ⟨Nat.lt_of_lt_of_le (h4 k hk).1 M.size, fun f => ?_, (h4 k hk).2.2⟩⟩
  · rcases hF' k hk with g | g
    · exact h1.2 k g
    · omega
  · rcases hF' k a with g | g
    · exact h3 k g b
    · have := h2.1.lt k b; omega
  · rcases hF' k f with g | g
    · exact (h4 k hk).2.1 g
    · have := (h4 k hk).1; omega
theorem Two.fst {N : Nat} {P : Nat → Prop} {w : World} {B : Nat} {l : List Ins} {s : MS} {C : Nat} {l2 : List Ins} {s2 : MS} (h : Two N P w B l s C l2 s2) : ∃ F, Mac w F B l s := by
  obtain ⟨F, G, h1, _⟩ := h; exact ⟨F, h1.1⟩
theorem Two.snd {N : Nat} {P : Nat → Prop} {w : World} {B : Nat} {l : List Ins} {s : MS} {C : Nat} {l2 : List Ins} {s2 : MS} (h : Two N P w B l s C l2 s2) : ∃ F, Mac w F C l2 s2 := by
  obtain ⟨F, G, h1, h2, _⟩ := h; exact ⟨G, h2.1⟩

/-- A row that was written out. -/
theorem row_lit {w : World} {g cap : Nat} (l : List Ins) (h : w.heap[g]? = some (.cells (l.flatMap Ins.cells).toArray 44 (0, 0))) : RowAt (fun k => k < w.heap.size) w (.slice (some ⟨g, 0, none⟩) l.length cap) l := by
  refine ⟨_, cap, rfl, fun h0 => ⟨g, 0, rfl, (Array.getElem?_eq_some_iff.1 h).1, fun j hj => ?_⟩⟩
  have key : ∀ f, f < 5 → w.cell? ⟨g, 0 + j * 5 + f, none⟩ = l[j].cells[f]? := fun f hf => by
    rw [← flat_get l j f hj hf, Nat.zero_add]
    simp [World.cell?, h]
  exact ⟨key 0 (by decide), key 1 (by decide), key 2 (by decide), key 3 (by decide), key 4 (by decide)⟩
theorem ints_lit {w : World} {g : Nat} (l : List Int) (hl : l.length ≤ 1000) (h : w.heap[g]? = some (.cells (vals l).toArray 3 (0, 0))) : IntsAt (fun k => k < w.heap.size) w (.slice (some ⟨g, 0, none⟩) l.length l.length) l := by
  refine ⟨_, _, rfl, Nat.le_refl _, by unfold maxLen; omega, fun h0 => ⟨g, 0, rfl, (Array.getElem?_eq_some_iff.1 h).1, fun j hj => ?_⟩⟩
  simp [World.cell?, h, vals, hj]
theorem ints_nil (D : Nat → Prop) (w : World) : IntsAt D w (.slice none 0 0) [] := ⟨none, 0, rfl, Nat.le_refl _, Nat.zero_le _, fun h => absurd h (Nat.lt_irrefl 0)⟩

theorem index14 (w : World) : (Instr.index 39 (.agg #[iv 0, iv 7, iv 0, iv 0, iv 0, iv 0, iv 0, iv 0, iv 0, iv 0, iv 0, iv 0, iv 0, iv 0, iv 10, iv 0]) (.int .i64 14)).run Try.prog w = .ok (iv 10) w := by rfl

def smallL : List Ins := [⟨11, 1, 0, 0, 0⟩, ⟨12, 1, 0, 0, 0⟩, ⟨0, 0, 0, 0, 0⟩]
def smallX : MS := ⟨fresh 10, [0, 7, 0, 0, 0, 0, 0, 0, 0, 0, 0, 0, 0, 0, 10, 0], 2, [], [7], 0, 0, true⟩
def smallY : MS := ⟨fresh 10, [0, 0, 0, 0, 0, 0, 0, 0, 0, 0, 0, 0, 0, 0, 10, 0], 0, [], [], 10, 0, true⟩
theorem small_x : runM smallL 100 (MS.init 10 [7]) = (smallX, 3) := by rfl
theorem small_y : runM [⟨11, 1, 0, 0, 0⟩] 9 (MS.init 10 []) = (smallY, 1) := by rfl
theorem small_x0 : newE smallL 10 = 0 := by decide
theorem small_y0 : newE [⟨11, 1, 0, 0, 0⟩] 10 = 0 := by decide

set_option maxRecDepth 100000 in
set_option maxHeartbeats 2000000 in
theorem small_any (w : World) : Calls Try.prog 6 #[] w fun e w' => e = .returned (.bool true) ∧ Below w.heap.size w w' := by
  have hb1 : Below w.heap.size w ((w.alloc (.cells #[iv 11, iv 1, iv 0, iv 0, iv 0, iv 12, iv 1, iv 0, iv 0, iv 0, iv 0, iv 0, iv 0, iv 0, iv 0] 44)).alloc (.cells #[iv 7] 3)) := ((Below.refl _ w).alloc (Nat.le_refl _) _).alloc (by simp) _
  have hn1 := new_mac (w := (w.alloc (.cells #[iv 11, iv 1, iv 0, iv 0, iv 0, iv 12, iv 1, iv 0, iv 0, iv 0, iv 0, iv 0, iv 0, iv 0, iv 0] 44)).alloc (.cells #[iv 7] 3)) (cv := .slice (some ⟨w.heap.size, 0, none⟩) 3 3) (nv := .slice (some ⟨w.heap.size + 1, 0, none⟩) 1 1) (row_lit smallL (by rw [Below.heap_alloc _ _ _ (by simp)]; exact heap_new _ _ rfl)) (ints_lit [7] (by decide) (heap_new _ _ (by simp))) (by decide) (by decide) 10
  unfold NewAns at hn1
  rw [small_x0] at hn1
  go_enter Try.func6, Try.ntmps6
  go_wp2_with fail
  refine hn1.mono ?_
  rintro e w1 ⟨hb2, (⟨hne, _⟩ | ⟨_, B, F, rfl, hF, mx⟩)⟩
  · exact absurd rfl hne
  have hB1 := hb1.trans (hb2.mono hb1.size)
  have ox : Own w.heap.size w1 F B smallL (MS.init 10 [7]) := ⟨mx, fun k hk => Nat.le_trans hb1.size (hF k hk)⟩
  clear hn1 hb2 hF mx hb1
  have hz1 := hB1.size
  have hb3 : Below w1.heap.size w1 (w1.alloc (.cells #[iv 11, iv 1, iv 0, iv 0, iv 0] 44)) := (Below.refl _ w1).alloc (Nat.le_refl _) _
  have hn2 := new_mac (w := w1.alloc (.cells #[iv 11, iv 1, iv 0, iv 0, iv 0] 44)) (cv := .slice (some ⟨w1.heap.size, 0, none⟩) 1 1) (nv := .slice none 0 0) (row_lit [⟨11, 1, 0, 0, 0⟩] (heap_new _ _ rfl)) (ints_nil _ _) (by decide) (by decide) 10
  unfold NewAns at hn2
  rw [small_y0] at hn2
  go_wp2_with fail
  refine hn2.mono ?_
  rintro e w2 ⟨hb4, (⟨hne, _⟩ | ⟨_, C, G, rfl, hG, my⟩)⟩
  · exact absurd rfl hne
  have hb5 := hb3.trans (hb4.mono hb3.size)
  have tw : Two w.heap.size (fun _ => False) w2 B smallL (MS.init 10 [7]) C [⟨11, 1, 0, 0, 0⟩] (MS.init 10 []) :=
    ⟨F, G, ⟨ox.1.below hb5, ox.2⟩, ⟨my, fun k hk => Nat.le_trans hz1 (Nat.le_trans hb3.size (hG k hk))⟩, fun k a b => by have := ox.1.lt k a; have := hG k b; have := hb3.size; omega, fun _ h => h.elim⟩
  have hB2 := hB1.trans (hb5.mono hz1)
  clear hn2 hb4 hG my hb3 ox hb5 hB1 hz1
  have hz2 := hB2.size
  have hr1 := tw.step hz2 (fun F m => run_mac m 100 (by decide))
  rw [small_x] at hr1
  go_wp2_with fail
  refine hr1.mono ?_; rintro e w3 ⟨rfl, hb, _, tw⟩
  have hB3 := hB2.trans hb
  have hz3 := hB3.size
  obtain ⟨_, mx⟩ := tw.fst
  have hr2 : Calls Try.prog 10 #[ptr B] w3 fun e w' => e = .returned (.tuple #[.agg #[iv 0, iv 0], .bool true]) ∧ Below w3.heap.size w3 w' := end_mac mx
  clear hr1 hB2 hz2 hb mx
  go_wp2_with fail
  refine hr2.mono ?_; rintro e w4 ⟨rfl, hb⟩
  have hB4 := hB3.trans (hb.mono hz3)
  have hz4 := hB4.size
  replace tw := tw.below hb (fun _ => False) (fun _ h => h.elim)
  clear hr2 hB3 hz3 hb
  have hb6 : Below w4.heap.size w4 (w4.alloc (.cells #[iv 0, iv 0] 32)) := (Below.refl _ w4).alloc (Nat.le_refl _) _
  have hB6 := hB4.trans (hb6.mono hz4)
  have hz6 := hB6.size
  have hr3 := (tw.below hb6 (fun k => k = w4.heap.size) (fun k hk => .inr (by simp; omega))).swap.step hz6 (fun F m => run_mac m 9 (by decide))
  rw [small_y] at hr3
  go_wp2_with fail
  refine hr3.mono ?_; rintro e w5 ⟨rfl, hb, hk5, tw5⟩
  have hB5 := hB6.trans hb
  have hz5 := hB5.size
  have hg5 : w5.heap[w4.heap.size]? = some (.cells #[iv 0, iv 0] 32) := (hk5 _ rfl).trans (heap_new _ _ rfl)
  have hl5 : w4.heap.size < w5.heap.size := (Array.getElem?_eq_some_iff.1 hg5).1
  obtain ⟨_, my⟩ := tw5.fst
  have hr4 : Calls Try.prog 10 #[ptr C] w5 fun e w' => e = .returned (.tuple #[.agg #[iv 10, iv 0], .bool true]) ∧ Below w5.heap.size w5 w' := end_mac my
  clear hr3 hb tw hk5 hb6 hB6 hz6 hB4 hz4 my
  go_wp2_with fail
  refine hr4.mono ?_; rintro e w6 ⟨rfl, hb⟩
  have hB6 := hB5.trans (hb.mono hz5)
  have hz6 := hB6.size
  have hg6 := (hb.block _ hl5).trans hg5
  have hl6 := Nat.lt_of_lt_of_le hl5 hb.size
  replace tw5 := tw5.below hb (fun k => k = w4.heap.size) (fun k hk => .inl hk)
  clear hr4 hb hg5 hl5 hB5 hz5
  have hb7 : Below w6.heap.size w6 (w6.alloc (.cells #[iv 10, iv 0] 32)) := (Below.refl _ w6).alloc (Nat.le_refl _) _
  have tw7 := (tw5.below hb7 (fun k => k = w4.heap.size ∨ k = w6.heap.size) (fun k hk => by
    rcases hk with h | h
    · exact .inl h
    · exact .inr (by simp; omega))).swap
  have hB7 := hB6.trans (hb7.mono hz6)
  have hz7 := hB7.size
  have hg7 : (w6.alloc (.cells #[iv 10, iv 0] 32)).heap[w4.heap.size]? = some (.cells #[iv 0, iv 0] 32) := (hb7.block _ hl6).trans hg6
  have hh7 : (w6.alloc (.cells #[iv 10, iv 0] 32)).heap[w6.heap.size]? = some (.cells #[iv 10, iv 0] 32) := heap_new _ _ rfl
  have c0 : (w6.alloc (.cells #[iv 10, iv 0] 32)).cell? ⟨w4.heap.size, 0, none⟩ = some (iv 0) := by rw [World.cell?, hg7]; rfl
  have c1 : (w6.alloc (.cells #[iv 10, iv 0] 32)).cell? ⟨w4.heap.size, 1, none⟩ = some (iv 0) := by rw [World.cell?, hg7]; rfl
  obtain ⟨_, mx⟩ := tw7.fst
  have hr5 : Calls Try.prog 12 #[ptr B] (w6.alloc (.cells #[iv 10, iv 0] 32)) fun e w' => ∃ v', e = .returned v' ∧ Below (w6.alloc (.cells #[iv 10, iv 0] 32)).heap.size (w6.alloc (.cells #[iv 10, iv 0] 32)) w' ∧ IntsAt (New (w6.alloc (.cells #[iv 10, iv 0] 32)) w') w' v' [7] := output_mac mx (by decide)
  clear tw5 hB6 hz6 hg6 mx
  go_wp2_with fail
  refine hr5.mono ?_; rintro e w8 ⟨v8, rfl, hb, hi8⟩
  have hB8 := hB7.trans (hb.mono hz7)
  have hz8 := hB8.size
  have hh8 := (hb.block _ (by simp)).trans hh7
  have hl8 : w6.heap.size < w8.heap.size := (Array.getElem?_eq_some_iff.1 hh8).1
  replace tw7 := tw7.below hb (fun k => k = w6.heap.size) (fun k hk => .inl (.inr hk))
  clear hr5 hb hB7 hz7 hg7 hh7 c0 c1 hb7
  have hb9 : Below w8.heap.size w8 (w8.alloc (.cells #[iv 7] 3)) := (Below.refl _ w8).alloc (Nat.le_refl _) _
  have hr6 := ints_same (by decide) (hi8.keep (W' := w8.alloc (.cells #[iv 7] 3)) (fun k hk => hb9.block k hk.2)) (ints_lit (g := w8.heap.size) [7] (by decide) (heap_new _ _ rfl))
  go_wp2_with fail
  refine hr6.mono ?_; rintro e w9 ⟨rfl, hb⟩
  have hb10 := hb9.trans (hb.mono hb9.size)
  have hB9 := hB8.trans (hb10.mono hz8)
  have hz9 := hB9.size
  have hh9 := (hb10.block _ hl8).trans hh8
  have tw9 := tw7.below hb10 (fun k => k = w6.heap.size) (fun k hk => .inl hk)
  have d0 : w9.cell? ⟨w6.heap.size, 0, none⟩ = some (iv 10) := by rw [World.cell?, hh9]; rfl
  obtain ⟨F9, G9, o9, _⟩ := tw9
  have hr7 : Calls Try.prog 13 #[ptr B] w9 fun e w' => e = .returned (.bool false) ∧ Ans w9 F9 B smallL smallX w' := step_mac o9.1 (by decide)
  clear hr6 hb hb9 hb10 tw7 hB8 hz8 hh8 hi8
  go_wp2_with fail
  refine hr7.mono ?_; rintro e w10 ⟨rfl, hans⟩
  obtain ⟨hb, F10, o10⟩ := hans.own o9 hz9
  have hB10 := hB9.trans hb
  have hz10 := hB10.size
  have hr8 : Calls Try.prog 15 #[ptr B] w10 fun e w' => e = .returned (.agg #[iv 0, iv 7, iv 0, iv 0, iv 0, iv 0, iv 0, iv 0, iv 0, iv 0, iv 0, iv 0, iv 0, iv 0, iv 10, iv 0]) ∧ Below w10.heap.size w10 w' := regs_mac o10.1
  clear hr7 hb hans o9 hB9 hz9
  go_wp2_with fail
  refine hr8.mono ?_; rintro e w11 ⟨rfl, hb⟩
  have hB11 := hB10.trans (hb.mono hz10)
  have hix := index14
  go_wp2_with fail
  go_ret
  exact ⟨rfl, hB11⟩

end Go.Proofs.Ythokpdalojfmiaa
