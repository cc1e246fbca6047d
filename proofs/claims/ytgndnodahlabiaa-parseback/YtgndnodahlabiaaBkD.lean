/-
  There and back (layer 10): what is parsed of whole tokens has the tokens of such a tree, and its text is not long. No program is named.
-/
import Derived.Test.YtgndnodahlabiaaBkC
namespace Go.Proofs.Ytgndnodahlabiaa

mutual
def wt : Nd → Nat
  | .mk _ t _ ks => t.length + 20 + wtL ks
def wtL : List Nd → Nat
  | [] => 0
  | n :: r => wt n + wtL r
end
theorem wt_mk (k : Int) (t : List UInt8) (a : Int) (ks : List Nd) : wt (.mk k t a ks) = t.length + 20 + wtL ks := by rw [wt]
theorem wtL0 : wtL [] = 0 := by rw [wtL]
theorem wtL1 (x : Nd) : wtL [x] = wt x := by rw [wtL, wtL]; rfl
theorem wtL2 (x y : Nd) : wtL [x, y] = wt x + wt y := by rw [wtL, wtL1]
theorem wtL3 (x y z : Nd) : wtL [x, y, z] = wt x + (wt y + wt z) := by rw [wtL, wtL2]
theorem wtL_append : ∀ l m, wtL (l ++ m) = wtL l + wtL m
  | [], m => by simp [wtL]
  | n :: r, m => by rw [List.cons_append, wtL, wtL, wtL_append r m, Nat.add_assoc]
/-- What the tokens ahead of a place weigh. -/
def Pw (ts : List Tok) (i : Nat) : Nat := ((ts.take i).map fun x => x.t.length + 20).sum
theorem Pw_step {ts : List Tok} {i : Nat} (h : i < ts.length) : Pw ts (i + 1) = Pw ts i + (ts.getD i tk0).t.length + 20 := by
  unfold Pw
  rw [List.take_add_one, List.map_append, List.sum_append, List.getElem?_eq_getElem h, List.getD_eq_getElem?_getD, List.getElem?_eq_getElem h]
  simp; omega
theorem Pw_le {ts : List Tok} : ∀ {i j : Nat}, i ≤ j → Pw ts i ≤ Pw ts j := by
  intro i j h
  induction h with
  | refl => exact Nat.le_refl _
  | @step j _ ih =>
    by_cases hj : j < ts.length
    · rw [Pw_step hj]; omega
    · unfold Pw at ih ⊢
      have e : ts.take (j + 1) = ts.take j := by rw [List.take_of_length_le (by omega), List.take_of_length_le (by omega)]
      rw [e]; exact ih
theorem Pw_all (ts : List Tok) (i : Nat) : Pw ts i ≤ (ts.map fun x => x.t.length + 20).sum := by
  by_cases h : i ≤ ts.length
  · have := Pw_le (ts := ts) h
    unfold Pw at this ⊢
    rw [List.take_length] at this; exact this
  · unfold Pw
    rw [List.take_of_length_le (by omega)]
    exact Nat.le_refl _
theorem Good.pw {ts : List Tok} {s s' : St} (h : Good ts s s') : Pw ts s.pl ≤ Pw ts s'.pl := Pw_le h.le
theorem next_real {ts : List Tok} {s : St} (h : (nextT ts s).k ≠ 0) : s.pl < ts.length ∧ nextT ts s = ts.getD s.pl tk0 := by
  unfold nextT at h ⊢
  by_cases c : s.er ≠ 0 ∨ s.pl = ts.length
  · rw [if_pos c] at h; exact absurd rfl h
  · rw [if_neg c] at h ⊢
    refine ⟨?_, rfl⟩
    by_cases hl : s.pl < ts.length
    · exact hl
    · rw [List.getD_eq_getElem?_getD, List.getElem?_eq_none (by omega)] at h; exact absurd rfl h
theorem next_pw {ts : List Tok} {s : St} (h : (nextT ts s).k ≠ 0) : Pw ts (s.pl + 1) = Pw ts s.pl + (nextT ts s).t.length + 20 := by
  obtain ⟨h1, h2⟩ := next_real h
  rw [Pw_step h1, h2]
abbrev WT (ts : List Tok) : Prop := ∀ x, x ∈ ts → Whole x.k x.t
theorem next_whole {ts : List Tok} (hW : WT ts) {s : St} (h : (nextT ts s).k ≠ 0) : Whole (nextT ts s).k (nextT ts s).t := by
  obtain ⟨h1, h2⟩ := next_real h
  rw [h2, List.getD_eq_getElem?_getD, List.getElem?_eq_getElem h1]
  exact hW _ (List.getElem_mem h1)
theorem isW_k {ts : List Tok} {q : List UInt8} {s : St} (h : isW ts q s = true) : (nextT ts s).k ≠ 0 ∧ (nextT ts s).t = q := by
  unfold isW at h
  simp only [Bool.and_eq_true, decide_eq_true_eq] at h
  exact ⟨by rw [h.1]; exact kindOf_pos q, h.2⟩
theorem isW_pw {ts : List Tok} {q : List UInt8} {s : St} (h : isW ts q s = true) : Pw ts (s.pl + 1) = Pw ts s.pl + q.length + 20 := by
  obtain ⟨h1, h2⟩ := isW_k h
  rw [next_pw h1, h2]
theorem isNr_k {ts : List Tok} (hW : WT ts) {s : St} (h : isNr ts s = true) : Whole 2 (nextT ts s).t ∧ Pw ts (s.pl + 1) = Pw ts s.pl + (nextT ts s).t.length + 20 := by
  unfold isNr at h
  have h := of_decide_eq_true h
  refine ⟨?_, next_pw (by rw [h]; decide)⟩
  have := next_whole hW (s := s) (by rw [h]; decide)
  rw [h] at this; exact this
theorem isNm_k {ts : List Tok} (hW : WT ts) {s : St} (h : isNm ts s = true) : Whole 1 (nextT ts s).t ∧ wordB (nextT ts s).t = false ∧ Pw ts (s.pl + 1) = Pw ts s.pl + (nextT ts s).t.length + 20 := by
  unfold isNm at h
  simp only [Bool.and_eq_true, decide_eq_true_eq, Bool.not_eq_true'] at h
  refine ⟨?_, h.2, next_pw (by rw [h.1]; decide)⟩
  have := next_whole hW (s := s) (by rw [h.1]; decide)
  rw [h.1] at this; exact this
theorem want_pw {ts : List Tok} {q : List UInt8} {s : St} (h : (wantS ts q s).er = 0) : Pw ts (wantS ts q s).pl = Pw ts s.pl + q.length + 20 := by
  unfold wantS at h ⊢
  split
  · rename_i c; exact isW_pw c
  · rename_i c; rw [if_neg c] at h; exact absurd h (fail_er (by decide) s)
theorem name_k {ts : List Tok} (hW : WT ts) {s : St} (h : (nameS ts s).2.er = 0) : Whole 1 (nameS ts s).1 ∧ wordB (nameS ts s).1 = false ∧ Pw ts (nameS ts s).2.pl = Pw ts s.pl + (nameS ts s).1.length + 20 := by
  unfold nameS at h ⊢
  split
  · rename_i c; exact isNm_k hW c
  · rename_i c; rw [if_neg c] at h; exact absurd h (fail_er (by decide) s)
theorem num_k {ts : List Tok} (hW : WT ts) {s : St} (h : (numS ts s).2.er = 0) : Whole 2 (numS ts s).1 ∧ Pw ts (numS ts s).2.pl = Pw ts s.pl + (numS ts s).1.length + 20 := by
  unfold numS at h ⊢
  split
  · rename_i c; exact isNr_k hW c
  · rename_i c; rw [if_neg c] at h; exact absurd h (fail_er (by decide) s)
/-- What is parsed is of a class, and no heavier than what it is parsed of. -/
def Y (ts : List Tok) (C : Nd → List Tk → Prop) (w : Pa) : Prop := ∀ s, (w s).2.er = 0 → (∃ l, C (w s).1 l) ∧ wt (w s).1 + Pw ts s.pl ≤ Pw ts (w s).2.pl
theorem pick {C : Nd → List Tk → Prop} {ks : List Nd} (h : ∀ n, n ∈ ks → ∃ l, C n l) : ∃ f : Nd → List Tk, ∀ n, n ∈ ks → C n (f n) := by
  classical
  refine ⟨fun n => if h : ∃ l, C n l then Classical.choose h else [], fun n hn => ?_⟩
  have := h n hn
  simp only [dif_pos this]
  exact Classical.choose_spec this
theorem more_y {ts : List Tok} {C : Nd → List Tk → Prop} {w : Pa} (hg : GoodP ts w) (hy : Y ts C w) : ∀ n l s, (moreS ts w n l s).2.er = 0 → (∀ x, x ∈ l → ∃ t, C x t) → l ≠ [] →
    (∀ x, x ∈ (moreS ts w n l s).1 → ∃ t, C x t) ∧ (moreS ts w n l s).1 ≠ [] ∧ wtL (moreS ts w n l s).1 + Pw ts s.pl ≤ wtL l + Pw ts (moreS ts w n l s).2.pl
  | 0, l, s, _, hl, hn => by rw [moreS]; exact ⟨hl, hn, Nat.le_refl _⟩
  | n + 1, l, s, h, hl, hn => by
    rw [moreS] at h ⊢
    split
    · rename_i c
      rw [if_pos c] at h
      have h2 := hy (adv s) ((good_more hg n _ _).on h)
      obtain ⟨h3, h4, h5⟩ := more_y hg hy n _ _ h (fun x hx => by
        rcases List.mem_append.1 hx with hx | hx
        · exact hl x hx
        · simp only [List.mem_singleton] at hx; rw [hx]; exact h2.1) (by simp)
      refine ⟨h3, h4, ?_⟩
      have h6 := isW_pw c
      rw [wtL_append, wtL1] at h5
      have h7 := h2.2
      rw [adv_pl] at h7
      omega
    · exact ⟨hl, hn, Nat.le_refl _⟩
theorem some_y {ts : List Tok} {C : Nd → List Tk → Prop} {w : Pa} (hg : GoodP ts w) (hy : Y ts C w) (q : List UInt8) (s : St) (h : (someS ts w q s).2.er = 0) :
    (∀ x, x ∈ (someS ts w q s).1 → ∃ t, C x t) ∧ (someS ts w q s).1 ≠ [] ∧ wtL (someS ts w q s).1 + Pw ts s.pl ≤ Pw ts (someS ts w q s).2.pl := by
  unfold someS at h ⊢
  simp only at h ⊢
  have h0 := (good_want ts q _).on h
  have h1 := hy s ((good_more hg _ _ _).on h0)
  obtain ⟨h3, h4, h5⟩ := more_y hg hy _ _ _ h0 (fun x hx => by simp only [List.mem_singleton] at hx; rw [hx]; exact h1.1) (by simp)
  refine ⟨h3, h4, ?_⟩
  have h6 := want_pw h
  rw [wtL1] at h5
  have := h1.2
  omega
theorem list_y {ts : List Tok} {C : Nd → List Tk → Prop} {w : Pa} (hg : GoodP ts w) (hy : Y ts C w) (q : List UInt8) (s : St) (h : (listS ts w q s).2.er = 0) :
    (∀ x, x ∈ (listS ts w q s).1 → ∃ t, C x t) ∧ wtL (listS ts w q s).1 + Pw ts s.pl ≤ Pw ts (listS ts w q s).2.pl := by
  unfold listS at h ⊢
  split
  · rename_i c
    refine ⟨(fun x hx => by cases hx), ?_⟩
    have := isW_pw c
    show wtL [] + Pw ts s.pl ≤ Pw ts (s.pl + 1)
    rw [wtL0]; omega
  · rename_i c
    rw [if_neg c] at h
    have := some_y hg hy q s h
    exact ⟨this.1, this.2.2⟩
theorem loopJ_y {ts : List Tok} {w : Pa} (hg : GoodP ts w) (hy : Y ts ShX w) (sgs : List (List UInt8)) (hs : ∀ q, q ∈ sgs → q ∈ binL) : ∀ n x s, (loopJ ts w sgs n x s).2.er = 0 → (∃ l, ShX x l) →
    (∃ l, ShX (loopJ ts w sgs n x s).1 l) ∧ wt (loopJ ts w sgs n x s).1 + Pw ts s.pl ≤ wt x + Pw ts (loopJ ts w sgs n x s).2.pl
  | 0, x, s, _, hx => by rw [loopJ]; exact ⟨hx, Nat.le_refl _⟩
  | n + 1, x, s, h, hx => by
    rw [loopJ] at h ⊢
    split
    · rename_i c
      rw [if_pos c] at h
      have h2 := hy (adv s) ((good_loopJ hg sgs n _ _).on h)
      obtain ⟨lx, hlx⟩ := hx
      obtain ⟨ly, hly⟩ := h2.1
      unfold anyW at c
      obtain ⟨q, hq, c⟩ := List.any_eq_true.1 c
      have h7 := isW_pw c
      have h6 := (isW_k c).2
      obtain ⟨h3, h4⟩ := loopJ_y hg hy sgs hs n _ _ h ⟨_, .bin _ (by rw [h6]; exact hs q hq) hlx hly⟩
      refine ⟨h3, ?_⟩
      rw [wt_mk, wtL2] at h4
      have h9 : (nextT ts s).t.length = q.length := by rw [h6]
      have h8 := h2.2
      rw [adv_pl] at h8
      omega
    · exact ⟨hx, Nat.le_refl _⟩
theorem join_y {ts : List Tok} {w : Pa} (hg : GoodP ts w) (hy : Y ts ShX w) (sgs : List (List UInt8)) (hs : ∀ q, q ∈ sgs → q ∈ binL) : Y ts ShX (joinS ts w sgs) := fun s h => by
  unfold joinS at h ⊢
  have h2 := hy s ((good_loopJ hg sgs _ _ _).on h)
  obtain ⟨h3, h4⟩ := loopJ_y hg hy sgs hs _ _ _ h h2.1
  refine ⟨h3, ?_⟩
  have := h2.2
  omega
structure YV (ts : List Tok) (v : Lv) : Prop where
  t : Y ts ShT v.t
  e : Y ts ShX v.e
  o : Y ts ShX v.o
  s : Y ts (ShS false) v.s
theorem typ_y {ts : List Tok} (hW : WT ts) {v : Lv} (hg : GoodV ts v) (hy : YV ts v) : Y ts ShT (typF ts v) := fun s h => by
  unfold typF at h ⊢
  simp only at h ⊢
  split
  · rename_i c1
    have := isW_pw c1
    refine ⟨⟨_, .int _⟩, ?_⟩
    rw [wt_mk, wtL0, adv_pl]; simp only [List.length_nil, List.length_cons] at *; omega
  · rename_i c1
    rw [if_neg c1] at h
    split
    · rename_i c2
      rw [if_pos c2] at h
      have h1 := hy.t _ h
      have := isW_pw c2
      obtain ⟨l, hl⟩ := h1.1
      refine ⟨⟨_, .ptr _ hl⟩, ?_⟩
      have h2 := h1.2
      rw [adv_pl] at h2
      simp only
      rw [wt_mk, wtL1]; simp only [List.length_nil, List.length_cons] at *; omega
    · rename_i c2
      rw [if_neg c2] at h
      split
      · rename_i c3
        rw [if_pos c3] at h
        have h1 := hy.t _ h
        have e1 := (hg.t _).on h
        have h3 := want_pw e1
        have e2 := (good_want ts [93] _).on e1
        have h4 := num_k hW e2
        have := isW_pw c3
        obtain ⟨l, hl⟩ := h1.1
        refine ⟨⟨_, .arr _ h4.1 hl⟩, ?_⟩
        have h2 := h1.2
        have h5 := h4.2
        rw [adv_pl] at h5
        simp only
        rw [wt_mk, wtL1]; simp only [List.length_nil, List.length_cons] at *; omega
      · rename_i c3
        rw [if_neg c3] at h
        split
        · rename_i c4
          rw [if_pos c4] at h
          obtain ⟨h1, h2, h3⟩ := some_y hg.t hy.t _ _ h
          have := isW_pw c4
          obtain ⟨f, hf⟩ := pick h1
          refine ⟨⟨_, .tup _ f h2 hf⟩, ?_⟩
          rw [adv_pl] at h3
          simp only
          rw [wt_mk]; simp only [List.length_nil, List.length_cons] at *; omega
        · rename_i c4
          rw [if_neg c4] at h
          exact absurd h (fail_er (by decide) s)
theorem prim_y {ts : List Tok} (hW : WT ts) {v : Lv} (hg : GoodV ts v) (hy : YV ts v) : Y ts ShX (primF ts v) := fun s h => by
  unfold primF at h ⊢
  simp only at h ⊢
  split
  · rename_i c1
    have := isNr_k hW c1
    refine ⟨⟨_, .num _ this.1⟩, ?_⟩
    have := this.2
    rw [wt_mk, wtL0, adv_pl]; omega
  · rename_i c1
    rw [if_neg c1] at h
    split
    · rename_i c2
      rw [if_pos c2] at h
      obtain ⟨k1, k2, k3⟩ := isNm_k hW c2
      split
      · rename_i c3
        rw [if_pos c3] at h
        obtain ⟨h1, h3⟩ := list_y hg.e hy.e _ _ h
        have := isW_pw c3
        obtain ⟨f, hf⟩ := pick h1
        refine ⟨⟨_, .call _ f k1 k2 hf⟩, ?_⟩
        rw [adv_pl] at this
        rw [adv_pl, adv_pl] at h3
        simp only
        rw [wt_mk]; simp only [List.length_nil, List.length_cons] at *; omega
      · refine ⟨⟨_, .use _ k1 k2⟩, ?_⟩
        rw [wt_mk, wtL0, adv_pl]; omega
    · rename_i c2
      rw [if_neg c2] at h
      split
      · rename_i c3
        rw [if_pos c3] at h
        have h0 := (good_want ts [41] _).on h
        have h1 := hy.t _ h0
        have h2 := want_pw h
        have h3 := want_pw ((hg.t _).on h0)
        have := isW_pw c3
        obtain ⟨l, hl⟩ := h1.1
        refine ⟨⟨_, .new _ hl⟩, ?_⟩
        have h4 := h1.2
        rw [adv_pl] at h3
        simp only
        rw [wt_mk, wtL1]; simp only [List.length_nil, List.length_cons] at *; omega
      · rename_i c3
        rw [if_neg c3] at h
        split
        · rename_i c4
          have := isW_pw c4
          refine ⟨⟨_, .read _⟩, ?_⟩
          rw [wt_mk, wtL0, adv_pl]; simp only [List.length_nil, List.length_cons] at *; omega
        · rename_i c4
          rw [if_neg c4] at h
          split
          · rename_i c5
            rw [if_pos c5] at h
            have h0 := (good_want ts [41] _).on h
            have h1 := hy.e _ h0
            have h2 := want_pw h
            have := isW_pw c5
            refine ⟨h1.1, ?_⟩
            have h4 := h1.2
            rw [adv_pl] at h4
            simp only
            simp only [List.length_nil, List.length_cons] at *; omega
          · rename_i c5
            rw [if_neg c5] at h
            exact absurd h (fail_er (by decide) s)
theorem loopP_y {ts : List Tok} (hW : WT ts) {v : Lv} (hg : GoodV ts v) (hy : YV ts v) : ∀ n x s, (loopP ts v n x s).2.er = 0 → (∃ l, ShX x l) →
    (∃ l, ShX (loopP ts v n x s).1 l) ∧ wt (loopP ts v n x s).1 + Pw ts s.pl ≤ wt x + Pw ts (loopP ts v n x s).2.pl
  | 0, _, _, _, hx => by rw [loopP]; exact ⟨hx, Nat.le_refl _⟩
  | n + 1, x, s, h, hx => by
    rw [loopP] at h ⊢
    obtain ⟨lx, hlx⟩ := hx
    split
    · rename_i c
      rw [if_pos c] at h
      have h0 := (good_loopP hg n _ _).on h
      have h2 := hy.e (adv s) ((good_want ts [93] _).on h0)
      have h3 := want_pw h0
      have := isW_pw c
      obtain ⟨ly, hly⟩ := h2.1
      obtain ⟨h5, h6⟩ := loopP_y hW hg hy n _ _ h ⟨_, .idx _ hlx hly⟩
      refine ⟨h5, ?_⟩
      rw [wt_mk, wtL2] at h6
      have h7 := h2.2
      rw [adv_pl] at h7
      simp only [List.length_nil, List.length_cons] at *; omega
    · rename_i c
      rw [if_neg c] at h
      split
      · rename_i c2
        rw [if_pos c2] at h
        have h0 := (good_loopP hg n _ _).on h
        obtain ⟨h3, h4⟩ := num_k hW h0
        have := isW_pw c2
        obtain ⟨h5, h6⟩ := loopP_y hW hg hy n _ _ h ⟨_, .fld _ h3 hlx⟩
        refine ⟨h5, ?_⟩
        rw [wt_mk, wtL1] at h6
        rw [adv_pl] at h4
        simp only [List.length_nil, List.length_cons] at *; omega
      · exact ⟨⟨lx, hlx⟩, Nat.le_refl _⟩
theorem part_y {ts : List Tok} (hW : WT ts) {v : Lv} (hg : GoodV ts v) (hy : YV ts v) : Y ts ShX (partF ts v) := fun s h => by
  unfold partF at h ⊢
  have h2 := prim_y hW hg hy s ((good_loopP hg _ _ _).on h)
  obtain ⟨h3, h4⟩ := loopP_y hW hg hy _ _ _ h h2.1
  refine ⟨h3, ?_⟩
  have := h2.2
  omega
theorem oper_y {ts : List Tok} (hW : WT ts) {v : Lv} (hg : GoodV ts v) (hy : YV ts v) : Y ts ShX (operF ts v) := fun s h => by
  unfold operF at h ⊢
  simp only at h ⊢
  have key : ∀ (k : Int) (q : List UInt8) (a : Int), (k = 20 ∧ q = [45] ∨ k = 21 ∧ q = [42] ∨ k = 22 ∧ q = [38]) → isW ts q s = true → (v.o (adv s)).2.er = 0 →
      (∃ l, ShX (.mk k [] a [(v.o (adv s)).1]) l) ∧ wt (.mk k [] a [(v.o (adv s)).1]) + Pw ts s.pl ≤ Pw ts (v.o (adv s)).2.pl := fun k q a hk c h => by
    have h1 := hy.o _ h
    have := isW_pw c
    obtain ⟨l, hl⟩ := h1.1
    refine ⟨⟨_, .un _ k q hk hl⟩, ?_⟩
    have h2 := h1.2
    rw [adv_pl] at h2
    rw [wt_mk, wtL1]
    simp only [List.length_nil]
    omega
  split
  · rename_i c1
    rw [if_pos c1] at h
    exact key 20 [45] _ (by simp) c1 h
  · rename_i c1
    rw [if_neg c1] at h
    split
    · rename_i c2
      rw [if_pos c2] at h
      exact key 21 [42] _ (by simp) c2 h
    · rename_i c2
      rw [if_neg c2] at h
      split
      · rename_i c3
        rw [if_pos c3] at h
        exact key 22 [38] _ (by simp) c3 h
      · rename_i c3
        rw [if_neg c3] at h
        exact part_y hW hg hy s h
theorem expr_y {ts : List Tok} (hW : WT ts) {v : Lv} (hg : GoodV ts v) (hy : YV ts v) : Y ts ShX (exprF ts v) :=
  join_y (good_sum hg) (join_y (good_prod hg) (join_y (good_oper hg) (oper_y hW hg hy) _ (by decide)) _ (by decide)) _ (by decide)
theorem loopB_y {ts : List Tok} {v : Lv} (hg : GoodV ts v) (hy : YV ts v) : ∀ n l s, (loopB ts v n l s).2.er = 0 → (∀ x, x ∈ l → ∃ t, ShS false x t) →
    (∀ x, x ∈ (loopB ts v n l s).1 → ∃ t, ShS false x t) ∧ wtL (loopB ts v n l s).1 + Pw ts s.pl ≤ wtL l + Pw ts (loopB ts v n l s).2.pl
  | 0, l, s, _, hl => by rw [loopB]; exact ⟨hl, Nat.le_refl _⟩
  | n + 1, l, s, h, hl => by
    rw [loopB] at h ⊢
    split
    · rename_i c
      rw [if_pos c] at h
      split
      · rename_i c2
        have := isW_pw c2
        refine ⟨hl, ?_⟩
        show wtL l + Pw ts s.pl ≤ wtL l + Pw ts (s.pl + 1)
        omega
      · rename_i c2
        rw [if_neg c2] at h
        have h2 := hy.s _ ((good_loopB hg n _ _).on h)
        obtain ⟨h3, h4⟩ := loopB_y hg hy n _ _ h (fun x hx => by
          rcases List.mem_append.1 hx with hx | hx
          · exact hl x hx
          · simp only [List.mem_singleton] at hx; rw [hx]; exact h2.1)
        refine ⟨h3, ?_⟩
        have := h2.2
        rw [wtL_append, wtL1] at h4
        omega
    · exact ⟨hl, Nat.le_refl _⟩
theorem block_y {ts : List Tok} {v : Lv} (hg : GoodV ts v) (hy : YV ts v) : Y ts (ShS true) (blockF ts v) := fun s h => by
  unfold blockF at h ⊢
  simp only at h ⊢
  obtain ⟨h1, h3⟩ := loopB_y hg hy _ _ _ h (fun x hx => by cases hx)
  have h2 := want_pw ((good_loopB hg _ _ _).on h)
  obtain ⟨f, hf⟩ := pick h1
  refine ⟨⟨_, .block _ f hf⟩, ?_⟩
  rw [wtL0] at h3
  rw [wt_mk]; simp only [List.length_nil, List.length_cons] at *; omega
/-- What a line ahead of its ";" is. -/
def LineOk (n : Nd) : Prop := ∃ l, ShS false n (l ++ [sg [59]])
theorem line_y {ts : List Tok} (hW : WT ts) {v : Lv} (hg : GoodV ts v) (hy : YV ts v) (s : St) (h : (wantS ts [59] (lineF ts v s).2).er = 0) : LineOk (lineF ts v s).1 ∧ wt (lineF ts v s).1 + Pw ts s.pl ≤ Pw ts (wantS ts [59] (lineF ts v s).2).pl := by
  have hw := want_pw h
  have h := (good_want ts [59] _).on h
  revert hw
  generalize hZ : Pw ts (wantS ts [59] (lineF ts v s).2).pl = Z
  clear hZ
  unfold lineF at h ⊢
  simp only at h ⊢
  split
  · rename_i c1
    rw [if_pos c1] at h
    intro hw
    have h1 := hy.t _ h
    obtain ⟨k1, k2, k3⟩ := name_k hW ((hg.t _).on h)
    have := isW_pw c1
    obtain ⟨l, hl⟩ := h1.1
    refine ⟨⟨sg [118, 97, 114] :: (1, (nameS ts (adv s)).1) :: l, .var _ k1 k2 hl⟩, ?_⟩
    have h2 := h1.2
    rw [adv_pl] at k3
    simp only at hw ⊢
    rw [wt_mk, wtL1]; simp only [List.length_nil, List.length_cons] at *; omega
  · rename_i c1
    rw [if_neg c1] at h
    split
    · rename_i c2
      rw [if_pos c2] at h
      have := isW_pw c2
      split
      · intro hw
        refine ⟨⟨[sg [114, 101, 116, 117, 114, 110]], .ret _⟩, ?_⟩
        rw [adv_pl] at hw
        rw [wt_mk, wtL0]; simp only [List.length_nil, List.length_cons] at *; omega
      · rename_i c3
        intro hw
        rw [if_neg c3] at h
        have h1 := hy.e _ h
        obtain ⟨l, hl⟩ := h1.1
        refine ⟨⟨sg [114, 101, 116, 117, 114, 110] :: l, .retx _ hl⟩, ?_⟩
        have h2 := h1.2
        rw [adv_pl] at h2
        simp only at hw ⊢
        rw [wt_mk, wtL1]; simp only [List.length_nil, List.length_cons] at *; omega
    · rename_i c2
      rw [if_neg c2] at h
      split
      · rename_i c3
        rw [if_pos c3] at h
        intro hw
        have := isW_pw c3
        have h1 := hy.e _ h
        obtain ⟨l, hl⟩ := h1.1
        refine ⟨⟨sg [112, 114, 105, 110, 116] :: l, .prt _ hl⟩, ?_⟩
        have h2 := h1.2
        rw [adv_pl] at h2
        simp only at hw ⊢
        rw [wt_mk, wtL1]; simp only [List.length_nil, List.length_cons] at *; omega
      · rename_i c3
        rw [if_neg c3] at h
        split
        · rename_i c4
          rw [if_pos c4] at h
          intro hw
          have h1 := hy.e _ h
          obtain ⟨l, hl⟩ := h1.1
          refine ⟨⟨l, .do_ _ hl c4.1⟩, ?_⟩
          have h2 := h1.2
          simp only at hw ⊢
          rw [wt_mk, wtL1]; simp only [List.length_nil, List.length_cons] at *; omega
        · rename_i c4
          rw [if_neg c4] at h
          intro hw
          have h1 := hy.e _ h
          have e1 := (hg.e _).on h
          have h3 := want_pw e1
          have h4 := hy.e _ ((good_want ts [61] _).on e1)
          obtain ⟨l, hl⟩ := h4.1
          obtain ⟨m, hm⟩ := h1.1
          refine ⟨⟨l ++ sg [61] :: m, by rw [List.append_assoc]; exact .set _ hl hm⟩, ?_⟩
          have h5 := h1.2
          have h6 := h4.2
          simp only at hw ⊢
          rw [wt_mk, wtL2]; simp only [List.length_nil, List.length_cons] at *; omega
theorem stmt_y {ts : List Tok} (hW : WT ts) {v : Lv} (hg : GoodV ts v) (hy : YV ts v) : Y ts (ShS false) (stmtF ts v) := fun s h => by
  unfold stmtF at h ⊢
  simp only at h ⊢
  split
  · rename_i c1
    rw [if_pos c1] at h
    have := isW_pw c1
    split
    · rename_i c2
      rw [if_pos c2] at h
      have h1 := block_y hg hy _ h
      have := isW_pw c2
      have h0 := (good_block hg _).on h
      have h2 := block_y hg hy (v.e (adv s)).2 h0
      have h3 := hy.e _ ((good_block hg _).on h0)
      obtain ⟨l, hl⟩ := h3.1
      obtain ⟨m, hm⟩ := h2.1
      obtain ⟨o, ho⟩ := h1.1
      refine ⟨⟨_, .ite2 _ hl hm ho⟩, ?_⟩
      have e1 := h1.2
      have e2 := h2.2
      have e3 := h3.2
      rw [adv_pl] at e3 e1
      simp only
      rw [wt_mk, wtL3]; simp only [List.length_nil, List.length_cons] at *; omega
    · rename_i c2
      rw [if_neg c2] at h
      have h2 := block_y hg hy (v.e (adv s)).2 h
      have h3 := hy.e _ ((good_block hg _).on h)
      obtain ⟨l, hl⟩ := h3.1
      obtain ⟨m, hm⟩ := h2.1
      refine ⟨⟨_, .ite _ hl hm⟩, ?_⟩
      have e2 := h2.2
      have e3 := h3.2
      rw [adv_pl] at e3
      simp only
      rw [wt_mk, wtL2]; simp only [List.length_nil, List.length_cons] at *; omega
  · rename_i c1
    rw [if_neg c1] at h
    split
    · rename_i c2
      rw [if_pos c2] at h
      have := isW_pw c2
      have h2 := block_y hg hy (v.e (adv s)).2 h
      have h3 := hy.e _ ((good_block hg _).on h)
      obtain ⟨l, hl⟩ := h3.1
      obtain ⟨m, hm⟩ := h2.1
      refine ⟨⟨_, .for_ _ hl hm⟩, ?_⟩
      have e2 := h2.2
      have e3 := h3.2
      rw [adv_pl] at e3
      simp only
      rw [wt_mk, wtL2]; simp only [List.length_nil, List.length_cons] at *; omega
    · rename_i c2
      rw [if_neg c2] at h
      obtain ⟨⟨l, hl⟩, h2⟩ := line_y hW hg hy s h
      exact ⟨⟨_, hl⟩, h2⟩
theorem deep_y (ts : List Tok) (C : Nd → List Tk → Prop) : Y ts C tooDeep := fun s h => absurd h (fail_er (by decide) s)
theorem lv_y {ts : List Tok} (hW : WT ts) : ∀ r, YV ts (lv ts r)
  | 0 => ⟨deep_y _ _, deep_y _ _, deep_y _ _, deep_y _ _⟩
  | r + 1 => ⟨typ_y hW (good_lv ts r) (lv_y hW r), expr_y hW (good_lv ts r) (lv_y hW r), oper_y hW (good_lv ts r) (lv_y hW r), stmt_y hW (good_lv ts r) (lv_y hW r)⟩
theorem param_y {ts : List Tok} (hW : WT ts) {v : Lv} (hg : GoodV ts v) (hy : YV ts v) : Y ts ShP (paramF ts v) := fun s h => by
  unfold paramF at h ⊢
  simp only at h ⊢
  have h1 := hy.t _ h
  obtain ⟨k1, k2, k3⟩ := name_k hW ((hg.t _).on h)
  obtain ⟨l, hl⟩ := h1.1
  refine ⟨⟨_, .mk _ k1 k2 hl⟩, ?_⟩
  have := h1.2
  rw [wt_mk, wtL1]; omega
theorem result_y {ts : List Tok} {v : Lv} (hy : YV ts v) (s : St) (h : (resultF ts v s).2.er = 0) : (∃ l, ShR (resultF ts v s).1 l) ∧ wt (resultF ts v s).1 + Pw ts s.pl ≤ Pw ts (resultF ts v s).2.pl + 20 := by
  unfold resultF at h ⊢
  split
  · refine ⟨⟨_, .void _⟩, ?_⟩
    rw [wt_mk, wtL0]; simp only [List.length_nil]; omega
  · rename_i c
    rw [if_neg c] at h
    have := hy.t _ h
    obtain ⟨l, hl⟩ := this.1
    exact ⟨⟨_, .typ hl⟩, by have := this.2; omega⟩
theorem func_y {ts : List Tok} (hW : WT ts) {v : Lv} (hg : GoodV ts v) (hy : YV ts v) : Y ts ShF (funcF ts v) := fun s h => by
  unfold funcF at h ⊢
  simp only at h ⊢
  have h5 := block_y hg hy _ h
  have e4 := (good_block hg _).on h
  have h4 := result_y hy _ e4
  have e3 := (good_result hg _).on e4
  have h3 := list_y (good_param hg) (param_y hW hg hy) _ _ e3
  have e2 := (good_list (good_param hg) _ _).on e3
  have h2 := want_pw e2
  have e1 := (good_want ts _ _).on e2
  obtain ⟨k1, k2, k3⟩ := name_k hW e1
  have e0 := (good_name ts _).on e1
  have h0 := want_pw e0
  obtain ⟨f, hf⟩ := pick h3.1
  obtain ⟨rl, hr⟩ := h4.1
  obtain ⟨bl, hb⟩ := h5.1
  refine ⟨⟨_, .mk _ f k1 k2 hf hr hb⟩, ?_⟩
  have q5 := h5.2
  have q4 := h4.2
  have q3 := h3.2
  rw [wt_mk, wtL_append, wtL2]
  simp only [List.length_nil, List.length_cons] at *
  omega
theorem loopG_y {ts : List Tok} (hW : WT ts) {v : Lv} (hg : GoodV ts v) (hy : YV ts v) : ∀ n l s, (loopG ts v n l s).2.er = 0 → (∀ x, x ∈ l → ∃ t, ShF x t) →
    (∀ x, x ∈ (loopG ts v n l s).1 → ∃ t, ShF x t) ∧ wtL (loopG ts v n l s).1 + Pw ts s.pl ≤ wtL l + Pw ts (loopG ts v n l s).2.pl
  | 0, _, _, _, hl => by rw [loopG]; exact ⟨hl, Nat.le_refl _⟩
  | n + 1, l, s, h, hl => by
    rw [loopG] at h ⊢
    split
    · rename_i c
      rw [if_pos c] at h
      have h2 := func_y hW hg hy _ ((good_loopG hg n _ _).on h)
      obtain ⟨h3, h4⟩ := loopG_y hW hg hy n _ _ h (fun x hx => by
        rcases List.mem_append.1 hx with hx | hx
        · exact hl x hx
        · simp only [List.mem_singleton] at hx; rw [hx]; exact h2.1)
      refine ⟨h3, ?_⟩
      have := h2.2
      rw [wtL_append, wtL1] at h4
      omega
    · exact ⟨hl, Nat.le_refl _⟩
theorem prog_y {ts : List Tok} (hW : WT ts) (h : (progS ts).2.er = 0) : (∀ x, x ∈ (progS ts).1 → ∃ t, ShF x t) ∧ wtL (progS ts).1 ≤ (ts.map fun x => x.t.length + 20).sum := by
  have := loopG_y hW (good_lv ts 100) (lv_y hW 100) _ _ _ h (fun x hx => by cases hx)
  refine ⟨this.1, ?_⟩
  have h2 := this.2
  have h3 := Pw_all ts (progS ts).2.pl
  have h2 : wtL (progS ts).1 + Pw ts 0 ≤ wtL [] + Pw ts (progS ts).2.pl := h2
  rw [wtL0] at h2
  omega

end Go.Proofs.Ytgndnodahlabiaa
