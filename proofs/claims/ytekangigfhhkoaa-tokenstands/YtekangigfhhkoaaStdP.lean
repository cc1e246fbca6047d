/-
  Where tokens stand, what they are, and what stands between (layer 9), as rows of bytes. No function of the program is named.
-/
import Derived.Test.YtekangigfhhkoaaPur
namespace Go.Proofs.Ytekangigfhhkoaa

def head47 : List UInt8 → Bool
  | c :: _ => decide (c.toNat = 47)
  | [] => false
/-- Whether one is in a row behind a byte. -/
def rowN (row : Bool) (c : UInt8) (l : List UInt8) : Bool := (row && !decide (c.toNat = 10)) || (decide (c.toNat = 47) && head47 l)
/-- Blanks and // rows alone. -/
def gapL : Bool → List UInt8 → Bool
  | _, [] => true
  | row, c :: l => (rowN row c l || blank c) && gapL (rowN row c l) l
theorem cnt_all (p : UInt8 → Bool) : ∀ (l : List UInt8), ∀ c ∈ l.take (cnt p l), p c = true
  | [], c, h => by simp [cnt] at h
  | a :: t, c, h => by
    by_cases ha : p a = true
    · have e : cnt p (a :: t) = cnt p t + 1 := by rw [cnt, if_pos ha]
      rw [e, List.take_succ_cons] at h
      rcases List.mem_cons.1 h with rfl | h
      · exact ha
      · exact cnt_all p t c h
    · have e : cnt p (a :: t) = 0 := by rw [cnt, if_neg ha]
      rw [e] at h; simp at h
theorem gap_row : ∀ (x y : List UInt8), (∀ c ∈ x, c.toNat ≠ 10) → gapL true (x ++ y) = gapL true y
  | [], y, _ => rfl
  | c :: x, y, h => by
    have hc := h c (by simp)
    have hr : rowN true c (x ++ y) = true := by simp [rowN, hc]
    show ((rowN true c (x ++ y) || blank c) && gapL (rowN true c (x ++ y)) (x ++ y)) = _
    rw [hr, Bool.true_or, Bool.true_and]
    exact gap_row x y (fun d hd => h d (List.mem_cons_of_mem _ hd))
theorem gap_end (y : List UInt8) (h : ∀ c t, y = c :: t → c.toNat = 10) : gapL true y = gapL false y := by
  cases y with
  | nil => rfl
  | cons c t =>
    have hc := h c t rfl
    have e : rowN true c t = rowN false c t := by simp [rowN, hc]
    show ((rowN true c t || blank c) && gapL (rowN true c t) t) = ((rowN false c t || blank c) && gapL (rowN false c t) t)
    rw [e]
theorem gap_betw : ∀ (n : Nat) (l : List UInt8), l.length ≤ n → gapL false (l.take (betw l)) = true
  | n, [], _ => by simp [gapL]
  | 0, c :: t, h => by simp at h
  | n + 1, c :: r, h => by
    by_cases hb : blank c = true
    · rw [betw_blank hb, List.take_succ_cons]
      have h47 : c.toNat ≠ 47 := by
        simp [blank] at hb
        omega
      have hr : rowN false c (r.take (betw r)) = false := by simp [rowN, h47]
      show ((rowN false c (r.take (betw r)) || blank c) && gapL (rowN false c (r.take (betw r))) (r.take (betw r))) = true
      rw [hr, hb, Bool.or_true, Bool.true_and]
      exact gap_betw n r (by simpa using h)
    · by_cases hs : sl (c :: r) = true
      · have h2 := sl_row hs
        have h3 := cnt_le ofRow (c :: r)
        have hb2 := betw_le _ ((c :: r).drop (cnt ofRow (c :: r))) (Nat.le_refl _)
        rw [betw_row hs]
        have hsplit : (c :: r).take (cnt ofRow (c :: r) + betw ((c :: r).drop (cnt ofRow (c :: r)))) = (c :: r).take (cnt ofRow (c :: r)) ++ ((c :: r).drop (cnt ofRow (c :: r))).take (betw ((c :: r).drop (cnt ofRow (c :: r)))) := List.take_add
        rw [hsplit]
        have hall := cnt_all ofRow (c :: r)
        have hnext : ∀ d t, ((c :: r).drop (cnt ofRow (c :: r))).take (betw ((c :: r).drop (cnt ofRow (c :: r)))) = d :: t → d.toNat = 10 := by
          intro d t hd
          by_cases hl : cnt ofRow (c :: r) < (c :: r).length
          · have hno := cnt_no ofRow (c :: r) hl
            rw [List.drop_eq_getElem_cons hl] at hd
            generalize (c :: r)[cnt ofRow (c :: r)]'hl = e at *
            cases hbw : betw (e :: (c :: r).drop (cnt ofRow (c :: r) + 1)) with
            | zero => rw [hbw] at hd; simp at hd
            | succ m =>
              rw [hbw, List.take_succ_cons] at hd
              injection hd with hd _
              subst hd
              simpa [ofRow] using hno
          · rw [List.drop_of_length_le (by omega)] at hd; simp at hd
        have hy := gap_end _ hnext
        have ih := gap_betw n ((c :: r).drop (cnt ofRow (c :: r))) (by rw [List.length_drop]; simp at h ⊢; omega)
        generalize hY : ((c :: r).drop (cnt ofRow (c :: r))).take (betw ((c :: r).drop (cnt ofRow (c :: r)))) = y at *
        obtain ⟨k, hk⟩ : ∃ k, cnt ofRow (c :: r) = k + 2 := ⟨cnt ofRow (c :: r) - 2, by omega⟩
        rw [hk] at hall ⊢
        match r, hs with
        | b :: u, hs =>
          simp [sl] at hs
          simp only [List.take_succ_cons, List.cons_append] at hall ⊢
          have hr : rowN false c (b :: (u.take k ++ y)) = true := by simp [rowN, head47, hs.1, hs.2]
          show ((rowN false c (b :: (u.take k ++ y)) || blank c) && gapL (rowN false c (b :: (u.take k ++ y))) (b :: (u.take k ++ y))) = true
          rw [hr, Bool.true_or, Bool.true_and]
          have := gap_row (b :: u.take k) y (fun d hd => by
            have := hall d (List.mem_cons_of_mem _ hd)
            simpa [ofRow] using this)
          rw [List.cons_append] at this
          rw [this, hy]
          exact ih
      · rw [betw_none (by simpa using hb) (by simpa using hs)]
        simp [gapL]

/-- The next token, told of the text. -/
theorem restL_step (s : List UInt8) (e : Nat) {x : Tok} {r : List Tok} {o : Option Nat} (he : e ≤ s.length) (h : restL e (s.drop e) = (x :: r, o)) :
    x.a = e + betw (s.drop e) ∧ e ≤ x.a ∧ 1 ≤ x.t.length ∧ x.a + x.t.length ≤ s.length ∧ x.t = (s.drop x.a).take x.t.length ∧ Whole x.k x.t ∧ restL (x.a + x.t.length) (s.drop (x.a + x.t.length)) = (r, o) := by
  have hb := betw_le _ (s.drop e) (Nat.le_refl _)
  rw [List.length_drop] at hb
  unfold restL at h
  rw [drop_sub] at h
  generalize hp : e + betw (s.drop e) = p at *
  have hps : p ≤ s.length := by omega
  by_cases hz : (first (s.drop p)).2 = 0
  · exfalso
    by_cases hn : s.drop p = []
    · rw [hn, toks_nil] at h; injection h with h _; cases h
    · rw [toks_bad p hn hz] at h; injection h with h _; cases h
  · rw [toks_rest p hz] at h
    injection h with h1 h2
    injection h1 with h1 h3
    have hf := first_le (s.drop p)
    rw [List.length_drop] at hf
    have hw := whole_of hz
    subst h1
    have hl : ((s.drop p).take (first (s.drop p)).2).length = (first (s.drop p)).2 := by rw [List.length_take, List.length_drop]; omega
    refine ⟨rfl, by show e ≤ p; omega, by rw [hl]; omega, by rw [hl]; show p + _ ≤ _; omega, by rw [hl], hw, ?_⟩
    rw [hl]
    show restL (p + (first (s.drop p)).2) (s.drop (p + (first (s.drop p)).2)) = _
    rw [drop_sub] at h2 h3
    rw [← h2, ← h3]
theorem restL_stop (s : List UInt8) (e : Nat) (he : e ≤ s.length) (h : restL e (s.drop e) = ([], none)) : e + betw (s.drop e) = s.length := by
  have hb := betw_le _ (s.drop e) (Nat.le_refl _)
  rw [List.length_drop] at hb
  unfold restL at h
  rw [drop_sub] at h
  by_cases hn : s.drop (e + betw (s.drop e)) = []
  · have := congrArg List.length hn
    rw [List.length_drop] at this
    simp at this
    omega
  · exfalso
    by_cases hz : (first (s.drop (e + betw (s.drop e)))).2 = 0
    · rw [toks_bad _ hn hz] at h; injection h with _ h; cases h
    · rw [toks_rest _ hz] at h; injection h with h _; cases h
theorem num_head {a : UInt8} {u : List UInt8} (h : digit a = false) : num (a :: u) = none := by
  unfold num
  rw [if_neg (by simp)]
  split
  · rfl
  · rw [numTo, if_neg (by simp [h])]
theorem sign_head {a : UInt8} {u : List UInt8} (h : letter a = true ∨ digit a = true) : sign (a :: u) = false := by
  by_cases hs : sign (a :: u) = true
  · exfalso
    have hm : a :: u ∈ signsL := of_decide_eq_true hs
    have hh : ∀ l ∈ signsL, ∀ c t, l = c :: t → letter c = false ∧ digit c = false := by
      intro l hl c t e
      simp only [signsL, List.mem_cons, List.not_mem_nil, or_false] at hl
      subst e
      rcases hl with h | h | h | h | h | h | h | h | h | h | h | h | h | h | h | h | h | h | h | h | h | h | h | h <;> (injection h with h _; subst h; decide)
    have := hh _ hm a u rfl
    rcases h with h | h
    · rw [h] at this; cases this.1
    · rw [h] at this; cases this.2
  · simpa using hs
/-- What a whole text is. -/
theorem Whole.kinds {k : Nat} {t : List UInt8} (h : Whole k t) : (k = 1 ∧ nameB t = true ∧ num t = none ∧ sign t = false) ∨ (k = 2 ∧ nameB t = false ∧ (∃ m, num t = some m) ∧ sign t = false) ∨ (k = 3 ∧ nameB t = false ∧ num t = none ∧ sign t = true) := by
  match t, h with
  | [], h => exact absurd rfl h.1
  | a :: u, h =>
    have hf : Go.Proofs.Ytekangigfhhkoaa.first (a :: u) = (if letter a = true then (1, cnt ofName (a :: u)) else if digit a = true then (2, numSize (a :: u)) else (3, signSize (a :: u))) := rfl
    have h2 := h.2
    rw [hf] at h2
    by_cases h1 : letter a = true
    · rw [if_pos h1] at h2
      injection h2 with hk hn
      have hd : digit a = false := by
        simp [letter] at h1
        simp [digit]; omega
      refine .inl ⟨hk.symm, ?_, num_head hd, sign_head (.inl h1)⟩
      unfold nameB
      rw [show headLetter (a :: u) = letter a from rfl, h1, hn]; simp
    · rw [if_neg h1] at h2
      have h1' : letter a = false := by simpa using h1
      have hnm : nameB (a :: u) = false := by
        unfold nameB
        rw [show headLetter (a :: u) = letter a from rfl, h1']; rfl
      by_cases hd : digit a = true
      · rw [if_pos hd] at h2
        injection h2 with hk hn
        refine .inr (.inl ⟨hk.symm, hnm, ?_, sign_head (.inr hd)⟩)
        unfold numSize at hn
        split at hn
        · simp at hn
        · rename_i hA
          split at hn
          · simp at hn
          · have : (a :: u).take (cnt digit (a :: u)) = a :: u := List.take_of_length_le (by omega)
            rw [this] at hA
            cases ho : num (a :: u) with
            | none => rw [ho] at hA; simp at hA
            | some m => exact ⟨m, rfl⟩
      · rw [if_neg hd] at h2
        injection h2 with hk hn
        have hd' : digit a = false := by simpa using hd
        refine .inr (.inr ⟨hk.symm, hnm, num_head hd', ?_⟩)
        unfold signSize at hn
        split at hn
        · rename_i hA
          rw [List.take_of_length_le (by omega)] at hA; exact hA.2
        · split at hn
          · rename_i hA
            rw [List.take_of_length_le (by omega)] at hA; exact hA.2
          · simp at hn

end Go.Proofs.Ytekangigfhhkoaa
