/-
  Texts in tokens (layer 9), as rows of bytes. No function of the program is named.
-/
import Derived.Test.YtgndnodahlabiaaProg
import Derived.Lib.Strings
import Derived.KernelRfl
namespace Go.Proofs.Ytgndnodahlabiaa

/-- A row of bytes as a string. -/
def bs (l : List UInt8) : ByteArray := ⟨l.toArray⟩
theorem bs_size (l : List UInt8) : (bs l).size = l.length := by simp [bs, ByteArray.size]
theorem bs_data (l : List UInt8) : (bs l).data.toList = l := rfl
theorem bs_of {s : ByteArray} {l : List UInt8} (h : s.data.toList = l) : s = bs l := by subst h; simp [bs]
theorem bs_self (s : ByteArray) : s = bs s.data.toList := bs_of rfl
theorem bs_toList (l : List UInt8) : (bs l).toList = l := by rw [ByteArray.toList_eq]; rfl
theorem bs_inj {l m : List UInt8} (h : bs l = bs m) : l = m := by rw [← bs_data l, ← bs_data m, h]
theorem bs_app (l m : List UInt8) : bs (l ++ m) = bs l ++ bs m := by
  apply Eq.symm
  apply bs_of
  simp [ByteArray.data_append, bs]
theorem bs_extract (l : List UInt8) (a b : Nat) : (bs l).extract a b = bs ((l.drop a).take (b - a)) := by
  apply bs_of
  rw [ByteArray.data_extract]
  simp [bs]
theorem bs_at (l : List UInt8) (m : Nat) (h : m < l.length) : (bs l)[m]'(by rw [bs_size]; exact h) = l[m]'h := by
  show (l.toArray)[m]'(by simpa using h) = l[m]'h
  simp

abbrev u8 (n : Nat) : UInt8 := UInt8.ofNat n
def letter (c : UInt8) : Bool := (decide (97 ≤ c.toNat) && decide (c.toNat ≤ 122)) || (decide (65 ≤ c.toNat) && decide (c.toNat ≤ 90)) || decide (c.toNat = 95)
def digit (c : UInt8) : Bool := decide (48 ≤ c.toNat) && decide (c.toNat ≤ 57)
def ofName (c : UInt8) : Bool := letter c || digit c
def blank (c : UInt8) : Bool := decide (c.toNat = 32) || decide (c.toNat = 9) || decide (c.toNat = 10) || decide (c.toNat = 13)
def ofRow (c : UInt8) : Bool := !decide (c.toNat = 10)

/-- How many bytes at the beginning are such. -/
def cnt (p : UInt8 → Bool) : List UInt8 → Nat
  | [] => 0
  | c :: t => if p c = true then cnt p t + 1 else 0
theorem cnt_le (p : UInt8 → Bool) : ∀ l, cnt p l ≤ l.length
  | [] => Nat.le_refl _
  | c :: t => by
    unfold cnt
    have := cnt_le p t
    split <;> simp <;> omega
theorem cnt_yes (p : UInt8 → Bool) : ∀ (l : List UInt8) (k : Nat) (h : k < cnt p l), p (l[k]'(Nat.lt_of_lt_of_le h (cnt_le p l))) = true
  | [], k, h => by simp [cnt] at h
  | c :: t, k, h => by
    by_cases hc : p c = true
    · cases k with
      | zero => exact hc
      | succ k =>
        have h' : k < cnt p t := by unfold cnt at h; rw [if_pos hc] at h; omega
        exact cnt_yes p t k h'
    · unfold cnt at h; rw [if_neg hc] at h; omega
theorem cnt_no (p : UInt8 → Bool) : ∀ (l : List UInt8) (h : cnt p l < l.length), p (l[cnt p l]'h) = false
  | [], h => by simp at h
  | c :: t, h => by
    by_cases hc : p c = true
    · have e : cnt p (c :: t) = cnt p t + 1 := by rw [cnt, if_pos hc]
      have h' : cnt p t < t.length := by rw [e] at h; simpa using h
      have := cnt_no p t h'
      simp only [e]
      simpa using this
    · have e : cnt p (c :: t) = 0 := by rw [cnt, if_neg hc]
      simp only [e]
      simpa using hc
/-- How far one comes is told by what holds there. -/
theorem cnt_of (p : UInt8 → Bool) (l : List UInt8) (n : Nat) (hn : n ≤ l.length) (h1 : ∀ (k : Nat) (h : k < n), p (l[k]'(by omega)) = true) (h2 : ∀ h : n < l.length, p (l[n]'h) = false) : cnt p l = n := by
  rcases Nat.lt_trichotomy (cnt p l) n with h | h | h
  · have := cnt_no p l (by omega)
    rw [h1 _ h] at this; cases this
  · exact h
  · have h3 := cnt_yes p l n h
    rw [h2 (Nat.lt_of_lt_of_le h (cnt_le p l))] at h3; cases h3
theorem cnt_app (p : UInt8 → Bool) : ∀ (l m : List UInt8), cnt p (l ++ m) = if cnt p l = l.length then l.length + cnt p m else cnt p l
  | [], m => by simp [cnt]
  | c :: t, m => by
    by_cases hc : p c = true
    · have e : cnt p (c :: t) = cnt p t + 1 := by rw [cnt, if_pos hc]
      have e2 : cnt p (c :: t ++ m) = cnt p (t ++ m) + 1 := by rw [List.cons_append, cnt, if_pos hc]
      rw [e2, e, cnt_app p t m]
      by_cases h : cnt p t = t.length
      · rw [if_pos h, if_pos (by simp [h])]; simp; omega
      · rw [if_neg h, if_neg (by simp; exact h)]
    · have e : cnt p (c :: t) = 0 := by rw [cnt, if_neg hc]
      have e2 : cnt p (c :: t ++ m) = 0 := by rw [List.cons_append, cnt, if_neg hc]
      rw [e2, e, if_neg (by simp)]
theorem cnt_take (p : UInt8 → Bool) : ∀ (l : List UInt8), cnt p (l.take (cnt p l)) = cnt p l
  | [] => rfl
  | c :: t => by
    by_cases hc : p c = true
    · have e : cnt p (c :: t) = cnt p t + 1 := by rw [cnt, if_pos hc]
      rw [e, List.take_succ_cons, cnt, if_pos hc, cnt_take p t]
    · have e : cnt p (c :: t) = 0 := by rw [cnt, if_neg hc]
      rw [e]; rfl

/-- Does a // row begin here? -/
def sl : List UInt8 → Bool
  | a :: b :: _ => decide (a.toNat = 47) && decide (b.toNat = 47)
  | _ => false
theorem sl_row {l : List UInt8} (h : sl l = true) : 2 ≤ cnt ofRow l := by
  match l, h with
  | a :: b :: t, h =>
    simp [sl] at h
    have h1 : ofRow a = true := by simp [ofRow, h.1]
    have h2 : ofRow b = true := by simp [ofRow, h.2]
    rw [cnt, if_pos h1, cnt, if_pos h2]; omega
/-- Blanks and rows, so long as there is fuel. -/
def betwF : Nat → List UInt8 → Nat
  | 0, _ => 0
  | n + 1, l => if sl (l.drop (cnt blank l)) = true then cnt blank l + cnt ofRow (l.drop (cnt blank l)) + betwF n (l.drop (cnt blank l + cnt ofRow (l.drop (cnt blank l)))) else cnt blank l
/-- How many bytes at the beginning are blanks and // rows. -/
def betw (l : List UInt8) : Nat := betwF (l.length + 1) l
theorem betwF_any : ∀ (n m : Nat) (l : List UInt8), l.length < n → l.length < m → betwF n l = betwF m l
  | 0, _, _, h, _ => absurd h (Nat.not_lt_zero _)
  | _ + 1, 0, _, _, h => absurd h (Nat.not_lt_zero _)
  | n + 1, m + 1, l, h1, h2 => by
    unfold betwF
    by_cases hs : sl (l.drop (cnt blank l)) = true
    · rw [if_pos hs, if_pos hs]
      have h3 := sl_row hs
      have h4 := cnt_le ofRow (l.drop (cnt blank l))
      rw [List.length_drop] at h4
      rw [betwF_any n m _ (by rw [List.length_drop]; omega) (by rw [List.length_drop]; omega)]
    · rw [if_neg hs, if_neg hs]
theorem betw_eq (l : List UInt8) : betw l = if sl (l.drop (cnt blank l)) = true then cnt blank l + cnt ofRow (l.drop (cnt blank l)) + betw (l.drop (cnt blank l + cnt ofRow (l.drop (cnt blank l)))) else cnt blank l := by
  by_cases hs : sl (l.drop (cnt blank l)) = true
  · rw [if_pos hs]
    have h3 := sl_row hs
    have h4 := cnt_le ofRow (l.drop (cnt blank l))
    rw [List.length_drop] at h4
    show betwF (l.length + 1) l = _
    rw [betwF, if_pos hs]
    congr 1
    exact betwF_any _ _ _ (by rw [List.length_drop]; omega) (by rw [List.length_drop]; omega)
  · rw [if_neg hs]
    show betwF (l.length + 1) l = _
    rw [betwF, if_neg hs]
theorem drop_sub (l : List UInt8) (a b : Nat) : (l.drop a).drop b = l.drop (a + b) := List.drop_drop
theorem sl_blank {c : UInt8} {t : List UInt8} (h : blank c = true) : sl (c :: t) = false := by
  cases t with
  | nil => rfl
  | cons b t =>
    simp [sl]
    intro h47
    simp [blank, h47] at h
theorem betw_blank {c : UInt8} {t : List UInt8} (h : blank c = true) : betw (c :: t) = betw t + 1 := by
  have e : cnt blank (c :: t) = cnt blank t + 1 := by rw [cnt, if_pos h]
  rw [betw_eq, betw_eq t, e]
  simp only [List.drop_succ_cons, Nat.add_right_comm _ 1 _]
  split <;> omega
theorem cnt_slash {l : List UInt8} (h : sl l = true) : cnt blank l = 0 := by
  match l, h with
  | a :: b :: t, h =>
    rw [cnt, if_neg]
    intro hb
    rw [sl_blank hb] at h; cases h
theorem betw_row {l : List UInt8} (h : sl l = true) : betw l = cnt ofRow l + betw (l.drop (cnt ofRow l)) := by
  rw [betw_eq, cnt_slash h, List.drop_zero, if_pos h]; simp
theorem betw_none {c : UInt8} {t : List UInt8} (h1 : blank c = false) (h2 : sl (c :: t) = false) : betw (c :: t) = 0 := by
  have e : cnt blank (c :: t) = 0 := by rw [cnt, if_neg (by simp [h1])]
  rw [betw_eq, e, List.drop_zero, if_neg (by simp [h2])]
theorem betw_nil : betw [] = 0 := rfl
theorem betw_le : ∀ (n : Nat) (l : List UInt8), l.length ≤ n → betw l ≤ l.length
  | n, [], _ => by simp [betw_nil]
  | 0, c :: t, h => by simp at h
  | n + 1, c :: t, h => by
    by_cases hb : blank c = true
    · rw [betw_blank hb]
      have := betw_le n t (by simpa using h)
      simp; omega
    · by_cases hs : sl (c :: t) = true
      · rw [betw_row hs]
        have h3 := sl_row hs
        have h4 := cnt_le ofRow (c :: t)
        have h5 := betw_le n ((c :: t).drop (cnt ofRow (c :: t))) (by rw [List.length_drop]; simp at h ⊢; omega)
        rw [List.length_drop] at h5
        omega
      · rw [betw_none (by simpa using hb) (by simpa using hs)]; omega

/-- The number that a row of digits is, behind n. -/
def numTo (n : Nat) : List UInt8 → Option Nat
  | [] => some n
  | c :: t => if digit c = true then (if (9223372036854775807 - (c.toNat - 48)) / 10 < n then none else numTo (10 * n + (c.toNat - 48)) t) else none
def lead0 : List UInt8 → Bool
  | c :: _ :: _ => decide (c.toNat = 48)
  | _ => false
def num (l : List UInt8) : Option Nat := if l = [] then none else if lead0 l = true then none else numTo 0 l
def signsL : List (List UInt8) := [[61, 61], [33, 61], [60, 61], [60, 60], [62, 62], [40], [41], [123], [125], [91], [93], [44], [59], [46], [61], [43], [45], [42], [47], [37], [38], [124], [94], [60]]
def sign (l : List UInt8) : Bool := decide (l ∈ signsL)
def headLetter : List UInt8 → Bool
  | c :: _ => letter c
  | [] => false
def numSize (l : List UInt8) : Nat := if (num (l.take (cnt digit l))).isNone = true then 0 else if headLetter (l.drop (cnt digit l)) = true then 0 else cnt digit l
def signSize (l : List UInt8) : Nat := if 2 ≤ l.length ∧ sign (l.take 2) = true then 2 else if 1 ≤ l.length ∧ sign (l.take 1) = true then 1 else 0
def first (l : List UInt8) : Nat × Nat := match l with
  | [] => (3, 0)
  | c :: t => if letter c = true then (1, cnt ofName (c :: t)) else if digit c = true then (2, numSize (c :: t)) else (3, signSize (c :: t))
def nameB (l : List UInt8) : Bool := headLetter l && decide (cnt ofName l = l.length)
theorem first_le (l : List UInt8) : (first l).2 ≤ l.length := by
  match l with
  | [] => exact Nat.le_refl _
  | c :: t =>
    unfold first
    simp only
    split
    · exact cnt_le _ _
    · split
      · show numSize (c :: t) ≤ _
        unfold numSize
        have := cnt_le digit (c :: t)
        split
        · omega
        · split <;> omega
      · show signSize (c :: t) ≤ _
        unfold signSize
        split
        · omega
        · split <;> omega

/-- A token. -/
structure Tok where
  k : Nat
  t : List UInt8
  a : Nat
/-- The tokens from a place on, so long as there is fuel; and where one can not go on. -/
def toksF : Nat → Nat → List UInt8 → List Tok × Option Nat
  | 0, _, _ => ([], none)
  | n + 1, at_, l => if l = [] then ([], none) else if (first l).2 = 0 then ([], some at_) else
    let r := toksF n (at_ + (first l).2 + betw (l.drop (first l).2)) (l.drop ((first l).2 + betw (l.drop (first l).2)))
    (⟨(first l).1, l.take (first l).2, at_⟩ :: r.1, r.2)
def toks (at_ : Nat) (l : List UInt8) : List Tok × Option Nat := toksF (l.length + 1) at_ l
theorem toksF_any : ∀ (n m at_ : Nat) (l : List UInt8), l.length < n → l.length < m → toksF n at_ l = toksF m at_ l
  | 0, _, _, _, h, _ => absurd h (Nat.not_lt_zero _)
  | _ + 1, 0, _, _, _, h => absurd h (Nat.not_lt_zero _)
  | n + 1, m + 1, at_, l, h1, h2 => by
    unfold toksF
    by_cases h3 : l = []
    · rw [if_pos h3, if_pos h3]
    · rw [if_neg h3, if_neg h3]
      by_cases h4 : (first l).2 = 0
      · rw [if_pos h4, if_pos h4]
      · rw [if_neg h4, if_neg h4]
        have h5 := first_le l
        rw [toksF_any n m _ _ (by rw [List.length_drop]; omega) (by rw [List.length_drop]; omega)]
theorem toks_nil (at_ : Nat) : toks at_ [] = ([], none) := rfl
theorem toks_bad (at_ : Nat) {l : List UInt8} (h : l ≠ []) (h2 : (first l).2 = 0) : toks at_ l = ([], some at_) := by
  unfold toks toksF
  rw [if_neg h, if_pos h2]
theorem toks_tok (at_ : Nat) {l : List UInt8} (h2 : (first l).2 ≠ 0) : toks at_ l = (⟨(first l).1, l.take (first l).2, at_⟩ :: (toks (at_ + (first l).2 + betw (l.drop (first l).2)) (l.drop ((first l).2 + betw (l.drop (first l).2)))).1, (toks (at_ + (first l).2 + betw (l.drop (first l).2)) (l.drop ((first l).2 + betw (l.drop (first l).2)))).2) := by
  have h : l ≠ [] := fun e => h2 (by rw [e]; rfl)
  have h5 := first_le l
  show toksF (l.length + 1) at_ l = _
  rw [toksF, if_neg h, if_neg h2]
  have e : toksF l.length (at_ + (first l).2 + betw (l.drop (first l).2)) (l.drop ((first l).2 + betw (l.drop (first l).2))) = toks (at_ + (first l).2 + betw (l.drop (first l).2)) (l.drop ((first l).2 + betw (l.drop (first l).2))) := toksF_any _ _ _ _ (by rw [List.length_drop]; omega) (by rw [List.length_drop]; omega)
  simp only [e]
/-- What is left of a text from a place on. -/
def rest (s : List UInt8) (at_ : Nat) : List Tok × Option Nat := toks (at_ + betw (s.drop at_)) (s.drop (at_ + betw (s.drop at_)))
/-- A text in tokens. -/
def lexS (s : List UInt8) : List Tok × Option Nat := rest s 0
theorem lexS_small : lexS [97, 49, 60, 61, 50, 51, 59, 32, 47, 47, 32, 120] = ([⟨1, [97, 49], 0⟩, ⟨3, [60, 61], 2⟩, ⟨2, [50, 51], 4⟩, ⟨3, [59], 6⟩], none) := by kernel_rfl
theorem lexS_bad : lexS [97, 32, 36] = ([⟨1, [97], 0⟩], some 2) := by kernel_rfl

end Go.Proofs.Ytgndnodahlabiaa
