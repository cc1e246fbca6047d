/-
  What follows from how texts are cut (layer 9), as rows of bytes. No function of the program is named.
-/
import Derived.Test.YtgndnodahlabiaaJn
namespace Go.Proofs.Ytgndnodahlabiaa

/-- A byte that ends what stands ahead of it. -/
structure Brk (c : UInt8) : Prop where
  name : ofName c = false
  dig : digit c = false
  let_ : letter c = false
  sig : ∀ a, sign [a, c] = false
  slash : c.toNat ≠ 47
theorem brk10 : Brk 10 := ⟨by decide, by decide, by decide, fun a => by simp [sign, signsL], by decide⟩
theorem brk32 : Brk 32 := ⟨by decide, by decide, by decide, fun a => by simp [sign, signsL], by decide⟩
theorem cnt_brk {p : UInt8 → Bool} {c : UInt8} (hc : p c = false) (l x : List UInt8) : cnt p (l ++ c :: x) = cnt p l := by
  rw [cnt_app]
  have : cnt p (c :: x) = 0 := by rw [cnt, if_neg (by simp [hc])]
  rw [this]
  split
  · omega
  · rfl
theorem take_app {l : List UInt8} {n : Nat} (h : n ≤ l.length) (x : List UInt8) : (l ++ x).take n = l.take n := List.take_append_of_le_length h
theorem drop_app {l : List UInt8} {n : Nat} (h : n ≤ l.length) (x : List UInt8) : (l ++ x).drop n = l.drop n ++ x := List.drop_append_of_le_length h
theorem first_brk {c : UInt8} (hc : Brk c) {l : List UInt8} (hl : l ≠ []) (x : List UInt8) : first (l ++ c :: x) = first l := by
  match l, hl with
  | a :: t, _ =>
    show (if letter a = true then (1, cnt ofName (a :: t ++ c :: x)) else if digit a = true then (2, numSize (a :: t ++ c :: x)) else (3, signSize (a :: t ++ c :: x))) = (if letter a = true then (1, cnt ofName (a :: t)) else if digit a = true then (2, numSize (a :: t)) else (3, signSize (a :: t)))
    have h1 := cnt_brk hc.name (a :: t) x
    have h2 : numSize (a :: t ++ c :: x) = numSize (a :: t) := by
      unfold numSize
      rw [cnt_brk hc.dig, take_app (cnt_le _ _), drop_app (cnt_le _ _)]
      have : headLetter ((a :: t).drop (cnt digit (a :: t)) ++ c :: x) = headLetter ((a :: t).drop (cnt digit (a :: t))) := by
        cases (a :: t).drop (cnt digit (a :: t)) with
        | nil => exact hc.let_
        | cons b u => rfl
      rw [this]
    have h3 : signSize (a :: t ++ c :: x) = signSize (a :: t) := by
      unfold signSize
      cases t with
      | nil =>
        have e1 : ((a :: []) ++ c :: x).take 2 = [a, c] := rfl
        have e2 : ((a :: []) ++ c :: x).take 1 = [a] := rfl
        rw [e1, e2, hc.sig]
        simp
      | cons b u =>
        have e1 : ((a :: b :: u) ++ c :: x).take 2 = (a :: b :: u).take 2 := rfl
        have e2 : ((a :: b :: u) ++ c :: x).take 1 = (a :: b :: u).take 1 := rfl
        rw [e1, e2]
        simp
    rw [h1, h2, h3]
theorem first_self {l : List UInt8} (h : (first l).2 ≠ 0) : first (l.take (first l).2) = first l := by
  match l, h with
  | [], h => exact absurd rfl h
  | a :: t, h =>
    have hf : first (a :: t) = (if letter a = true then (1, cnt ofName (a :: t)) else if digit a = true then (2, numSize (a :: t)) else (3, signSize (a :: t))) := rfl
    obtain ⟨n, hn⟩ : ∃ n, (first (a :: t)).2 = n + 1 := ⟨(first (a :: t)).2 - 1, by omega⟩
    have hg : first ((a :: t).take (n + 1)) = (if letter a = true then (1, cnt ofName ((a :: t).take (n + 1))) else if digit a = true then (2, numSize ((a :: t).take (n + 1))) else (3, signSize ((a :: t).take (n + 1)))) := rfl
    rw [hn, hg, hf]
    rw [hf] at hn
    by_cases h1 : letter a = true
    · rw [if_pos h1] at hn ⊢
      rw [if_pos h1]
      simp only at hn
      rw [← hn, cnt_take]
    · rw [if_neg h1] at hn ⊢
      rw [if_neg h1]
      by_cases h2 : digit a = true
      · rw [if_pos h2] at hn ⊢
        rw [if_pos h2]
        simp only at hn
        have hz : numSize (a :: t) = cnt digit (a :: t) ∧ ¬ (num ((a :: t).take (cnt digit (a :: t)))).isNone = true := by
          unfold numSize at hn ⊢
          split at hn
          · omega
          · rename_i hA
            split at hn
            · omega
            · rename_i hB
              rw [if_neg hA, if_neg hB]
              exact ⟨rfl, hA⟩
        have hm : n + 1 = cnt digit (a :: t) := by rw [← hn, hz.1]
        have he : numSize ((a :: t).take (n + 1)) = numSize (a :: t) := by
          rw [hz.1, hm]
          unfold numSize
          rw [cnt_take, List.take_take, Nat.min_self, if_neg hz.2, if_neg]
          rw [List.drop_of_length_le (by rw [List.length_take]; omega)]
          simp [headLetter]
        rw [he]
      · rw [if_neg h2] at hn ⊢
        rw [if_neg h2]
        simp only at hn
        have he : signSize ((a :: t).take (n + 1)) = signSize (a :: t) := by
          have hn' := hn
          unfold signSize at hn
          split at hn
          · rename_i hA
            have : n = 1 := by omega
            subst this
            have e : signSize ((a :: t).take 2) = 2 := by
              unfold signSize
              rw [if_pos ⟨by rw [List.length_take]; omega, by rw [List.take_take]; exact hA.2⟩]
            rw [e]; omega
          · rename_i hA
            split at hn
            · rename_i hB
              have : n = 0 := by omega
              subst this
              have e : signSize ((a :: t).take 1) = 1 := by
                unfold signSize
                rw [if_neg, if_pos ⟨by rw [List.length_take]; omega, by rw [List.take_take]; exact hB.2⟩]
                intro hC
                have := hC.1
                rw [List.length_take] at this
                omega
              show signSize ((a :: t).take 1) = _
              rw [e]; omega
            · omega
        rw [he]
/-- A text of one token. -/
def Whole (k : Nat) (t : List UInt8) : Prop := t ≠ [] ∧ first t = (k, t.length)
theorem whole_of {l : List UInt8} (h : (first l).2 ≠ 0) : Whole (first l).1 (l.take (first l).2) := by
  have h1 := first_le l
  have h2 := first_self h
  refine ⟨fun e => ?_, ?_⟩
  · have := congrArg List.length e
    rw [List.length_take, List.length_nil] at this
    omega
  · rw [h2, List.length_take, Nat.min_eq_left h1]
theorem Whole.noblank {k : Nat} {a : UInt8} {t : List UInt8} (h : Whole k (a :: t)) : blank a = false := by
  by_cases hb : blank a = true
  · exfalso
    have h2 := congrArg Prod.snd h.2
    have hf : first (a :: t) = (if letter a = true then (1, cnt ofName (a :: t)) else if digit a = true then (2, numSize (a :: t)) else (3, signSize (a :: t))) := rfl
    have hl : letter a = false := by
      simp [blank] at hb
      simp [letter]; omega
    have hd : digit a = false := by
      simp [blank] at hb
      simp [digit]; omega
    have hs : signSize (a :: t) = 0 := by
      unfold signSize
      have ha : a = 32 ∨ a = 9 ∨ a = 10 ∨ a = 13 := by
        simp [blank] at hb
        rcases hb with ((h | h) | h) | h
        · exact .inl (UInt8.toNat_inj.1 h)
        · exact .inr (.inl (UInt8.toNat_inj.1 h))
        · exact .inr (.inr (.inl (UInt8.toNat_inj.1 h)))
        · exact .inr (.inr (.inr (UInt8.toNat_inj.1 h)))
      rw [if_neg, if_neg]
      · rintro ⟨_, hx⟩
        rcases ha with rfl | rfl | rfl | rfl <;> simp [sign, signsL] at hx
      · rintro ⟨_, hx⟩
        cases t with
        | nil => rcases ha with rfl | rfl | rfl | rfl <;> simp [sign, signsL] at hx
        | cons b u => rcases ha with rfl | rfl | rfl | rfl <;> simp [sign, signsL] at hx
    rw [hf, if_neg (by simp [hl]), if_neg (by simp [hd]), hs] at h2
    simp at h2
  · simpa using hb
theorem Whole.nosl {k : Nat} {t : List UInt8} (h : Whole k t) : sl t = false := by
  by_cases hs : sl t = true
  · exfalso
    match t, hs with
    | a :: b :: u, hs =>
      simp [sl] at hs
      have ha : a = 47 := UInt8.toNat_inj.1 hs.1
      have hb : b = 47 := UInt8.toNat_inj.1 hs.2
      subst ha hb
      have h2 := congrArg Prod.snd h.2
      have hf : (first (47 :: 47 :: u)).2 = 1 := by
        show signSize (47 :: 47 :: u) = 1
        unfold signSize
        rw [if_neg, if_pos]
        · exact ⟨by simp, by rfl⟩
        · rintro ⟨_, hx⟩
          simp [sign, signsL] at hx
      rw [hf] at h2
      simp at h2
  · simpa using hs
theorem Whole.betw {k : Nat} {t : List UInt8} (h : Whole k t) {y : List UInt8} (hy : y = [] ∨ ∃ x, y = 32 :: x) : Go.Proofs.Ytgndnodahlabiaa.betw (t ++ y) = 0 := by
  match t, h with
  | [], h => exact absurd rfl h.1
  | a :: u, h =>
    refine betw_none h.noblank ?_
    rcases hy with rfl | ⟨x, rfl⟩
    · show sl (a :: (u ++ [])) = false
      rw [List.append_nil]; exact h.nosl
    · cases u with
      | nil => simp [sl]
      | cons b u => exact h.nosl
theorem Whole.first {k : Nat} {t : List UInt8} (h : Whole k t) {y : List UInt8} (hy : y = [] ∨ ∃ x, y = 32 :: x) : Go.Proofs.Ytgndnodahlabiaa.first (t ++ y) = (k, t.length) := by
  rcases hy with rfl | ⟨x, rfl⟩
  · rw [List.append_nil]; exact h.2
  · rw [first_brk brk32 h.1]; exact h.2

/-- What is left from a place on, of what stands there. -/
def restL (at_ : Nat) (l : List UInt8) : List Tok × Option Nat := toks (at_ + betw l) (l.drop (betw l))
theorem lexS_rest (s : List UInt8) : lexS s = restL 0 s := by rw [lexS_eq, restL, Nat.zero_add]
theorem restL_nil (at_ : Nat) : restL at_ [] = ([], none) := by rw [restL, betw_nil, List.drop_zero, toks_nil]
theorem restL_blank (at_ : Nat) {c : UInt8} (h : blank c = true) (t : List UInt8) : restL at_ (c :: t) = restL (at_ + 1) t := by
  unfold restL
  rw [betw_blank h, List.drop_succ_cons, show at_ + (betw t + 1) = at_ + 1 + betw t by omega]
theorem restL_row (at_ : Nat) {l : List UInt8} (h : sl l = true) : restL at_ l = restL (at_ + cnt ofRow l) (l.drop (cnt ofRow l)) := by
  unfold restL
  rw [betw_row h, drop_sub, Nat.add_assoc]
theorem restL_here (at_ : Nat) {c : UInt8} {t : List UInt8} (h1 : blank c = false) (h2 : sl (c :: t) = false) : restL at_ (c :: t) = toks at_ (c :: t) := by
  unfold restL
  rw [betw_none h1 h2, List.drop_zero, Nat.add_zero]
theorem toks_rest (at_ : Nat) {l : List UInt8} (h2 : (first l).2 ≠ 0) : toks at_ l = (⟨(first l).1, l.take (first l).2, at_⟩ :: (restL (at_ + (first l).2) (l.drop (first l).2)).1, (restL (at_ + (first l).2) (l.drop (first l).2)).2) := by
  rw [toks_tok at_ h2]
  unfold restL
  rw [drop_sub]

/-- Texts' tokens are whole. -/
theorem toks_whole : ∀ (n at_ : Nat) (l : List UInt8), l.length ≤ n → ∀ x ∈ (toks at_ l).1, Whole x.k x.t
  | n, at_, [], _ => by simp [toks_nil]
  | 0, _, c :: t, h => by simp at h
  | n + 1, at_, c :: t, h => by
    by_cases hz : (first (c :: t)).2 = 0
    · rw [toks_bad at_ (by simp) hz]; simp
    · rw [toks_tok at_ hz]
      intro x hx
      rcases List.mem_cons.1 hx with rfl | hx
      · exact whole_of hz
      · exact toks_whole n _ _ (by rw [List.length_drop]; simp at h ⊢; omega) x hx
theorem lexS_whole (s : List UInt8) : ∀ x ∈ (lexS s).1, Whole x.k x.t := by
  rw [lexS_eq]; exact toks_whole _ _ _ (Nat.le_refl _)
/-- Alike but for their places. -/
def Alike (a b : List Tok) : Prop := a.map (fun x => (x.k, x.t)) = b.map (fun x => (x.k, x.t))
theorem jrest_shape (zs : List Tz) : jrest zs = [] ∨ ∃ x, jrest zs = 32 :: x := by
  cases zs with
  | nil => exact .inl rfl
  | cons x r => exact .inr ⟨_, rfl⟩
theorem toks_join : ∀ (ts : List Tok) (at_ : Nat), (∀ x ∈ ts, Whole x.k x.t) → ∃ us, toks at_ (joinL (ts.map Tok.z)) = (us, none) ∧ Alike us ts
  | [], at_, _ => ⟨[], by simp [joinL, toks_nil], rfl⟩
  | x :: r, at_, h => by
    have hx := h x (by simp)
    have hf := hx.first (jrest_shape (r.map Tok.z))
    have hj : joinL ((x :: r).map Tok.z) = x.t ++ jrest (r.map Tok.z) := rfl
    have hne : (first (x.t ++ jrest (r.map Tok.z))).2 ≠ 0 := by
      rw [hf]
      have := hx.1
      simp only [ne_eq, List.length_eq_zero_iff]; exact this
    have hr : ∃ us, restL (at_ + x.t.length) (jrest (r.map Tok.z)) = (us, none) ∧ Alike us r := by
      cases r with
      | nil => exact ⟨[], by simp [jrest, restL_nil], rfl⟩
      | cons y r =>
        have hjr : jrest ((y :: r).map Tok.z) = 32 :: joinL ((y :: r).map Tok.z) := rfl
        rw [hjr, restL_blank _ (by decide)]
        have hb : betw (joinL ((y :: r).map Tok.z)) = 0 := (h y (by simp)).betw (jrest_shape (r.map Tok.z))
        unfold restL
        rw [hb, List.drop_zero, Nat.add_zero]
        exact toks_join (y :: r) _ (fun z hz => h z (List.mem_cons_of_mem _ hz))
    obtain ⟨us, h1, h2⟩ := hr
    rw [hj, toks_rest at_ hne, hf]
    simp only [List.drop_left, List.take_left, h1]
    refine ⟨_, rfl, ?_⟩
    show _ :: _ = _ :: _
    rw [show us.map (fun x => (x.k, x.t)) = r.map (fun x => (x.k, x.t)) from h2]
theorem lexS_join (s : List UInt8) {ts : List Tok} {o : Option Nat} (h : lexS s = (ts, o)) : ∃ us, lexS (joinL (ts.map Tok.z)) = (us, none) ∧ Alike us ts := by
  have hw : ∀ x ∈ ts, Whole x.k x.t := by have := lexS_whole s; rw [h] at this; exact this
  rw [lexS_eq]
  have hb : betw (joinL (ts.map Tok.z)) = 0 := by
    cases ts with
    | nil => rfl
    | cons y r => exact (hw y (by simp)).betw (jrest_shape (r.map Tok.z))
  rw [hb, List.drop_zero]
  exact toks_join ts 0 hw
theorem Alike.texts : ∀ {a b : List Tok}, Alike a b → a.map Tok.t = b.map Tok.t
  | [], [], _ => rfl
  | [], _ :: _, h => by simp [Alike] at h
  | _ :: _, [], h => by simp [Alike] at h
  | x :: a, y :: b, h => by
    simp [Alike] at h
    rw [List.map_cons, List.map_cons, h.1.2, Alike.texts (a := a) (b := b) h.2]
theorem jrest_texts : ∀ {a b : List Tok}, a.map Tok.t = b.map Tok.t → jrest (a.map Tok.z) = jrest (b.map Tok.z)
  | [], [], _ => rfl
  | [], _ :: _, h => by simp at h
  | _ :: _, [], h => by simp at h
  | x :: a, y :: b, h => by
    simp at h
    show 32 :: (x.t ++ jrest (a.map Tok.z)) = 32 :: (y.t ++ jrest (b.map Tok.z))
    rw [h.1, jrest_texts (by simpa using h.2)]
theorem joinL_texts : ∀ {a b : List Tok}, a.map Tok.t = b.map Tok.t → joinL (a.map Tok.z) = joinL (b.map Tok.z)
  | [], [], _ => rfl
  | [], _ :: _, h => by simp at h
  | _ :: _, [], h => by simp at h
  | x :: a, y :: b, h => by
    simp at h
    show x.t ++ jrest (a.map Tok.z) = y.t ++ jrest (b.map Tok.z)
    rw [h.1, jrest_texts (by simpa using h.2)]
theorem jrest_len : ∀ (n at_ : Nat) (l : List UInt8), l.length ≤ n → (jrest ((toks at_ l).1.map Tok.z)).length ≤ 2 * l.length
  | n, at_, [], _ => by simp [toks_nil, jrest]
  | 0, _, c :: t, h => by simp at h
  | n + 1, at_, c :: t, h => by
    by_cases hz : (first (c :: t)).2 = 0
    · rw [toks_bad at_ (by simp) hz]; simp [jrest]
    · rw [toks_tok at_ hz]
      have ih := jrest_len n (at_ + (first (c :: t)).2 + betw ((c :: t).drop (first (c :: t)).2)) ((c :: t).drop ((first (c :: t)).2 + betw ((c :: t).drop (first (c :: t)).2))) (by rw [List.length_drop]; simp at h ⊢; omega)
      rw [List.length_drop] at ih
      have h5 := first_le (c :: t)
      show (32 :: ((c :: t).take (first (c :: t)).2 ++ jrest _)).length ≤ _
      rw [List.length_cons, List.length_append, List.length_take]
      omega
theorem joinL_len (s : List UInt8) : (joinL ((lexS s).1.map Tok.z)).length ≤ 2 * s.length := by
  rw [lexS_eq]
  have h := jrest_len _ (betw s) (s.drop (betw s)) (Nat.le_refl _)
  rw [List.length_drop] at h
  cases he : (toks (betw s) (s.drop (betw s))).1 with
  | nil => simp [joinL]
  | cons x r =>
    rw [he] at h
    have h1 : (jrest ((x :: r).map Tok.z)).length = (joinL ((x :: r).map Tok.z)).length + 1 := by simp [jrest, joinL]
    omega

/-- Tokens elsewhere. -/
def shift (d : Nat) (r : List Tok × Option Nat) : List Tok × Option Nat := (r.1.map fun x => ⟨x.k, x.t, x.a + d⟩, r.2.map (· + d))
theorem toks_shift (d : Nat) : ∀ (n at_ : Nat) (l : List UInt8), l.length ≤ n → toks (at_ + d) l = shift d (toks at_ l)
  | n, at_, [], _ => by simp [toks_nil, shift]
  | 0, _, c :: t, h => by simp at h
  | n + 1, at_, c :: t, h => by
    by_cases hz : (first (c :: t)).2 = 0
    · rw [toks_bad _ (by simp) hz, toks_bad _ (by simp) hz]; simp [shift]
    · rw [toks_tok _ hz, toks_tok _ hz]
      have ih := toks_shift d n (at_ + (first (c :: t)).2 + betw ((c :: t).drop (first (c :: t)).2)) ((c :: t).drop ((first (c :: t)).2 + betw ((c :: t).drop (first (c :: t)).2))) (by rw [List.length_drop]; simp at h ⊢; omega)
      rw [show at_ + d + (first (c :: t)).2 + betw ((c :: t).drop (first (c :: t)).2) = at_ + (first (c :: t)).2 + betw ((c :: t).drop (first (c :: t)).2) + d by omega, ih]
      simp [shift]
theorem restL_shift (d at_ : Nat) (l : List UInt8) : restL (at_ + d) l = shift d (restL at_ l) := by
  unfold restL
  rw [show at_ + d + betw l = at_ + betw l + d by omega]
  exact toks_shift d _ _ _ (Nat.le_refl _)
/-- One text's tokens behind another's. -/
def both (a b : List Tok × Option Nat) : List Tok × Option Nat := match a.2 with
  | none => (a.1 ++ b.1, b.2)
  | some q => (a.1, some q)
theorem both_cons (x : Tok) (a b : List Tok × Option Nat) : both (x :: a.1, a.2) b = (x :: (both a b).1, (both a b).2) := by
  obtain ⟨l, o⟩ := a
  cases o <;> rfl
theorem restL_both (t : List UInt8) : ∀ (n at_ : Nat) (l : List UInt8), l.length ≤ n → restL at_ (l ++ 10 :: t) = both (restL at_ l) (restL (at_ + l.length + 1) t)
  | n, at_, [], _ => by
    rw [List.nil_append, restL_blank _ (by decide), restL_nil]; rfl
  | 0, _, c :: r, h => by simp at h
  | n + 1, at_, c :: r, h => by
    have hr : r.length ≤ n := by simpa using h
    by_cases hb : blank c = true
    · rw [List.cons_append, restL_blank _ hb, restL_blank _ hb, restL_both t n (at_ + 1) r hr]
      rw [show at_ + 1 + r.length + 1 = at_ + (c :: r).length + 1 by simp; omega]
    · by_cases hs : sl (c :: r) = true
      · have hs' : sl ((c :: r) ++ 10 :: t) = true := by
          match r, hs with
          | b :: u, hs => exact hs
        have h2 := sl_row hs
        have h3 := cnt_le ofRow (c :: r)
        rw [restL_row _ hs', restL_row _ hs, cnt_brk (by decide), drop_app h3]
        rw [restL_both t n _ _ (by rw [List.length_drop]; simp at h ⊢; omega)]
        rw [List.length_drop, show at_ + cnt ofRow (c :: r) + ((c :: r).length - cnt ofRow (c :: r)) + 1 = at_ + (c :: r).length + 1 by omega]
      · have hb' : blank c = false := by simpa using hb
        have hs1 : sl (c :: r) = false := by simpa using hs
        have hs2 : sl (c :: (r ++ 10 :: t)) = false := by
          cases r with
          | nil => simp [sl]
          | cons b u => exact hs1
        have hf := first_brk brk10 (l := c :: r) (by simp) t
        rw [List.cons_append] at hf ⊢
        rw [restL_here _ hb' hs2, restL_here _ hb' hs1]
        by_cases hz : (first (c :: r)).2 = 0
        · rw [toks_bad _ (by simp) (by rw [hf]; exact hz), toks_bad _ (by simp) hz]; rfl
        · have h3 := first_le (c :: r)
          rw [toks_rest _ (by rw [hf]; exact hz), toks_rest _ hz, hf, both_cons]
          have e1 : (c :: (r ++ 10 :: t)).take (first (c :: r)).2 = (c :: r).take (first (c :: r)).2 := take_app h3 _
          have e2 : (c :: (r ++ 10 :: t)).drop (first (c :: r)).2 = (c :: r).drop (first (c :: r)).2 ++ 10 :: t := drop_app h3 _
          rw [e1, e2, restL_both t n _ _ (by rw [List.length_drop]; simp at h ⊢; omega)]
          rw [List.length_drop, show at_ + (first (c :: r)).2 + ((c :: r).length - (first (c :: r)).2) + 1 = at_ + (c :: r).length + 1 by omega]
theorem lexS_both (s t : List UInt8) : lexS (s ++ 10 :: t) = both (lexS s) (shift (s.length + 1) (lexS t)) := by
  rw [lexS_rest, lexS_rest, lexS_rest, restL_both t _ _ _ (Nat.le_refl _), ← restL_shift, Nat.zero_add, Nat.zero_add]

end Go.Proofs.Ytgndnodahlabiaa
