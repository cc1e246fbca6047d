/-
  There and back (layer 10): tokens that lie in a row, and what is parsed of them: steps, lists, rows with signs between. No program is named.
-/
import Derived.Test.YtgndnodahlabiaaMgA
import Derived.Test.YtgndnodahlabiaaPur
namespace Go.Proofs.Ytgndnodahlabiaa

/-- A token's kind and text. -/
abbrev Tk := Nat × List UInt8
abbrev sg (q : List UInt8) : Tk := (kindOf q, q)
def At (us : List Tok) : Nat → List Tk → Prop
  | _, [] => True
  | p, x :: r => (∃ a, us[p]? = some ⟨x.1, x.2, a⟩) ∧ At us (p + 1) r
theorem At.append {us : List Tok} : ∀ {p : Nat} {l m : List Tk}, At us p (l ++ m) → At us p l ∧ At us (p + l.length) m
  | p, [], m, h => ⟨trivial, h⟩
  | p, x :: l, m, h => by
    have h2 := At.append (l := l) h.2
    exact ⟨⟨h.1, h2.1⟩, by rw [List.length_cons, show p + (l.length + 1) = p + 1 + l.length by omega]; exact h2.2⟩
theorem At.join {us : List Tok} : ∀ {p : Nat} {l m : List Tk}, At us p l → At us (p + l.length) m → At us p (l ++ m)
  | _, [], _, _, h => h
  | p, x :: l, m, h, k => ⟨h.1, At.join (l := l) h.2 (by rw [List.length_cons, show p + (l.length + 1) = p + 1 + l.length by omega] at k; exact k)⟩
theorem At.lt {us : List Tok} {p : Nat} {x : Tk} {l : List Tk} (h : At us p (x :: l)) : p < us.length := by
  obtain ⟨a, h⟩ := h.1
  exact (List.getElem?_eq_some_iff.1 h).1
theorem At.next {us : List Tok} {p : Nat} {x : Tk} {l : List Tk} (h : At us p (x :: l)) : ∃ a, nextT us ⟨p, 0⟩ = ⟨x.1, x.2, a⟩ := by
  have hl := h.lt
  obtain ⟨a, h⟩ := h.1
  refine ⟨a, ?_⟩
  unfold nextT
  rw [if_neg (by rintro (e | e); exact e rfl; have e : p = us.length := e; omega), List.getD_eq_getElem?_getD, h]; rfl
theorem At.isW {us : List Tok} {p : Nat} {q : List UInt8} {l : List Tk} (h : At us p (sg q :: l)) : isW us q ⟨p, 0⟩ = true := by
  obtain ⟨a, e⟩ := h.next
  unfold Ytgndnodahlabiaa.isW
  rw [e]; simp
theorem At.isn {us : List Tok} {p : Nat} {x : Tk} {l : List Tk} (h : At us p (x :: l)) {q : List UInt8} (hq : x.1 ≠ kindOf q ∨ x.2 ≠ q) : Ytgndnodahlabiaa.isW us q ⟨p, 0⟩ = false := by
  obtain ⟨a, e⟩ := h.next
  unfold Ytgndnodahlabiaa.isW
  rw [e]
  rcases hq with hq | hq
  · rw [decide_eq_false hq]; rfl
  · rw [decide_eq_false (show ¬ _ = _ from hq), Bool.and_false]
theorem At.isnr {us : List Tok} {p : Nat} {t : List UInt8} {l : List Tk} (h : At us p ((2, t) :: l)) : isNr us ⟨p, 0⟩ = true := by
  obtain ⟨a, e⟩ := h.next
  unfold isNr; rw [e]; rfl
theorem At.isnr0 {us : List Tok} {p : Nat} {x : Tk} {l : List Tk} (h : At us p (x :: l)) (hx : x.1 ≠ 2) : isNr us ⟨p, 0⟩ = false := by
  obtain ⟨a, e⟩ := h.next
  unfold isNr; rw [e]; exact decide_eq_false hx
theorem At.isnm {us : List Tok} {p : Nat} {t : List UInt8} {l : List Tk} (h : At us p ((1, t) :: l)) (hw : wordB t = false) : isNm us ⟨p, 0⟩ = true := by
  obtain ⟨a, e⟩ := h.next
  unfold isNm; rw [e]; simp [hw]
theorem At.isnm0 {us : List Tok} {p : Nat} {x : Tk} {l : List Tk} (h : At us p (x :: l)) (hx : x.1 ≠ 1 ∨ wordB x.2 = true) : isNm us ⟨p, 0⟩ = false := by
  obtain ⟨a, e⟩ := h.next
  unfold isNm; rw [e]
  rcases hx with hx | hx
  · rw [decide_eq_false (show ¬ _ = _ from hx), Bool.false_and]
  · simp [hx]
theorem At.want {us : List Tok} {p : Nat} {q : List UInt8} {l : List Tk} (h : At us p (sg q :: l)) : wantS us q ⟨p, 0⟩ = ⟨p + 1, 0⟩ := by unfold wantS; rw [if_pos h.isW]; rfl
theorem At.num {us : List Tok} {p : Nat} {t : List UInt8} {l : List Tk} (h : At us p ((2, t) :: l)) : numS us ⟨p, 0⟩ = (t, ⟨p + 1, 0⟩) := by
  obtain ⟨a, e⟩ := h.next
  unfold numS; rw [if_pos h.isnr, e]; rfl
theorem At.name {us : List Tok} {p : Nat} {t : List UInt8} {l : List Tk} (h : At us p ((1, t) :: l)) (hw : wordB t = false) : nameS us ⟨p, 0⟩ = (t, ⟨p + 1, 0⟩) := by
  obtain ⟨a, e⟩ := h.next
  unfold nameS; rw [if_pos (h.isnm hw), e]; rfl
theorem At.nextD {us : List Tok} {p : Nat} {x : Tk} {l : List Tk} (h : At us p (x :: l)) : (nextT us ⟨p, 0⟩).t = x.2 := by
  obtain ⟨a, e⟩ := h.next
  rw [e]
theorem want_er {us : List Tok} {q : List UInt8} {s : St} (h : s.er = 5) : (wantS us q s).er = 5 := by
  rw [(good_want us q s).er (by rw [h]; decide)]; exact h
/-- What is parsed: too deep, or as it should be. -/
def Res (n : Nd) (l : List Tk) (p : Nat) (x : Nd × St) : Prop := x.2.er = 5 ∨ (x.2 = ⟨p + l.length, 0⟩ ∧ sameB n x.1 = true)
def ResL (ks : List Nd) (z : Nat) (x : List Nd × St) : Prop := x.2.er = 5 ∨ (x.2 = ⟨z, 0⟩ ∧ sameL ks x.1 = true)
theorem sameL_append : ∀ {a b c d : List Nd}, sameL a c = true → sameL b d = true → sameL (a ++ b) (c ++ d) = true
  | [], b, [], d, _, h => h
  | [], _, _ :: _, _, h, _ => by simp [sameL] at h
  | _ :: _, _, [], _, h, _ => by simp [sameL] at h
  | x :: a, b, y :: c, d, h, k => by
    simp only [sameL, Bool.and_eq_true, List.cons_append] at h ⊢
    exact ⟨h.1, sameL_append h.2 k⟩
theorem sameL_one {x y : Nd} (h : sameB x y = true) : sameL [x] [y] = true := by simp [sameL, h]
theorem same_mk {k : Int} {t : List UInt8} {a b : Int} {l m : List Nd} (h : sameL l m = true) : sameB (.mk k t a l) (.mk k t b m) = true := by simp [sameB, h]
theorem more_er {us : List Tok} {w : Pa} (n : Nat) (l : List Nd) (s : St) (h : s.er = 5) : moreS us w n l s = (l, s) := by
  cases n with
  | zero => rw [moreS]
  | succ n => rw [moreS, if_neg]; intro c; have := (isW_at c).1; omega
/-- The tokens of a list, with "," between. -/
def interT : List (List Tk) → List Tk
  | [] => []
  | x :: r => x ++ r.flatMap (fun y => sg [44] :: y)
abbrev ItemOk (us : List Tok) (w : Pa) (n : Nd) (l : List Tk) : Prop := ∀ p, At us p l → (isW us [44] ⟨p + l.length, 0⟩ = true ∨ isW us [41] ⟨p + l.length, 0⟩ = true) → Res n l p (w ⟨p, 0⟩)
theorem more_rt {us : List Tok} {w : Pa} {f : Nd → List Tk} : ∀ (ks accN acc : List Nd) (m p : Nat) (l' : List Tk), (∀ n, n ∈ ks → ItemOk us w n (f n)) → sameL accN acc = true → At us p ((ks.map f).flatMap (fun y => sg [44] :: y) ++ sg [41] :: l') → us.length - p ≤ m →
    ResL (accN ++ ks) (p + ((ks.map f).flatMap (fun y => sg [44] :: y)).length) (moreS us w m acc ⟨p, 0⟩) := by
  intro ks
  induction ks with
  | nil =>
    intro accN acc m p l' _ hs h _
    have h : At us p (sg [41] :: l') := h
    right
    cases m with
    | zero => exact ⟨by rw [moreS]; rfl, by rw [moreS, List.append_nil]; exact hs⟩
    | succ m =>
      rw [moreS, if_neg (by rw [h.isn (.inr (by decide))]; decide)]
      exact ⟨rfl, by rw [List.append_nil]; exact hs⟩
  | cons n r ih =>
    intro accN acc m p l' hk hs h hm
    have h : At us p (sg [44] :: (f n ++ ((r.map f).flatMap (fun y => sg [44] :: y) ++ sg [41] :: l'))) := by
      rw [List.map_cons, List.flatMap_cons, List.cons_append, List.cons_append, List.append_assoc] at h; exact h
    have hlt := h.lt
    obtain ⟨m', rfl⟩ : ∃ m', m = m' + 1 := ⟨m - 1, by omega⟩
    rw [moreS, if_pos h.isW]
    obtain ⟨h1, h2⟩ := At.append h.2
    have hn := hk n (by simp) (p + 1) h1 (by
      cases r with
      | nil => exact .inr (At.isW (l := l') h2)
      | cons x r => exact .inl (At.isW h2))
    show ResL _ _ (moreS us w m' (acc ++ [(w ⟨p + 1, 0⟩).1]) (w ⟨p + 1, 0⟩).2)
    rcases hn with hn | ⟨hn, hs2⟩
    · rw [more_er _ _ _ hn]; exact .inl hn
    · rw [hn]
      have := ih (accN ++ [n]) _ m' _ l' (fun x hx => hk x (by simp [hx])) (sameL_append hs (sameL_one hs2)) h2 (by omega)
      rw [List.append_assoc] at this
      have e : p + 1 + (f n).length + ((r.map f).flatMap (fun y => sg [44] :: y)).length = p + (((n :: r).map f).flatMap (fun y => sg [44] :: y)).length := by
        rw [List.map_cons, List.flatMap_cons, List.length_append, List.length_cons]; omega
      rw [← e]; exact this
theorem some_rt {us : List Tok} {w : Pa} {f : Nd → List Tk} (ks : List Nd) (hne : ks ≠ []) (p : Nat) (l' : List Tk) (hk : ∀ n, n ∈ ks → ItemOk us w n (f n)) (h : At us p (interT (ks.map f) ++ sg [41] :: l')) :
    ResL ks (p + (interT (ks.map f)).length + 1) (someS us w [41] ⟨p, 0⟩) := by
  cases ks with
  | nil => exact absurd rfl hne
  | cons n r =>
    rw [List.map_cons, interT, List.append_assoc] at h
    obtain ⟨h1, h2⟩ := At.append h
    have hn := hk n (by simp) p h1 (by
      cases r with
      | nil => exact .inr (At.isW (l := l') h2)
      | cons x r => exact .inl (At.isW h2))
    unfold someS
    simp only
    rcases hn with hn | ⟨hn, hs⟩
    · rw [more_er _ _ _ hn]; exact .inl (want_er hn)
    · rw [hn]
      have hm := more_rt r [n] [(w ⟨p, 0⟩).1] (left us ⟨p + (f n).length, 0⟩) _ l' (fun x hx => hk x (by simp [hx])) (sameL_one hs) h2 (Nat.le_refl _)
      rcases hm with hm | ⟨hm, hs2⟩
      · exact .inl (want_er hm)
      · right
        rw [hm]
        have h3 := (At.append h2).2
        refine ⟨?_, hs2⟩
        show wantS us [41] _ = _
        rw [h3.want]
        rw [List.map_cons, interT, List.length_append, Nat.add_assoc p]
theorem list_rt {us : List Tok} {w : Pa} {f : Nd → List Tk} (ks : List Nd) (p : Nat) (l' : List Tk) (hk : ∀ n, n ∈ ks → ItemOk us w n (f n)) (hh : ∀ n, n ∈ ks → ∀ p l', At us p (f n ++ l') → isW us [41] ⟨p, 0⟩ = false) (h : At us p (interT (ks.map f) ++ sg [41] :: l')) :
    ResL ks (p + (interT (ks.map f)).length + 1) (listS us w [41] ⟨p, 0⟩) := by
  unfold listS
  cases ks with
  | nil =>
    have h : At us p (sg [41] :: l') := h
    rw [if_pos h.isW]
    exact .inr ⟨rfl, rfl⟩
  | cons n r =>
    rw [if_neg]
    · exact some_rt _ (by simp) p l' hk h
    · rw [List.map_cons, interT, List.append_assoc] at h
      rw [hh n (by simp) p _ h]; decide
/- Signs between. -/
theorem anyW_not {us : List Tok} {sgs : List (List UInt8)} {s : St} (h : s.er = 5) : anyW us sgs s = false := by
  cases hq : anyW us sgs s with
  | false => rfl
  | true => have := (anyW_at hq).1; omega
theorem join_none {us : List Tok} {w : Pa} {sgs : List (List UInt8)} {s : St} (h : anyW us sgs (w s).2 = false) : joinS us w sgs s = w s := by
  unfold joinS
  generalize left us (w s).2 = m
  cases m with
  | zero => rw [loopJ]
  | succ m => rw [loopJ, if_neg (by rw [h]; decide)]
theorem loopJ_none {us : List Tok} {w : Pa} {sgs : List (List UInt8)} {s : St} (m : Nat) (x : Nd) (h : anyW us sgs s = false) : loopJ us w sgs m x s = (x, s) := by
  cases m with
  | zero => rw [loopJ]
  | succ m => rw [loopJ, if_neg (by rw [h]; decide)]
theorem Res.join1 {us : List Tok} {w : Pa} {sgs : List (List UInt8)} {n : Nd} {l : List Tk} {p : Nat} (h : Res n l p (w ⟨p, 0⟩)) (hf : anyW us sgs ⟨p + l.length, 0⟩ = false) : Res n l p (joinS us w sgs ⟨p, 0⟩) := by
  rcases h with h | ⟨h, hs⟩
  · rw [join_none (anyW_not h)]; exact .inl h
  · rw [join_none (by rw [h]; exact hf)]; exact .inr ⟨h, hs⟩
theorem Res.join2 {us : List Tok} {w : Pa} {sgs : List (List UInt8)} {x y : Nd} {l m r : List Tk} {t : List UInt8} {a : Int} {p : Nat} (h : Res x l p (w ⟨p, 0⟩)) (ht : At us (p + l.length) (sg t :: r)) (hy : anyW us sgs ⟨p + l.length, 0⟩ = true)
    (h2 : Res y m (p + l.length + 1) (w ⟨p + l.length + 1, 0⟩)) (hf : anyW us sgs ⟨p + l.length + 1 + m.length, 0⟩ = false) : Res (.mk 19 t a [x, y]) (l ++ sg t :: m) p (joinS us w sgs ⟨p, 0⟩) := by
  rcases h with h | ⟨h, hs⟩
  · rw [join_none (anyW_not h)]; exact .inl h
  · unfold joinS
    rw [h]
    have hlt := ht.lt
    obtain ⟨k, hk⟩ : ∃ k, left us ⟨p + l.length, 0⟩ = k + 1 := ⟨us.length - (p + l.length) - 1, by show us.length - (p + l.length) = _; omega⟩
    rw [hk, loopJ, if_pos hy, ht.nextD]
    show Res _ _ _ (loopJ us w sgs k (.mk 19 t _ [(w ⟨p, 0⟩).1, (w ⟨p + l.length + 1, 0⟩).1]) (w ⟨p + l.length + 1, 0⟩).2)
    rcases h2 with h2 | ⟨h2, hs2⟩
    · rw [loopJ_none _ _ (anyW_not h2)]; exact .inl h2
    · rw [h2, loopJ_none _ _ hf]
      refine .inr ⟨?_, same_mk ?_⟩
      · show (⟨_, 0⟩ : St) = ⟨_, 0⟩
        congr 1
        rw [List.length_append, List.length_cons]; omega
      · simp [sameL, hs, hs2]
theorem At.any {us : List Tok} {p : Nat} {t : List UInt8} {l : List Tk} (h : At us p (sg t :: l)) (sgs : List (List UInt8)) : anyW us sgs ⟨p, 0⟩ = decide (t ∈ sgs) := by
  unfold anyW
  rw [Bool.eq_iff_iff, List.any_eq_true, decide_eq_true_eq]
  constructor
  · rintro ⟨q, hq, h2⟩
    by_cases e : t = q
    · rw [e]; exact hq
    · rw [h.isn (.inr e)] at h2; cases h2
  · intro ht
    exact ⟨t, ht, h.isW⟩

end Go.Proofs.Ytgndnodahlabiaa
