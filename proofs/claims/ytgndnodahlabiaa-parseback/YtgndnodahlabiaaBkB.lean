/-
  There and back (layer 10): types and expressions: what their tokens are, and that these are parsed as them, or are too deep. No program is named.
-/
import Derived.Test.YtgndnodahlabiaaBkA
namespace Go.Proofs.Ytgndnodahlabiaa

/-- A type, and its tokens. -/
inductive ShT : Nd → List Tk → Prop
  | int (a : Int) : ShT (.mk 5 [] a []) [sg [105, 110, 116]]
  | ptr (a : Int) {n : Nd} {l : List Tk} : ShT n l → ShT (.mk 6 [] a [n]) (sg [42] :: l)
  | arr (a : Int) {t : List UInt8} {n : Nd} {l : List Tk} : Whole 2 t → ShT n l → ShT (.mk 7 t a [n]) (sg [91] :: (2, t) :: sg [93] :: l)
  | tup (a : Int) {ks : List Nd} (f : Nd → List Tk) : ks ≠ [] → (∀ n, n ∈ ks → ShT n (f n)) → ShT (.mk 8 [] a ks) (sg [40] :: (interT (ks.map f) ++ [sg [41]]))
theorem typ_rt {us : List Tok} {n : Nd} {l : List Tk} (h : ShT n l) : ∀ r p, At us p l → Res n l p ((lv us r).t ⟨p, 0⟩) := by
  induction h with
  | int a =>
    intro r p h
    cases r with
    | zero => exact .inl rfl
    | succ r =>
      show Res _ _ _ (typF us (lv us r) ⟨p, 0⟩)
      unfold typF
      simp only
      rw [if_pos h.isW]
      exact .inr ⟨rfl, same_mk rfl⟩
  | ptr a _ ih =>
    intro r p h
    cases r with
    | zero => exact .inl rfl
    | succ r =>
      show Res _ _ _ (typF us (lv us r) ⟨p, 0⟩)
      unfold typF
      simp only
      rw [if_neg (by rw [h.isn (.inr (by decide))]; decide), if_pos h.isW]
      rcases ih r (p + 1) h.2 with e | ⟨e, hs⟩
      · exact .inl e
      · refine .inr ⟨?_, same_mk (sameL_one hs)⟩
        show ((lv us r).t ⟨p + 1, 0⟩).2 = _
        rw [e, List.length_cons, Nat.add_assoc, Nat.add_comm 1]
  | @arr a t n l hw _ ih =>
    intro r p h
    cases r with
    | zero => exact .inl rfl
    | succ r =>
      show Res _ _ _ (typF us (lv us r) ⟨p, 0⟩)
      unfold typF
      simp only
      rw [if_neg (by rw [h.isn (.inr (by decide))]; decide), if_neg (by rw [h.isn (.inr (by decide))]; decide), if_pos h.isW]
      have h2 : At us (p + 1) ((2, t) :: sg [93] :: l) := h.2
      show Res _ _ _ (Nd.mk 7 (numS us ⟨p + 1, 0⟩).1 _ [((lv us r).t (wantS us [93] (numS us ⟨p + 1, 0⟩).2)).1], ((lv us r).t (wantS us [93] (numS us ⟨p + 1, 0⟩).2)).2)
      rw [h2.num]
      have h3 : At us (p + 1 + 1) (sg [93] :: l) := h2.2
      simp only
      rw [h3.want]
      rcases ih r (p + 1 + 1 + 1) h3.2 with e | ⟨e, hs⟩
      · exact .inl e
      · refine .inr ⟨?_, same_mk (sameL_one hs)⟩
        show ((lv us r).t ⟨p + 1 + 1 + 1, 0⟩).2 = _
        rw [e]
        congr 1
        simp only [List.length_cons]; omega
  | @tup a ks f hne _ ih =>
    intro r p h
    cases r with
    | zero => exact .inl rfl
    | succ r =>
      show Res _ _ _ (typF us (lv us r) ⟨p, 0⟩)
      unfold typF
      simp only
      rw [if_neg (by rw [h.isn (.inr (by decide))]; decide), if_neg (by rw [h.isn (.inr (by decide))]; decide), if_neg (by rw [h.isn (.inr (by decide))]; decide), if_pos h.isW]
      have := some_rt (w := (lv us r).t) (f := f) ks hne (p + 1) [] (fun n hn p hp _ => ih n hn r p hp) h.2
      show Res _ _ _ (Nd.mk 8 [] _ (someS us (lv us r).t [41] ⟨p + 1, 0⟩).1, (someS us (lv us r).t [41] ⟨p + 1, 0⟩).2)
      rcases this with e | ⟨e, hs⟩
      · exact .inl e
      · refine .inr ⟨?_, same_mk hs⟩
        simp only
        rw [e]
        congr 1
        simp only [List.length_cons, List.length_append, List.length_nil]; omega
theorem ShT.head {n : Nd} {l : List Tk} (h : ShT n l) : ∃ q r, l = sg q :: r ∧ q ∈ [[105, 110, 116], [42], [91], [40]] := by
  cases h with
  | int a => exact ⟨_, _, rfl, by decide⟩
  | ptr a _ => exact ⟨_, _, rfl, by decide⟩
  | arr a _ _ => exact ⟨_, _, rfl, by decide⟩
  | tup a f _ _ => exact ⟨_, _, rfl, by decide⟩

def binL : List (List UInt8) := [[42], [47], [37], [38], [60, 60], [62, 62], [43], [45], [94], [124], [61, 61], [33, 61], [60], [60, 61]]
/-- An expression, and its tokens. -/
inductive ShX : Nd → List Tk → Prop
  | num (a : Int) {t : List UInt8} : Whole 2 t → ShX (.mk 17 t a []) [(2, t)]
  | use (a : Int) {t : List UInt8} : Whole 1 t → wordB t = false → ShX (.mk 18 t a []) [(1, t)]
  | call (a : Int) {t : List UInt8} {ks : List Nd} (f : Nd → List Tk) : Whole 1 t → wordB t = false → (∀ n, n ∈ ks → ShX n (f n)) → ShX (.mk 25 t a ks) ((1, t) :: sg [40] :: (interT (ks.map f) ++ [sg [41]]))
  | new (a : Int) {n : Nd} {l : List Tk} : ShT n l → ShX (.mk 26 [] a [n]) (sg [110, 101, 119] :: sg [40] :: (l ++ [sg [41]]))
  | read (a : Int) : ShX (.mk 27 [] a []) [sg [114, 101, 97, 100]]
  | bin (a : Int) {t : List UInt8} {x y : Nd} {l m : List Tk} : t ∈ binL → ShX x l → ShX y m → ShX (.mk 19 t a [x, y]) (sg [40] :: (l ++ sg t :: (m ++ [sg [41]])))
  | un (a k : Int) (q : List UInt8) {x : Nd} {l : List Tk} : (k = 20 ∧ q = [45] ∨ k = 21 ∧ q = [42] ∨ k = 22 ∧ q = [38]) → ShX x l → ShX (.mk k [] a [x]) (sg [40] :: sg q :: (l ++ [sg [41]]))
  | idx (a : Int) {x y : Nd} {l m : List Tk} : ShX x l → ShX y m → ShX (.mk 23 [] a [x, y]) (l ++ sg [91] :: (m ++ [sg [93]]))
  | fld (a : Int) {t : List UInt8} {x : Nd} {l : List Tk} : Whole 2 t → ShX x l → ShX (.mk 24 t a [x]) (l ++ [sg [46], (2, t)])
/-- How an expression begins. -/
def EH (h : Tk) : Prop := h.1 = 2 ∨ (h.1 = 1 ∧ wordB h.2 = false) ∨ h = sg [110, 101, 119] ∨ h = sg [114, 101, 97, 100] ∨ h = sg [40]
theorem ShX.head {n : Nd} {l : List Tk} (h : ShX n l) : ∃ x r, l = x :: r ∧ EH x := by
  induction h with
  | num a _ => exact ⟨_, _, rfl, .inl rfl⟩
  | use a _ h => exact ⟨_, _, rfl, .inr (.inl ⟨rfl, h⟩)⟩
  | call a f _ h _ _ => exact ⟨_, _, rfl, .inr (.inl ⟨rfl, h⟩)⟩
  | new a _ => exact ⟨_, _, rfl, .inr (.inr (.inl rfl))⟩
  | read a => exact ⟨_, _, rfl, .inr (.inr (.inr (.inl rfl)))⟩
  | bin a _ _ _ _ _ => exact ⟨_, _, rfl, .inr (.inr (.inr (.inr rfl)))⟩
  | un a k q _ _ _ => exact ⟨_, _, rfl, .inr (.inr (.inr (.inr rfl)))⟩
  | idx a _ _ ih _ => obtain ⟨x, r, rfl, h⟩ := ih; exact ⟨x, _, rfl, h⟩
  | fld a _ _ ih => obtain ⟨x, r, rfl, h⟩ := ih; exact ⟨x, _, rfl, h⟩
theorem EH.ne {us : List Tok} {p : Nat} {x : Tk} {l : List Tk} (h : EH x) (ha : At us p (x :: l)) {q : List UInt8} (hq : q ≠ [110, 101, 119] ∧ q ≠ [114, 101, 97, 100] ∧ q ≠ [40]) : isW us q ⟨p, 0⟩ = false := by
  rcases h with h | ⟨h, h2⟩ | h | h | h
  · refine ha.isn (.inl ?_)
    rw [h]; unfold kindOf; split <;> decide
  · by_cases e : x.2 = q
    · refine ha.isn (.inl ?_)
      rw [h, ← e]; unfold kindOf; rw [h2]; decide
    · exact ha.isn (.inr e)
  · subst h; exact ha.isn (.inr (fun e => hq.1 e.symm))
  · subst h; exact ha.isn (.inr (fun e => hq.2.1 e.symm))
  · subst h; exact ha.isn (.inr (fun e => hq.2.2 e.symm))
theorem ShX.no {us : List Tok} {n : Nd} {l m : List Tk} (h : ShX n l) {p : Nat} (ha : At us p (l ++ m)) {q : List UInt8} (hq : q ≠ [110, 101, 119] ∧ q ≠ [114, 101, 97, 100] ∧ q ≠ [40]) : isW us q ⟨p, 0⟩ = false := by
  obtain ⟨x, r, rfl, he⟩ := h.head
  exact he.ne (l := r ++ m) ha hq
theorem ShX.no' {us : List Tok} {n : Nd} {l : List Tk} (h : ShX n l) {p : Nat} (ha : At us p l) {q : List UInt8} (hq : q ≠ [110, 101, 119] ∧ q ≠ [114, 101, 97, 100] ∧ q ≠ [40]) : isW us q ⟨p, 0⟩ = false :=
  h.no (m := []) (by rw [List.append_nil]; exact ha) hq
theorem loopP_none {us : List Tok} {v : Lv} (m : Nat) (x : Nd) {s : St} (h1 : isW us [91] s = false) (h2 : isW us [46] s = false) : loopP us v m x s = (x, s) := by
  cases m with
  | zero => rw [loopP]
  | succ m => rw [loopP, if_neg (by rw [h1]; decide), if_neg (by rw [h2]; decide)]
theorem isW_er {us : List Tok} {q : List UInt8} {s : St} (h : s.er = 5) : isW us q s = false := by
  cases hq : isW us q s with
  | false => rfl
  | true => have := (isW_at hq).1; omega
theorem loopP_er {us : List Tok} {v : Lv} (m : Nat) (x : Nd) {s : St} (h : s.er = 5) : loopP us v m x s = (x, s) := loopP_none m x (isW_er h) (isW_er h)
/-- What a part comes to, ahead of what may stand behind it. -/
def PartOk (us : List Tok) (n : Nd) (l : List Tk) : Prop := ∀ r p, At us p l → isW us [40] ⟨p + l.length, 0⟩ = false →
  (partF us (lv us r) ⟨p, 0⟩).2.er = 5 ∨ ∃ x m, sameB n x = true ∧ us.length - (p + l.length) ≤ m ∧ partF us (lv us r) ⟨p, 0⟩ = loopP us (lv us r) m x ⟨p + l.length, 0⟩
theorem PartOk.prim {us : List Tok} {n : Nd} {l : List Tk} (h : ∀ r p, At us p l → isW us [40] ⟨p + l.length, 0⟩ = false → Res n l p (primF us (lv us r) ⟨p, 0⟩)) : PartOk us n l := by
  intro r p hp hf
  unfold partF
  rcases h r p hp hf with e | ⟨e, hs⟩
  · rw [loopP_er _ _ e]; exact .inl e
  · rw [e]
    exact .inr ⟨_, _, hs, Nat.le_refl _, rfl⟩
def OperOk (us : List Tok) (n : Nd) (l : List Tk) : Prop := ∀ r p, At us p l → isW us [40] ⟨p + l.length, 0⟩ = false → isW us [91] ⟨p + l.length, 0⟩ = false → isW us [46] ⟨p + l.length, 0⟩ = false → Res n l p (operF us (lv us r) ⟨p, 0⟩)
theorem PartOk.oper {us : List Tok} {n : Nd} {l : List Tk} (hx : ShX n l) (h : PartOk us n l) : OperOk us n l := by
  intro r p hp h1 h2 h3
  unfold operF
  simp only
  rw [if_neg (by rw [hx.no' hp (by decide)]; decide), if_neg (by rw [hx.no' hp (by decide)]; decide), if_neg (by rw [hx.no' hp (by decide)]; decide)]
  rcases h r p hp h1 with e | ⟨x, m, hs, _, e⟩
  · exact .inl e
  · rw [e, loopP_none _ _ h2 h3]
    exact .inr ⟨rfl, hs⟩
def mulL : List (List UInt8) := [[42], [47], [37], [38], [60, 60], [62, 62]]
def addL : List (List UInt8) := [[43], [45], [94], [124]]
def cmpL : List (List UInt8) := [[61, 61], [33, 61], [60], [60, 61]]
/-- What an expression may stand ahead of. -/
def endL : List (List UInt8) := [[41], [93], [44], [61], [59], [123]]
theorem end_no : ∀ q, q ∈ endL → q ∉ mulL ∧ q ∉ addL ∧ q ∉ cmpL ∧ q ≠ [40] ∧ q ≠ [91] ∧ q ≠ [46] := by decide
structure Ends (us : List Tok) (p : Nat) : Prop where
  m : anyW us mulL ⟨p, 0⟩ = false
  a : anyW us addL ⟨p, 0⟩ = false
  c : anyW us cmpL ⟨p, 0⟩ = false
  x : isW us [40] ⟨p, 0⟩ = false
  y : isW us [91] ⟨p, 0⟩ = false
  z : isW us [46] ⟨p, 0⟩ = false
theorem Ends.of {us : List Tok} {p : Nat} {q : List UInt8} {l : List Tk} (h : At us p (sg q :: l)) (hq : q ∈ endL) : Ends us p := by
  obtain ⟨h1, h2, h3, h4, h5, h6⟩ := end_no q hq
  exact ⟨by rw [h.any]; exact decide_eq_false h1, by rw [h.any]; exact decide_eq_false h2, by rw [h.any]; exact decide_eq_false h3, h.isn (.inr h4), h.isn (.inr h5), h.isn (.inr h6)⟩
theorem isW_two {us : List Tok} {q q' : List UInt8} {s : St} (h : isW us q s = true) (hq : q ≠ q') : isW us q' s = false := by
  unfold isW at h ⊢
  simp only [Bool.and_eq_true, decide_eq_true_eq] at h
  rw [decide_eq_false (fun e => hq (h.2.symm.trans e)), Bool.and_false]
theorem any_two {us : List Tok} {q : List UInt8} {s : St} (h : isW us q s = true) {sgs : List (List UInt8)} (hq : q ∉ sgs) : anyW us sgs s = false := by
  cases e : anyW us sgs s with
  | false => rfl
  | true =>
    unfold anyW at e
    obtain ⟨q', hq', e⟩ := List.any_eq_true.1 e
    rw [isW_two h (fun c => hq (c ▸ hq'))] at e
    cases e
theorem Ends.ofW {us : List Tok} {p : Nat} {q : List UInt8} (h : isW us q ⟨p, 0⟩ = true) (hq : q ∈ endL) : Ends us p := by
  obtain ⟨h1, h2, h3, h4, h5, h6⟩ := end_no q hq
  exact ⟨any_two h h1, any_two h h2, any_two h h3, isW_two h h4, isW_two h h5, isW_two h h6⟩
def ExprOk (us : List Tok) (n : Nd) (l : List Tk) : Prop := ∀ r p, At us p l → Ends us (p + l.length) → Res n l p ((lv us r).e ⟨p, 0⟩)
theorem OperOk.expr {us : List Tok} {n : Nd} {l : List Tk} (h : OperOk us n l) : ExprOk us n l := by
  intro r p hp he
  cases r with
  | zero => exact .inl rfl
  | succ r =>
    show Res _ _ _ (joinS us (joinS us (joinS us (operF us (lv us r)) mulL) addL) cmpL ⟨p, 0⟩)
    exact Res.join1 (Res.join1 (Res.join1 (h r p hp he.x he.y he.z) he.m) he.a) he.c
theorem bin_no : ∀ q, q ∈ binL → q ≠ [40] ∧ q ≠ [91] ∧ q ≠ [46] := by decide
theorem bin_parts : ∀ q, q ∈ binL → (q ∈ mulL ∨ (q ∈ addL ∧ q ∉ mulL) ∨ (q ∈ cmpL ∧ q ∉ mulL ∧ q ∉ addL)) := by decide
theorem bin_rt {us : List Tok} {x y : Nd} {l m r' : List Tk} {t : List UInt8} (a : Int) (hx : OperOk us x l) (hy : OperOk us y m) (ht : t ∈ binL) (r p : Nat) (h : At us p (l ++ sg t :: (m ++ r'))) (he : Ends us (p + l.length + 1 + m.length)) :
    Res (.mk 19 t a [x, y]) (l ++ sg t :: m) p ((lv us r).e ⟨p, 0⟩) := by
  cases r with
  | zero => exact .inl rfl
  | succ r =>
    show Res _ _ _ (joinS us (joinS us (joinS us (operF us (lv us r)) mulL) addL) cmpL ⟨p, 0⟩)
    obtain ⟨h1, h2⟩ := At.append h
    have h3 : At us (p + l.length + 1) (m ++ r') := h2.2
    obtain ⟨h4, -⟩ := At.append h3
    obtain ⟨n1, n2, n3⟩ := bin_no t ht
    have x0 := hx r p h1 (h2.isn (.inr n1)) (h2.isn (.inr n2)) (h2.isn (.inr n3))
    have y0 := hy r _ h4 he.x he.y he.z
    have elen : p + (l ++ sg t :: m).length = p + l.length + 1 + m.length := by rw [List.length_append, List.length_cons]; omega
    rcases bin_parts t ht with e | ⟨e, e1⟩ | ⟨e, e1, e2⟩
    · refine Res.join1 (Res.join1 (Res.join2 x0 h2 (by rw [h2.any]; exact decide_eq_true e) y0 he.m) ?_) ?_
      · rw [elen]; exact he.a
      · rw [elen]; exact he.c
    · refine Res.join1 (Res.join2 (Res.join1 x0 (by rw [h2.any]; exact decide_eq_false e1)) h2 (by rw [h2.any]; exact decide_eq_true e) (Res.join1 y0 he.m) he.a) ?_
      rw [elen]; exact he.c
    · exact Res.join2 (Res.join1 (Res.join1 x0 (by rw [h2.any]; exact decide_eq_false e1)) (by rw [h2.any]; exact decide_eq_false e2)) h2 (by rw [h2.any]; exact decide_eq_true e) (Res.join1 (Res.join1 y0 he.m) he.a) he.c
theorem un_rt {us : List Tok} {x : Nd} {l : List Tk} {k : Int} {q : List UInt8} (a : Int) (hx : OperOk us x l) (hk : k = 20 ∧ q = [45] ∨ k = 21 ∧ q = [42] ∨ k = 22 ∧ q = [38]) (r p : Nat) (h : At us p (sg q :: l)) (he : Ends us (p + 1 + l.length)) :
    Res (.mk k [] a [x]) (sg q :: l) p ((lv us r).e ⟨p, 0⟩) := by
  cases r with
  | zero => exact .inl rfl
  | succ r =>
    show Res _ _ _ (joinS us (joinS us (joinS us (operF us (lv us r)) mulL) addL) cmpL ⟨p, 0⟩)
    have elen : p + (sg q :: l).length = p + 1 + l.length := by rw [List.length_cons]; omega
    have x0 : Res x l (p + 1) ((lv us r).o ⟨p + 1, 0⟩) := by
      cases r with
      | zero => exact .inl rfl
      | succ r => exact hx r (p + 1) h.2 he.x he.y he.z
    refine Res.join1 (Res.join1 (Res.join1 ?_ ?_) ?_) ?_
    · have fin : ∀ b : Int, Res (.mk k [] a [x]) (sg q :: l) p (Nd.mk k [] b [((lv us r).o ⟨p + 1, 0⟩).1], ((lv us r).o ⟨p + 1, 0⟩).2) := fun b => by
        rcases x0 with e | ⟨e, hs⟩
        · exact .inl e
        · refine .inr ⟨?_, same_mk (sameL_one hs)⟩
          simp only
          rw [e, elen]
      unfold operF
      simp only
      rcases hk with ⟨rfl, rfl⟩ | ⟨rfl, rfl⟩ | ⟨rfl, rfl⟩
      · rw [if_pos h.isW]; exact fin _
      · rw [if_neg (by rw [h.isn (.inr (by decide))]; decide), if_pos h.isW]; exact fin _
      · rw [if_neg (by rw [h.isn (.inr (by decide))]; decide), if_neg (by rw [h.isn (.inr (by decide))]; decide), if_pos h.isW]; exact fin _
    · rw [elen]; exact he.m
    · rw [elen]; exact he.a
    · rw [elen]; exact he.c
theorem paren_rt {us : List Tok} {n : Nd} {l : List Tk} {p r : Nat} (h : At us p (sg [40] :: (l ++ [sg [41]]))) (hx : Res n l (p + 1) ((lv us r).e ⟨p + 1, 0⟩)) : Res n (sg [40] :: (l ++ [sg [41]])) p (primF us (lv us r) ⟨p, 0⟩) := by
  unfold primF
  simp only
  rw [if_neg (by rw [h.isnr0 (by decide)]; decide), if_neg (by rw [h.isnm0 (.inl (by decide))]; decide), if_neg (by rw [h.isn (.inr (by decide))]; decide), if_neg (by rw [h.isn (.inr (by decide))]; decide), if_pos h.isW]
  show Res _ _ _ (((lv us r).e ⟨p + 1, 0⟩).1, wantS us [41] ((lv us r).e ⟨p + 1, 0⟩).2)
  rcases hx with e | ⟨e, hs⟩
  · exact .inl (want_er e)
  · have h2 : At us (p + 1) (l ++ [sg [41]]) := h.2
    have h3 := (At.append h2).2
    refine .inr ⟨?_, hs⟩
    simp only
    rw [e, h3.want]
    congr 1
    simp only [List.length_cons, List.length_append, List.length_nil]; omega
theorem part_rt {us : List Tok} {n : Nd} {l : List Tk} (h : ShX n l) : PartOk us n l := by
  induction h with
  | num a hw =>
    refine PartOk.prim fun r p h _ => ?_
    unfold primF
    simp only
    rw [if_pos h.isnr, h.nextD]
    exact .inr ⟨rfl, same_mk rfl⟩
  | use a hw hn =>
    refine PartOk.prim fun r p h hf => ?_
    unfold primF
    simp only
    rw [if_neg (by rw [h.isnr0 (show (1 : Nat) ≠ 2 by decide)]; decide), if_pos (h.isnm hn), if_neg (by rw [show isW us [40] (adv ⟨p, 0⟩) = false from hf]; decide), h.nextD]
    exact .inr ⟨rfl, same_mk rfl⟩
  | @call a t ks f hw hn hk ih =>
    refine PartOk.prim fun r p h _ => ?_
    unfold primF
    simp only
    have h2 : At us (p + 1) (sg [40] :: (interT (ks.map f) ++ [sg [41]])) := h.2
    rw [if_neg (by rw [h.isnr0 (show (1 : Nat) ≠ 2 by decide)]; decide), if_pos (h.isnm hn), if_pos (show isW us [40] (adv ⟨p, 0⟩) = true from h2.isW), h.nextD]
    have h3 : At us (p + 1 + 1) (interT (ks.map f) ++ sg [41] :: []) := h2.2
    have := list_rt (w := (lv us r).e) (f := f) ks (p + 1 + 1) [] (fun n hn p hp hf => ((ih n hn).oper (hk n hn)).expr r p hp (by
      rcases hf with hf | hf
      · exact Ends.ofW hf (by decide)
      · exact Ends.ofW hf (by decide))) (fun n hn p l' hp => (hk n hn).no hp (by decide)) h3
    show Res _ _ _ (Nd.mk 25 t _ (listS us (lv us r).e [41] ⟨p + 1 + 1, 0⟩).1, (listS us (lv us r).e [41] ⟨p + 1 + 1, 0⟩).2)
    rcases this with e | ⟨e, hs⟩
    · exact .inl e
    · refine .inr ⟨?_, same_mk hs⟩
      simp only
      rw [e]
      congr 1
      simp only [List.length_cons, List.length_append, List.length_nil]; omega
  | @new a n l hT =>
    refine PartOk.prim fun r p h _ => ?_
    unfold primF
    simp only
    have h2 : At us (p + 1) (sg [40] :: (l ++ [sg [41]])) := h.2
    rw [if_neg (by rw [h.isnr0 (by decide)]; decide), if_neg (by rw [h.isnm0 (.inr (by decide))]; decide), if_pos h.isW]
    show Res _ _ _ (Nd.mk 26 [] _ [((lv us r).t (wantS us [40] ⟨p + 1, 0⟩)).1], wantS us [41] ((lv us r).t (wantS us [40] ⟨p + 1, 0⟩)).2)
    rw [h2.want]
    have h3 : At us (p + 1 + 1) (l ++ [sg [41]]) := h2.2
    obtain ⟨h4, h5⟩ := At.append h3
    rcases typ_rt hT r (p + 1 + 1) h4 with e | ⟨e, hs⟩
    · exact .inl (want_er e)
    · refine .inr ⟨?_, same_mk (sameL_one hs)⟩
      simp only
      rw [e, h5.want]
      congr 1
      simp only [List.length_cons, List.length_append, List.length_nil]; omega
  | read a =>
    refine PartOk.prim fun r p h _ => ?_
    unfold primF
    simp only
    rw [if_neg (by rw [h.isnr0 (by decide)]; decide), if_neg (by rw [h.isnm0 (.inr (by decide))]; decide), if_neg (by rw [h.isn (.inr (by decide))]; decide), if_pos h.isW]
    exact .inr ⟨rfl, same_mk rfl⟩
  | @bin a t x y l m ht hx hy ihx ihy =>
    refine PartOk.prim fun r p h _ => ?_
    have e : sg [40] :: (l ++ sg t :: (m ++ [sg [41]])) = sg [40] :: ((l ++ sg t :: m) ++ [sg [41]]) := by simp
    rw [e] at h ⊢
    refine paren_rt h (bin_rt a (ihx.oper hx) (ihy.oper hy) ht r (p + 1) (r' := [sg [41]]) (by rw [show l ++ sg t :: (m ++ [sg [41]]) = (l ++ sg t :: m) ++ [sg [41]] by simp]; exact h.2) ?_)
    have h3 := (At.append h.2).2
    rw [List.length_append, List.length_cons, show p + 1 + (l.length + (m.length + 1)) = p + 1 + l.length + 1 + m.length by omega] at h3
    exact Ends.of h3 (by decide)
  | @un a k q x l hk hx ih =>
    refine PartOk.prim fun r p h _ => ?_
    have h : At us p (sg [40] :: ((sg q :: l) ++ [sg [41]])) := h
    refine paren_rt h (un_rt a (ih.oper hx) hk r (p + 1) (At.append h.2).1 ?_)
    have h3 := (At.append h.2).2
    rw [List.length_cons, show p + 1 + (l.length + 1) = p + 1 + 1 + l.length by omega] at h3
    exact Ends.of h3 (by decide)
  | @idx a x y l m hx hy ihx ihy =>
    intro r p h _
    obtain ⟨h1, h2⟩ := At.append h
    have h3 : At us (p + l.length + 1) (m ++ [sg [93]]) := h2.2
    obtain ⟨h4, h5⟩ := At.append h3
    rcases ihx r p h1 (h2.isn (.inr (by decide))) with e | ⟨x', k, hs, hm, e⟩
    · exact .inl e
    · have hlt := h2.lt
      obtain ⟨k', rfl⟩ : ∃ k', k = k' + 1 := ⟨k - 1, by omega⟩
      rw [e, loopP, if_pos h2.isW]
      show (loopP us (lv us r) k' (.mk 23 [] x'.a [x', ((lv us r).e ⟨p + l.length + 1, 0⟩).1]) (wantS us [93] ((lv us r).e ⟨p + l.length + 1, 0⟩).2)).2.er = 5 ∨ _
      rcases (ihy.oper hy).expr r _ h4 (Ends.of h5 (by decide)) with e2 | ⟨e2, hs2⟩
      · left; rw [loopP_er _ _ (want_er e2)]; exact want_er e2
      · right
        refine ⟨.mk 23 [] x'.a [x', ((lv us r).e ⟨p + l.length + 1, 0⟩).1], k', same_mk (by simp [sameL, hs, hs2]), ?_, ?_⟩
        · simp only [List.length_cons, List.length_append, List.length_nil]; omega
        · show loopP us (lv us r) k' (.mk 23 [] x'.a [x', ((lv us r).e ⟨p + l.length + 1, 0⟩).1]) (wantS us [93] ((lv us r).e ⟨p + l.length + 1, 0⟩).2) = _
          rw [e2, h5.want]
          congr 2
          simp only [List.length_cons, List.length_append, List.length_nil]; omega
  | @fld a t x l hw hx ihx =>
    intro r p h _
    obtain ⟨h1, h2⟩ := At.append h
    have h3 : At us (p + l.length + 1) [(2, t)] := h2.2
    rcases ihx r p h1 (h2.isn (.inr (by decide))) with e | ⟨x', k, hs, hm, e⟩
    · exact .inl e
    · have hlt := h2.lt
      obtain ⟨k', rfl⟩ : ∃ k', k = k' + 1 := ⟨k - 1, by omega⟩
      right
      refine ⟨.mk 24 t x'.a [x'], k', same_mk (sameL_one hs), ?_, ?_⟩
      · simp only [List.length_cons, List.length_append, List.length_nil]; omega
      · rw [e, loopP, if_neg (by rw [h2.isn (.inr (by decide))]; decide), if_pos h2.isW]
        show loopP us (lv us r) k' (.mk 24 (numS us ⟨p + l.length + 1, 0⟩).1 x'.a [x']) (numS us ⟨p + l.length + 1, 0⟩).2 = _
        rw [h3.num]
        simp only [List.length_cons, List.length_append, List.length_nil]
        congr 2
theorem expr_rt {us : List Tok} {n : Nd} {l : List Tk} (h : ShX n l) : ExprOk us n l := ((part_rt h).oper h).expr

end Go.Proofs.Ytgndnodahlabiaa
