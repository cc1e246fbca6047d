/-
  There and back (layer 10): statements, blocks, functions and programs: their tokens are parsed as them, or are too deep. No program is named.
-/
import Derived.Test.YtgndnodahlabiaaBkB
namespace Go.Proofs.Ytgndnodahlabiaa

/-- A statement (false) or a block (true), and its tokens. -/
inductive ShS : Bool → Nd → List Tk → Prop
  | var (a : Int) {t : List UInt8} {n : Nd} {l : List Tk} : Whole 1 t → wordB t = false → ShT n l → ShS false (.mk 10 t a [n]) (sg [118, 97, 114] :: (1, t) :: (l ++ [sg [59]]))
  | ret (a : Int) : ShS false (.mk 14 [] a []) [sg [114, 101, 116, 117, 114, 110], sg [59]]
  | retx (a : Int) {x : Nd} {l : List Tk} : ShX x l → ShS false (.mk 14 [] a [x]) (sg [114, 101, 116, 117, 114, 110] :: (l ++ [sg [59]]))
  | prt (a : Int) {x : Nd} {l : List Tk} : ShX x l → ShS false (.mk 15 [] a [x]) (sg [112, 114, 105, 110, 116] :: (l ++ [sg [59]]))
  | do_ (a : Int) {x : Nd} {l : List Tk} : ShX x l → x.k = 25 → ShS false (.mk 16 [] a [x]) (l ++ [sg [59]])
  | set (a : Int) {x y : Nd} {l m : List Tk} : ShX x l → ShX y m → ShS false (.mk 11 [] a [x, y]) (l ++ sg [61] :: (m ++ [sg [59]]))
  | ite (a : Int) {x b : Nd} {l m : List Tk} : ShX x l → ShS true b m → ShS false (.mk 12 [] a [x, b]) (sg [105, 102] :: (l ++ m))
  | ite2 (a : Int) {x b d : Nd} {l m o : List Tk} : ShX x l → ShS true b m → ShS true d o → ShS false (.mk 12 [] a [x, b, d]) (sg [105, 102] :: (l ++ (m ++ sg [101, 108, 115, 101] :: o)))
  | for_ (a : Int) {x b : Nd} {l m : List Tk} : ShX x l → ShS true b m → ShS false (.mk 13 [] a [x, b]) (sg [102, 111, 114] :: (l ++ m))
  | block (a : Int) {ks : List Nd} (f : Nd → List Tk) : (∀ n, n ∈ ks → ShS false n (f n)) → ShS true (.mk 9 [] a ks) (sg [123] :: ((ks.map f).flatten ++ [sg [125]]))
theorem ShS.start {b : Bool} {n : Nd} {l : List Tk} (h : ShS b n l) (hb : b = true) : ∃ r, l = sg [123] :: r := by
  cases h <;> first | exact ⟨_, rfl⟩ | cases hb
theorem ShS.head {b : Bool} {n : Nd} {l : List Tk} (h : ShS b n l) (hb : b = false) {us : List Tok} {p : Nat} {m : List Tk} (ha : At us p (l ++ m)) : isW us [125] ⟨p, 0⟩ = false ∧ isW us [101, 108, 115, 101] ⟨p, 0⟩ = false := by
  cases h with
  | var a _ _ _ => exact ⟨ha.isn (.inr (by decide)), ha.isn (.inr (by decide))⟩
  | ret a => exact ⟨At.isn (l := [sg [59]] ++ m) ha (.inr (by decide)), At.isn (l := [sg [59]] ++ m) ha (.inr (by decide))⟩
  | retx a _ => exact ⟨ha.isn (.inr (by decide)), ha.isn (.inr (by decide))⟩
  | prt a _ => exact ⟨ha.isn (.inr (by decide)), ha.isn (.inr (by decide))⟩
  | do_ a hx _ => rw [List.append_assoc] at ha; exact ⟨hx.no ha (by decide), hx.no ha (by decide)⟩
  | set a hx _ => rw [List.append_assoc] at ha; exact ⟨hx.no ha (by decide), hx.no ha (by decide)⟩
  | ite a _ _ => exact ⟨ha.isn (.inr (by decide)), ha.isn (.inr (by decide))⟩
  | ite2 a _ _ _ => exact ⟨ha.isn (.inr (by decide)), ha.isn (.inr (by decide))⟩
  | for_ a _ _ => exact ⟨ha.isn (.inr (by decide)), ha.isn (.inr (by decide))⟩
  | block a f _ => cases hb
theorem same_k {x y : Nd} (h : sameB x y = true) : x.k = y.k := by
  obtain ⟨k, t, a, ks⟩ := x
  obtain ⟨k', t', a', ks'⟩ := y
  simp only [sameB, Bool.and_eq_true, decide_eq_true_eq] at h
  exact h.1
theorem loopB_stop {ts : List Tok} {v : Lv} (n : Nat) (l : List Nd) (s : St) (h : s.er = 5) : loopB ts v n l s = (l, s) := loopB_er n l s (by rw [h]; decide)
theorem stmts_rt {us : List Tok} {r : Nat} {f : Nd → List Tk} : ∀ (ks accN acc : List Nd) (m p : Nat) (l' : List Tk),
    (∀ n, n ∈ ks → ∀ p, At us p (f n) → isW us [101, 108, 115, 101] ⟨p + (f n).length, 0⟩ = false → Res n (f n) p ((lv us r).s ⟨p, 0⟩)) → (∀ n, n ∈ ks → ∀ p l, At us p (f n ++ l) → isW us [125] ⟨p, 0⟩ = false ∧ isW us [101, 108, 115, 101] ⟨p, 0⟩ = false) →
    sameL accN acc = true → At us p ((ks.map f).flatten ++ sg [125] :: l') → us.length - p + 1 ≤ m → (∀ n, n ∈ ks → 0 < (f n).length) →
    ResL (accN ++ ks) (p + (ks.map f).flatten.length + 1) (loopB us (lv us r) m acc ⟨p, 0⟩) := by
  intro ks
  induction ks with
  | nil =>
    intro accN acc m p l' _ _ hs h hm _
    have h : At us p (sg [125] :: l') := h
    have hlt := h.lt
    obtain ⟨m', rfl⟩ : ∃ m', m = m' + 1 := ⟨m - 1, by omega⟩
    rw [loopB, if_pos rfl, if_pos h.isW]
    exact .inr ⟨rfl, by rw [List.append_nil]; exact hs⟩
  | cons n r ih =>
    intro accN acc m p l' hk hh hs h hm hp
    rw [List.map_cons, List.flatten_cons, List.append_assoc] at h
    have h0 := hh n (by simp) p _ h
    obtain ⟨h1, h2⟩ := At.append h
    obtain ⟨m', rfl⟩ : ∃ m', m = m' + 1 := ⟨m - 1, by omega⟩
    rw [loopB, if_pos rfl, if_neg (by rw [h0.1]; decide)]
    have hn := hk n (by simp) p h1 (by
      cases r with
      | nil => exact At.isn (x := sg [125]) (l := l') h2 (.inr (by decide))
      | cons x r =>
        rw [List.map_cons, List.flatten_cons, List.append_assoc] at h2
        exact (hh x (by simp) _ _ h2).2)
    rcases hn with hn | ⟨hn, hs2⟩
    · rw [loopB_stop _ _ _ hn]; exact .inl hn
    · rw [hn]
      have hpos := hp n (by simp)
      have hlt : p < us.length := by
        cases hfn : f n with
        | nil => rw [hfn] at hpos; exact absurd hpos (by decide)
        | cons x y => rw [hfn] at h1; exact h1.lt
      have := ih (accN ++ [n]) _ m' _ l' (fun x hx => hk x (by simp [hx])) (fun x hx => hh x (by simp [hx])) (sameL_append hs (sameL_one hs2)) h2 (by omega) (fun x hx => hp x (by simp [hx]))
      rw [List.append_assoc] at this
      have e : p + (f n).length + (r.map f).flatten.length + 1 = p + ((n :: r).map f).flatten.length + 1 := by
        rw [List.map_cons, List.flatten_cons, List.length_append]; omega
      rw [← e]; exact this
theorem ShS.pos {b : Bool} {n : Nd} {l : List Tk} (h : ShS b n l) : 0 < l.length := by
  cases h <;> simp <;> omega
/-- A statement is read up to its end, a block too. -/
def StOk (us : List Tok) (b : Bool) (n : Nd) (l : List Tk) : Prop := ∀ r p, At us p l → (b = false → isW us [101, 108, 115, 101] ⟨p + l.length, 0⟩ = false) → Res n l p (if b = true then blockF us (lv us r) ⟨p, 0⟩ else (lv us r).s ⟨p, 0⟩)
theorem Res.want {us : List Tok} {q : List UInt8} {n : Nd} {l : List Tk} {p : Nat} {x : Nd × St} (h : Res n l p x) {r : List Tk} (ha : At us (p + l.length) (sg q :: r)) : Res n (l ++ [sg q]) p (x.1, wantS us q x.2) := by
  rcases h with e | ⟨e, hs⟩
  · exact .inl (want_er e)
  · refine .inr ⟨?_, hs⟩
    simp only
    rw [e, ha.want, List.length_append, List.length_singleton, Nat.add_assoc]
theorem Res.one {n : Nd} {l pre : List Tk} {p : Nat} {x : Nd × St} {k : Int} {t : List UInt8} {a b : Int} (h : Res n l (p + pre.length) x) : Res (.mk k t a [n]) (pre ++ l) p (.mk k t b [x.1], x.2) := by
  rcases h with e | ⟨e, hs⟩
  · exact .inl e
  · refine .inr ⟨?_, same_mk (sameL_one hs)⟩
    simp only
    rw [e, List.length_append, Nat.add_assoc]
theorem block_er {us : List Tok} {v : Lv} {s : St} (h : s.er = 5) : (blockF us v s).2.er = 5 := by
  unfold blockF
  simp only
  have h2 : (wantS us [123] s).er = 5 := want_er h
  rw [loopB_stop _ _ _ h2]; exact h2
theorem stmt_rt {us : List Tok} {b : Bool} {n : Nd} {l : List Tk} (h : ShS b n l) : StOk us b n l := by
  induction h with
  | @var a t n l hw hn hT =>
    intro r p h _
    rw [if_neg (by decide)]
    cases r with
    | zero => exact .inl rfl
    | succ r =>
      show Res _ _ _ (stmtF us (lv us r) ⟨p, 0⟩)
      unfold stmtF
      simp only
      rw [if_neg (by rw [h.isn (.inr (by decide))]; decide), if_neg (by rw [h.isn (.inr (by decide))]; decide)]
      unfold lineF
      simp only
      rw [if_pos h.isW]
      have h2 : At us (p + 1) ((1, t) :: (l ++ [sg [59]])) := h.2
      show Res _ _ _ (Nd.mk 10 (nameS us ⟨p + 1, 0⟩).1 _ [((lv us r).t (nameS us ⟨p + 1, 0⟩).2).1], wantS us [59] ((lv us r).t (nameS us ⟨p + 1, 0⟩).2).2)
      rw [h2.name hn]
      obtain ⟨h3, h4⟩ := At.append (show At us (p + 1 + 1) (l ++ [sg [59]]) from h2.2)
      have := Res.want (Res.one (pre := [sg [118, 97, 114], (1, t)]) (k := 10) (t := t) (a := a) (b := (nextT us ⟨p, 0⟩).a) (typ_rt hT r (p + 2) h3)) (q := [59]) (r := []) (by rw [List.length_append]; exact (show p + ([sg [118, 97, 114], (1, t)].length + l.length) = p + 1 + 1 + l.length by simp only [List.length_cons, List.length_nil]; omega) ▸ h4)
      simpa using this
  | ret a =>
    intro r p h _
    rw [if_neg (by decide)]
    cases r with
    | zero => exact .inl rfl
    | succ r =>
      show Res _ _ _ (stmtF us (lv us r) ⟨p, 0⟩)
      unfold stmtF
      simp only
      rw [if_neg (by rw [h.isn (.inr (by decide))]; decide), if_neg (by rw [h.isn (.inr (by decide))]; decide)]
      unfold lineF
      simp only
      have h2 : At us (p + 1) [sg [59]] := h.2
      rw [if_neg (by rw [h.isn (.inr (by decide))]; decide), if_pos h.isW, if_pos (show isW us [59] (adv ⟨p, 0⟩) = true from h2.isW)]
      refine .inr ⟨?_, same_mk rfl⟩
      show wantS us [59] ⟨p + 1, 0⟩ = _
      rw [h2.want]; rfl
  | @retx a x l hx =>
    intro r p h _
    rw [if_neg (by decide)]
    cases r with
    | zero => exact .inl rfl
    | succ r =>
      show Res _ _ _ (stmtF us (lv us r) ⟨p, 0⟩)
      unfold stmtF
      simp only
      rw [if_neg (by rw [h.isn (.inr (by decide))]; decide), if_neg (by rw [h.isn (.inr (by decide))]; decide)]
      unfold lineF
      simp only
      have h2 : At us (p + 1) (l ++ [sg [59]]) := h.2
      rw [if_neg (by rw [h.isn (.inr (by decide))]; decide), if_pos h.isW, if_neg (by rw [show isW us [59] (adv ⟨p, 0⟩) = false from hx.no h2 (by decide)]; decide)]
      obtain ⟨h3, h4⟩ := At.append h2
      have := Res.want (Res.one (pre := [sg [114, 101, 116, 117, 114, 110]]) (k := 14) (t := []) (a := a) (b := (nextT us ⟨p, 0⟩).a) (expr_rt hx r (p + 1) h3 (Ends.of h4 (by decide)))) (q := [59]) (r := []) (by rw [List.length_append, ← Nat.add_assoc]; exact h4)
      exact this
  | @prt a x l hx =>
    intro r p h _
    rw [if_neg (by decide)]
    cases r with
    | zero => exact .inl rfl
    | succ r =>
      show Res _ _ _ (stmtF us (lv us r) ⟨p, 0⟩)
      unfold stmtF
      simp only
      rw [if_neg (by rw [h.isn (.inr (by decide))]; decide), if_neg (by rw [h.isn (.inr (by decide))]; decide)]
      unfold lineF
      simp only
      have h2 : At us (p + 1) (l ++ [sg [59]]) := h.2
      rw [if_neg (by rw [h.isn (.inr (by decide))]; decide), if_neg (by rw [h.isn (.inr (by decide))]; decide), if_pos h.isW]
      obtain ⟨h3, h4⟩ := At.append h2
      have := Res.want (Res.one (pre := [sg [112, 114, 105, 110, 116]]) (k := 15) (t := []) (a := a) (b := (nextT us ⟨p, 0⟩).a) (expr_rt hx r (p + 1) h3 (Ends.of h4 (by decide)))) (q := [59]) (r := []) (by rw [List.length_append, ← Nat.add_assoc]; exact h4)
      exact this
  | @do_ a x l hx hk =>
    intro r p h _
    rw [if_neg (by decide)]
    cases r with
    | zero => exact .inl rfl
    | succ r =>
      show Res _ _ _ (stmtF us (lv us r) ⟨p, 0⟩)
      unfold stmtF
      simp only
      rw [if_neg (by rw [hx.no h (by decide)]; decide), if_neg (by rw [hx.no h (by decide)]; decide)]
      unfold lineF
      simp only
      rw [if_neg (by rw [hx.no h (by decide)]; decide), if_neg (by rw [hx.no h (by decide)]; decide), if_neg (by rw [hx.no h (by decide)]; decide)]
      obtain ⟨h3, h4⟩ := At.append h
      have he := expr_rt hx r p h3 (Ends.of h4 (by decide))
      rcases he with e | ⟨e, hs⟩
      · split
        · exact .inl (want_er e)
        · refine .inl (want_er ?_)
          have h6 : (wantS us [61] ((lv us r).e ⟨p, 0⟩).2).er = 5 := want_er e
          rw [((good_lv us r).e _).er (by rw [h6]; decide)]; exact h6
      · rw [if_pos ⟨by rw [← same_k hs]; exact hk, by rw [e]; exact h4.isn (.inr (by decide))⟩]
        have := Res.want (Res.one (pre := []) (k := 16) (t := []) (a := a) (b := (nextT us ⟨p, 0⟩).a) (x := (lv us r).e ⟨p, 0⟩) (.inr ⟨e, hs⟩)) (q := [59]) (r := []) (by simpa using h4)
        simpa using this
  | @set a x y l m hx hy =>
    intro r p h _
    rw [if_neg (by decide)]
    cases r with
    | zero => exact .inl rfl
    | succ r =>
      show Res _ _ _ (stmtF us (lv us r) ⟨p, 0⟩)
      unfold stmtF
      simp only
      rw [if_neg (by rw [hx.no h (by decide)]; decide), if_neg (by rw [hx.no h (by decide)]; decide)]
      unfold lineF
      simp only
      rw [if_neg (by rw [hx.no h (by decide)]; decide), if_neg (by rw [hx.no h (by decide)]; decide), if_neg (by rw [hx.no h (by decide)]; decide)]
      obtain ⟨h3, h4⟩ := At.append h
      obtain ⟨h5, h6⟩ := At.append (show At us (p + l.length + 1) (m ++ [sg [59]]) from h4.2)
      have he := expr_rt hx r p h3 (Ends.of h4 (by decide))
      rcases he with e | ⟨e, hs⟩
      · split
        · exact .inl (want_er e)
        · refine .inl (want_er ?_)
          have h7 : (wantS us [61] ((lv us r).e ⟨p, 0⟩).2).er = 5 := want_er e
          rw [((good_lv us r).e _).er (by rw [h7]; decide)]; exact h7
      · rw [if_neg (by rintro ⟨-, c⟩; rw [e, h4.isW] at c; cases c)]
        simp only
        rw [e, h4.want]
        rcases expr_rt hy r _ h5 (Ends.of h6 (by decide)) with e2 | ⟨e2, hs2⟩
        · exact .inl (want_er e2)
        · refine .inr ⟨?_, same_mk (by simp [sameL, hs, hs2])⟩
          simp only
          rw [e2, h6.want]
          congr 1
          simp only [List.length_append, List.length_cons, List.length_nil]; omega
  | @ite a x b l m hx hb ihb =>
    intro r p h hf
    rw [if_neg (by decide)]
    have hf := hf rfl
    cases r with
    | zero => exact .inl rfl
    | succ r =>
      show Res _ _ _ (stmtF us (lv us r) ⟨p, 0⟩)
      unfold stmtF
      simp only
      rw [if_pos h.isW]
      obtain ⟨h3, h4⟩ := At.append (show At us (p + 1) (l ++ m) from h.2)
      obtain ⟨m', hm'⟩ := hb.start rfl
      have he := expr_rt hx r (p + 1) h3 (by rw [hm'] at h4; exact Ends.of h4 (by decide))
      simp only [show adv ⟨p, 0⟩ = ⟨p + 1, 0⟩ from rfl]
      rcases he with e | ⟨e, hs⟩
      · have h7 := block_er (v := lv us r) (us := us) e
        rw [if_neg (by rw [isW_er h7]; decide)]
        exact .inl h7
      · rw [e]
        have hbk : Res b m (p + 1 + l.length) (blockF us (lv us r) ⟨p + 1 + l.length, 0⟩) := ihb r _ h4 (fun c => by cases c)
        rcases hbk with e2 | ⟨e2, hs2⟩
        · rw [if_neg (by rw [isW_er e2]; decide)]
          exact .inl e2
        · rw [e2, if_neg (by
            rw [List.length_cons, List.length_append, show p + (l.length + m.length + 1) = p + 1 + l.length + m.length by omega] at hf
            rw [hf]; decide)]
          refine .inr ⟨?_, same_mk (by simp [sameL, hs, hs2])⟩
          simp only
          congr 1
          simp only [List.length_append, List.length_cons]; omega
  | @ite2 a x b d l m o hx hb hd ihb ihd =>
    intro r p h _
    rw [if_neg (by decide)]
    cases r with
    | zero => exact .inl rfl
    | succ r =>
      show Res _ _ _ (stmtF us (lv us r) ⟨p, 0⟩)
      unfold stmtF
      simp only
      rw [if_pos h.isW]
      obtain ⟨h3, h4⟩ := At.append (show At us (p + 1) (l ++ (m ++ sg [101, 108, 115, 101] :: o)) from h.2)
      obtain ⟨h5, h6⟩ := At.append h4
      obtain ⟨m', hm'⟩ := hb.start rfl
      have he := expr_rt hx r (p + 1) h3 (by rw [hm'] at h4; exact Ends.of h4 (by decide))
      simp only [show adv ⟨p, 0⟩ = ⟨p + 1, 0⟩ from rfl]
      rcases he with e | ⟨e, hs⟩
      · have h7 := block_er (v := lv us r) (us := us) e
        rw [if_neg (by rw [isW_er h7]; decide)]
        exact .inl h7
      · rw [e]
        have hbk : Res b m (p + 1 + l.length) (blockF us (lv us r) ⟨p + 1 + l.length, 0⟩) := ihb r _ h5 (fun c => by cases c)
        rcases hbk with e2 | ⟨e2, hs2⟩
        · rw [if_neg (by rw [isW_er e2]; decide)]
          exact .inl e2
        · rw [e2, if_pos h6.isW]
          have hbd : Res d o (p + 1 + l.length + m.length + 1) (blockF us (lv us r) ⟨p + 1 + l.length + m.length + 1, 0⟩) := ihd r _ h6.2 (fun c => by cases c)
          show Res _ _ _ (Nd.mk 12 [] _ [((lv us r).e ⟨p + 1, 0⟩).1, (blockF us (lv us r) ⟨p + 1 + l.length, 0⟩).1, (blockF us (lv us r) ⟨p + 1 + l.length + m.length + 1, 0⟩).1], (blockF us (lv us r) ⟨p + 1 + l.length + m.length + 1, 0⟩).2)
          rcases hbd with e3 | ⟨e3, hs3⟩
          · exact .inl e3
          · refine .inr ⟨?_, same_mk (by simp [sameL, hs, hs2, hs3])⟩
            simp only
            rw [e3]
            congr 1
            simp only [List.length_append, List.length_cons]; omega
  | @for_ a x b l m hx hb ihb =>
    intro r p h _
    rw [if_neg (by decide)]
    cases r with
    | zero => exact .inl rfl
    | succ r =>
      show Res _ _ _ (stmtF us (lv us r) ⟨p, 0⟩)
      unfold stmtF
      simp only
      rw [if_neg (by rw [h.isn (.inr (by decide))]; decide), if_pos h.isW]
      obtain ⟨h3, h4⟩ := At.append (show At us (p + 1) (l ++ m) from h.2)
      obtain ⟨m', hm'⟩ := hb.start rfl
      have he := expr_rt hx r (p + 1) h3 (by rw [hm'] at h4; exact Ends.of h4 (by decide))
      simp only [show adv ⟨p, 0⟩ = ⟨p + 1, 0⟩ from rfl]
      rcases he with e | ⟨e, hs⟩
      · exact .inl (block_er e)
      · rw [e]
        have hbk : Res b m (p + 1 + l.length) (blockF us (lv us r) ⟨p + 1 + l.length, 0⟩) := ihb r _ h4 (fun c => by cases c)
        rcases hbk with e2 | ⟨e2, hs2⟩
        · exact .inl e2
        · refine .inr ⟨?_, same_mk (by simp [sameL, hs, hs2])⟩
          simp only
          rw [e2]
          congr 1
          simp only [List.length_append, List.length_cons]; omega
  | @block a ks f hk ih =>
    intro r p h _
    rw [if_pos rfl]
    unfold blockF
    simp only
    rw [h.want]
    have h2 : At us (p + 1) ((ks.map f).flatten ++ sg [125] :: []) := h.2
    have := stmts_rt (r := r) (f := f) ks [] [] (left us ⟨p + 1, 0⟩ + 2) (p + 1) [] (fun n hn p hp hf => ih n hn r p hp (fun _ => hf)) (fun n hn p l hp => (hk n hn).head rfl hp) rfl h2 (by show us.length - (p + 1) + 1 ≤ us.length - (p + 1) + 2; omega) (fun n hn => (hk n hn).pos)
    rcases this with e | ⟨e, hs⟩
    · exact .inl e
    · refine .inr ⟨?_, same_mk hs⟩
      simp only
      rw [e]
      congr 1
      simp only [List.length_append, List.length_cons, List.length_nil]; omega

/-- A parameter, a result, a function. -/
inductive ShP : Nd → List Tk → Prop
  | mk (a : Int) {t : List UInt8} {n : Nd} {l : List Tk} : Whole 1 t → wordB t = false → ShT n l → ShP (.mk 3 t a [n]) ((1, t) :: l)
inductive ShR : Nd → List Tk → Prop
  | void (a : Int) : ShR (.mk 4 [] a []) []
  | typ {n : Nd} {l : List Tk} : ShT n l → ShR n l
inductive ShF : Nd → List Tk → Prop
  | mk (a : Int) {t : List UInt8} {ks : List Nd} (f : Nd → List Tk) {rn bn : Nd} {rl bl : List Tk} : Whole 1 t → wordB t = false → (∀ n, n ∈ ks → ShP n (f n)) → ShR rn rl → ShS true bn bl →
      ShF (.mk 2 t a (ks ++ [rn, bn])) (sg [102, 117, 110, 99] :: (1, t) :: sg [40] :: (interT (ks.map f) ++ sg [41] :: (rl ++ bl)))
theorem param_rt {us : List Tok} {n : Nd} {l : List Tk} (h : ShP n l) (r p : Nat) (ha : At us p l) : Res n l p (paramF us (lv us r) ⟨p, 0⟩) := by
  cases h with
  | @mk a t n l hw hn hT =>
    unfold paramF
    simp only
    rw [ha.name hn]
    exact Res.one (pre := [(1, t)]) (typ_rt hT r (p + 1) ha.2)
theorem result_rt {us : List Tok} {n : Nd} {l m : List Tk} (h : ShR n l) (r p : Nat) (ha : At us p (l ++ sg [123] :: m)) : Res n l p (resultF us (lv us r) ⟨p, 0⟩) := by
  unfold resultF
  cases h with
  | void a =>
    have ha : At us p (sg [123] :: m) := ha
    rw [if_pos ha.isW]
    exact .inr ⟨rfl, same_mk rfl⟩
  | typ hT =>
    obtain ⟨q, l', rfl, hq⟩ := hT.head
    have hq' : q ≠ [123] := by rintro rfl; revert hq; decide
    rw [if_neg (by rw [At.isn (l := l' ++ sg [123] :: m) ha (.inr hq')]; decide)]
    exact typ_rt hT r p (At.append ha).1
theorem list_er {us : List Tok} {w : Pa} {q : List UInt8} (hg : GoodP us w) {s : St} (h : s.er = 5) : (listS us w q s).2.er = 5 := by
  rw [(good_list hg q s).er (by rw [h]; decide)]; exact h
theorem func_rt {us : List Tok} {n : Nd} {l : List Tk} (h : ShF n l) (r p : Nat) (ha : At us p l) : Res n l p (funcF us (lv us r) ⟨p, 0⟩) := by
  cases h with
  | @mk a t ks f rn bn rl bl hw hn hk hr hb =>
    obtain ⟨bl', hbl⟩ := hb.start rfl
    unfold funcF
    simp only
    rw [ha.want]
    have h1 : At us (p + 1) ((1, t) :: sg [40] :: (interT (ks.map f) ++ sg [41] :: (rl ++ bl))) := ha.2
    rw [h1.name hn]
    have h2 : At us (p + 1 + 1) (sg [40] :: (interT (ks.map f) ++ sg [41] :: (rl ++ bl))) := h1.2
    simp only
    rw [h2.want]
    have h3 : At us (p + 1 + 1 + 1) (interT (ks.map f) ++ sg [41] :: (rl ++ bl)) := h2.2
    have hL := list_rt (w := paramF us (lv us r)) (f := f) ks (p + 1 + 1 + 1) (rl ++ bl) (fun n hn p hp _ => param_rt (hk n hn) r p hp) (fun n hn p l' hp => by
      have := hk n hn
      generalize f n = fl at this hp
      cases this with
      | mk a _ _ _ => exact At.isn hp (.inl (show (1 : Nat) ≠ kindOf [41] by decide))) h3
    have hgb := good_block (good_lv us r)
    have hgr := good_result (good_lv us r)
    rcases hL with e | ⟨e, hs⟩
    · left
      have e2 : (resultF us (lv us r) (listS us (paramF us (lv us r)) [41] ⟨p + 1 + 1 + 1, 0⟩).2).2.er = 5 := by rw [(hgr _).er (by rw [e]; decide)]; exact e
      exact block_er e2
    · rw [e]
      have h4 : At us (p + 1 + 1 + 1 + (interT (ks.map f)).length + 1) (rl ++ bl) := (At.append h3).2.2
      have hR := result_rt (m := bl') hr r _ (by rw [← hbl]; exact h4)
      rcases hR with e2 | ⟨e2, hs2⟩
      · exact .inl (block_er e2)
      · rw [e2]
        have hB : Res bn bl _ (blockF us (lv us r) _) := stmt_rt hb r _ (At.append h4).2 (fun c => by cases c)
        rcases hB with e3 | ⟨e3, hs3⟩
        · exact .inl e3
        · refine .inr ⟨?_, same_mk (sameL_append hs (by simp [sameL, hs2, hs3]))⟩
          simp only
          rw [e3]
          congr 1
          simp only [List.length_append, List.length_cons]; omega
theorem funcs_rt {us : List Tok} {r : Nat} {f : Nd → List Tk} : ∀ (ks accN acc : List Nd) (m p : Nat), (∀ n, n ∈ ks → ShF n (f n)) → sameL accN acc = true → At us p (ks.map f).flatten → us.length = p + (ks.map f).flatten.length → us.length - p < m →
    ResL (accN ++ ks) us.length (loopG us (lv us r) m acc ⟨p, 0⟩) := by
  intro ks
  induction ks with
  | nil =>
    intro accN acc m p _ hs h hl hm
    have hl : us.length = p := hl
    obtain ⟨m', rfl⟩ : ∃ m', m = m' + 1 := ⟨m - 1, by omega⟩
    rw [loopG, if_neg (by rintro ⟨-, c⟩; have c : p < us.length := c; omega)]
    exact .inr ⟨by rw [hl], by rw [List.append_nil]; exact hs⟩
  | cons n q ih =>
    intro accN acc m p hk hs h hl hm
    rw [List.map_cons, List.flatten_cons] at h hl
    obtain ⟨h1, h2⟩ := At.append h
    have hn := hk n (by simp)
    have hpos : 0 < (f n).length := by generalize f n = fl at hn; cases hn; simp
    rw [List.length_append] at hl
    obtain ⟨m', rfl⟩ : ∃ m', m = m' + 1 := ⟨m - 1, by omega⟩
    rw [loopG, if_pos ⟨rfl, by show p < us.length; omega⟩]
    rcases func_rt hn r p h1 with e | ⟨e, hs2⟩
    · rw [loopG_er _ _ _ (by rw [e]; decide)]
      refine Or.inl ?_
      dsimp only
      exact e
    · rw [e]
      have := ih (accN ++ [n]) _ m' _ (fun x hx => hk x (by simp [hx])) (sameL_append hs (sameL_one hs2)) h2 (by omega) (by omega)
      rw [List.append_assoc] at this
      exact this
/-- A program's tokens. -/
theorem prog_rt {us : List Tok} {f : Nd → List Tk} {ks : List Nd} {a : Int} (hk : ∀ n, n ∈ ks → ShF n (f n)) (h : At us 0 (ks.map f).flatten) (hl : us.length = (ks.map f).flatten.length) :
    (parseS us).2.2 = 5 ∨ ((parseS us).2.2 = 0 ∧ sameB (.mk 1 [] a ks) (parseS us).1 = true) := by
  have := funcs_rt (us := us) (r := 100) (f := f) ks [] [] (us.length + 1) 0 hk rfl h (by omega) (by omega)
  unfold parseS progS
  generalize lv us 100 = v at this ⊢
  rcases this with e | ⟨e, hs⟩
  · left
    rw [if_neg (by rw [e]; decide)]
    exact e
  · right
    rw [if_pos (by rw [e])]
    exact ⟨rfl, same_mk hs⟩

end Go.Proofs.Ytgndnodahlabiaa
