/-
  What one must pass, as lists (layer 7): rows of idom, asked upward; that they tell just who dominates. No program is named.
-/
import Derived.Test.YtonoeodlchkiaaaWalk
namespace Go.Proofs.Ytonoeodlchkiaaa

/-- a dominates x: without a one does not come from the entry to x. -/
def Dom (g : List (List Nat)) (a x : Nat) : Prop := ¬ Path g (· ≠ a) 0 x
theorem Dom.edge {g : List (List Nat)} {a f t : Nat} (h : Dom g a t) (ha : a ≠ t) (he : t ∈ g.getD f []) : Dom g a f := fun hp => h (.step hp he (Ne.symm ha))

/-- Each block that is left, but for those one began at, has one ahead of it that is left later. -/
theorem Walk.parent {g : List (List Nat)} {T : List Nat} {m m' : List Bool} {o : List Nat} (h : Walk g T m m' o) : ∀ (p : List Nat) (b : Nat) (q : List Nat), o = p ++ b :: q → b ∈ T ∨ ∃ u ∈ q, b ∈ g.getD u [] := by
  induction h with
  | nil m => intro p b q e; simp at e
  | skip _ _ ih =>
    intro p b q e
    rcases ih p b q e with h | h
    · exact .inl (List.mem_cons_of_mem _ h)
    · exact .inr h
  | @go c T m m1 m2 o1 o2 hb h1 h2 ih1 ih2 =>
    intro p b q e
    rcases List.append_eq_append_iff.1 e with ⟨p', rfl, e2⟩ | ⟨p', rfl, e2⟩
    · cases p' with
      | nil =>
        simp only [List.nil_append, List.cons.injEq] at e2
        exact .inl (by rw [← e2.1]; simp)
      | cons d p' =>
        simp only [List.cons_append, List.cons.injEq] at e2
        rcases ih2 p' b q e2.2 with h | h
        · exact .inl (List.mem_cons_of_mem _ h)
        · exact .inr h
    · cases p' with
      | nil =>
        simp only [List.nil_append, List.cons.injEq] at e2
        exact .inl (by rw [e2.1]; simp)
      | cons d p' =>
        simp only [List.cons_append, List.cons.injEq] at e2
        obtain ⟨rfl, rfl⟩ := e2
        rcases ih1 p b p' rfl with h | ⟨u, hu, h⟩
        · exact .inr ⟨c, by simp, h⟩
        · exact .inr ⟨u, by simp [hu], h⟩

theorem plc_before (a b : List Nat) (f h : Nat) (hn : (a ++ f :: b).Nodup) (hh : h ∈ a) : plc (a ++ f :: b) h < plc (a ++ f :: b) f := by
  have hfa : f ∉ a := fun hc => by
    have := (List.nodup_append.1 hn).2.2 f hc f (by simp)
    exact this rfl
  unfold plc
  rw [if_pos (by simp [hh]), if_pos (by simp), List.idxOf_append, if_pos hh, List.idxOf_append, if_neg hfa, List.idxOf_cons]
  have := List.idxOf_lt_length_of_mem hh
  simp
  omega

/-- What a walk from the entry tells of the order. -/
structure Ord (g : List (List Nat)) (o : List Nat) : Prop where
  zero : 0 ∈ o
  lt : ∀ x ∈ o, x < g.length
  cl : ∀ x ∈ o, ∀ v ∈ g.getD x [], v ∈ o
  par : ∀ x ∈ o, x ≠ 0 → ∃ u ∈ o, x ∈ g.getD u [] ∧ plc o.reverse u < plc o.reverse x
  inj : ∀ x ∈ o, ∀ y ∈ o, plc o.reverse x = plc o.reverse y → x = y
  pos : ∀ x, x ∈ o ↔ plc o.reverse x ≠ 0
  first : plc o.reverse 0 = 1
  nodup : o.Nodup
theorem idxOf_inj {l : List Nat} {x y : Nat} (hx : x ∈ l) (hy : y ∈ l) (h : l.idxOf x = l.idxOf y) : x = y := by
  have h1 := List.getElem_idxOf (List.idxOf_lt_length_of_mem hx)
  have h2 := List.getElem_idxOf (List.idxOf_lt_length_of_mem hy)
  rw [← h1, ← h2]
  congr 1
theorem ord_of {g : List (List Nat)} {m' : List Bool} {o : List Nat} (h1 : 1 ≤ g.length) (hw : Walk g [0] (List.replicate g.length false) m' o) : Ord g o := by
  have hlt : ∀ x ∈ o, x < g.length := fun x hx => by simpa using hw.lt x hx
  have hnd := hw.nodup
  have hndr : o.reverse.Nodup := by
    unfold List.Nodup
    rw [List.pairwise_reverse]
    exact List.Pairwise.imp (fun h => h.symm) hnd
  obtain ⟨o1, ho1⟩ := hw.last (by rw [List.getElem?_replicate, if_pos (by omega)])
  have hz : 0 ∈ o := by rw [ho1]; simp
  refine ⟨hz, hlt, fun x hx v hv => ?_, fun x hx hx0 => ?_, fun x hx y hy e => ?_, fun x => ?_, ?_, hnd⟩
  · have := hw.closed x hx v hv
    rw [hw.met] at this
    rcases this with h' | h'
    · exact ((repl_at _ _).1 h').elim
    · exact h'
  · obtain ⟨p, q, hpq⟩ := List.append_of_mem hx
    rcases hw.parent p x q hpq with h | ⟨u, hu, h⟩
    · simp at h; exact absurd h hx0
    · refine ⟨u, by rw [hpq]; simp [hu], h, ?_⟩
      rw [hpq] at hndr
      rw [hpq, List.reverse_append, List.reverse_cons, List.append_assoc, List.singleton_append]
      rw [List.reverse_append, List.reverse_cons, List.append_assoc, List.singleton_append] at hndr
      exact plc_before q.reverse p.reverse x u hndr (List.mem_reverse.2 hu)
  · unfold plc at e
    rw [if_pos (List.mem_reverse.2 hx), if_pos (List.mem_reverse.2 hy)] at e
    exact idxOf_inj (List.mem_reverse.2 hx) (List.mem_reverse.2 hy) (by omega)
  · have := plc_zero o.reverse x
    rw [List.mem_reverse] at this
    constructor
    · intro h e; exact this.1 e h
    · intro h
      apply Classical.byContradiction
      intro hn; exact h (this.2 hn)
  · rw [ho1, List.reverse_append]
    unfold plc
    simp
/-- One comes to a reached block over blocks that do not stand behind it. -/
theorem Ord.path {g : List (List Nat)} {o : List Nat} (h : Ord g o) : ∀ (n x : Nat), plc o.reverse x ≤ n → x ∈ o → Path g (fun y => y ∈ o ∧ plc o.reverse y ≤ plc o.reverse x) 0 x := by
  intro n
  induction n with
  | zero => intro x hx ho; exact absurd (Nat.le_zero.1 hx) ((h.pos x).1 ho)
  | succ n ih =>
    intro x hx ho
    by_cases h0 : x = 0
    · subst h0; exact .refl ⟨ho, Nat.le_refl _⟩
    · obtain ⟨u, hu, he, hl⟩ := h.par x ho h0
      exact .step ((ih u (by omega) hu).mono fun y hy => ⟨hy.1, by omega⟩) he ⟨ho, Nat.le_refl _⟩
theorem path_avoid {g : List (List Nat)} {S : Nat → Prop} {a u v : Nat} (hp : Path g S u v) (ha : ¬ S a) : Path g (· ≠ a) u v := hp.mono fun _ hx e => ha (e ▸ hx)
theorem Ord.before {g : List (List Nat)} {o : List Nat} (h : Ord g o) {a x : Nat} (hx : x ∈ o) (hd : Dom g a x) : a ∈ o ∧ plc o.reverse a ≤ plc o.reverse x := by
  apply Classical.byContradiction
  intro hn
  exact hd (path_avoid (h.path _ x (Nat.le_refl _) hx) hn)

/-- The row, asked at a block. -/
abbrev ask (d : List Int) (x : Nat) : Int := d.getD x (-1)
/-- Whom one comes to by asking. -/
inductive Anc (d : List Int) : Nat → Nat → Prop
  | refl (x : Nat) : Anc d x x
  | up {x y z : Nat} : ask d x = (y : Int) → Anc d y z → Anc d x z
theorem Anc.trans {d : List Int} {x y z : Nat} (h : Anc d x y) (k : Anc d y z) : Anc d x z := by
  induction h with
  | refl x => exact k
  | up e _ ih => exact .up e (ih k)
/-- A row of idom in the making. -/
structure Tr (g : List (List Nat)) (o : List Nat) (d : List Int) : Prop where
  len : d.length = g.length
  zero : ask d 0 = -1
  up : ∀ x, ask d x ≠ -1 → x ∈ o ∧ x ≠ 0 ∧ ∃ y : Nat, ask d x = (y : Int) ∧ y ∈ o ∧ plc o.reverse y < plc o.reverse x ∧ (y = 0 ∨ ask d y ≠ -1)
  dom : ∀ (x y : Nat), ask d x = (y : Int) → ∀ a, a ≠ x → Dom g a x → Dom g a y
/-- A block of which the row tells. -/
def Told (o : List Nat) (d : List Int) (x : Nat) : Prop := x ∈ o ∧ (x = 0 ∨ ask d x ≠ -1)
theorem Tr.next {g : List (List Nat)} {o : List Nat} {d : List Int} (h : Tr g o d) {x : Nat} (hx : Told o d x) (h0 : x ≠ 0) : ∃ y : Nat, ask d x = (y : Int) ∧ Told o d y ∧ plc o.reverse y < plc o.reverse x := by
  obtain ⟨_, _, y, h1, h2, h3, h4⟩ := h.up x (hx.2.resolve_left h0)
  exact ⟨y, h1, ⟨h2, h4⟩, h3⟩
theorem Tr.anc {g : List (List Nat)} {o : List Nat} {d : List Int} (h : Tr g o d) {x z : Nat} (ha : Anc d x z) : Told o d x → Told o d z ∧ plc o.reverse z ≤ plc o.reverse x := by
  induction ha with
  | refl x => exact fun hx => ⟨hx, Nat.le_refl _⟩
  | @up x y z e _ ih =>
    intro hx
    have h0 : x ≠ 0 := fun h' => by subst h'; rw [h.zero] at e; omega
    obtain ⟨y', h1, h2, h3⟩ := h.next hx h0
    have : y' = y := by rw [e] at h1; omega
    subst this
    obtain ⟨a1, a2⟩ := ih h2
    exact ⟨a1, by omega⟩
/-- One step of meet: the later one asks. -/
theorem Tr.step {g : List (List Nat)} {o : List Nat} {d : List Int} (h : Tr g o d) (ho : Ord g o) {x y : Nat} (hx : Told o d x) (hy : Told o d y) (hlt : plc o.reverse y < plc o.reverse x) :
    ∃ z : Nat, ask d x = (z : Int) ∧ Told o d z ∧ plc o.reverse z < plc o.reverse x ∧ ∀ a, Dom g a x → Dom g a y → Dom g a z := by
  have h0 : x ≠ 0 := fun e => by
    subst e
    have h1 := ho.first
    have := (ho.pos y).1 hy.1
    omega
  obtain ⟨z, h1, h2, h3⟩ := h.next hx h0
  refine ⟨z, h1, h2, h3, fun a ha hb => h.dom x z h1 a (fun e => ?_) ha⟩
  subst e
  have := (ho.before hy.1 hb).2
  omega
theorem ask_set (d : List Int) (t x : Nat) (v : Int) (ht : t < d.length) : ask (d.set t v) x = if x = t then v else ask d x := by
  unfold ask
  rw [List.getD_eq_getElem?_getD, List.getD_eq_getElem?_getD]
  by_cases h : x = t
  · subst h; rw [List.getElem?_set_self ht, if_pos rfl]; rfl
  · rw [List.getElem?_set_ne (fun e => h e.symm), if_neg h]
/-- An edge takes one out, or tells of a block for the first time. -/
theorem Tr.put {g : List (List Nat)} {o : List Nat} {d : List Int} (h : Tr g o d) (ho : Ord g o) {f t c : Nat} (hf : Told o d f) (he : t ∈ g.getD f []) (ht : t ≠ 0) (hc : Anc d f c) (hlt : plc o.reverse c < plc o.reverse t) (hdm : ∀ a, a ≠ t → Dom g a t → Dom g a c) : Tr g o (d.set t (c : Int)) := by
  have hto := ho.cl f hf.1 t he
  have htl : t < d.length := by rw [h.len]; exact ho.lt t hto
  have hct := h.anc hc hf
  refine ⟨by rw [List.length_set]; exact h.len, by rw [ask_set _ _ _ _ htl, if_neg (Ne.symm ht)]; exact h.zero, fun x hx => ?_, fun x y hxy a ha hd => ?_⟩
  · rw [ask_set _ _ _ _ htl] at hx ⊢
    by_cases e : x = t
    · rw [if_pos e] at hx ⊢
      subst e
      refine ⟨hto, ht, c, rfl, hct.1.1, hlt, ?_⟩
      rw [ask_set _ _ _ _ htl]
      by_cases e2 : c = x
      · subst e2; omega
      · rw [if_neg e2]; exact hct.1.2
    · rw [if_neg e] at hx ⊢
      obtain ⟨h1, h2, y, h3, h4, h5, h6⟩ := h.up x hx
      refine ⟨h1, h2, y, h3, h4, h5, ?_⟩
      rw [ask_set _ _ _ _ htl]
      by_cases e2 : y = t
      · rw [if_pos e2]; exact .inr (by omega)
      · rw [if_neg e2]; exact h6
  · rw [ask_set _ _ _ _ htl] at hxy
    by_cases e : x = t
    · rw [if_pos e] at hxy
      have : c = y := by omega
      subst this
      rw [e] at ha hd
      exact hdm a ha hd
    · rw [if_neg e] at hxy
      exact h.dom x y hxy a ha hd
/-- A row that no edge changes. -/
structure Fin (g : List (List Nat)) (o : List Nat) (d : List Int) : Prop extends Tr g o d where
  all : ∀ x ∈ o, x = 0 ∨ ask d x ≠ -1
  edge : ∀ f ∈ o, ∀ t ∈ g.getD f [], t ≠ 0 → ∀ y : Nat, ask d t = (y : Int) → Anc d f y
theorem Fin.told {g : List (List Nat)} {o : List Nat} {d : List Int} (h : Fin g o d) {x : Nat} (hx : x ∈ o) : Told o d x := ⟨hx, h.all x hx⟩
theorem Fin.none {g : List (List Nat)} {o : List Nat} {d : List Int} (h : Fin g o d) {x : Nat} (hx : x ∉ o) : ask d x = -1 := by
  apply Classical.byContradiction
  intro hn
  exact hx (h.up x hn).1
/-- Who dominates is come to by asking. -/
theorem Fin.comp {g : List (List Nat)} {o : List Nat} {d : List Int} (h : Fin g o d) (ho : Ord g o) : ∀ (n x : Nat), plc o.reverse x ≤ n → x ∈ o → ∀ a, Dom g a x → Anc d x a := by
  intro n
  induction n with
  | zero => intro x hx hxo; exact absurd (Nat.le_zero.1 hx) ((ho.pos x).1 hxo)
  | succ n ih =>
    intro x hx hxo a hd
    by_cases hax : a = x
    · rw [hax]; exact .refl x
    · by_cases h0 : x = 0
      · subst h0
        exact absurd (Path.refl (g := g) (S := (· ≠ a)) (u := 0) (fun e => hax e.symm)) hd
      · obtain ⟨y, h1, h2, h3⟩ := h.toTr.next (h.told hxo) h0
        exact .up h1 (ih y (by omega) h2.1 a (h.dom x y h1 a hax hd))
/-- Who is come to by asking dominates. -/
theorem Fin.sound {g : List (List Nat)} {o : List Nat} {d : List Int} (h : Fin g o d) (ho : Ord g o) {a : Nat} {x : Nat} (hp : Path g (· ≠ a) 0 x) : x ∈ o ∧ ¬ Anc d x a := by
  induction hp with
  | refl hs =>
    refine ⟨ho.zero, fun ha => ?_⟩
    cases ha with
    | refl => exact hs rfl
    | up e _ => rw [h.zero] at e; omega
  | @step f t _ he hs ih =>
    have hto := ho.cl f ih.1 t he
    refine ⟨hto, fun ha => ?_⟩
    cases ha with
    | refl => exact hs rfl
    | @up _ y _ e hy =>
      have h0 : t ≠ 0 := fun e' => by subst e'; rw [h.zero] at e; omega
      exact ih.2 ((h.edge f ih.1 t he h0 y e).trans hy)
theorem Fin.dominates {g : List (List Nat)} {o : List Nat} {d : List Int} (h : Fin g o d) (ho : Ord g o) {a x : Nat} (hx : x ∈ o) : Anc d x a ↔ Dom g a x :=
  ⟨fun ha hp => (h.sound ho hp).2 ha, fun hd => h.comp ho _ x (Nat.le_refl _) hx a hd⟩

end Go.Proofs.Ytonoeodlchkiaaa
