/-
  Sets of things in classes (layer 8), as lists: trees and rings, what belongs together. No program is named.
-/
import Derived.Test.YtcebidhfgdchlaaChecked
namespace Go.Proofs.Ytcebidhfgdchlaa

/-- A thing: its key, the place above it, the next one of its ring; the size and the least of the class, if it is the top. -/
structure Th where
  key : Int
  above : Nat
  next : Nat
  size : Nat
  least : Int
def th0 : Th := ⟨0, 0, 0, 0, 0⟩
abbrev at_ (st : List Th) (i : Nat) : Th := st.getD i th0
theorem at_set (st : List Th) (i j : Nat) (x : Th) (h : i < st.length) : at_ (st.set i x) j = if j = i then x else at_ st j := by
  unfold at_
  rw [List.getD_eq_getElem?_getD, List.getD_eq_getElem?_getD]
  by_cases e : j = i
  · subst e; rw [List.getElem?_set_self h, if_pos rfl]; rfl
  · rw [List.getElem?_set_ne (Ne.symm e), if_neg e]
theorem at_app (st : List Th) (x : Th) (j : Nat) : at_ (st ++ [x]) j = if j = st.length then x else at_ st j := by
  unfold at_
  rw [List.getD_eq_getElem?_getD, List.getD_eq_getElem?_getD]
  by_cases e : j = st.length
  · subst e; rw [if_pos rfl, List.getElem?_append_right (Nat.le_refl _)]; simp
  · rw [if_neg e]
    rcases Nat.lt_or_ge j st.length with h | h
    · rw [List.getElem?_append_left h]
    · rw [List.getElem?_eq_none (by simp; omega), List.getElem?_eq_none (by omega)]

/-- One comes from a thing to the top of its class. -/
inductive Top (st : List Th) : Nat → Nat → Prop
  | here {r : Nat} : r < st.length → (at_ st r).above = r → Top st r r
  | up {i r : Nat} : i < st.length → (at_ st i).above ≠ i → Top st (at_ st i).above r → Top st i r
theorem Top.lt {st : List Th} {i r : Nat} (h : Top st i r) : i < st.length ∧ r < st.length ∧ (at_ st r).above = r := by
  induction h with
  | here h1 h2 => exact ⟨h1, h1, h2⟩
  | up h1 _ _ ih => exact ⟨h1, ih.2⟩
theorem Top.det {st : List Th} {i r : Nat} (h : Top st i r) : ∀ {s : Nat}, Top st i s → r = s := by
  induction h with
  | here h1 h2 =>
    intro s hs
    cases hs with
    | here => rfl
    | up _ h => exact absurd h2 h
  | up h1 h2 _ ih =>
    intro s hs
    cases hs with
    | here _ h => exact absurd h h2
    | up _ _ h => exact ih h
/-- The next ones, from a on, up to b. -/
inductive Nx (st : List Th) : Nat → List Nat → Nat → Prop
  | nil {a b : Nat} : (at_ st a).next = b → Nx st a [] b
  | cons {a x b : Nat} {t : List Nat} : (at_ st a).next = x → Nx st x t b → Nx st a (x :: t) b
/-- A ring, from a on. -/
def Ring (st : List Th) (a : Nat) (t : List Nat) : Prop := Nx st a t a ∧ (a :: t).Nodup

/-- What trees and rings keep. -/
structure UF (st : List Th) : Prop where
  nodup : (st.map Th.key).Nodup
  up : ∀ i, i < st.length → (at_ st i).above < st.length ∧ ((at_ st i).above = i ∨ (at_ st i).size < (at_ st (at_ st i).above).size)
  pos : ∀ i, i < st.length → 1 ≤ (at_ st i).size ∧ (at_ st i).size ≤ st.length
  ring : ∀ i, i < st.length → ∃ t, Ring st i t ∧ ∀ r, Top st i r → ((i :: t).length = (at_ st r).size ∧ ∀ j, j ∈ i :: t ↔ Top st j r)
  least : ∀ r, r < st.length → (at_ st r).above = r → (∀ j, Top st j r → (at_ st r).least ≤ (at_ st j).key) ∧ ∃ j, Top st j r ∧ (at_ st j).key = (at_ st r).least
theorem UF.top {st : List Th} (h : UF st) : ∀ (n i : Nat), st.length - (at_ st i).size ≤ n → i < st.length → ∃ r, Top st i r := by
  intro n
  induction n with
  | zero =>
    intro i hn hi
    rcases (h.up i hi).2 with e | e
    · exact ⟨i, .here hi e⟩
    · have := (h.pos _ (h.up i hi).1).2
      omega
  | succ n ih =>
    intro i hn hi
    rcases (h.up i hi).2 with e | e
    · exact ⟨i, .here hi e⟩
    · by_cases e2 : (at_ st i).above = i
      · exact ⟨i, .here hi e2⟩
      · have := (h.pos _ (h.up i hi).1).2
        obtain ⟨r, hr⟩ := ih _ (by omega) (h.up i hi).1
        exact ⟨r, .up hi e2 hr⟩
theorem UF.tops {st : List Th} (h : UF st) (i : Nat) (hi : i < st.length) : ∃ r, Top st i r := h.top _ i (Nat.le_refl _) hi
theorem uf_nil : UF [] := ⟨by simp, fun i hi => absurd hi (Nat.not_lt_zero _), fun i hi => absurd hi (Nat.not_lt_zero _), fun i hi => absurd hi (Nat.not_lt_zero _), fun i hi => absurd hi (Nat.not_lt_zero _)⟩
theorem Nx.mem_lt {st : List Th} {a b : Nat} {t : List Nat} (h : Nx st a t b) (x : Nat) (hx : x ∈ t) : ∃ y, y ∈ a :: t ∧ (at_ st y).next = x := by
  induction h with
  | nil _ => cases hx
  | @cons a z b t e _ ih =>
    rcases List.mem_cons.1 hx with rfl | hx
    · exact ⟨a, by simp, e⟩
    · obtain ⟨y, h1, h2⟩ := ih hx
      exact ⟨y, List.mem_cons_of_mem _ h1, h2⟩
theorem Nx.congr {st st' : List Th} {a b : Nat} {t : List Nat} (h : Nx st a t b) (he : ∀ y ∈ a :: t, (at_ st' y).next = (at_ st y).next) : Nx st' a t b := by
  induction h with
  | nil e => exact .nil (by rw [he _ (by simp)]; exact e)
  | cons e _ ih => exact .cons (by rw [he _ (by simp)]; exact e) (ih fun y hy => he y (List.mem_cons_of_mem _ hy))
theorem Nx.join {st : List Th} {a b c : Nat} {s t : List Nat} (h : Nx st a s b) (k : Nx st b t c) : Nx st a (s ++ b :: t) c := by
  induction h with
  | nil e => exact .cons e k
  | cons e _ ih => exact .cons e (ih k)

/-- A new thing alone. -/
abbrev lone (st : List Th) (k : Int) : List Th := st ++ [⟨k, st.length, st.length, 1, k⟩]
theorem lone_at {st : List Th} {k : Int} {i : Nat} (h : i < st.length) : at_ (lone st k) i = at_ st i := by rw [at_app, if_neg (by omega)]
theorem lone_new {st : List Th} {k : Int} : at_ (lone st k) st.length = ⟨k, st.length, st.length, 1, k⟩ := by rw [at_app, if_pos rfl]
theorem UF.top_lone {st : List Th} (h : UF st) (k : Int) (i r : Nat) : Top (lone st k) i r ↔ Top st i r ∨ (i = st.length ∧ r = st.length) := by
  have hlen : (lone st k).length = st.length + 1 := by simp [lone]
  constructor
  · intro ht
    induction ht with
    | @here r h1 h2 =>
      rcases Nat.lt_or_ge r st.length with h' | h'
      · rw [lone_at h'] at h2; exact .inl (.here h' h2)
      · exact .inr ⟨by omega, by omega⟩
    | @up i r h1 h2 _ ih =>
      rcases Nat.lt_or_ge i st.length with h' | h'
      · rw [lone_at h'] at h2 ih
        rcases ih with ih | ⟨e, _⟩
        · exact .inl (.up h' h2 ih)
        · have := (h.up i h').1; omega
      · have e : i = st.length := by omega
        subst e
        rw [lone_new] at h2; exact absurd rfl h2
  · rintro (ht | ⟨rfl, rfl⟩)
    · induction ht with
      | here h1 h2 => exact .here (by omega) (by rw [lone_at h1]; exact h2)
      | up h1 h2 _ ih => exact .up (by omega) (by rw [lone_at h1]; exact h2) (by rw [lone_at h1]; exact ih)
    · exact .here (by omega) (by rw [lone_new])
theorem UF.add {st : List Th} (h : UF st) (k : Int) (hk : k ∉ st.map Th.key) : UF (lone st k) := by
  have hlen : (lone st k).length = st.length + 1 := by simp [lone]
  refine ⟨?_, fun i hi => ?_, fun i hi => ?_, fun i hi => ?_, fun r hr hroot => ?_⟩
  · rw [List.map_append, List.nodup_append]
    exact ⟨h.nodup, by simp, fun x hx y hy => by simp at hy; subst hy; exact fun e => hk (e ▸ hx)⟩
  · rw [hlen] at hi ⊢
    rcases Nat.lt_or_ge i st.length with h' | h'
    · have hu := h.up i h'
      rw [lone_at h', lone_at hu.1]
      exact ⟨by omega, hu.2⟩
    · have e : i = st.length := by omega
      subst e
      rw [lone_new]; exact ⟨by show st.length < _; omega, .inl rfl⟩
  · rw [hlen] at hi ⊢
    rcases Nat.lt_or_ge i st.length with h' | h'
    · have := h.pos i h'; rw [lone_at h']; omega
    · have e : i = st.length := by omega
      subst e
      rw [lone_new]; show 1 ≤ 1 ∧ 1 ≤ _; omega
  · rw [hlen] at hi
    rcases Nat.lt_or_ge i st.length with h' | h'
    · obtain ⟨t, ⟨h1, h2⟩, h3⟩ := h.ring i h'
      obtain ⟨r, hr⟩ := h.tops i h'
      have hm := (h3 r hr).2
      refine ⟨t, ⟨h1.congr fun y hy => ?_, h2⟩, fun r' hr' => ?_⟩
      · rw [lone_at ((hm y).1 hy).lt.1]
      · have e : r' = r := by
          rcases (h.top_lone k i r').1 hr' with h4 | ⟨h4, _⟩
          · exact h4.det hr
          · omega
        subst e
        refine ⟨by rw [lone_at hr.lt.2.1]; exact (h3 r' hr).1, fun j => (hm j).trans ?_⟩
        rw [h.top_lone]
        exact ⟨.inl, fun h4 => h4.resolve_right (fun h5 => by have := hr.lt.2.1; omega)⟩
    · have e : i = st.length := by omega
      subst e
      refine ⟨[], ⟨.nil (by rw [lone_new]), by simp⟩, fun r hr => ?_⟩
      have e : r = st.length := by
        rcases (h.top_lone k st.length r).1 hr with h4 | ⟨_, h4⟩
        · have := h4.lt.1; omega
        · exact h4
      subst e
      refine ⟨by rw [lone_new]; rfl, fun j => ?_⟩
      rw [h.top_lone]
      constructor
      · intro hj; simp at hj; exact .inr ⟨hj, rfl⟩
      · rintro (h4 | ⟨rfl, _⟩)
        · have := h4.lt.2.1; omega
        · simp
  · rw [hlen] at hr
    rcases Nat.lt_or_ge r st.length with h' | h'
    · rw [lone_at h'] at hroot
      obtain ⟨h1, j, h2, h3⟩ := h.least r h' hroot
      rw [lone_at h']
      refine ⟨fun j hj => ?_, j, (h.top_lone k j r).2 (.inl h2), by rw [lone_at h2.lt.1]; exact h3⟩
      rcases (h.top_lone k j r).1 hj with h4 | ⟨_, h4⟩
      · rw [lone_at h4.lt.1]; exact h1 j h4
      · omega
    · have e : r = st.length := by omega
      subst e
      refine ⟨fun j hj => ?_, st.length, (h.top_lone k _ _).2 (.inr ⟨rfl, rfl⟩), by rw [lone_new]⟩
      rcases (h.top_lone k j st.length).1 hj with h4 | ⟨rfl, _⟩
      · have := h4.lt.2.1; omega
      · rw [lone_new]; exact Int.le_refl _

end Go.Proofs.Ytcebidhfgdchlaa
