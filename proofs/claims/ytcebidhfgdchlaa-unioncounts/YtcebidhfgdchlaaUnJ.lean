/-
  Two classes are joined (layer 8), as lists. No program is named.
-/
import Derived.Test.YtcebidhfgdchlaaUnP
namespace Go.Proofs.Ytcebidhfgdchlaa

/-- The top L comes below the top T. -/
def joined (st : List Th) (T L : Nat) : List Th := (st.set L { at_ st L with above := T, next := (at_ st T).next }).set T { at_ st T with size := (at_ st T).size + (at_ st L).size, least := min (at_ st T).least (at_ st L).least, next := (at_ st L).next }
theorem joined_len (st : List Th) (T L : Nat) : (joined st T L).length = st.length := by simp [joined]
theorem joined_at (st : List Th) {T L : Nat} (hT : T < st.length) (hL : L < st.length) (j : Nat) : at_ (joined st T L) j = if j = T then { at_ st T with size := (at_ st T).size + (at_ st L).size, least := min (at_ st T).least (at_ st L).least, next := (at_ st L).next } else if j = L then { at_ st L with above := T, next := (at_ st T).next } else at_ st j := by
  unfold joined
  rw [at_set _ _ _ _ (by rw [List.length_set]; exact hT), at_set _ _ _ _ hL]
theorem Nx.split {st : List Th} {a b : Nat} {t : List Nat} (h : Nx st a t b) {i : Nat} (hi : i ∈ t) : ∃ s u, t = s ++ i :: u ∧ Nx st a s i ∧ Nx st i u b := by
  induction h with
  | nil _ => cases hi
  | @cons a x b t e k ih =>
    by_cases hx : i = x
    · subst hx; exact ⟨[], t, rfl, .nil e, k⟩
    · rcases List.mem_cons.1 hi with h' | h'
      · exact absurd h' hx
      · obtain ⟨s, u, rfl, h1, h2⟩ := ih h'
        exact ⟨x :: s, u, rfl, .cons e h1, h2⟩
theorem Ring.turn {st : List Th} {a : Nat} {t : List Nat} (h : Ring st a t) {i : Nat} (hi : i ∈ a :: t) : ∃ u, Ring st i u ∧ (i :: u).Perm (a :: t) := by
  rcases List.mem_cons.1 hi with rfl | hi
  · exact ⟨t, h, List.Perm.refl _⟩
  · obtain ⟨s, u, rfl, h1, h2⟩ := h.1.split hi
    have hp : (i :: (u ++ a :: s)).Perm (a :: (s ++ i :: u)) := by
      have : (i :: u ++ a :: s).Perm (a :: s ++ i :: u) := List.perm_append_comm
      exact this
    exact ⟨u ++ a :: s, ⟨h2.join h1, hp.nodup_iff.2 h.2⟩, hp⟩
theorem nx_from {st st' : List Th} {a a' b : Nat} {t : List Nat} (h : Nx st a t b) (h1 : (at_ st' a').next = (at_ st a).next) (h2 : ∀ y ∈ t, (at_ st' y).next = (at_ st y).next) : Nx st' a' t b := by
  cases h with
  | nil e => exact .nil (h1.trans e)
  | cons e k => exact .cons (h1.trans e) (k.congr h2)

/-- How many tops there are. -/
def rootsTo (st : List Th) : Nat → Nat
  | 0 => 0
  | n + 1 => rootsTo st n + (if (at_ st n).above = n then 1 else 0)
theorem rootsTo_succ (st : List Th) (n : Nat) : rootsTo st (n + 1) = rootsTo st n + (if (at_ st n).above = n then 1 else 0) := rfl
abbrev roots (st : List Th) : Nat := rootsTo st st.length
theorem roots_lone (st : List Th) (k : Int) : roots (lone st k) = roots st + 1 := by
  have hlen : (lone st k).length = st.length + 1 := by simp [lone]
  have key : ∀ n, n ≤ st.length → rootsTo (lone st k) n = rootsTo st n := fun n => by
    induction n with
    | zero => intro _; rfl
    | succ n ih => intro hn; rw [rootsTo_succ, rootsTo_succ, ih (by omega), lone_at (by omega)]
  unfold roots
  rw [hlen, rootsTo_succ, key _ (Nat.le_refl _), lone_new, if_pos rfl]
theorem roots_joined {st : List Th} {T L : Nat} (hT : T < st.length) (hL : L < st.length) (hTL : T ≠ L) (rL : (at_ st L).above = L) : roots (joined st T L) + 1 = roots st := by
  have key : ∀ n, rootsTo (joined st T L) n + (if L < n then 1 else 0) = rootsTo st n := fun n => by
    induction n with
    | zero => rfl
    | succ n ih =>
      rw [rootsTo_succ, rootsTo_succ]
      have hab : (at_ (joined st T L) n).above = if n = T then (at_ st T).above else if n = L then T else (at_ st n).above := by
        rw [joined_at st hT hL]
        by_cases e1 : n = T
        · rw [if_pos e1, if_pos e1]
        · rw [if_neg e1, if_neg e1]
          by_cases e2 : n = L
          · rw [if_pos e2, if_pos e2]
          · rw [if_neg e2, if_neg e2]
      rw [hab]
      by_cases e2 : n = L
      · subst e2
        have hne : ¬ n = T := fun e => hTL e.symm
        rw [if_neg (Nat.lt_irrefl n)] at ih
        rw [if_neg hne, if_pos (rfl : n = n), if_neg hTL, rL, if_pos (rfl : n = n), if_pos (Nat.lt_succ_self n)]
        omega
      · have e3 : (if L < n + 1 then 1 else 0) = (if L < n then 1 else 0) := by
          by_cases h : L < n
          · rw [if_pos h, if_pos (by omega)]
          · rw [if_neg h, if_neg (by omega)]
        rw [e3]
        by_cases e1 : n = T
        · subst e1
          rw [if_pos rfl]; omega
        · rw [if_neg e1, if_neg e2]; omega
  unfold roots
  rw [joined_len]
  have := key st.length
  rw [if_pos hL] at this
  exact this

theorem top_joined {st : List Th} {T L : Nat} (hT : T < st.length) (hL : L < st.length) (hTL : T ≠ L) (rT : (at_ st T).above = T) (rL : (at_ st L).above = L) {i r : Nat} (h : Top st i r) : Top (joined st T L) i (if r = L then T else r) := by
  have aT : (at_ (joined st T L) T).above = T := by rw [joined_at st hT hL, if_pos rfl]; exact rT
  have aL : (at_ (joined st T L) L).above = T := by rw [joined_at st hT hL, if_neg (Ne.symm hTL), if_pos rfl]
  have hereT : Top (joined st T L) T T := .here (by rw [joined_len]; exact hT) aT
  induction h with
  | @here r h1 h2 =>
    by_cases e : r = L
    · subst e
      rw [if_pos rfl]
      exact .up (by rw [joined_len]; exact h1) (by rw [aL]; exact hTL) (by rw [aL]; exact hereT)
    · rw [if_neg e]
      refine .here (by rw [joined_len]; exact h1) ?_
      rw [joined_at st hT hL]
      by_cases e2 : r = T
      · rw [if_pos e2, e2]; exact rT
      · rw [if_neg e2, if_neg e]; exact h2
  | @up i r h1 h2 _ ih =>
    have n1 : i ≠ T := fun e => h2 (by rw [e]; exact rT)
    have n2 : i ≠ L := fun e => h2 (by rw [e]; exact rL)
    have ea : at_ (joined st T L) i = at_ st i := by rw [joined_at st hT hL, if_neg n1, if_neg n2]
    exact .up (by rw [joined_len]; exact h1) (by rw [ea]; exact h2) (by rw [ea]; exact ih)
theorem UF.join {st : List Th} (h : UF st) {T L : Nat} (hT : T < st.length) (hL : L < st.length) (hTL : T ≠ L) (rT : (at_ st T).above = T) (rL : (at_ st L).above = L) : UF (joined st T L) ∧ ∀ i r, Top (joined st T L) i r ↔ (Top st i r ∧ r ≠ L) ∨ (Top st i L ∧ r = T) := by
  have tT : Top st T T := .here hT rT
  have tL : Top st L L := .here hL rL
  have htop : ∀ i r, Top (joined st T L) i r ↔ (Top st i r ∧ r ≠ L) ∨ (Top st i L ∧ r = T) := fun i r => by
    constructor
    · intro ht
      have hi := ht.lt.1
      rw [joined_len] at hi
      obtain ⟨s, hs⟩ := h.tops i hi
      have := ht.det (top_joined hT hL hTL rT rL hs)
      by_cases e : s = L
      · subst e; rw [if_pos rfl] at this; exact .inr ⟨hs, this⟩
      · rw [if_neg e] at this; subst this; exact .inl ⟨hs, e⟩
    · rintro (⟨h1, h2⟩ | ⟨h1, rfl⟩)
      · have := top_joined hT hL hTL rT rL h1; rwa [if_neg h2] at this
      · have := top_joined hT hL hTL rT rL h1; rwa [if_pos rfl] at this
  have hat := joined_at st hT hL
  have hkey : ∀ j, (at_ (joined st T L) j).key = (at_ st j).key := fun j => by
    rw [hat]
    by_cases e1 : j = T
    · rw [if_pos e1, e1]
    · rw [if_neg e1]
      by_cases e2 : j = L
      · rw [if_pos e2, e2]
      · rw [if_neg e2]
  obtain ⟨rgT, ⟨nT, dT⟩, mT⟩ := h.ring T hT
  obtain ⟨rgL, ⟨nL, dL⟩, mL⟩ := h.ring L hL
  obtain ⟨lT, mT⟩ := mT T tT
  obtain ⟨lL, mL⟩ := mL L tL
  have hdis : ∀ x, x ∈ T :: rgT → x ∈ L :: rgL → False := fun x h1 h2 => hTL (((mT x).1 h1).det ((mL x).1 h2))
  have nx : ∀ y, y ≠ T → y ≠ L → (at_ (joined st T L) y).next = (at_ st y).next := fun y h1 h2 => by rw [hat, if_neg h1, if_neg h2]
  have n1 : Nx (joined st T L) T rgL L := nx_from nL (by rw [hat, if_pos rfl]) (fun y hy => nx y (fun e => hdis T (by simp) (by rw [← e]; simp [hy])) (fun e => (List.nodup_cons.1 dL).1 (e ▸ hy)))
  have n2 : Nx (joined st T L) L rgT T := nx_from nT (by rw [hat, if_neg (Ne.symm hTL), if_pos rfl]) (fun y hy => nx y (fun e => (List.nodup_cons.1 dT).1 (e ▸ hy)) (fun e => hdis L (by rw [← e]; simp [hy]) (by simp)))
  have hperm : (T :: (rgL ++ L :: rgT)).Perm ((T :: rgT) ++ (L :: rgL)) := by
    have : (rgL ++ L :: rgT).Perm (rgT ++ L :: rgL) := by
      refine (List.perm_append_comm (l₁ := rgL) (l₂ := L :: rgT)).trans ?_
      exact (List.perm_middle (l₁ := rgT) (a := L) (l₂ := rgL)).symm
    exact this.cons T
  have hnd : (T :: (rgL ++ L :: rgT)).Nodup := hperm.nodup_iff.2 (List.nodup_append.2 ⟨dT, dL, fun x hx y hy e => hdis x hx (e ▸ hy)⟩)
  have hring : Ring (joined st T L) T (rgL ++ L :: rgT) := ⟨n1.join n2, hnd⟩
  have hlen2 : (T :: (rgL ++ L :: rgT)).length = (at_ st T).size + (at_ st L).size := by rw [hperm.length_eq, List.length_append, lT, lL]
  have hmem : ∀ j, j ∈ T :: (rgL ++ L :: rgT) ↔ Top st j T ∨ Top st j L := fun j => by
    rw [hperm.mem_iff, List.mem_append, mT, mL]
  have hle : (at_ st T).size + (at_ st L).size ≤ st.length := by
    rw [← hlen2]
    have := hnd.length_le_of_subset (l₂ := List.range st.length) (fun x hx => List.mem_range.2 (by rcases (hmem x).1 hx with h' | h' <;> exact h'.lt.1))
    rwa [List.length_range] at this
  refine ⟨⟨?_, fun i hi => ?_, fun i hi => ?_, fun i hi => ?_, fun r hr hroot => ?_⟩, htop⟩
  · have e : (joined st T L).map Th.key = st.map Th.key := by
      apply List.ext_getElem?
      intro j
      rw [List.getElem?_map, List.getElem?_map]
      by_cases hj : j < st.length
      · have := hkey j
        unfold at_ at this
        rw [List.getD_eq_getElem?_getD, List.getD_eq_getElem?_getD, List.getElem?_eq_getElem hj, List.getElem?_eq_getElem (by rw [joined_len]; exact hj)] at this
        rw [List.getElem?_eq_getElem hj, List.getElem?_eq_getElem (by rw [joined_len]; exact hj)]
        simpa using this
      · rw [List.getElem?_eq_none (by rw [joined_len]; omega), List.getElem?_eq_none (by omega)]
    rw [e]; exact h.nodup
  · rw [joined_len] at hi ⊢
    have hp := (h.pos T hT).1
    have hu := h.up i hi
    rw [hat i]
    by_cases e1 : i = T
    · rw [if_pos e1]; subst e1
      exact ⟨hu.1, .inl rT⟩
    · rw [if_neg e1]
      by_cases e2 : i = L
      · rw [if_pos e2]
        refine ⟨hT, .inr ?_⟩
        show (at_ st L).size < (at_ (joined st T L) T).size
        rw [hat, if_pos rfl]
        show _ < (at_ st T).size + (at_ st L).size
        omega
      · rw [if_neg e2]
        refine ⟨hu.1, hu.2.imp id fun hlt => ?_⟩
        rw [hat]
        by_cases e3 : (at_ st i).above = T
        · rw [if_pos e3]; rw [e3] at hlt; show _ < (at_ st T).size + (at_ st L).size; omega
        · rw [if_neg e3]
          by_cases e4 : (at_ st i).above = L
          · rw [if_pos e4]; rw [e4] at hlt; exact hlt
          · rw [if_neg e4]; exact hlt
  · rw [joined_len] at hi ⊢
    have hp := h.pos i hi
    have hpT := (h.pos T hT).1
    rw [hat]
    by_cases e1 : i = T
    · rw [if_pos e1]; show 1 ≤ (at_ st T).size + (at_ st L).size ∧ _; exact ⟨by omega, hle⟩
    · rw [if_neg e1]
      by_cases e2 : i = L
      · rw [if_pos e2]; subst e2; exact hp
      · rw [if_neg e2]; exact hp
  · rw [joined_len] at hi
    obtain ⟨s, hs⟩ := h.tops i hi
    by_cases hTL2 : s = T ∨ s = L
    · have him : i ∈ T :: (rgL ++ L :: rgT) := (hmem i).2 (by rcases hTL2 with e | e <;> subst e; exact .inl hs; exact .inr hs)
      obtain ⟨u, hu, hp⟩ := hring.turn him
      refine ⟨u, hu, fun r hr => ?_⟩
      have hrT : r = T := by
        rcases (htop i r).1 hr with ⟨h1, h2⟩ | ⟨_, h2⟩
        · have := h1.det hs
          rcases hTL2 with e | e
          · rw [this, e]
          · exact absurd (this.trans e) h2
        · exact h2
      subst hrT
      refine ⟨by rw [hp.length_eq, hlen2, hat, if_pos rfl], fun j => ?_⟩
      rw [hp.mem_iff, hmem, htop]
      constructor
      · rintro (h' | h')
        · exact .inl ⟨h', hTL⟩
        · exact .inr ⟨h', rfl⟩
      · rintro (⟨h', _⟩ | ⟨h', _⟩)
        · exact .inl h'
        · exact .inr h'
    · have hsT : s ≠ T := fun e => hTL2 (.inl e)
      have hsL : s ≠ L := fun e => hTL2 (.inr e)
      obtain ⟨t, ⟨k1, k2⟩, k3⟩ := h.ring i hi
      obtain ⟨k4, k5⟩ := k3 s hs
      refine ⟨t, ⟨k1.congr fun y hy => nx y (fun e => hsT ((k5 y).1 hy |>.det (e ▸ tT))) (fun e => hsL ((k5 y).1 hy |>.det (e ▸ tL))), k2⟩, fun r hr => ?_⟩
      have hrs : r = s := by
        rcases (htop i r).1 hr with ⟨h1, _⟩ | ⟨h1, _⟩
        · exact h1.det hs
        · exact absurd (hs.det h1) hsL
      subst hrs
      refine ⟨by rw [hat, if_neg hsT, if_neg hsL]; exact k4, fun j => ?_⟩
      rw [k5, htop]
      constructor
      · intro h'; exact .inl ⟨h', hsL⟩
      · rintro (⟨h', _⟩ | ⟨_, h'⟩)
        · exact h'
        · exact absurd h' hsT
  · rw [joined_len] at hr
    have hrL : r ≠ L := fun e => by
      subst e
      rw [hat, if_neg (Ne.symm hTL), if_pos rfl] at hroot
      exact hTL hroot
    rw [hat r]
    by_cases e1 : r = T
    · rw [if_pos e1]
      subst e1
      obtain ⟨p1, j1, p2, p3⟩ := h.least r hT rT
      obtain ⟨q1, j2, q2, q3⟩ := h.least L hL rL
      refine ⟨fun j hj => ?_, ?_⟩
      · show min (at_ st r).least (at_ st L).least ≤ _
        rw [hkey]
        rcases (htop j r).1 hj with ⟨h', _⟩ | ⟨h', _⟩
        · have := p1 j h'; omega
        · have := q1 j h'; omega
      · show ∃ j, _ ∧ _ = min (at_ st r).least (at_ st L).least
        by_cases hm : (at_ st r).least ≤ (at_ st L).least
        · exact ⟨j1, (htop j1 r).2 (.inl ⟨p2, hTL⟩), by rw [hkey, p3]; omega⟩
        · exact ⟨j2, (htop j2 r).2 (.inr ⟨q2, rfl⟩), by rw [hkey, q3]; omega⟩
    · rw [if_neg e1, if_neg hrL]
      rw [hat, if_neg e1, if_neg hrL] at hroot
      obtain ⟨p1, j1, p2, p3⟩ := h.least r hr hroot
      refine ⟨fun j hj => ?_, j1, (htop j1 r).2 (.inl ⟨p2, hrL⟩), by rw [hkey]; exact p3⟩
      rw [hkey]
      rcases (htop j r).1 hj with ⟨h', _⟩ | ⟨_, h'⟩
      · exact p1 j h'
      · exact absurd h' e1

/-- Two keys are in one class. -/
def KS (st : List Th) (k l : Int) : Prop := ∃ i j r, Top st i r ∧ Top st j r ∧ (at_ st i).key = k ∧ (at_ st j).key = l
theorem key_inj {st : List Th} (h : UF st) {i j : Nat} (hi : i < st.length) (hj : j < st.length) (e : (at_ st i).key = (at_ st j).key) : i = j := by
  have hn := h.nodup
  unfold at_ at e
  rw [List.getD_eq_getElem?_getD, List.getD_eq_getElem?_getD, List.getElem?_eq_getElem hi, List.getElem?_eq_getElem hj] at e
  simp at e
  have h1 : i < (st.map Th.key).length := by simpa using hi
  have h2 : j < (st.map Th.key).length := by simpa using hj
  exact (List.getElem_inj (h₀ := h1) (h₁ := h2) hn).1 (by simpa using e)
theorem key_mem {st : List Th} {k : Int} : k ∈ st.map Th.key ↔ ∃ i, i < st.length ∧ (at_ st i).key = k := by
  rw [List.mem_map]
  constructor
  · rintro ⟨x, hx, rfl⟩
    obtain ⟨i, hi, rfl⟩ := List.getElem_of_mem hx
    exact ⟨i, hi, by unfold at_; rw [List.getD_eq_getElem?_getD, List.getElem?_eq_getElem hi]; rfl⟩
  · rintro ⟨i, hi, rfl⟩
    exact ⟨st[i], List.getElem_mem hi, by unfold at_; rw [List.getD_eq_getElem?_getD, List.getElem?_eq_getElem hi]; rfl⟩
theorem ks_self {st : List Th} (h : UF st) (k : Int) : KS st k k ↔ k ∈ st.map Th.key := by
  rw [key_mem]
  constructor
  · rintro ⟨i, _, r, h1, _, h2, _⟩; exact ⟨i, h1.lt.1, h2⟩
  · rintro ⟨i, hi, e⟩
    obtain ⟨r, hr⟩ := h.tops i hi
    exact ⟨i, i, r, hr, hr, e, e⟩
/-- What is added is alone. -/
theorem ks_lone {st : List Th} (h : UF st) (a k l : Int) : KS (lone st a) k l ↔ KS st k l ∨ (k = a ∧ l = a) := by
  constructor
  · rintro ⟨i, j, r, h1, h2, e1, e2⟩
    rcases (h.top_lone a i r).1 h1 with h1 | ⟨rfl, rfl⟩
    · rcases (h.top_lone a j r).1 h2 with h2 | ⟨rfl, rfl⟩
      · rw [lone_at h1.lt.1] at e1; rw [lone_at h2.lt.1] at e2
        exact .inl ⟨i, j, r, h1, h2, e1, e2⟩
      · have := h1.lt.2.1; omega
    · rcases (h.top_lone a j _).1 h2 with h2 | ⟨rfl, _⟩
      · have := h2.lt.2.1; omega
      · rw [lone_new] at e1 e2; exact .inr ⟨e1.symm, e2.symm⟩
  · rintro (⟨i, j, r, h1, h2, e1, e2⟩ | ⟨rfl, rfl⟩)
    · exact ⟨i, j, r, (h.top_lone a i r).2 (.inl h1), (h.top_lone a j r).2 (.inl h2), by rw [lone_at h1.lt.1]; exact e1, by rw [lone_at h2.lt.1]; exact e2⟩
    · have := (h.top_lone l st.length st.length).2 (.inr ⟨rfl, rfl⟩)
      exact ⟨st.length, st.length, st.length, this, this, by rw [lone_new], by rw [lone_new]⟩
/-- Those of two classes are together. -/
theorem ks_joined {st : List Th} (h : UF st) {T L : Nat} (hT : T < st.length) (hL : L < st.length) (hTL : T ≠ L) (rT : (at_ st T).above = T) (rL : (at_ st L).above = L) {i j : Nat} (hi : Top st i T) (hj : Top st j L) (k l : Int) :
    KS (joined st T L) k l ↔ KS st k l ∨ (KS st k (at_ st i).key ∧ KS st (at_ st j).key l) ∨ (KS st k (at_ st j).key ∧ KS st (at_ st i).key l) := by
  obtain ⟨_, htop⟩ := h.join hT hL hTL rT rL
  have hkey : ∀ j, (at_ (joined st T L) j).key = (at_ st j).key := fun j => by
    rw [joined_at st hT hL]
    by_cases e1 : j = T
    · rw [if_pos e1, e1]
    · rw [if_neg e1]
      by_cases e2 : j = L
      · rw [if_pos e2, e2]
      · rw [if_neg e2]
  have one : ∀ {a b : Nat} {r : Nat}, Top st b r → KS st (at_ st a).key (at_ st b).key → a < st.length → Top st a r := fun {a b r} hb ⟨i', j', r', t1, t2, e1, e2⟩ ha => by
    have ei := key_inj h t1.lt.1 ha e1
    have ej := key_inj h t2.lt.1 hb.lt.1 e2
    subst ei ej
    rw [hb.det t2]; exact t1
  constructor
  · rintro ⟨a, b, r, h1, h2, e1, e2⟩
    rw [hkey] at e1 e2
    rcases (htop a r).1 h1 with ⟨g1, n1⟩ | ⟨g1, er⟩
    · rcases (htop b r).1 h2 with ⟨g2, n2⟩ | ⟨g2, er⟩
      · exact .inl ⟨a, b, r, g1, g2, e1, e2⟩
      · exact .inr (.inl ⟨⟨a, i, T, er ▸ g1, hi, e1, rfl⟩, ⟨j, b, L, hj, g2, rfl, e2⟩⟩)
    · rcases (htop b r).1 h2 with ⟨g2, n2⟩ | ⟨g2, _⟩
      · exact .inr (.inr ⟨⟨a, j, L, g1, hj, e1, rfl⟩, ⟨i, b, T, hi, er ▸ g2, rfl, e2⟩⟩)
      · exact .inl ⟨a, b, L, g1, g2, e1, e2⟩
  · have mk : ∀ {a : Nat}, Top st a T ∨ Top st a L → Top (joined st T L) a T := fun {a} ha => by
      rcases ha with ha | ha
      · exact (htop a T).2 (.inl ⟨ha, hTL⟩)
      · exact (htop a T).2 (.inr ⟨ha, rfl⟩)
    rintro (⟨a, b, r, h1, h2, e1, e2⟩ | ⟨⟨a, i', r, t1, t2, e1, e2⟩, ⟨j', b, r', t3, t4, e3, e4⟩⟩ | ⟨⟨a, j', r, t1, t2, e1, e2⟩, ⟨i', b, r', t3, t4, e3, e4⟩⟩)
    · by_cases e : r = L
      · subst e; exact ⟨a, b, T, mk (.inr h1), mk (.inr h2), by rw [hkey]; exact e1, by rw [hkey]; exact e2⟩
      · exact ⟨a, b, r, (htop a r).2 (.inl ⟨h1, e⟩), (htop b r).2 (.inl ⟨h2, e⟩), by rw [hkey]; exact e1, by rw [hkey]; exact e2⟩
    · have x1 := key_inj h t2.lt.1 hi.lt.1 e2
      have x2 := key_inj h t3.lt.1 hj.lt.1 e3
      subst x1 x2
      have y1 := t2.det hi
      have y2 := t3.det hj
      subst y1 y2
      exact ⟨a, b, r, mk (.inl t1), mk (.inr t4), by rw [hkey]; exact e1, by rw [hkey]; exact e4⟩
    · have x1 := key_inj h t2.lt.1 hj.lt.1 e2
      have x2 := key_inj h t3.lt.1 hi.lt.1 e3
      subst x1 x2
      have y1 := t2.det hj
      have y2 := t3.det hi
      subst y1 y2
      exact ⟨a, b, r', mk (.inr t1), mk (.inl t4), by rw [hkey]; exact e1, by rw [hkey]; exact e4⟩

end Go.Proofs.Ytcebidhfgdchlaa
