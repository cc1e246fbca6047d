/-
  Blocks in a row (layer 7), as lists: who dominates whom, and the frontiers. No program is named.
-/
import Derived.Test.YtonoeodlchkiaaaSml
namespace Go.Proofs.Ytonoeodlchkiaaa

def chRow (n f t i : Nat) : List Nat := (if i + 1 < n then [i + 1] else []) ++ (if i = f then [t] else [])
def chG (n f t k : Nat) : List (List Nat) := (List.range k).map (chRow n f t)
theorem chG_len (n f t k : Nat) : (chG n f t k).length = k := by simp [chG]
theorem chG_at (n f t k b : Nat) (h : b < k) : (chG n f t k).getD b [] = chRow n f t b := by
  rw [List.getD_eq_getElem?_getD]; simp [chG, h]
theorem chG_succ (n f t k : Nat) : chG n f t (k + 1) = chG n f t k ++ [chRow n f t k] := by
  unfold chG; rw [List.range_succ, List.map_append]; rfl
theorem mem_chRow (n f t i v : Nat) : v ∈ chRow n f t i ↔ (i + 1 < n ∧ v = i + 1) ∨ (i = f ∧ v = t) := by
  unfold chRow
  by_cases h1 : i + 1 < n <;> by_cases h2 : i = f <;> simp [h1, h2]
theorem chRow_len (n f t i : Nat) : (chRow n f t i).length ≤ 2 := by
  unfold chRow
  rw [List.length_append]
  split <;> split <;> simp
theorem mem_chG (n f t b v : Nat) : v ∈ (chG n f t n).getD b [] ↔ b < n ∧ ((b + 1 < n ∧ v = b + 1) ∨ (b = f ∧ v = t)) := by
  rcases Nat.lt_or_ge b n with h | h
  · rw [chG_at _ _ _ _ _ h, mem_chRow]; simp [h]
  · rw [getD_ge _ _ (by rw [chG_len]; exact h)]
    simp
    omega
theorem ch_right (n f t : Nat) (h1 : 1 ≤ n) (h2 : n ≤ 60) (h4 : t < n) : Right (chG n f t n) := by
  refine ⟨by rw [chG_len]; exact h1, by rw [chG_len]; omega, fun b => ?_, fun b v hv => ?_⟩
  · rcases Nat.lt_or_ge b n with h | h
    · rw [chG_at _ _ _ _ _ h]; have := chRow_len n f t b; omega
    · rw [getD_ge _ _ (by rw [chG_len]; exact h)]; simp
  · rw [chG_len]
    rw [mem_chG] at hv; omega
theorem chG_set (n t : Nat) (h : 1 ≤ n) : (chG n n 0 n).set (n - 1) [t] = chG n (n - 1) t n := by
  apply List.ext_getElem?
  intro i
  by_cases hi : i < n
  · by_cases e : i = n - 1
    · subst e
      rw [List.getElem?_set_self (by rw [chG_len]; exact hi)]
      unfold chG
      rw [List.getElem?_map, List.getElem?_range hi]
      simp [chRow]
      omega
    · rw [List.getElem?_set_ne (Ne.symm e)]
      unfold chG
      rw [List.getElem?_map, List.getElem?_map, List.getElem?_range hi]
      simp only [Option.map_some, chRow]
      rw [if_neg (show ¬ i = n by omega), if_neg e]
  · rw [List.getElem?_eq_none (by rw [List.length_set, chG_len]; omega), List.getElem?_eq_none (by rw [chG_len]; omega)]

/-- Blocks in a row: each has the next one behind it, and no edge leads further onward. -/
structure InRow (g : List (List Nat)) : Prop where
  next : ∀ i, i + 1 < g.length → i + 1 ∈ g.getD i []
  le : ∀ i v, v ∈ g.getD i [] → v ≤ i + 1
theorem ch_inrow (n f t : Nat) (h : f < n → t ≤ f) : InRow (chG n f t n) :=
  ⟨fun i hi => by rw [chG_len] at hi; rw [mem_chG]; omega, fun i v hv => by rw [mem_chG] at hv; omega⟩
theorem InRow.all {g : List (List Nat)} (h : InRow g) {o : List Nat} (ho : Ord g o) : ∀ x, x < g.length → x ∈ o
  | 0, _ => ho.zero
  | x + 1, hx => ho.cl x (h.all ho x (by omega)) (x + 1) (h.next x hx)
theorem InRow.dom {g : List (List Nat)} (h : InRow g) {a x : Nat} (hx : x < g.length) : Dom g a x ↔ a ≤ x := by
  constructor
  · intro hd
    apply Classical.byContradiction
    intro hn
    apply hd
    have : ∀ y, y ≤ x → Path g (· ≠ a) 0 y := by
      intro y
      induction y with
      | zero => intro _; exact .refl (by omega)
      | succ y ih => intro hy; exact .step (ih (by omega)) (h.next y (by omega)) (by omega)
    exact this x (Nat.le_refl _)
  · intro hax hp
    have key : ∀ y, Path g (· ≠ a) 0 y → y < a := by
      intro y hy
      induction hy with
      | refl hs => have : (0 : Nat) ≠ a := hs; omega
      | @step u v _ he hne ih =>
        have h1 := h.le u v he
        have : v ≠ a := hne
        omega
    have := key x hp
    omega
theorem InRow.anc {g : List (List Nat)} (h : InRow g) {o : List Nat} (ho : Ord g o) {d : List Int} (hf : Fin g o d) {a x : Nat} (hx : x < g.length) : Anc d x a ↔ a ≤ x :=
  (hf.dominates ho (h.all ho x hx)).trans (h.dom hx)
theorem InRow.ask {g : List (List Nat)} (h : InRow g) {o : List Nat} (ho : Ord g o) {d : List Int} (hf : Fin g o d) {x : Nat} (hx : x < g.length) : ask d x = (x : Int) - 1 := by
  by_cases h0 : x = 0
  · subst h0; rw [hf.zero]; rfl
  · obtain ⟨y, h1, h2, h3⟩ := hf.toTr.next (hf.told (h.all ho x hx)) h0
    have hyl := ho.lt y h2.1
    have hyx : y ≤ x := (h.anc ho hf hx).1 (.up h1 (.refl y))
    have hne : y ≠ x := fun e => by subst e; omega
    have hk : Anc d x (x - 1) := (h.anc ho hf hx).2 (by omega)
    have key : ∀ a, Anc d x a → a ≠ x → Anc d y a := fun a ha hne => by
      cases ha with
      | refl => exact absurd rfl hne
      | @up _ z _ e k =>
        have : z = y := by omega
        subst this
        exact k
    have hy2 : x - 1 ≤ y := (h.anc ho hf hyl).1 (key _ hk (by omega))
    rw [h1]; omega
/-- The row of idom that blocks in a row have. -/
def rowD (n : Nat) : List Int := (List.range n).map fun i : Nat => (i : Int) - 1
theorem rowD_len (n : Nat) : (rowD n).length = n := by simp [rowD]
theorem rowD_ask (n x : Nat) (h : x < n) : ask (rowD n) x = (x : Int) - 1 := by
  unfold Ytonoeodlchkiaaa.ask rowD
  rw [List.getD_eq_getElem?_getD]; simp [h]
theorem InRow.row {g : List (List Nat)} (h : InRow g) {o : List Nat} (ho : Ord g o) {d : List Int} (hf : Fin g o d) : d = rowD g.length := by
  apply List.ext_getElem?
  intro x
  by_cases hx : x < g.length
  · have h1 := h.ask ho hf hx
    have h2 := rowD_ask g.length x hx
    unfold Ytonoeodlchkiaaa.ask at h1 h2
    rw [List.getD_eq_getElem?_getD, List.getElem?_eq_getElem (by rw [hf.len]; exact hx)] at h1
    rw [List.getD_eq_getElem?_getD, List.getElem?_eq_getElem (by rw [rowD_len]; exact hx)] at h2
    rw [List.getElem?_eq_getElem (by rw [hf.len]; exact hx), List.getElem?_eq_getElem (by rw [rowD_len]; exact hx)]
    simp at h1 h2
    rw [h1]
    simp [h2]
  · rw [List.getElem?_eq_none (by rw [hf.len]; omega), List.getElem?_eq_none (by rw [rowD_len]; omega)]
theorem chain_row {n f : Nat} (hf : f < n) {s : List Nat} {a : Nat} (h : Chain (rowD n) f s a) : a ≤ f ∧ ∀ y, y ∈ s ++ [a] ↔ a ≤ y ∧ y ≤ f := by
  induction h with
  | nil => exact ⟨Nat.le_refl _, fun y => by simp; omega⟩
  | @snoc s x z hc e ih =>
    rw [rowD_ask n x (by omega)] at e
    refine ⟨by omega, fun y => ?_⟩
    have := ih.2 y
    rw [List.mem_append, this]
    simp
    omega
theorem chain_ex {n f : Nat} (hf : f < n) : ∀ k, k ≤ f → ∃ s, Chain (rowD n) f s (f - k)
  | 0, _ => ⟨[], .nil⟩
  | k + 1, hk => by
    obtain ⟨s, hs⟩ := chain_ex hf k (by omega)
    exact ⟨s ++ [f - k], .snoc hs (by rw [rowD_ask n _ (by omega)]; omega)⟩
theorem fr_row {n f t a : Nat} (hf : f < n) (ht : t < n) : Fr (rowD n) f t a ↔ a ≤ f ∧ (t = 0 ∨ t - 1 < a ∨ f < t - 1) := by
  constructor
  · rintro ⟨s, hc, hn⟩
    obtain ⟨h1, h2⟩ := chain_row hf hc
    refine ⟨h1, ?_⟩
    apply Classical.byContradiction
    intro hno
    have := hn (t - 1) ((h2 (t - 1)).2 (by omega))
    rw [rowD_ask n t ht] at this
    omega
  · rintro ⟨h1, h2⟩
    obtain ⟨s, hs⟩ := chain_ex hf (f - a) (by omega)
    rw [show f - (f - a) = a by omega] at hs
    refine ⟨s, hs, fun y hy => ?_⟩
    have := ((chain_row hf hs).2 y).1 hy
    rw [rowD_ask n t ht]
    omega
/-- Their frontiers. -/
theorem ch_fro (n f t : Nat) (h1 : 1 ≤ n) (ht : t < n) (hft : f < n → f = n - 1) {o : List Nat} {d : List Int} (ho : Ord (chG n f t n) o) (hfin : Fin (chG n f t n) o d) {fr : Nat → List Nat} (h : IsFro (chG n f t n) o d fr) : ∀ a, a < n → fr a = if f < n ∧ t ≤ a then [t] else [] := by
  have hin : InRow (chG n f t n) := ch_inrow n f t (fun h => by have := hft h; omega)
  have hd := hin.row ho hfin
  rw [chG_len] at hd
  subst hd
  intro a ha
  obtain ⟨k1, k2⟩ := h a (by rw [chG_len]; exact ha)
  refine rise_ext k1 (by split <;> simp) fun u => (k2 u).trans ?_
  constructor
  · rintro ⟨x, hx, hu, hfr⟩
    rw [mem_chG] at hu
    obtain ⟨hxn, hu⟩ := hu
    rcases hu with ⟨h2, rfl⟩ | ⟨rfl, rfl⟩
    · rw [fr_row hxn h2] at hfr; omega
    · rw [fr_row hxn ht] at hfr
      have := hft hxn
      rw [if_pos ⟨hxn, by omega⟩]; simp
  · intro hu
    by_cases hc : f < n ∧ t ≤ a
    · rw [if_pos hc] at hu
      have hut : u = t := by simpa using hu
      subst hut
      have := hft hc.1
      refine ⟨f, hin.all ho f (by rw [chG_len]; exact hc.1), ?_, ?_⟩
      · rw [mem_chG]; exact ⟨hc.1, .inr ⟨rfl, rfl⟩⟩
      · rw [fr_row hc.1 ht]; omega
    · rw [if_neg hc] at hu; cases hu

end Go.Proofs.Ytonoeodlchkiaaa
