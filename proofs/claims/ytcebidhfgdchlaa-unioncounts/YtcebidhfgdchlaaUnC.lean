/-
  The keys of one class (layer 8), as lists. No program is named.
-/
import Derived.Test.YtcebidhfgdchlaaUnJ
namespace Go.Proofs.Ytcebidhfgdchlaa

/-- The keys along a ring are those of the class, each once. -/
theorem ring_keys {st : List Th} (h : UF st) {i : Nat} {t : List Nat} {r : Nat} (hr : Top st i r) (hm : ∀ j, j ∈ i :: t ↔ Top st j r) (hn : (i :: t).Nodup) : ((i :: t).map fun j => (at_ st j).key).Nodup ∧ ∀ k, k ∈ ((i :: t).map fun j => (at_ st j).key) ↔ KS st (at_ st i).key k := by
  constructor
  · unfold List.Nodup
    rw [List.pairwise_map]
    refine List.Pairwise.imp_of_mem (fun {a b} ha hb hab e => hab (key_inj h ((hm a).1 ha).lt.1 ((hm b).1 hb).lt.1 e)) hn
  · intro k
    rw [List.mem_map]
    constructor
    · rintro ⟨j, hj, rfl⟩
      exact ⟨i, j, r, hr, (hm j).1 hj, rfl, rfl⟩
    · rintro ⟨i', j, r', t1, t2, e1, e2⟩
      have x1 := key_inj h t1.lt.1 hr.lt.1 e1
      subst x1
      have x2 := hr.det t1
      subst x2
      exact ⟨j, (hm j).2 t2, e2⟩
/-- Numbers, rising. -/
def risenI (l : List Int) : List Int := l.mergeSort fun x y => decide (x ≤ y)
theorem risenI_len (l : List Int) : (risenI l).length = l.length := List.length_mergeSort _
theorem risenI_mem (l : List Int) (a : Int) : a ∈ risenI l ↔ a ∈ l := List.mem_mergeSort
theorem risenI_lt {l : List Int} (h : l.Nodup) : (risenI l).Pairwise (· < ·) := by
  have h1 : (risenI l).Pairwise (fun x y => decide (x ≤ y) = true) := List.pairwise_mergeSort (fun a b c h1 h2 => by simp at *; omega) (fun a b => by simp; omega) l
  have h2 : (risenI l).Nodup := (List.mergeSort_perm l _).nodup_iff.2 h
  exact (h1.and h2).imp fun {a b} ⟨h3, h4⟩ => by simp at h3; omega
theorem riseI_ext {l m : List Int} (hl : l.Pairwise (· < ·)) (hm : m.Pairwise (· < ·)) (h : ∀ t, t ∈ l ↔ t ∈ m) : l = m :=
  ((List.perm_ext_iff_of_nodup (hl.imp fun h => Int.ne_of_lt h) (hm.imp fun h => Int.ne_of_lt h)).2 h).eq_of_pairwise (fun a b _ _ h1 h2 => by omega) hl hm

end Go.Proofs.Ytcebidhfgdchlaa
