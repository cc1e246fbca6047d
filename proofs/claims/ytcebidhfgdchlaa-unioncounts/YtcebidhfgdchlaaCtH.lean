/-
  All classes together have each thing once (layer 8). No program is named.
-/
import Derived.Test.YtcebidhfgdchlaaCtD
import Derived.Test.YtcebidhfgdchlaaUnG
namespace Go.Proofs.Ytcebidhfgdchlaa
open Go.ChangeShapes Go.WideShapes Go.ChangeAt Go.RowKit

theorem len_le_of_nodup : ∀ (l m : List Int), l.Nodup → (∀ x, x ∈ l → x ∈ m) → l.length ≤ m.length
  | [], _, _, _ => Nat.zero_le _
  | x :: l, m, hn, hm => by
    have hx := hm x (by simp)
    have h2 := (List.nodup_cons.1 hn)
    have h3 := len_le_of_nodup l (m.erase x) h2.2 (fun y hy => (List.mem_erase_of_ne (fun e => h2.1 (by rw [← e]; exact hy))).2 (hm y (List.mem_cons_of_mem _ hy)))
    rw [List.length_erase_of_mem hx] at h3
    have := List.length_pos_of_mem hx
    rw [List.length_cons]; omega
theorem rts_lt (st : List Th) : ∀ n, (rts st n).Pairwise (· < ·)
  | 0 => by simp [rts]
  | n + 1 => by
    rw [rts, List.pairwise_append]
    refine ⟨rts_lt st n, by split <;> simp, fun a ha b hb => ?_⟩
    have := ((mem_rts st a n).1 ha).1
    split at hb
    · simp at hb; omega
    · cases hb
def sumL : List (List Int) → Nat
  | [] => 0
  | l :: r => l.length + sumL r
theorem sumL_eq : ∀ l, sumL l = l.flatten.length
  | [] => rfl
  | l :: r => by rw [sumL, List.flatten_cons, List.length_append, sumL_eq r]
theorem sumL_app : ∀ (l m : List (List Int)), sumL (l ++ m) = sumL l + sumL m
  | [], m => by simp [sumL]
  | x :: l, m => by rw [List.cons_append, sumL, sumL, sumL_app l m]; omega
theorem sumL_perm {l m : List (List Int)} (h : l.Perm m) : sumL l = sumL m := by
  induction h with
  | nil => rfl
  | cons x _ ih => rw [sumL, sumL, ih]
  | swap x y l => simp only [sumL]; omega
  | trans _ _ h1 h2 => exact h1.trans h2
/-- Together they have each thing once. -/
theorem Cls.sum {st : List Th} {xss : List (List Int)} (hU : UF st) (hc : Cls st st.length xss) : sumL xss = st.length := by
  obtain ⟨L, rfl, h⟩ := hc
  rw [sumL_eq]
  have hself : ∀ r, r ∈ rts st st.length → Top st r r ∧ r < st.length := fun r hr => by
    obtain ⟨h1, h2⟩ := (mem_rts st r _).1 hr
    exact ⟨.here h1 h2, h1⟩
  have hmem : ∀ x, x ∈ ((rts st st.length).map L).flatten ↔ x ∈ st.map Th.key := fun x => by
    rw [List.mem_flatten]
    constructor
    · rintro ⟨l, hl, hx⟩
      obtain ⟨r, hr, rfl⟩ := List.mem_map.1 hl
      obtain ⟨i, j, t, t1, t2, e1, e2⟩ := ((h r hr).2.2 x).1 hx
      exact key_mem.2 ⟨j, t2.lt.1, e2⟩
    · intro hx
      obtain ⟨i, hi, rfl⟩ := key_mem.1 hx
      obtain ⟨r, hr⟩ := hU.tops i hi
      have hm : r ∈ rts st st.length := (mem_rts st r _).2 hr.lt.2
      exact ⟨L r, List.mem_map.2 ⟨r, hm, rfl⟩, ((h r hm).2.2 _).2 ⟨r, i, r, (hself r hm).1, hr, rfl, rfl⟩⟩
  have hnd : ((rts st st.length).map L).flatten.Nodup := by
    unfold List.Nodup
    rw [List.pairwise_flatten]
    refine ⟨fun l hl => ?_, ?_⟩
    · obtain ⟨r, hr, rfl⟩ := List.mem_map.1 hl
      exact (h r hr).2.1.imp fun h => Int.ne_of_lt h
    · rw [List.pairwise_map]
      refine List.Pairwise.imp_of_mem (fun {a b} ha hb hab x hx y hy e => ?_) (rts_lt st st.length)
      subst e
      obtain ⟨i, j, t, t1, t2, e1, e2⟩ := ((h a ha).2.2 x).1 hx
      obtain ⟨i', j', t', t1', t2', e1', e2'⟩ := ((h b hb).2.2 x).1 hy
      have x1 := key_inj hU t1.lt.1 (hself a ha).2 e1
      have x2 := key_inj hU t1'.lt.1 (hself b hb).2 e1'
      subst x1 x2
      have y1 := (hself _ ha).1.det t1
      have y2 := (hself _ hb).1.det t1'
      have x3 := key_inj hU t2.lt.1 t2'.lt.1 (e2.trans e2'.symm)
      subst x3
      have := t2.det t2'
      omega
  have hkey := hU.nodup
  have a1 := len_le_of_nodup _ _ hnd (fun x hx => (hmem x).1 hx)
  have a2 := len_le_of_nodup _ _ hkey (fun x hx => (hmem x).2 hx)
  rw [List.length_map] at a1 a2
  omega
theorem ks_trans {st : List Th} (hU : UF st) {a b c : Int} (h : KS st a b) (k : KS st b c) : KS st a c := by
  obtain ⟨i, j, r, t1, t2, e1, e2⟩ := h
  obtain ⟨i', j', r', s1, s2, f1, f2⟩ := k
  have x1 := key_inj hU t2.lt.1 s1.lt.1 (e2.trans f1.symm)
  subst x1
  have x2 := t2.det s1
  subst x2
  exact ⟨i, j', r, t1, s2, e1, f2⟩
/-- A row of one class: rising, and its first one is the least. -/
theorem Cls.row {st : List Th} (hU : UF st) {xss : List (List Int)} (hc : Cls st st.length xss) {l : List Int} (hl : l ∈ xss) : l.length ≤ st.length ∧ l.Pairwise (· < ·) ∧ ∀ x, x ∈ l → x ∈ st.map Th.key ∧ ∀ m, LeastOf st x m → l.getD 0 0 = m := by
  obtain ⟨L, rfl, h⟩ := hc
  obtain ⟨r, hr, rfl⟩ := List.mem_map.1 hl
  obtain ⟨h1, h2, h3⟩ := h r hr
  refine ⟨h1, h2, fun x hx => ⟨(ks_mem ((h3 x).1 hx)).2, fun m hm => ?_⟩⟩
  have hpos := List.length_pos_of_mem hx
  have hge : (L r).getD 0 0 = (L r)[0] := by rw [List.getD_eq_getElem?_getD, List.getElem?_eq_getElem hpos]; rfl
  have hg : (L r)[0] ∈ L r := List.getElem_mem hpos
  have hmr : m ∈ L r := (h3 m).2 (ks_trans hU ((h3 x).1 hx) hm.1)
  have h4 := hm.2 _ (ks_trans hU (ks_symm ((h3 x).1 hx)) ((h3 _).1 hg))
  rw [hge]
  obtain ⟨j, hj, he⟩ := List.mem_iff_getElem.1 hmr
  by_cases j0 : j = 0
  · subst j0; exact he
  · have := (List.pairwise_iff_getElem.1 h2) 0 j hpos hj (by omega)
    omega
theorem rise_get {l : List Int} (h : l.Pairwise (· < ·)) {j : Nat} (hj : j < l.length) (h0 : 0 < j) : l.getD (j - 1) 0 < l.getD j 0 := by
  rw [List.getD_eq_getElem?_getD, List.getD_eq_getElem?_getD, List.getElem?_eq_getElem hj, List.getElem?_eq_getElem (show j - 1 < l.length by omega)]
  exact (List.pairwise_iff_getElem.1 h) (j - 1) j (by omega) hj (by omega)

end Go.Proofs.Ytcebidhfgdchlaa
