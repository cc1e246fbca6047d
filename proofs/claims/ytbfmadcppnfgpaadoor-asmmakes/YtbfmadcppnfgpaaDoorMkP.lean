/-
  The document's own places of labels (layer 5), as lists: what a search from the front finds, and what comes of labels that are put in one by one. No program is named.
-/
import Derived.Test.YtbfmadcppnfgpaaDoorPlaces
namespace Go.Proofs.YtbfmadcppnfgpaaDoor
open Go.ChangeShapes Go.WideShapes Go.ChangeAt Go.RowKit

/-- A label's place, as the document tells it. -/
def placeR (ls : List Ln) (t : Int) : Int := if t ∈ labs ls then placeOf (tab ls ls.length) t else -1
theorem find_none {es : List (Int × Int)} {t : Int} (h : t ∉ es.map Prod.fst) : es.find? (fun p => p.1 == t) = none := by
  rw [List.find?_eq_none]
  intro p hp e
  exact h (List.mem_map.2 ⟨p, hp, by simpa using e⟩)
theorem place_here (ls : List Ln) (k : Nat) (h : k < ls.length) (hz : ¬ (ls[k]'h).L = 0) (hn : (ls[k]'h).L ∉ (tab ls k).map Prod.fst) : placeR ls (ls[k]'h).L = (plc ls k : Int) := by
  obtain ⟨m, hm⟩ : ∃ m, ls.length = k + 1 + m := ⟨ls.length - (k + 1), by omega⟩
  obtain ⟨r, hr⟩ := tab_pre ls (k + 1) m
  rw [← hm, tab_label ls k h hz] at hr
  unfold placeR labs placeOf
  rw [if_pos (by rw [← hr]; simp), ← hr, List.find?_append, List.find?_append, find_none hn]
  simp
theorem placeR_none {ls : List Ln} {t : Int} (h : t ∉ (tab ls ls.length).map Prod.fst) : placeR ls t = -1 := if_neg h
theorem tab_mem_succ (ls : List Ln) (k : Nat) (h : k < ls.length) (t : Int) : t ∈ (tab ls (k + 1)).map Prod.fst ↔ t ∈ (tab ls k).map Prod.fst ∨ (¬ (ls[k]'h).L = 0 ∧ t = (ls[k]'h).L) := by
  by_cases hz : (ls[k]'h).L = 0
  · rw [tab_inst ls k h hz]; simp [hz]
  · rw [tab_label ls k h hz]; simp [hz]

/-- Labels that rise, those of the first lines. -/
structure Rise (ls : List Ln) (i : Nat) (ts : List Int) : Prop where
  up : ts.Pairwise (· < ·)
  mem : ∀ t, t ∈ ts ↔ t ∈ (tab ls i).map Prod.fst
  once : ((tab ls i).map Prod.fst).Nodup
theorem Rise.zero (ls : List Ln) : Rise ls 0 [] := ⟨by simp, by simp [tab_zero], by simp [tab_zero]⟩
theorem Rise.inst {ls : List Ln} {i : Nat} {ts : List Int} (h : Rise ls i ts) (hi : i < ls.length) (hz : (ls[i]'hi).L = 0) : Rise ls (i + 1) ts := by
  have e := tab_inst ls i hi hz
  exact ⟨h.up, by rw [e]; exact h.mem, by rw [e]; exact h.once⟩
theorem Rise.put {ls : List Ln} {i : Nat} {ts : List Int} (h : Rise ls i ts) (hi : i < ls.length) (hz : ¬ (ls[i]'hi).L = 0) (k : Nat) (hk : k ≤ ts.length) (h1 : ∀ j (hj : j < k), (ts[j]'(by omega)) < (ls[i]'hi).L) (h2 : ∀ hk' : k < ts.length, (ls[i]'hi).L < ts[k]'hk') : Rise ls (i + 1) (ts.take k ++ (ls[i]'hi).L :: ts.drop k) := by
  have hup := List.pairwise_iff_getElem.1 h.up
  have hnot : (ls[i]'hi).L ∉ ts := fun hm => by
    obtain ⟨j, hj, he⟩ := List.mem_iff_getElem.1 hm
    rcases Nat.lt_or_ge j k with h' | h'
    · have := h1 j h'; omega
    · have h3 := h2 (by omega)
      rcases Nat.lt_or_ge k j with h4 | h4
      · have := hup k j (by omega) hj h4; omega
      · obtain rfl : k = j := by omega
        omega
  have e := tab_label ls i hi hz
  refine ⟨?_, fun t => ?_, ?_⟩
  · rw [List.pairwise_append]
    refine ⟨h.up.sublist (List.take_sublist _ _), ?_, ?_⟩
    · rw [List.pairwise_cons]
      refine ⟨fun b hb => ?_, h.up.sublist (List.drop_sublist _ _)⟩
      obtain ⟨j, hj, he⟩ := List.mem_iff_getElem.1 hb
      rw [List.getElem_drop] at he
      rw [List.length_drop] at hj
      have h3 := h2 (by omega)
      by_cases j0 : j = 0
      · subst j0; simp at he; omega
      · have := hup k (k + j) (by omega) (by omega) (by omega); omega
    · intro a ha b hb
      obtain ⟨j, hj, he⟩ := List.mem_iff_getElem.1 ha
      rw [List.getElem_take] at he
      rw [List.length_take] at hj
      have h3 := h1 j (by omega)
      rcases List.mem_cons.1 hb with rfl | hb
      · omega
      · obtain ⟨j2, hj2, he2⟩ := List.mem_iff_getElem.1 hb
        rw [List.getElem_drop] at he2
        rw [List.length_drop] at hj2
        have := hup j (k + j2) (by omega) (by omega) (by omega); omega
  · rw [e]
    have hts : t ∈ ts ↔ t ∈ ts.take k ∨ t ∈ ts.drop k := by rw [← List.mem_append, List.take_append_drop]
    simp only [List.mem_append, List.mem_cons, List.map_append, List.map_cons, List.map_nil, List.not_mem_nil, or_false]
    rw [← h.mem t, hts]
    constructor
    · rintro (h' | h' | h')
      · exact .inl (.inl h')
      · exact .inr h'
      · exact .inl (.inr h')
    · rintro ((h' | h') | h')
      · exact .inl h'
      · exact .inr (.inr h')
      · exact .inr (.inl h')
  · rw [e, List.map_append, List.nodup_append]
    exact ⟨h.once, by simp, fun x hx y hy => by simp at hy; subst hy; exact fun e2 => hnot ((h.mem _).2 (e2 ▸ hx))⟩
theorem rise_ext {l m : List Int} (hl : l.Pairwise (· < ·)) (hm : m.Pairwise (· < ·)) (h : ∀ t, t ∈ l ↔ t ∈ m) : l = m :=
  ((List.perm_ext_iff_of_nodup (hl.imp fun h => Int.ne_of_lt h) (hm.imp fun h => Int.ne_of_lt h)).2 h).eq_of_pairwise (fun a b _ _ h1 h2 => by omega) hl hm
theorem rising_up {l : List Int} (h : l.Nodup) : (rising l).Pairwise (· < ·) := by
  have h1 : (rising l).Pairwise (fun x y => decide (x ≤ y) = true) := List.pairwise_mergeSort (fun a b c h1 h2 => by simp at *; omega) (fun a b => by simp; omega) l
  have h2 : (rising l).Nodup := (List.mergeSort_perm l _).nodup_iff.2 h
  exact (h1.and h2).imp fun {a b} ⟨h3, h4⟩ => by simp at h3; omega
/-- All labels, each with its place. -/
abbrev prs (ls : List Ln) (ts : List Int) : List (Int × Int) := ts.map fun t => (t, placeR ls t)
theorem Rise.all {ls : List Ln} {ts : List Int} (h : Rise ls ls.length ts) : (labs ls).Nodup ∧ prs ls ts = placesL ls := by
  have hn : (labs ls).Nodup := h.once
  have e : ts = rising (labs ls) := rise_ext h.up (rising_up hn) (fun t => by rw [h.mem, rising_mem]; rfl)
  subst e
  refine ⟨hn, ?_⟩
  unfold prs placesL
  refine List.map_congr_left fun t ht => ?_
  rw [rising_mem] at ht
  unfold placeR
  rw [if_pos ht]
theorem ToldP.det {ls : List Ln} {n m : Int} (h : ToldP ls n) (k : ToldP ls m) : n = m := by
  cases h with
  | wrong h1 =>
    cases k with
    | wrong _ => rfl
    | twice h2 _ => obtain ⟨x, hx, he⟩ := h1; rw [h2 x hx] at he; cases he
  | twice h1 _ =>
    cases k with
    | wrong h2 => obtain ⟨x, hx, he⟩ := h2; rw [h1 x hx] at he; cases he
    | twice _ _ => rfl
theorem Told.det {ls : List Ln} {n m : Int} (h : Told ls n) (k : Told ls m) : n = m := by
  cases h with
  | wrong h1 =>
    cases k with
    | wrong _ => rfl
    | twice h2 _ => obtain ⟨x, hx, he⟩ := h1; rw [h2 x hx] at he; cases he
    | none h2 _ _ => obtain ⟨x, hx, he⟩ := h1; rw [h2 x hx] at he; cases he
  | twice h1 h3 =>
    cases k with
    | wrong h2 => obtain ⟨x, hx, he⟩ := h2; rw [h1 x hx] at he; cases he
    | twice _ _ => rfl
    | none _ h4 _ => exact absurd h4 h3
  | none h1 h3 h5 =>
    cases k with
    | wrong h2 => obtain ⟨x, hx, he⟩ := h2; rw [h1 x hx] at he; cases he
    | twice _ h4 => exact absurd h3 h4
    | none _ _ _ => rfl
theorem Told.good {ls : List Ln} {n : Int} (h : Told ls n) (k : Good ls) : False := by
  cases h with
  | wrong h1 => obtain ⟨x, hx, he⟩ := h1; rw [k.right x hx] at he; cases he
  | twice _ h1 => exact h1 k.once
  | none _ _ h1 => exact h1 k.lead
theorem ToldP.ok {ls : List Ln} {n : Int} (h : ToldP ls n) (h1 : ∀ x ∈ ls, x.right = true) (h2 : (labs ls).Nodup) : False := by
  cases h with
  | wrong h3 => obtain ⟨x, hx, he⟩ := h3; rw [h1 x hx] at he; cases he
  | twice _ h3 => exact h3 h2
theorem ToldP.told {ls : List Ln} {n : Int} (h : ToldP ls n) : Told ls n := by
  cases h with
  | wrong h => exact .wrong h
  | twice h k => exact .twice h k
/-- The code of the first lines. -/
def codeR (ls : List Ln) (k : Nat) : List Ins := ((ls.take k).filter fun x => x.L == 0).map fun x => ⟨x.o, x.a, x.b, x.c, if x.t = 0 then x.i else placeR ls x.t⟩
theorem codeR_zero (ls : List Ln) : codeR ls 0 = [] := by simp [codeR]
theorem codeR_label (ls : List Ln) (k : Nat) (h : k < ls.length) (hz : ¬ (ls[k]'h).L = 0) : codeR ls (k + 1) = codeR ls k := by
  unfold codeR
  rw [List.take_succ_eq_append_getElem h, List.filter_append]
  simp [hz]
theorem codeR_inst (ls : List Ln) (k : Nat) (h : k < ls.length) (hz : (ls[k]'h).L = 0) : codeR ls (k + 1) = codeR ls k ++ [⟨(ls[k]'h).o, (ls[k]'h).a, (ls[k]'h).b, (ls[k]'h).c, if (ls[k]'h).t = 0 then (ls[k]'h).i else placeR ls (ls[k]'h).t⟩] := by
  unfold codeR
  rw [List.take_succ_eq_append_getElem h, List.filter_append]
  simp [hz]
theorem codeR_all {ls : List Ln} (h : ∀ x ∈ ls, x.L = 0 → x.t = 0 ∨ x.t ∈ labs ls) : codeR ls ls.length = asmL ls := by
  unfold codeR asmL codeL
  rw [List.take_length]
  refine List.map_congr_left fun x hx => ?_
  obtain ⟨h1, h2⟩ := List.mem_filter.1 hx
  unfold Ln.ins
  rcases h x h1 (by simpa using h2) with h3 | h3
  · rw [if_pos h3, if_pos h3]
  · by_cases h4 : x.t = 0
    · rw [if_pos h4, if_pos h4]
    · rw [if_neg h4, if_neg h4]
      unfold placeR
      rw [if_pos h3]
theorem codeR_len (ls : List Ln) (k : Nat) : (codeR ls k).length ≤ ls.length := by
  unfold codeR
  rw [List.length_map]
  exact Nat.le_trans (List.length_filter_le _ _) (by rw [List.length_take]; omega)
theorem right_label {x : Ln} (h : x.right = true) (hz : ¬ x.L = 0) : x.t = 0 := by
  unfold Ln.right at h
  rw [if_pos hz] at h
  unfold Ln.bare at h
  exact (of_decide_eq_true h).2.2.2.2.2.2

end Go.Proofs.YtbfmadcppnfgpaaDoor
