/-
  Lines behind others (layer 5): what is told of them, and their code.
-/
import Derived.Test.YtbfmadcppnfgpaaDoorLeadW
namespace Go.Proofs.YtbfmadcppnfgpaaDoor
open Go.ChangeShapes Go.WideShapes Go.ChangeAt Go.RowKit

abbrev outLn : Ln := ⟨0, 12, 3, 0, 0, 0, 0⟩
abbrev ahd (n : Nat) : List Ln := List.replicate n outLn
theorem plc_ahd (n : Nat) (ls : List Ln) (k : Nat) : plc (ahd n ++ ls) (n + k) = n + plc ls k := by
  unfold plc
  rw [List.take_append, List.countP_append, List.length_replicate, List.take_of_length_le (by simp), Nat.add_sub_cancel_left, List.countP_replicate]
  simp
theorem ahd_at (n : Nat) (ls : List Ln) (k : Nat) (h : k < n) : (ahd n ++ ls)[k]? = some outLn := by
  rw [List.getElem?_append_left (by simpa using h)]; simp [h]
theorem tab_ahd0 (n : Nat) (ls : List Ln) : ∀ k, k ≤ n → tab (ahd n ++ ls) k = []
  | 0, _ => rfl
  | k + 1, h => by
    have ih := tab_ahd0 n ls k (by omega)
    unfold tab
    rw [ahd_at n ls k (by omega), ih]; rfl
theorem tab_ahd (n : Nat) (ls : List Ln) : ∀ k, tab (ahd n ++ ls) (n + k) = (tab ls k).map fun p => (p.1, p.2 + (n : Int))
  | 0 => tab_ahd0 n ls n (Nat.le_refl _)
  | k + 1 => by
    have ih := tab_ahd n ls k
    have hp := plc_ahd n ls k
    rw [← Nat.add_assoc]
    unfold tab
    rw [show (ahd n ++ ls)[n + k]? = ls[k]? by rw [List.getElem?_append_right (by simp)]; simp, ih, hp]
    cases ls[k]? with
    | none => rfl
    | some x =>
      simp only
      split
      · rfl
      · rw [List.map_append]; simp; omega
theorem ahd_len (n : Nat) (ls : List Ln) : (ahd n ++ ls).length = n + ls.length := by simp
theorem tab_all (n : Nat) (ls : List Ln) : tab (ahd n ++ ls) (ahd n ++ ls).length = (tab ls ls.length).map fun p => (p.1, p.2 + (n : Int)) := by rw [ahd_len]; exact tab_ahd n ls ls.length
theorem labs_ahd (n : Nat) (ls : List Ln) : labs (ahd n ++ ls) = labs ls := by
  unfold labs; rw [tab_all, List.map_map]; rfl
theorem out_right : outLn.right = true := by decide
theorem right_ahd (n : Nat) (ls : List Ln) : (∀ x ∈ ahd n ++ ls, x.right = true) ↔ ∀ x ∈ ls, x.right = true := by
  constructor
  · exact fun h x hx => h x (List.mem_append_right _ hx)
  · intro h x hx
    rcases List.mem_append.1 hx with hx | hx
    · rw [List.eq_of_mem_replicate hx]; exact out_right
    · exact h x hx
theorem leads_ahd (n : Nat) (ls : List Ln) (ks : List Int) : leads (ahd n ++ ls) ks ↔ leads ls ks := by
  constructor
  · exact fun h x hx => h x (List.mem_append_right _ hx)
  · intro h x hx
    rcases List.mem_append.1 hx with hx | hx
    · rw [List.eq_of_mem_replicate hx]; exact .inl rfl
    · exact h x hx
theorem bad_ex {ls : List Ln} : (∃ x ∈ ls, x.right = false) ↔ ¬ ∀ x ∈ ls, x.right = true := by
  constructor
  · rintro ⟨x, hx, h⟩ h2; rw [h2 x hx] at h; cases h
  · intro h
    apply Classical.byContradiction
    intro h2
    exact h (fun x hx => by cases hr : x.right with | true => rfl | false => exact absurd ⟨x, hx, hr⟩ h2)
theorem told_same {n : Nat} {ls : List Ln} {a b : Int} (h1 : Told ls a) (h2 : Told (ahd n ++ ls) b) : a = b := by
  cases h1 with
  | wrong h =>
    cases h2 with
    | wrong _ => rfl
    | twice h3 _ => exact absurd ((right_ahd n ls).1 h3) (bad_ex.1 h)
    | none h3 _ _ => exact absurd ((right_ahd n ls).1 h3) (bad_ex.1 h)
  | twice h k =>
    cases h2 with
    | wrong h3 => exact absurd ((right_ahd n ls).2 h) (bad_ex.1 h3)
    | twice _ _ => rfl
    | none _ h3 _ => rw [labs_ahd] at h3; exact absurd h3 k
  | none h k l =>
    cases h2 with
    | wrong h3 => exact absurd ((right_ahd n ls).2 h) (bad_ex.1 h3)
    | twice _ h3 => rw [labs_ahd] at h3; exact absurd k h3
    | none _ _ _ => rfl
theorem good_not {ls : List Ln} (h : Good ls) {a : Int} (h2 : Told ls a) : False := by
  cases h2 with
  | wrong h3 => exact bad_ex.1 h3 h.right
  | twice _ h3 => exact h3 h.once
  | none _ _ h3 => exact h3 h.lead
theorem good_ahd (n : Nat) (ls : List Ln) : Good (ahd n ++ ls) ↔ Good ls := by
  constructor
  · rintro ⟨h1, h2, h3⟩
    rw [labs_ahd] at h2 h3
    exact ⟨(right_ahd n ls).1 h1, h2, (leads_ahd n ls _).1 h3⟩
  · rintro ⟨h1, h2, h3⟩
    exact ⟨(right_ahd n ls).2 h1, by rw [labs_ahd]; exact h2, by rw [labs_ahd]; exact (leads_ahd n ls _).2 h3⟩
theorem asm_ahd_len (n : Nat) (ls : List Ln) : (asmL (ahd n ++ ls)).length = (asmL ls).length + n := by
  rw [asmL_len, asmL_len, ahd_len, plc_ahd]; omega
theorem tab_bound (ls : List Ln) : ∀ k, ∀ p ∈ tab ls k, 0 ≤ p.2 ∧ p.2 ≤ (k : Int)
  | 0, p, h => by cases h
  | k + 1, p, h => by
    unfold tab at h
    cases hx : ls[k]? with
    | none => rw [hx] at h; have := tab_bound ls k p h; omega
    | some x =>
      rw [hx] at h
      simp only at h
      split at h
      · have := tab_bound ls k p h; omega
      · rcases List.mem_append.1 h with h | h
        · have := tab_bound ls k p h; omega
        · simp at h; subst h
          have := plc_le ls k
          simp only; omega
/-- An instruction of lines, and the same of lines behind others. -/
theorem asm_ahd_at (n : Nat) (ls : List Ln) (hg : Good ls) (i : Nat) (hi : i < (asmL ls).length) : ∃ x y : Ins, (asmL ls)[i]? = some x ∧ (asmL (ahd n ++ ls))[i + n]? = some y ∧ (y = x ∨ (y.o = x.o ∧ y.a = x.a ∧ y.i = x.i + (n : Int) ∧ 0 ≤ x.i ∧ x.i ≤ (ls.length : Int))) := by
  have hc : asmL (ahd n ++ ls) = codeL (tab (ahd n ++ ls) (ahd n ++ ls).length) (ahd n) ++ codeL (tab (ahd n ++ ls) (ahd n ++ ls).length) ls := by
    unfold asmL codeL; rw [List.filter_append, List.map_append]
  have hcl : ∀ es, (codeL es (ahd n)).length = n := fun es => by
    unfold codeL; rw [List.length_map, List.filter_eq_self.2 (fun x hx => by rw [List.eq_of_mem_replicate hx]; rfl)]; simp
  have hf : i < (ls.filter fun x => x.L == 0).length := by simpa [asmL, codeL] using hi
  obtain ⟨l, hl⟩ : ∃ l, (ls.filter fun x => x.L == 0)[i]? = some l := ⟨_, List.getElem?_eq_getElem hf⟩
  have hm : l ∈ ls := (List.mem_filter.1 (List.mem_of_getElem? hl)).1
  refine ⟨l.ins (tab ls ls.length), l.ins (tab (ahd n ++ ls) (ahd n ++ ls).length), ?_, ?_, ?_⟩
  · unfold asmL codeL; rw [List.getElem?_map, hl]; rfl
  · rw [hc, List.getElem?_append_right (by rw [hcl]; omega), hcl, Nat.add_sub_cancel]
    unfold codeL; rw [List.getElem?_map, hl]; rfl
  · by_cases ht : l.t = 0
    · left; simp [Ln.ins, ht]
    · right
      have hk := (hg.lead l hm).resolve_left ht
      obtain ⟨p, hp, hpe⟩ := List.mem_map.1 hk
      have h1 : placeOf (tab ls ls.length) l.t = p.2 := placeOf_mem hg.once (by rw [← hpe]; exact hp)
      have h2 : placeOf (tab (ahd n ++ ls) (ahd n ++ ls).length) l.t = p.2 + (n : Int) := by
        refine placeOf_mem (by have := labs_ahd n ls; unfold labs at this; rw [this]; exact hg.once) ?_
        rw [tab_all, ← hpe]; exact List.mem_map.2 ⟨p, hp, rfl⟩
      have h3 := tab_bound ls ls.length p hp
      simp only [Ln.ins, if_neg ht, h1, h2]
      exact ⟨trivial, trivial, trivial, h3.1, h3.2⟩

end Go.Proofs.YtbfmadcppnfgpaaDoor
