/-
  A row of names, sorted (layer 8): the contract of slices.Sort at []string; one more behind a row of names.
-/
import Derived.Test.YtcebidhfgdchlaaSnS
import Derived.Test.YtcebidhfgdchlaaUnI
import Derived.Test.YtcebidhfgdchlaaUnC
import Derived.Test.YtcebidhfgdchlaaShelfN
import Derived.Sort.OwnSorted
namespace Go.Proofs.Ytcebidhfgdchlaa
open Go.ChangeShapes Go.WideShapes Go.ChangeAt Go.RowKit Go.Shelf Go.Sort

abbrev namesI (s : List Int) : List Value := s.map fun x : Int => .string (kt x)
theorem names_enc (s : List Int) : namesI s = (s.map kb).map encStr := by rw [List.map_map]; rfl
theorem risen_names (l : List Int) (h : ∀ x ∈ l, Fk x) : ((l.map kb).mergeSort fun x y => decide (x ≤ y)) = (risenI l).map kb := by
  refine (List.map_mergeSort fun a ha b hb => ?_).symm
  have := kb_lt (h b hb) (h a ha)
  by_cases e : a ≤ b
  · rw [decide_eq_true e, decide_eq_true]
    exact List.not_lt.1 fun hc => by have := this.1 hc; omega
  · rw [decide_eq_false e, decide_eq_false]
    exact fun hc => List.not_lt.2 hc (this.2 (by omega))
theorem sortN_is (base : Nat) (v : Value) (zs : List Int) (hz : ∀ x ∈ zs, Fk x) (hl : zs.length ≤ 1000000) (W : World) (h : W.ownsRow base 9 1 v zs.length (namesI zs)) :
    Calls Try.prog 36 #[v] W fun e w' => e = .returned (.tuple #[]) ∧ w'.ownsRow base 9 1 v zs.length (namesI (risenI zs)) ∧ Turns (fun b => v.ownBlock = some b) W w' := by
  rcases h.2 with ⟨rfl, h0⟩ | ⟨g, cap, cur, rfl, h1, h2, h3, h4, h5, h6⟩
  · have hz : zs = [] := List.length_eq_zero_iff.1 h0
    subst hz
    refine (Try.slices_Sort_string_none none 0 W).mono ?_
    rintro e w' ⟨rfl, rfl⟩
    exact ⟨rfl, by simp [risenI]; exact World.ownsRow_nil _ _ _ _, Turns.refl _ _⟩
  · have hH : Holds encStr W g 0 (zs.map kb).toArray := holds_of_block h2 (by rw [List.length_map, ← names_enc]; rw [Nat.mul_one] at h6; exact h6)
    have hS := Try.slices_Sort_string g 0 cap (zs.map kb) W hH (lt_of h2) (by rw [List.length_map]; omega)
    rw [List.length_map, risen_names zs hz] at hS
    refine hS.mono ?_
    rintro e w' ⟨rfl, n, os, rfl⟩
    have hR := ownsRow_sorted (n := n) (os := os) (ss := zs.map kb) (ts := (risenI zs).map kb) (by rw [List.length_map, List.length_map, risenI_len]) h1 h2 (by rw [List.length_map]; exact h3) h4 h5
    rw [List.length_map, ← names_enc] at hR
    refine ⟨rfl, hR, ?_⟩
    have hg := grownBy_sorted (w := W) (g := g) (n := n) (os := os) ((risenI zs).map kb).toArray
    exact ⟨hg.os, hg.tape, hg.output, hg.size, fun b hb hq => hg.block b hb (fun e => hq e.symm)⟩

set_option maxRecDepth 100000 in
theorem typS : ∃ i, Try.prog.info? 9 = some i ∧ i.zero = some (.string ⟨#[]⟩) ∧ i.bytes = 16 ∧ i.size = 1 := by
  refine ⟨_, rfl, ?_, ?_, ?_⟩ <;> kernel_rfl
theorem app_str (w : World) (ty : TypeId) (base : Nat) (v : Value) (n : Nat) (xs : List Value) (hown : w.ownsRow base 9 1 v n xs) (x : ByteArray) (hbd : n ≤ 100000000) (hbase : base ≤ w.heap.size) :
    ∃ g cap w', (Builtin.append_ #[38, 38] ty #[v, .slice (some ⟨w.heap.size, 0, none⟩) 1 1]).run Try.prog (w.alloc (.cells #[.string x] 9)) = .ok (.slice (some ⟨g, 0, none⟩) (n + 1) cap) w' ∧ w'.ownsRow base 9 1 (.slice (some ⟨g, 0, none⟩) (n + 1) cap) (n + 1) (xs ++ [.string x]) ∧ (w.alloc (.cells #[.string x] 9)).grownBy w' v.ownBlock ∧ (v.ownBlock = some g ∨ g = w.heap.size + 1) ∧ g < w'.heap.size := by
  obtain ⟨i, h1, h2, h3, h4⟩ := typS
  exact run_append_lies (P := Try.prog) (w.alloc (.cells #[.string x] 9)) 38 ty base 9 i _ 1 16 Try.underlying38 h1 h2 h4 h3 rfl (by decide) v n xs (hown.alloc _) ⟨w.heap.size, 0, none⟩ 1 1 [.string x] rfl
    (fun j u hu => by
      rw [Addr.add_mid]
      have hj : j = 0 := by have := (List.getElem?_eq_some_iff.1 hu).1; simp at this; omega
      subst hj
      simp at hu; subst hu
      rw [cell_of (World.alloc_heap_new w _)]; rfl)
    (fun u hu => by simp at hu; subst hu; rfl) (by decide) (by unfold maxLen; omega) (by omega) (by simp; omega) _ (by simp)

end Go.Proofs.Ytcebidhfgdchlaa
