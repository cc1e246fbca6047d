/-
  Rows and bytes put behind one another (layer 2).
-/
import Derived.Test.YtnlkeghgmmoioaaDoorRowA
import Derived.Deep.AppendSrc
import Derived.Deep.Upon
namespace Go.Proofs.YtnlkeghgmmoioaaDoor
open Go.ChangeShapes Go.WideShapes Go.ChangeAt Go.RowKit

/-- A slice of bytes that holds just these. -/
def IsB (W : World) (v : Value) (l : List UInt8) : Prop := ∃ av cap, v = .slice av l.length cap ∧ (0 < l.length → ∃ blk off, av = some ⟨blk, off, none⟩ ∧ blk < W.heap.size ∧ HasBytes W blk off l)
theorem IsB.later {W W' : World} {v : Value} {l : List UInt8} (h : IsB W v l) (hb : Below W.heap.size W W') : IsB W' v l := by
  obtain ⟨av, cap, rfl, h⟩ := h
  refine ⟨av, cap, rfl, fun h0 => ?_⟩
  obtain ⟨blk, off, rfl, h1, h2⟩ := h h0
  exact ⟨blk, off, rfl, Nat.lt_of_lt_of_le h1 hb.size, h2.later h1 hb⟩

theorem owns_shape {w : World} {base : Nat} {e : TypeId} {size : Nat} {v : Value} {n : Nat} {xs : List Value} (h : w.ownsRow base e size v n xs) : ∃ av cap, v = .slice av n cap ∧ n ≤ cap ∧ cap ≤ maxLen := by
  rcases h.2 with ⟨rfl, rfl⟩ | ⟨g, cap, cur, rfl, _, _, h1, h2, _⟩
  · exact ⟨none, 0, rfl, Nat.le_refl _, Nat.zero_le _⟩
  · exact ⟨_, cap, rfl, h1, h2⟩
theorem owns_nothing {w : World} {base : Nat} {e : TypeId} {size : Nat} {v : Value} {n : Nat} {xs : List Value} (h : w.ownsRow base e size v n xs) (t ty : TypeId) (i : TypeInfo) (ht : Tryd.prog.underlying t = some (.slice e)) (hi : Tryd.prog.info? e = some i) (av : Option Addr) (cap : Nat) :
    (Builtin.append_ #[t, t] ty #[v, .slice av 0 cap]).run Tryd.prog w = .ok v w := by
  obtain ⟨bv, cp, rfl, h1, _⟩ := owns_shape h
  cases av with
  | none => exact run_append_nothing w t t ty e i ht hi bv n cp h1 _ (Src.ofNil w ht cap)
  | some a => exact run_append_nothing w t t ty e i ht hi bv n cp h1 _ (Src.ofSlice w ht a 0 cap [] (by simp) (fun j u hu => by simp at hu) (fun u hu => by cases hu))
theorem append_row (w : World) (ty : TypeId) (base : Nat) (v : Value) (n : Nat) (xs : List Value) (hown : w.ownsRow base 23 5 v n xs) (src : Value) (l : List Ins) (hs : IsRow w src l) (hbd : n + l.length ≤ 100000000) (hbase : base ≤ w.heap.size) :
    ∃ v' w', (Builtin.append_ #[38, 38] ty #[v, src]).run Tryd.prog w = .ok v' w' ∧ w'.ownsRow base 23 5 v' (n + l.length) (xs ++ l.flatMap Ins.cells) ∧ Below base w w' := by
  obtain ⟨i, hi, hz, hsi, hb⟩ := info_parts typ23
  obtain ⟨av, cap, rfl, hav⟩ := hs
  by_cases h0 : 0 < l.length
  · obtain ⟨blk, off, rfl, _, hH⟩ := hav h0
    obtain ⟨g', cp, w', hr, h1, h2, _, _⟩ := run_append_lies (P := Tryd.prog) w 38 ty base 23 i _ 5 40 Tryd.underlying38 hi hz hsi hb rfl (by decide) v n xs hown ⟨blk, off, none⟩ l.length cap (l.flatMap Ins.cells) (flat_len l)
      (fun j u hu => by
        rw [Addr.add_mid]
        have hj : j < l.length * 5 := by rw [← flat_len]; exact (List.getElem?_eq_some_iff.1 hu).1
        obtain ⟨q, f, hf, rfl⟩ : ∃ q f, f < 5 ∧ j = q * 5 + f := ⟨j / 5, j % 5, by omega, by omega⟩
        rw [flat_get l q f (by omega) hf] at hu
        obtain ⟨k0, k1, k2, k3, k4⟩ := hH q (by omega)
        have hf' : f = 0 ∨ f = 1 ∨ f = 2 ∨ f = 3 ∨ f = 4 := by omega
        rw [← Nat.add_assoc]
        rcases hf' with rfl | rfl | rfl | rfl | rfl
        · exact k0.trans hu
        · exact k1.trans hu
        · exact k2.trans hu
        · exact k3.trans hu
        · exact k4.trans hu)
      (fun u hu => by
        obtain ⟨x, _, hx⟩ := List.mem_flatMap.1 hu
        simp at hx
        rcases hx with rfl | rfl | rfl | rfl | rfl <;> rfl) h0 (by unfold maxLen; omega) (by omega) hbase _ rfl
    exact ⟨_, w', hr, h1, Below.grown (Below.refl _ _) hbase h2 (fun k hk => (hown.lt k hk).1)⟩
  · have hl : l = [] := List.length_eq_zero_iff.1 (by omega)
    subst hl
    refine ⟨v, w, owns_nothing hown 38 ty i Tryd.underlying38 hi av cap, ?_, Below.refl _ _⟩
    simpa using hown
theorem append_b (w : World) (ty : TypeId) (base : Nat) (v : Value) (n : Nat) (xs : List Value) (hown : w.ownsRow base 5 1 v n xs) (src : Value) (l : List UInt8) (hs : IsB w src l) (hbd : n + l.length ≤ 100000000) (hbase : base ≤ w.heap.size) :
    ∃ v' w', (Builtin.append_ #[25, 25] ty #[v, src]).run Tryd.prog w = .ok v' w' ∧ w'.ownsRow base 5 1 v' (n + l.length) (xs ++ l.map byteV) ∧ Below base w w' := by
  obtain ⟨i, hi, hz, hsi, hb⟩ := info_parts typ5
  obtain ⟨av, cap, rfl, hav⟩ := hs
  by_cases h0 : 0 < l.length
  · obtain ⟨blk, off, rfl, _, hH⟩ := hav h0
    obtain ⟨g, cp, w', hr, h1, h2⟩ := append_bytes w ty base v n xs hown blk off l.length cap l rfl h0 hH (by omega) hbase
    exact ⟨_, w', hr, h1, h2⟩
  · have hl : l = [] := List.length_eq_zero_iff.1 (by omega)
    subst hl
    refine ⟨v, w, owns_nothing hown 25 ty i Tryd.underlying25 hi av cap, ?_, Below.refl _ _⟩
    simpa using hown
theorem owns_isB {w : World} {base : Nat} {v : Value} {l : List UInt8} (h : w.ownsRow base 5 1 v l.length (l.map byteV)) : ∃ av cap, v = .slice av l.length cap ∧ l.length ≤ cap ∧ cap ≤ 9223372036854775807 ∧ (0 < l.length → ∃ blk off, av = some ⟨blk, off, none⟩ ∧ blk < w.heap.size ∧ HasBytes w blk off l) := by
  obtain ⟨av, cap, rfl, h1, h2⟩ := owns_shape h
  refine ⟨av, cap, rfl, h1, h2, fun h0 => ?_⟩
  rcases owns_bytes h with ⟨rfl, _⟩ | ⟨blk, cp, e, _, h3, h4⟩
  · exact absurd h0 (Nat.lt_irrefl 0)
  · injection e with e1 e2 e3
    exact ⟨blk, 0, e1, h3, h4⟩
theorem owns_isRow {w : World} {base : Nat} {v : Value} {l : List Ins} (h : w.ownsRow base 23 5 v l.length (l.flatMap Ins.cells)) : IsRow w v l := by
  obtain ⟨av, cap, rfl, h1, h2⟩ := owns_shape h
  refine ⟨av, cap, rfl, fun h0 => ?_⟩
  obtain ⟨g, cp, e, _, hlt⟩ := h.form h0
  injection e with e1 e2 e3
  subst e1
  exact ⟨g, 0, rfl, hlt, owns_insts h⟩
/-- A slice of none, newly built. -/
theorem owns_empty (w : World) (base : Nat) (e : TypeId) (size : Nat) (hb : base ≤ w.heap.size) : (w.alloc (.cells #[] e)).ownsRow base e size (.slice (some ⟨w.heap.size, 0, none⟩) 0 0) 0 [] :=
  ⟨by simp, .inr ⟨w.heap.size, 0, #[], rfl, hb, World.alloc_heap_new _ _, Nat.le_refl _, Nat.zero_le _, by simp, by simp⟩⟩

end Go.Proofs.YtnlkeghgmmoioaaDoor
