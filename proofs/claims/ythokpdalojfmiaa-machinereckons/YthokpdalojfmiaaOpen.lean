/-
  Rows that came in, opened (layer 4).
-/
import Derived.Test.YthokpdalojfmiaaMachA
import Derived.Deep.Slices
import Derived.Deep.MidRow
namespace Go.Proofs.Ythokpdalojfmiaa
open Go.ChangeShapes Go.WideShapes Go.ChangeAt Go.RowKit Go.Deep

theorem own : ownKnob Try.prog.godebug = none := by kernel_rfl
theorem cells44 : Try.prog.cellsOf 44 = 5 := by kernel_rfl
theorem cells3 : Try.prog.cellsOf 3 = 1 := by kernel_rfl
theorem one_int {H : Type} {enc : TypeId × Value → H} {w : World} {base : Nat} {sp : Nat → Bool} {held : Bool} {n : Nat} {v : Value} {y : DataW H × List MemPlace} (h : DataW.trod enc Try.prog w base sp held n 3 [v] = some y) : ∃ z, v = .int .i64 z := by
  obtain ⟨z, hz, _, _⟩ := DataW.trod_int Try.underlying3 h
  exact ⟨z, by simpa using hz⟩

theorem pick {α : Type} {p : Nat → α → Prop} : ∀ n, (∀ i, i < n → ∃ x, p i x) → ∃ l : List α, l.length = n ∧ ∀ j (hj : j < l.length), p j l[j]
  | 0, _ => ⟨[], rfl, fun j hj => absurd hj (Nat.not_lt_zero j)⟩
  | n + 1, h => by
    obtain ⟨l, hl, hp⟩ := pick n (fun i hi => h i (by omega))
    obtain ⟨x, hx⟩ := h n (by omega)
    refine ⟨l ++ [x], by simp [hl], fun j hj => ?_⟩
    by_cases hlt : j < l.length
    · rw [List.getElem_append_left hlt]; exact hp j hlt
    · have : j = n := by simp at hj; omega
      subst this
      rw [List.getElem_append_right (by omega)]; simpa [hl] using hx

/-- A row of instructions that came in, opened. -/
theorem open_insts {H : Type} {enc : TypeId × Value → H} {w : World} {sp : Nat → Bool} {v : Value} {d : DataW H} {p : List MemPlace} {r : Reach} {b0 : Nat}
    (hv : Value.okWide Try.prog w r b0 22 v) (h : DataW.Trod enc Try.prog w 0 sp true 22 v d p) (hlt : ∀ x ∈ p, x.block < w.heap.size) : ∃ l : List Ins, RowAt (fun k => k < w.heap.size) w v l := by
  obtain ⟨fuel, hf⟩ := h
  obtain ⟨a0, len, cap, rfl⟩ := okWide_slice Try.underlying22 hv
  rcases open_slice Try.underlying22 hf with ⟨hcs, _⟩ | ⟨a, len', cap', m, n, D, Pl, hcs, _, hl, hmx, hmm, hx, hall⟩
  · simp [Value.cells] at hcs
    obtain ⟨rfl, rfl, rfl⟩ := hcs
    exact ⟨[], none, 0, rfl, fun h => absurd h (Nat.lt_irrefl 0)⟩
  · simp [Value.cells] at hcs
    obtain ⟨rfl, rfl, rfl⟩ := hcs
    simp only [Prod.mk.injEq] at hx
    obtain ⟨rfl, rfl⟩ := hx
    have hlm : len ≤ m := by rw [hmm]; split <;> omega
    obtain ⟨b, off, spot⟩ := a
    have hs0 : 0 < m → spot = none := fun h0 => by
      obtain ⟨cs', h1, _⟩ := hall 0 h0
      rw [cells44] at h1
      obtain ⟨_, hlen, hcell⟩ := World.cells?_some h1
      have k0 := hcell 0 (by omega)
      simpa [Addr.add] using World.cell?_spot (k0.trans (List.getElem?_eq_getElem (by omega)))
    have each : ∀ i, i < m → ∃ x : Ins, spot = none ∧ AtIns w b (off + i * 5) x := fun i hi => by
      obtain ⟨cs', h1, h2⟩ := hall i hi
      rw [cells44] at h1
      obtain ⟨_, hlen, hcell⟩ := World.cells?_some h1
      obtain ⟨xs, k, _, _, _, hxl, hg⟩ := DataW.trod_struct Try.underlying44 h2
      match xs, hxl, cs', hlen with
      | [y0, y1, y2, y3, y4], _, [c0, c1, c2, c3, c4], _ =>
        obtain ⟨o, rfl⟩ := one_int (v := c0) (y := y0) (by simpa [Value.cells, cells3] using hg 0 _ rfl)
        obtain ⟨a, rfl⟩ := one_int (v := c1) (y := y1) (by simpa [Value.cells, cells3] using hg 1 _ rfl)
        obtain ⟨bb, rfl⟩ := one_int (v := c2) (y := y2) (by simpa [Value.cells, cells3] using hg 2 _ rfl)
        obtain ⟨c, rfl⟩ := one_int (v := c3) (y := y3) (by simpa [Value.cells, cells3] using hg 3 _ rfl)
        obtain ⟨z, rfl⟩ := one_int (v := c4) (y := y4) (by simpa [Value.cells, cells3] using hg 4 _ rfl)
        have k0 := hcell 0 (by decide)
        have k1 := hcell 1 (by decide)
        have k2 := hcell 2 (by decide)
        have k3 := hcell 3 (by decide)
        have k4 := hcell 4 (by decide)
        simp only [add_add] at k0 k1 k2 k3 k4
        have hsp : spot = none := hs0 (by omega)
        subst hsp
        rw [Addr.add_mid] at k0 k1 k2 k3 k4
        exact ⟨⟨o, a, bb, c, z⟩, rfl, k0, k1, k2, k3, k4⟩
    obtain ⟨l, hll, hp⟩ := pick len (fun i hi => each i (by omega))
    subst hll
    refine ⟨l, some ⟨b, off, spot⟩, cap, rfl, fun h0 => ?_⟩
    obtain ⟨_, hsp, _⟩ := each 0 (by omega)
    subst hsp
    have hb : b < w.heap.size := hlt (.cell b off) (List.mem_append_left _ (MemPlace.mem_row.2 ⟨0, by rw [cells44]; omega, by simp⟩))
    exact ⟨b, off, rfl, hb, fun j hj => (hp j hj).2⟩

/-- A row of numbers that came in, opened. -/
theorem open_row {H : Type} {enc : TypeId × Value → H} {w : World} {sp : Nat → Bool} {v : Value} {d : DataW H} {p : List MemPlace} {r : Reach} {b0 : Nat}
    (hv : Value.okWide Try.prog w r b0 23 v) (h : DataW.Trod enc Try.prog w 0 sp true 23 v d p) (hlt : ∀ x ∈ p, x.block < w.heap.size) :
    ∃ l : List Int, IntsAt (fun k => k < w.heap.size) w v l := by
  obtain ⟨fuel, hf⟩ := h
  obtain ⟨a0, len, cap, rfl⟩ := okWide_slice Try.underlying23 hv
  rcases open_slice Try.underlying23 hf with ⟨hcs, _⟩ | ⟨a, len', cap', m, n, D, Pl, hcs, _, hl, hmx, hmm, hx, hall⟩
  · simp [Value.cells] at hcs
    obtain ⟨rfl, rfl, rfl⟩ := hcs
    exact ⟨[], none, 0, rfl, Nat.le_refl _, Nat.zero_le _, fun h => absurd h (Nat.lt_irrefl 0)⟩
  · simp [Value.cells] at hcs
    obtain ⟨rfl, rfl, rfl⟩ := hcs
    simp only [Prod.mk.injEq] at hx
    obtain ⟨rfl, rfl⟩ := hx
    have hlm : len ≤ m := by rw [hmm]; split <;> omega
    obtain ⟨b, off, spot⟩ := a
    have hs0 : 0 < m → spot = none := fun h0 => by
      obtain ⟨cs', h1, _⟩ := hall 0 h0
      rw [cells3] at h1
      obtain ⟨_, hlen, hcell⟩ := World.cells?_some h1
      have k0 := hcell 0 (by omega)
      simpa [Addr.add] using World.cell?_spot (k0.trans (List.getElem?_eq_getElem (by omega)))
    have each : ∀ i, i < m → ∃ x : Int, spot = none ∧ w.cell? ⟨b, off + i, none⟩ = some (iv x) := fun i hi => by
      obtain ⟨cs', h1, h2⟩ := hall i hi
      rw [cells3] at h1
      obtain ⟨_, hlen, hcell⟩ := World.cells?_some h1
      match cs', hlen with
      | [c0], _ =>
        obtain ⟨o, rfl⟩ := one_int h2
        have k0 := hcell 0 (by decide)
        simp only [add_add] at k0
        have hsp : spot = none := hs0 (by omega)
        subst hsp
        rw [Addr.add_mid] at k0
        exact ⟨o, rfl, by simpa using k0⟩
    obtain ⟨l, hll, hp⟩ := pick len (fun i hi => each i (by omega))
    subst hll
    refine ⟨l, some ⟨b, off, spot⟩, cap, rfl, hl, hmx, fun h0 => ?_⟩
    obtain ⟨_, hsp, _⟩ := each 0 (by omega)
    subst hsp
    have hb : b < w.heap.size := hlt (.cell b off) (List.mem_append_left _ (MemPlace.mem_row.2 ⟨0, by rw [cells3]; omega, by simp⟩))
    exact ⟨b, off, rfl, hb, fun j hj => (hp j hj).2⟩

end Go.Proofs.Ythokpdalojfmiaa
