/-
  A row of steps that came in, opened, its numbers' bounds told (layer 3).
-/
import Derived.Test.YtmpfcplkgkhboaaOpen
namespace Go.Proofs.Ytmpfcplkgkhboaa
open Go.ChangeShapes Go.WideShapes Go.ChangeAt Go.RowKit Go.Deep

theorem one_wf {H : Type} {enc : TypeId × Value → H} {w : World} {base : Nat} {sp : Nat → Bool} {held : Bool} {n : Nat} {v : Value} {y : DataW H × List MemPlace} (h : DataW.trod enc Try.prog w base sp held n 3 [v] = some y) : ∃ z, v = .int .i64 z ∧ (Lit.int .i64 z).wf = true := by
  obtain ⟨z, hz, _, hw⟩ := DataW.trod_int Try.underlying3 h
  exact ⟨z, by simpa using hz, hw⟩

/-- A row of steps that came in, opened. -/
theorem open_steps {H : Type} {enc : TypeId × Value → H} {w : World} {sp : Nat → Bool} {v : Value} {d : DataW H} {p : List MemPlace} {r : Reach} {b0 : Nat}
    (hv : Value.okWide Try.prog w r b0 22 v) (h : DataW.Trod enc Try.prog w 0 sp true 22 v d p) (hlt : ∀ x ∈ p, x.block < w.heap.size) :
    ∃ av cap, ∃ l : List Trio, v = .slice av l.length cap ∧ (∀ x ∈ l, (Lit.int .i64 x.c).wf = true) ∧ (0 < l.length → ∃ blk off, av = some ⟨blk, off, none⟩ ∧ blk < w.heap.size ∧ HasTrios w blk off l) := by
  obtain ⟨fuel, hf⟩ := h
  obtain ⟨a0, len, cap, rfl⟩ := okWide_slice Try.underlying22 hv
  rcases open_slice Try.underlying22 hf with ⟨hcs, _⟩ | ⟨a, len', cap', m, n, D, Pl, hcs, _, hl, hmx, hmm, hx, hall⟩
  · simp [Value.cells] at hcs
    obtain ⟨rfl, rfl, rfl⟩ := hcs
    exact ⟨none, 0, [], rfl, fun x hx => (List.not_mem_nil hx).elim, fun h => absurd h (Nat.lt_irrefl 0)⟩
  · simp [Value.cells] at hcs
    obtain ⟨rfl, rfl, rfl⟩ := hcs
    simp only [Prod.mk.injEq] at hx
    obtain ⟨rfl, rfl⟩ := hx
    have hlm : len ≤ m := by rw [hmm]; split <;> omega
    obtain ⟨b, off, spot⟩ := a
    have hs0 : 0 < m → spot = none := fun h0 => by
      obtain ⟨cs', h1, _⟩ := hall 0 h0
      rw [cells32] at h1
      obtain ⟨_, hlen, hcell⟩ := World.cells?_some h1
      have k0 := hcell 0 (by omega)
      simpa [Addr.add] using World.cell?_spot (k0.trans (List.getElem?_eq_getElem (by omega)))
    have each : ∀ i, i < m → ∃ x : Trio, (Lit.int .i64 x.c).wf = true ∧ spot = none ∧ w.cell? ⟨b, off + i * 3, none⟩ = some (iv x.a) ∧ w.cell? ⟨b, off + i * 3 + 1, none⟩ = some (iv x.b) ∧ w.cell? ⟨b, off + i * 3 + 2, none⟩ = some (iv x.c) := fun i hi => by
      obtain ⟨cs', h1, h2⟩ := hall i hi
      rw [cells32] at h1
      obtain ⟨_, hlen, hcell⟩ := World.cells?_some h1
      match cs', hlen with
      | [c0, c1, c2], _ =>
        obtain ⟨y0, y1, y2, k, _, g0, g1, g2⟩ := trod_array3 Try.underlying32 cells3 h2
        obtain ⟨o, rfl⟩ := one_int g0
        obtain ⟨a, rfl⟩ := one_int g1
        obtain ⟨bb, rfl, hwf⟩ := one_wf g2
        have k0 := hcell 0 (by decide)
        have k1 := hcell 1 (by decide)
        have k2 := hcell 2 (by decide)
        simp only [add_add] at k0 k1 k2
        have hsp : spot = none := hs0 (by omega)
        subst hsp
        rw [Addr.add_mid] at k0 k1 k2
        exact ⟨⟨o, a, bb⟩, hwf, rfl, k0, k1, k2⟩
    obtain ⟨l, hll, hp⟩ := pick len (fun i hi => each i (by omega))
    subst hll
    refine ⟨some ⟨b, off, spot⟩, cap, l, rfl, fun x hx => ?_, fun h0 => ?_⟩
    · obtain ⟨i, hi, rfl⟩ := List.mem_iff_getElem.1 hx; exact (hp i hi).1
    obtain ⟨_, _, hsp, _⟩ := each 0 (by omega)
    subst hsp
    have hb : b < w.heap.size := hlt (.cell b off) (List.mem_append_left _ (MemPlace.mem_row.2 ⟨0, by rw [cells32]; omega, by simp⟩))
    exact ⟨b, off, rfl, hb, fun j hj => (hp j hj).2.2⟩

end Go.Proofs.Ytmpfcplkgkhboaa
