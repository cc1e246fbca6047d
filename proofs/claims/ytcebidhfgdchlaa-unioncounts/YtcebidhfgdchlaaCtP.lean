/-
  A row of pairs that came in (layer 8), opened.
-/
import Derived.Test.YtcebidhfgdchlaaUnN
import Derived.Laws.IdiomArrays
import Derived.Deep.Slices
namespace Go.Proofs.Ytcebidhfgdchlaa
open Go.ChangeShapes Go.WideShapes Go.ChangeAt Go.RowKit Go.Shelf Go.Maps Go.Deep

theorem cells28 : Try.prog.cellsOf 28 = 2 := by kernel_rfl
theorem cells3' : Try.prog.cellsOf 3 = 1 := by kernel_rfl
theorem trod_array2 {H : Type} {enc : TypeId × Value → H} {P : Program} {w : World} {base : Nat} {spare : Nat → Bool} {held : Bool} {t e : TypeId} {fuel : Nat} {c0 c1 : Value} {x : DataW H × List MemPlace} (ht : P.underlying t = some (.array 2 e)) (hce : P.cellsOf e = 1)
    (h : DataW.trod enc P w base spare held fuel t [c0, c1] = some x) :
    ∃ y0 y1 n, DataW.trod enc P w base spare held n e [c0] = some y0 ∧ DataW.trod enc P w base spare held n e [c1] = some y1 := by
  cases fuel with
  | zero => simp [DataW.trod] at h
  | succ n =>
    unfold DataW.trod at h
    rw [ht] at h
    have r2 : List.range 2 = [0, 1] := rfl
    simp [r2, hce] at h
    obtain ⟨_, h⟩ := h
    cases h0 : DataW.trod enc P w base spare held n e [c0] with
    | none => simp [h0] at h
    | some y0 =>
      cases h1 : DataW.trod enc P w base spare held n e [c1] with
      | none => simp [h0, h1] at h
      | some y1 => exact ⟨y0, y1, n, h0, h1⟩
theorem one_int {H : Type} {enc : TypeId × Value → H} {w : World} {base : Nat} {sp : Nat → Bool} {held : Bool} {n : Nat} {v : Value} {y : DataW H × List MemPlace} (h : DataW.trod enc Try.prog w base sp held n 3 [v] = some y) : ∃ z, v = .int .i64 z ∧ (Lit.int .i64 z).wf = true := by
  obtain ⟨z, hz, _, hw⟩ := DataW.trod_int Try.underlying3 h
  exact ⟨z, by simpa using hz, hw⟩
theorem pick {α : Type} {p : Nat → α → Prop} : ∀ n, (∀ i, i < n → ∃ x, p i x) → ∃ l : List α, l.length = n ∧ ∀ j (hj : j < l.length), p j l[j]
  | 0, _ => ⟨[], rfl, fun j hj => absurd hj (Nat.not_lt_zero j)⟩
  | n + 1, h => by
    obtain ⟨l, hl, hp⟩ := pick n (fun i hi => h i (by omega))
    obtain ⟨x, hx⟩ := h n (by omega)
    refine ⟨l ++ [x], by simp [hl], fun j hj => ?_⟩
    by_cases hlt : j < l.length
    · rw [List.getElem_append_left hlt]; exact hp j hlt
    · have : j = n := by simp at hj; omega
      subst this
      rw [List.getElem_append_right (by omega)]; simpa [hl] using hx
/-- A row of pairs that can be read. -/
def PairRow (W : World) (v : Value) (n : Nat) : Prop := ∃ (av : Option Addr) (cap blk off : Nat), v = .slice av n cap ∧ (0 < n → av = some ⟨blk, off, none⟩ ∧ blk < W.heap.size) ∧ ∀ k, k < n → ∃ a b : Int, (Lit.int .i64 a).wf = true ∧ (Lit.int .i64 b).wf = true ∧ W.cell? ⟨blk, off + k * 2, none⟩ = some (.int .i64 a) ∧ W.cell? ⟨blk, off + k * 2 + 1, none⟩ = some (.int .i64 b)
set_option maxRecDepth 100000 in
theorem open_pairs {H : Type} {enc : TypeId × Value → H} {w : World} {sp : Nat → Bool} {v : Value} {d : DataW H} {p : List MemPlace} {r : Reach} {b0 : Nat}
    (hv : Value.okWide Try.prog w r b0 22 v) (h : DataW.Trod enc Try.prog w 0 sp true 22 v d p) (hlt : ∀ x ∈ p, x.block < w.heap.size) : ∃ n : Nat, PairRow w v n := by
  obtain ⟨fuel, hf⟩ := h
  obtain ⟨a0, len, cap, rfl⟩ := okWide_slice Try.underlying22 hv
  rcases open_slice Try.underlying22 hf with ⟨hcs, _⟩ | ⟨a, len', cap', m, n, D, Pl, hcs, _, hl, hmx, hmm, hx, hall⟩
  · simp [Value.cells] at hcs
    obtain ⟨rfl, rfl, rfl⟩ := hcs
    exact ⟨0, none, 0, 0, 0, rfl, fun h => absurd h (Nat.lt_irrefl 0), fun k hk => absurd hk (Nat.not_lt_zero k)⟩
  · simp [Value.cells] at hcs
    obtain ⟨rfl, rfl, rfl⟩ := hcs
    simp only [Prod.mk.injEq] at hx
    obtain ⟨rfl, rfl⟩ := hx
    have hlm : len ≤ m := by rw [hmm]; split <;> omega
    obtain ⟨b, off, spot⟩ := a
    have hs0 : 0 < m → spot = none := fun h0 => by
      obtain ⟨cs', h1, _⟩ := hall 0 h0
      rw [cells28] at h1
      obtain ⟨_, hlen, hcell⟩ := World.cells?_some h1
      have k0 := hcell 0 (by omega)
      simpa [Addr.add] using World.cell?_spot (k0.trans (List.getElem?_eq_getElem (by omega)))
    have each : ∀ i, i < m → spot = none ∧ ∃ a b' : Int, (Lit.int .i64 a).wf = true ∧ (Lit.int .i64 b').wf = true ∧ w.cell? ⟨b, off + i * 2, none⟩ = some (.int .i64 a) ∧ w.cell? ⟨b, off + i * 2 + 1, none⟩ = some (.int .i64 b') := fun i hi => by
      obtain ⟨cs', h1, h2⟩ := hall i hi
      rw [cells28] at h1
      obtain ⟨_, hlen, hcell⟩ := World.cells?_some h1
      match cs', hlen with
      | [c0, c1], _ =>
        obtain ⟨y0, y1, k, g0, g1⟩ := trod_array2 Try.underlying28 cells3' h2
        obtain ⟨o, rfl, w0⟩ := one_int g0
        obtain ⟨a, rfl, w1⟩ := one_int g1
        have k0 := hcell 0 (by decide)
        have k1 := hcell 1 (by decide)
        simp only [add_add] at k0 k1
        have hsp : spot = none := hs0 (by omega)
        subst hsp
        rw [Addr.add_mid] at k0 k1
        exact ⟨rfl, o, a, w0, w1, k0, k1⟩
    refine ⟨len, some ⟨b, off, spot⟩, cap, b, off, rfl, fun h0 => ?_, fun k hk => (each k (by omega)).2⟩
    obtain ⟨hsp, _⟩ := each 0 (by omega)
    subst hsp
    exact ⟨rfl, hlt (.cell b off) (List.mem_append_left _ (MemPlace.mem_row.2 ⟨0, by rw [cells28]; omega, by simp⟩))⟩

end Go.Proofs.Ytcebidhfgdchlaa
