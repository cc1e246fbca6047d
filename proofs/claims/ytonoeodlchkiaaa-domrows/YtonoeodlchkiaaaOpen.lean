/-
  A graph that came in, opened (layer 6).
-/
import Derived.Test.YtonoeodlchkiaaaSame
import Derived.Deep.Slices
import Derived.Deep.MidRow
namespace Go.Proofs.Ytonoeodlchkiaaa
open Go.ChangeShapes Go.WideShapes Go.ChangeAt Go.RowKit Go.Deep

theorem own : ownKnob Try.prog.godebug = none := by kernel_rfl
theorem cells27 : Try.prog.cellsOf 25 = 1 := by kernel_rfl
theorem cells3 : Try.prog.cellsOf 3 = 1 := by kernel_rfl
theorem one_int {H : Type} {enc : TypeId × Value → H} {w : World} {base : Nat} {sp : Nat → Bool} {held : Bool} {n : Nat} {v : Value} {y : DataW H × List MemPlace} (h : DataW.trod enc Try.prog w base sp held n 3 [v] = some y) : ∃ z, v = .int .i64 z := by
  obtain ⟨z, hz, _, _⟩ := DataW.trod_int Try.underlying3 h
  exact ⟨z, by simpa using hz⟩
theorem pick {α : Type} {p : Nat → α → Prop} : ∀ n, (∀ i, i < n → ∃ x, p i x) → ∃ l : List α, l.length = n ∧ ∀ j (hj : j < l.length), p j l[j]
  | 0, _ => ⟨[], rfl, fun j hj => absurd hj (Nat.not_lt_zero j)⟩
  | n + 1, h => by
    obtain ⟨l, hl, hp⟩ := pick n (fun i hi => h i (by omega))
    obtain ⟨x, hx⟩ := h n (by omega)
    refine ⟨l ++ [x], by simp [hl], fun j hj => ?_⟩
    by_cases hlt : j < l.length
    · rw [List.getElem_append_left hlt]; exact hp j hlt
    · have : j = n := by simp at hj; omega
      subst this
      rw [List.getElem_append_right (by omega)]; simpa [hl] using hx
/-- A row within. -/
structure RowIn (w : World) (c : Value) (h : Hdr) (xs : List Int) : Prop where
  val : c = .slice h.av xs.length h.cap
  cap : xs.length ≤ h.cap
  at_ : 0 < xs.length → h.av = some ⟨h.blk, h.off, none⟩
  lt : 0 < xs.length → h.blk < w.heap.size
  has : ∀ k, k < xs.length → w.cell? ⟨h.blk, h.off + k, none⟩ = some (.int .i64 (xs.getD k 0))
theorem open_in {H : Type} {enc : TypeId × Value → H} {w : World} {base : Nat} {sp : Nat → Bool} {held : Bool} {n : Nat} {c : Value} {y : DataW H × List MemPlace} (h : DataW.trod enc Try.prog w base sp held n 25 [c] = some y) : ∃ (x : Hdr × List Int), RowIn w c x.1 x.2 := by
  rcases open_slice Try.underlying25 h with ⟨hcs, _⟩ | ⟨a, len', cap', m, n', D, Pl, hcs, _, hl, hmx, hmm, hx, hall⟩
  · simp at hcs
    exact ⟨(⟨none, 0, 0, 0⟩, []), ⟨hcs, Nat.le_refl _, fun h => absurd h (Nat.lt_irrefl 0), fun h => absurd h (Nat.lt_irrefl 0), fun k hk => absurd hk (Nat.not_lt_zero _)⟩⟩
  · simp at hcs
    subst hcs
    have hlm : len' ≤ m := by rw [hmm]; split <;> omega
    obtain ⟨b, off, spot⟩ := a
    have hs0 : 0 < m → spot = none := fun h0 => by
      obtain ⟨cs', h1, _⟩ := hall 0 h0
      rw [cells3] at h1
      obtain ⟨_, hlen, hcell⟩ := World.cells?_some h1
      have k0 := hcell 0 (by omega)
      simpa [Addr.add] using World.cell?_spot (k0.trans (List.getElem?_eq_getElem (by omega)))
    have each : ∀ i, i < m → ∃ x : Int, spot = none ∧ w.cell? ⟨b, off + i, none⟩ = some (.int .i64 x) := fun i hi => by
      obtain ⟨cs', h1, h2⟩ := hall i hi
      rw [cells3] at h1
      obtain ⟨_, hlen, hcell⟩ := World.cells?_some h1
      match cs', hlen with
      | [c0], _ =>
        obtain ⟨o, rfl⟩ := one_int h2
        have k0 := hcell 0 (by decide)
        simp only [add_add] at k0
        have hsp : spot = none := hs0 (by omega)
        subst hsp
        rw [Addr.add_mid] at k0
        exact ⟨o, rfl, by simpa using k0⟩
    obtain ⟨l, hll, hp⟩ := pick len' (fun i hi => each i (by omega))
    subst hll
    refine ⟨(⟨some ⟨b, off, spot⟩, cap', b, off⟩, l), ⟨rfl, hl, fun h0 => ?_, fun h0 => ?_, fun k hk => ?_⟩⟩
    · obtain ⟨_, hsp, _⟩ := each 0 (by have : 0 < l.length := h0; omega)
      rw [hsp]
    · obtain ⟨x, hsp, hc⟩ := each 0 (by have : 0 < l.length := h0; omega)
      exact World.block_lt_of_cell? w _ hc
    · rw [getD_int _ _ hk]; exact (hp k hk).2
theorem open_graph {H : Type} {enc : TypeId × Value → H} {w : World} {sp : Nat → Bool} {v : Value} {d : DataW H} {p : List MemPlace} {r : Reach} {b0 : Nat}
    (hv : Value.okWide Try.prog w r b0 22 v) (h : DataW.Trod enc Try.prog w 0 sp true 22 v d p) :
    ∃ (av : Option Addr) (cap blk off : Nat) (hd : Nat → Hdr) (g : List (List Int)), v = .slice av g.length cap ∧ GAt w av blk off hd g := by
  obtain ⟨fuel, hf⟩ := h
  obtain ⟨a0, len, cap, rfl⟩ := okWide_slice Try.underlying22 hv
  rcases open_slice Try.underlying22 hf with ⟨hcs, _⟩ | ⟨a, len', cap', m, n, D, Pl, hcs, _, hl, hmx, hmm, hx, hall⟩
  · simp [Value.cells] at hcs
    obtain ⟨rfl, rfl, rfl⟩ := hcs
    exact ⟨none, 0, 0, 0, fun _ => ⟨none, 0, 0, 0⟩, [], rfl, ⟨fun h => absurd h (Nat.lt_irrefl 0), fun h => absurd h (Nat.lt_irrefl 0), fun b hb => absurd hb (Nat.not_lt_zero _), fun b hb => absurd hb (Nat.not_lt_zero _), fun b hb => absurd hb (Nat.not_lt_zero _), fun b hb => absurd hb (Nat.not_lt_zero _), fun b k hb => absurd hb (Nat.not_lt_zero _)⟩⟩
  · simp [Value.cells] at hcs
    obtain ⟨rfl, rfl, rfl⟩ := hcs
    have hlm : len ≤ m := by rw [hmm]; split <;> omega
    obtain ⟨b, off, spot⟩ := a
    have hs0 : 0 < m → spot = none := fun h0 => by
      obtain ⟨cs', h1, _⟩ := hall 0 h0
      rw [cells27] at h1
      obtain ⟨_, hlen, hcell⟩ := World.cells?_some h1
      have k0 := hcell 0 (by omega)
      simpa [Addr.add] using World.cell?_spot (k0.trans (List.getElem?_eq_getElem (by omega)))
    have each : ∀ i, i < m → ∃ x : Hdr × List Int, spot = none ∧ ∃ c, w.cell? ⟨b, off + i, none⟩ = some c ∧ RowIn w c x.1 x.2 := fun i hi => by
      obtain ⟨cs', h1, h2⟩ := hall i hi
      rw [cells27] at h1
      obtain ⟨_, hlen, hcell⟩ := World.cells?_some h1
      match cs', hlen with
      | [c0], _ =>
        obtain ⟨x, hxx⟩ := open_in h2
        have k0 := hcell 0 (by decide)
        simp only [add_add] at k0
        have hsp : spot = none := hs0 (by omega)
        subst hsp
        rw [Addr.add_mid] at k0
        exact ⟨x, rfl, c0, by simpa using k0, hxx⟩
    obtain ⟨l, hll, hp⟩ := pick len (fun i hi => each i (by omega))
    subst hll
    have hg : ∀ i, i < l.length → (l.map Prod.snd).getD i [] = (l.getD i (⟨none, 0, 0, 0⟩, [])).2 ∧ ∃ c, w.cell? ⟨b, off + i, none⟩ = some c ∧ RowIn w c (l.getD i (⟨none, 0, 0, 0⟩, [])).1 (l.getD i (⟨none, 0, 0, 0⟩, [])).2 := fun i hi => by
      have e : l.getD i (⟨none, 0, 0, 0⟩, []) = l[i] := by rw [List.getD_eq_getElem?_getD, List.getElem?_eq_getElem hi]; rfl
      rw [e]
      exact ⟨by rw [List.getD_eq_getElem?_getD, List.getElem?_map, List.getElem?_eq_getElem hi]; rfl, (hp i hi).2⟩
    refine ⟨some ⟨b, off, spot⟩, cap, b, off, fun i => (l.getD i (⟨none, 0, 0, 0⟩, [])).1, l.map Prod.snd, by rw [List.length_map], ⟨fun h0 => ?_, fun h0 => ?_, fun i hi => ?_, fun i hi h0 => ?_, fun i hi h0 => ?_, fun i hi => ?_, fun i k hi hk => ?_⟩⟩
    · rw [List.length_map] at h0
      obtain ⟨_, hsp, _⟩ := each 0 (by omega)
      rw [hsp]
    · rw [List.length_map] at h0
      obtain ⟨x, hsp, c, hc, _⟩ := each 0 (by omega)
      exact World.block_lt_of_cell? w _ hc
    · rw [List.length_map] at hi
      obtain ⟨e, c, hc, hr⟩ := hg i hi
      rw [e, hc, hr.val]
    · rw [List.length_map] at hi
      obtain ⟨e, c, hc, hr⟩ := hg i hi
      rw [e] at h0; exact hr.at_ h0
    · rw [List.length_map] at hi
      obtain ⟨e, c, hc, hr⟩ := hg i hi
      rw [e] at h0; exact hr.lt h0
    · rw [List.length_map] at hi
      obtain ⟨e, c, hc, hr⟩ := hg i hi
      rw [e]; exact hr.cap
    · rw [List.length_map] at hi
      obtain ⟨e, c, hc, hr⟩ := hg i hi
      rw [e] at hk ⊢; exact hr.has k hk

end Go.Proofs.Ytonoeodlchkiaaa
