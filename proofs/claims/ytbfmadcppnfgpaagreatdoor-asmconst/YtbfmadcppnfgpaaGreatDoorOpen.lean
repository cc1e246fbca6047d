/-
  From the row's list to the tables that are read, and lines that came in, opened (layer 5).
-/
import Derived.Test.YtbfmadcppnfgpaaGreatDoorRows
import Derived.Test.YtbfmadcppnfgpaaGreatDoorLab
import Derived.Test.YtbfmadcppnfgpaaGreatDoorItoa
import Derived.Stop.LaidErr
import Derived.Carry
import Derived.Lib.LaidTab
import Derived.Deep.Fields
import Derived.Deep.Slices
import Derived.Deep.MidRow
import Derived.OpenShut
namespace Go.Proofs.YtbfmadcppnfgpaaGreatDoor
open Go.ChangeShapes Go.WideShapes Go.ChangeAt Go.RowKit Go.Deep

theorem own : ownKnob Tryz.prog.godebug = none := by kernel_rfl
theorem laidOut : laidOutB Tryz.prog = true := by kernel_rfl
theorem gPow : Tryz.prog.globalNamed "internal/strconv.uint64pow10" = some 1 := by kernel_rfl
theorem gPowT : (Tryz.prog.globals[1]?).map (·.type) = some 150 := by kernel_rfl
theorem gNamT : (Tryz.prog.globals[0]?).map (·.type) = some 113 := by kernel_rfl
theorem cells124 : Tryz.prog.cellsOf 150 = 20 := by kernel_rfl
theorem cells107 : Tryz.prog.cellsOf 126 = 1 := by kernel_rfl
theorem cells95 : Tryz.prog.cellsOf 113 = 15 := by kernel_rfl
theorem cells9 : Tryz.prog.cellsOf 9 = 1 := by kernel_rfl
theorem cells38 : Tryz.prog.cellsOf 38 = 7 := by kernel_rfl
theorem cells32 : Tryz.prog.cellsOf 31 = 5 := by kernel_rfl
theorem cells3 : Tryz.prog.cellsOf 3 = 1 := by kernel_rfl

/-- An array of texts that reads as the table holds the table's texts, cell for cell. -/
theorem cells_of_texts {H : Type} {enc : TypeId × Value → H} {P : Program} {w : World} {base : Nat} {sp : Nat → Bool} {held : Bool} {fuel : Nat} {t e : TypeId} {n : Nat} {cs : List Value} {zs : List (List UInt8)} {p : List MemPlace}
    (ht : P.underlying t = some (.array n e)) (he : P.underlying e = some .string) (hce : P.cellsOf e = 1) (hct : P.cellsOf t = n)
    (h : DataW.trod enc P w base sp held fuel t cs = some (.agg (zs.map fun z => .lit (.string z)), p)) : cs = zs.map fun z => Value.string (bs z) := by
  cases fuel with
  | zero => simp [DataW.trod] at h
  | succ fuel =>
    simp only [DataW.trod, ht, hce, hct, Nat.mul_one] at h
    split at h
    · rename_i hl
      obtain ⟨xs, hm, hx⟩ := Option.map_eq_some_iff.1 h
      have hxs : xs.map (·.1) = zs.map fun z => (DataW.lit (.string z) : DataW H) := by
        have := congrArg Prod.fst hx
        simpa using this
      have hxl : xs.length = n := by simpa using Lib.mapM_length hm
      have hzl : zs.length = n := by
        have := congrArg List.length hxs
        simp at this
        omega
      apply List.ext_getElem?
      intro i
      by_cases hi : i < n
      · obtain ⟨b, hb, hf⟩ := Lib.mapM_at hm i i (by simp [hi])
        obtain ⟨s, hc, rfl, _⟩ := DataW.trod_string he hf
        have h1 : cs[i]? = some (.string s) := by
          have := congrArg (·[0]?) hc
          simpa [List.getElem?_take, List.getElem?_drop] using this
        have h2 : (xs.map (·.1))[i]? = some (DataW.lit (.string s.data.toList) : DataW H) := by simp [hb]
        rw [hxs] at h2
        simp only [List.getElem?_map, Option.map_eq_some_iff, DataW.lit.injEq, Lit.string.injEq] at h2
        obtain ⟨z', hz', e'⟩ := h2
        rw [h1, List.getElem?_map, hz', Option.map_some]
        rw [bs_of e'.symm]
      · rw [List.getElem?_eq_none (by omega), List.getElem?_eq_none (by simp; omega)]
    · cases h

theorem tabs_of {W : World} (h : laidMetH Tryz.prog Rows.asmConstRow.laid W) : Tabs W := by
  have h : laidMet Tryz.prog Rows.asmConstRow.laid W := h
  have h2 := (laidMet.tail (laidMet.tail h) : laidMet Tryz.prog [("internal/strconv.uint64pow10", Rows.laid_internal_strconv_uint64pow10), ("swage/inst.names", Rows.laid_swage_inst_names)] W)
  refine ⟨Lib.tabIs_of_head gPow gPowT Tryz.underlying150 Tryz.underlying126 cells107 cells124 h2, ?_⟩
  obtain ⟨ps, ⟨g', t', cs, fuel, p, q, hg', ht', hvar, hd, _, _⟩, _⟩ := laidMet.tail h2
  obtain rfl := Option.some.inj (gNames.symm.trans hg')
  obtain rfl := Option.some.inj (gNamT.symm.trans ht')
  rw [hvar, ← cells_of_texts (zs := namesL) Tryz.underlying113 Tryz.underlying9 cells9 cells95 hd]

/-- The tables as the program's text lays them. -/
noncomputable def laidWorld (os : Os) : World := { World.holding Tryz.prog os ⟨#[], #[], []⟩ with heap := (((((World.holding Tryz.prog os ⟨#[], #[], []⟩).heap.modify 0 (fun x => match x with | .cells _ t frozen => .cells #[.string ⟨#[104, 97, 108, 116]⟩, .string ⟨#[108, 105]⟩, .string ⟨#[108, 105, 104]⟩, .string ⟨#[109, 111, 118]⟩, .string ⟨#[98, 105, 110]⟩, .string ⟨#[108, 100]⟩, .string ⟨#[115, 116]⟩, .string ⟨#[106, 109, 112]⟩, .string ⟨#[106, 122]⟩, .string ⟨#[99, 97, 108, 108]⟩, .string ⟨#[114, 101, 116]⟩, .string ⟨#[105, 110]⟩, .string ⟨#[111, 117, 116]⟩, .string ⟨#[97, 108, 108, 111, 99]⟩, .string ⟨#[97, 100, 100, 105]⟩] t frozen | o => o)).modify 1 (fun x => match x with | .cells _ t frozen => .cells #[.int .u64 1, .int .u64 10, .int .u64 100, .int .u64 1000, .int .u64 10000, .int .u64 100000, .int .u64 1000000, .int .u64 10000000, .int .u64 100000000, .int .u64 1000000000, .int .u64 10000000000, .int .u64 100000000000, .int .u64 1000000000000, .int .u64 10000000000000, .int .u64 100000000000000, .int .u64 1000000000000000, .int .u64 10000000000000000, .int .u64 100000000000000000, .int .u64 1000000000000000000, .int .u64 10000000000000000000] t frozen | o => o)).modify 2 (fun x => match x with | .cells _ t frozen => .cells #[.int .u8 0, .int .u8 1, .int .u8 28, .int .u8 2, .int .u8 29, .int .u8 14, .int .u8 24, .int .u8 3, .int .u8 30, .int .u8 22, .int .u8 20, .int .u8 15, .int .u8 25, .int .u8 17, .int .u8 4, .int .u8 8, .int .u8 31, .int .u8 27, .int .u8 13, .int .u8 23, .int .u8 21, .int .u8 19, .int .u8 16, .int .u8 7, .int .u8 26, .int .u8 12, .int .u8 18, .int .u8 6, .int .u8 11, .int .u8 5, .int .u8 10, .int .u8 9] t frozen | o => o)).modify 3 (fun x => match x with | .cells _ t frozen => .cells #[.int .u8 0, .int .u8 1, .int .u8 56, .int .u8 2, .int .u8 57, .int .u8 49, .int .u8 28, .int .u8 3, .int .u8 61, .int .u8 58, .int .u8 42, .int .u8 50, .int .u8 38, .int .u8 29, .int .u8 17, .int .u8 4, .int .u8 62, .int .u8 47, .int .u8 59, .int .u8 36, .int .u8 45, .int .u8 43, .int .u8 51, .int .u8 22, .int .u8 53, .int .u8 39, .int .u8 33, .int .u8 30, .int .u8 24, .int .u8 18, .int .u8 12, .int .u8 5, .int .u8 63, .int .u8 55, .int .u8 48, .int .u8 27, .int .u8 60, .int .u8 41, .int .u8 37, .int .u8 16, .int .u8 46, .int .u8 35, .int .u8 44, .int .u8 21, .int .u8 52, .int .u8 32, .int .u8 23, .int .u8 11, .int .u8 54, .int .u8 26, .int .u8 40, .int .u8 15, .int .u8 34, .int .u8 20, .int .u8 31, .int .u8 10, .int .u8 25, .int .u8 14, .int .u8 19, .int .u8 9, .int .u8 13, .int .u8 8, .int .u8 7, .int .u8 6] t frozen | o => o)) }

theorem one_fit {H : Type} {enc : TypeId × Value → H} {w : World} {base : Nat} {sp : Nat → Bool} {held : Bool} {n : Nat} {v : Value} {y : DataW H × List MemPlace} (h : DataW.trod enc Tryz.prog w base sp held n 3 [v] = some y) : ∃ z, v = .int .i64 z ∧ Fits z := by
  obtain ⟨z, hz, _, hw⟩ := DataW.trod_int Tryz.underlying3 h
  exact ⟨z, by simpa using hz, bounds_i64 hw⟩


theorem pick {α : Type} {p : Nat → α → Prop} : ∀ n, (∀ i, i < n → ∃ x, p i x) → ∃ l : List α, l.length = n ∧ ∀ j (hj : j < l.length), p j l[j]
  | 0, _ => ⟨[], rfl, fun j hj => absurd hj (Nat.not_lt_zero j)⟩
  | n + 1, h => by
    obtain ⟨l, hl, hp⟩ := pick n (fun i hi => h i (by omega))
    obtain ⟨x, hx⟩ := h n (by omega)
    refine ⟨l ++ [x], by simp [hl], fun j hj => ?_⟩
    by_cases hlt : j < l.length
    · rw [List.getElem_append_left hlt]; exact hp j hlt
    · have : j = n := by simp at hj; omega
      subst this
      rw [List.getElem_append_right (by omega)]; simpa [hl] using hx

set_option maxRecDepth 100000 in
/-- Lines that came in, opened. -/
theorem open_lines {H : Type} {enc : TypeId × Value → H} {w : World} {sp : Nat → Bool} {v : Value} {d : DataW H} {p : List MemPlace} {r : Reach} {b0 : Nat}
    (hv : Value.okWide Tryz.prog w r b0 42 v) (h : DataW.Trod enc Tryz.prog w 0 sp true 42 v d p) (hlt : ∀ x ∈ p, x.block < w.heap.size) : ∃ (av : Option Addr) (cap blk off : Nat) (ls : List Ln), v = .slice av ls.length cap ∧ ls.length ≤ cap ∧ IsLines w av blk off ls ∧ (∀ x ∈ ls, Fits x.L) ∧ (∀ x ∈ ls, Fits x.t) := by
  obtain ⟨fuel, hf⟩ := h
  obtain ⟨a0, len, cap, rfl⟩ := okWide_slice Tryz.underlying42 hv
  rcases open_slice Tryz.underlying42 hf with ⟨hcs, _⟩ | ⟨a, len', cap', m, n, D, Pl, hcs, _, hl, hmx, hmm, hx, hall⟩
  · simp [Value.cells] at hcs
    obtain ⟨rfl, rfl, rfl⟩ := hcs
    exact ⟨none, 0, 0, 0, [], rfl, Nat.le_refl _, ⟨fun h => absurd h (Nat.lt_irrefl 0), fun h => absurd h (Nat.lt_irrefl 0), fun j hj => absurd hj (Nat.not_lt_zero _)⟩, fun x hx => (by cases hx), fun x hx => (by cases hx)⟩
  · simp [Value.cells] at hcs
    obtain ⟨rfl, rfl, rfl⟩ := hcs
    simp only [Prod.mk.injEq] at hx
    obtain ⟨rfl, rfl⟩ := hx
    have hlm : len ≤ m := by rw [hmm]; split <;> omega
    obtain ⟨b, off, spot⟩ := a
    have hs0 : 0 < m → spot = none := fun h0 => by
      obtain ⟨cs', h1, _⟩ := hall 0 h0
      rw [cells38] at h1
      obtain ⟨_, hlen, hcell⟩ := World.cells?_some h1
      have k0 := hcell 0 (by omega)
      simpa [Addr.add] using World.cell?_spot (k0.trans (List.getElem?_eq_getElem (by omega)))
    have each : ∀ i, i < m → ∃ x : Ln, spot = none ∧ AtLn w b (off + i * 7) x ∧ Fits x.L ∧ Fits x.t := fun i hi => by
      obtain ⟨cs', h1, h2⟩ := hall i hi
      rw [cells38] at h1
      obtain ⟨_, hlen, hcell⟩ := World.cells?_some h1
      obtain ⟨xs, k, _, _, _, hxl, hg⟩ := DataW.trod_struct Tryz.underlying38 h2
      match xs, hxl, cs', hlen with
      | [y0, y1, y2], _, [c0, c1, c2, c3, c4, c5, c6], _ =>
        obtain ⟨L, rfl, hL⟩ := one_fit (v := c0) (y := y0) (by simpa [Value.cells, cells3, cells32] using hg 0 _ rfl)
        have h5 := hg 1 _ rfl
        obtain ⟨zs, k5, _, _, _, hzl, hg5⟩ := DataW.trod_struct Tryz.underlying31 h5
        obtain ⟨T, rfl, hT⟩ := one_fit (v := c6) (y := y2) (by simpa [Value.cells, cells3, cells32] using hg 2 _ rfl)
        match zs, hzl with
        | [z0, z1, z2, z3, z4], _ =>
          obtain ⟨o, rfl, _⟩ := one_fit (v := c1) (y := z0) (by simpa [Value.cells, cells3, cells32] using hg5 0 _ rfl)
          obtain ⟨a, rfl, _⟩ := one_fit (v := c2) (y := z1) (by simpa [Value.cells, cells3, cells32] using hg5 1 _ rfl)
          obtain ⟨bb, rfl, _⟩ := one_fit (v := c3) (y := z2) (by simpa [Value.cells, cells3, cells32] using hg5 2 _ rfl)
          obtain ⟨c, rfl, _⟩ := one_fit (v := c4) (y := z3) (by simpa [Value.cells, cells3, cells32] using hg5 3 _ rfl)
          obtain ⟨z, rfl, _⟩ := one_fit (v := c5) (y := z4) (by simpa [Value.cells, cells3, cells32] using hg5 4 _ rfl)
          have k0 := hcell 0 (by decide)
          have k1 := hcell 1 (by decide)
          have k2 := hcell 2 (by decide)
          have k3 := hcell 3 (by decide)
          have k4 := hcell 4 (by decide)
          have k5 := hcell 5 (by decide)
          have k6 := hcell 6 (by decide)
          simp only [add_add] at k0 k1 k2 k3 k4 k5 k6
          have hsp : spot = none := hs0 (by omega)
          subst hsp
          rw [Addr.add_mid] at k0 k1 k2 k3 k4 k5 k6
          exact ⟨⟨L, o, a, bb, c, z, T⟩, rfl, ⟨k0, k1, k2, k3, k4, k5, k6⟩, hL, hT⟩
    obtain ⟨l, hll, hp⟩ := pick len (fun i hi => each i (by omega))
    subst hll
    refine ⟨some ⟨b, off, spot⟩, cap, b, off, l, rfl, hl, ⟨fun h0 => ?_, fun h0 => ?_, fun j hj => (hp j hj).2.1⟩, fun x hx => ?_, fun x hx => ?_⟩
    · obtain ⟨_, hsp, _⟩ := each 0 (by omega)
      rw [hsp]
    · exact hlt (.cell b off) (List.mem_append_left _ (MemPlace.mem_row.2 ⟨0, by rw [cells38]; omega, by
        obtain ⟨_, hsp, _⟩ := each 0 (by omega)
        subst hsp
        simp⟩))
    · obtain ⟨j, hj, rfl⟩ := List.getElem_of_mem hx
      exact (hp j hj).2.2.1
    · obtain ⟨j, hj, rfl⟩ := List.getElem_of_mem hx
      exact (hp j hj).2.2.2

end Go.Proofs.YtbfmadcppnfgpaaGreatDoor
