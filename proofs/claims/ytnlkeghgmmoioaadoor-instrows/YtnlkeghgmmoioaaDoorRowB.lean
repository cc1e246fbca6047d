/-
  Rows of instructions and their bytes (layer 2): that they lead back; rows that came in, opened.
-/
import Derived.Test.YtnlkeghgmmoioaaDoorDecB
import Derived.Test.YtnlkeghgmmoioaaDoorOpen
import Derived.Deep.Slices
namespace Go.Proofs.YtnlkeghgmmoioaaDoor
open Go.ChangeShapes Go.WideShapes Go.ChangeAt Go.RowKit Go.Deep

theorem wrap_back (i : Int) (h1 : -2147483648 ≤ i) (h2 : i ≤ 2147483647) : wrapM 4294967296 (i / 16777216 % 256 * 16777216 + (i / 65536 % 256 * 65536 + (i / 256 % 256 * 256 + i % 256))) true = i := by
  have e : i / 16777216 % 256 * 16777216 + (i / 65536 % 256 * 65536 + (i / 256 % 256 * 256 + i % 256)) = i % 4294967296 := by omega
  rw [e]
  have e2 : i % 4294967296 % 4294967296 = i % 4294967296 := by omega
  unfold wrapM
  rw [e2]
  by_cases hh : 2147483648 ≤ i % 4294967296
  · rw [if_pos ⟨rfl, by omega⟩]; omega
  · rw [if_neg (by omega)]; omega
theorem dec_enc (x : Ins) (h : x.right = true) : decI x.enc = some x := by
  obtain ⟨o, a, b, c, i⟩ := x
  replace h : rightB o a b c i = true := h
  obtain ⟨_, ha, hb, hc, hi⟩ := right_parts h
  have ho := right_op h
  have e0 := u8_nat o (by omega)
  have e1 := u8_nat (a * 16 + b) (by omega)
  have e2 := u8_nat c (by omega)
  have e3 : (u8 0).toNat = 0 := by decide
  have e4 := u8_nat (i % 256) (by omega)
  have e5 := u8_nat (i / 256 % 256) (by omega)
  have e6 := u8_nat (i / 65536 % 256) (by omega)
  have e7 := u8_nat (i / 16777216 % 256) (by omega)
  have q1 : (a * 16 + b) / 16 = a := by omega
  have q2 : (a * 16 + b) % 16 = b := by omega
  have q3 := wrap_back i hi.1 hi.2
  simp only [Ins.enc, encL, encI, List.map_cons, List.map_nil, decI, e0, e1, e2, e3, e4, e5, e6, e7, q1, q2, q3]
  exact if_pos ⟨trivial, h⟩
theorem drop_enc : ∀ (k : Nat) (l : List Ins), (l.flatMap Ins.enc).drop (8 * k) = (l.drop k).flatMap Ins.enc
  | 0, l => by simp
  | k + 1, [] => by simp
  | k + 1, x :: r => by
    rw [List.flatMap_cons, show 8 * (k + 1) = x.enc.length + 8 * k by rw [show x.enc.length = 8 from rfl]; omega, List.drop_append, List.drop_succ_cons]
    simp [drop_enc k r]
theorem chunk_enc (l : List Ins) (k : Nat) (h : k < l.length) : chunk (l.flatMap Ins.enc) k = l[k].enc := by
  unfold chunk
  rw [drop_enc, List.drop_eq_getElem_cons h, List.flatMap_cons, List.take_append_of_le_length (by rw [encL_len]; omega)]
  exact List.take_of_length_le (by rw [encL_len]; omega)
theorem decAll_enc (l : List Ins) (h : ∀ x ∈ l, x.right = true) : DecAll (l.flatMap Ins.enc) l :=
  ⟨⟨rfl, fun j hj => by rw [chunk_enc l j hj, dec_enc _ (h _ (List.getElem_mem _))]⟩, by rw [enc_len]; omega, by rw [enc_len]; omega⟩

theorem pick {α : Type} {p : Nat → α → Prop} : ∀ n, (∀ i, i < n → ∃ x, p i x) → ∃ l : List α, l.length = n ∧ ∀ j (hj : j < l.length), p j l[j]
  | 0, _ => ⟨[], rfl, fun j hj => absurd hj (Nat.not_lt_zero j)⟩
  | n + 1, h => by
    obtain ⟨l, hl, hp⟩ := pick n (fun i hi => h i (by omega))
    obtain ⟨x, hx⟩ := h n (by omega)
    refine ⟨l ++ [x], by simp [hl], fun j hj => ?_⟩
    by_cases hlt : j < l.length
    · rw [List.getElem_append_left hlt]; exact hp j hlt
    · have : j = n := by simp at hj; omega
      subst this
      rw [List.getElem_append_right (by omega)]; simpa [hl] using hx
/-- A row of instructions that came in, opened. -/
theorem open_insts {H : Type} {enc : TypeId × Value → H} {w : World} {sp : Nat → Bool} {v : Value} {d : DataW H} {p : List MemPlace} {r : Reach} {b0 : Nat}
    (hv : Value.okWide Tryd.prog w r b0 38 v) (h : DataW.Trod enc Tryd.prog w 0 sp true 38 v d p) (hlt : ∀ x ∈ p, x.block < w.heap.size) : ∃ l : List Ins, IsRow w v l := by
  obtain ⟨fuel, hf⟩ := h
  obtain ⟨a0, len, cap, rfl⟩ := okWide_slice Tryd.underlying38 hv
  rcases open_slice Tryd.underlying38 hf with ⟨hcs, _⟩ | ⟨a, len', cap', m, n, D, Pl, hcs, _, hl, hmx, hmm, hx, hall⟩
  · simp [Value.cells] at hcs
    obtain ⟨rfl, rfl, rfl⟩ := hcs
    exact ⟨[], none, 0, rfl, fun h => absurd h (Nat.lt_irrefl 0)⟩
  · simp [Value.cells] at hcs
    obtain ⟨rfl, rfl, rfl⟩ := hcs
    simp only [Prod.mk.injEq] at hx
    obtain ⟨rfl, rfl⟩ := hx
    have hlm : len ≤ m := by rw [hmm]; split <;> omega
    obtain ⟨b, off, spot⟩ := a
    have hs0 : 0 < m → spot = none := fun h0 => by
      obtain ⟨cs', h1, _⟩ := hall 0 h0
      rw [cells23] at h1
      obtain ⟨_, hlen, hcell⟩ := World.cells?_some h1
      have k0 := hcell 0 (by omega)
      simpa [Addr.add] using World.cell?_spot (k0.trans (List.getElem?_eq_getElem (by omega)))
    have each : ∀ i, i < m → ∃ x : Ins, spot = none ∧ AtIns w b (off + i * 5) x := fun i hi => by
      obtain ⟨cs', h1, h2⟩ := hall i hi
      rw [cells23] at h1
      obtain ⟨_, hlen, hcell⟩ := World.cells?_some h1
      obtain ⟨xs, k, _, _, _, hxl, hg⟩ := DataW.trod_struct Tryd.underlying23 h2
      match xs, hxl, cs', hlen with
      | [y0, y1, y2, y3, y4], _, [c0, c1, c2, c3, c4], _ =>
        obtain ⟨o, rfl⟩ := one_int (v := c0) (y := y0) (by simpa [Value.cells, cells3] using hg 0 _ rfl)
        obtain ⟨a, rfl⟩ := one_int (v := c1) (y := y1) (by simpa [Value.cells, cells3] using hg 1 _ rfl)
        obtain ⟨bb, rfl⟩ := one_int (v := c2) (y := y2) (by simpa [Value.cells, cells3] using hg 2 _ rfl)
        obtain ⟨c, rfl⟩ := one_int (v := c3) (y := y3) (by simpa [Value.cells, cells3] using hg 3 _ rfl)
        obtain ⟨z, rfl⟩ := one_int (v := c4) (y := y4) (by simpa [Value.cells, cells3] using hg 4 _ rfl)
        have k0 := hcell 0 (by decide)
        have k1 := hcell 1 (by decide)
        have k2 := hcell 2 (by decide)
        have k3 := hcell 3 (by decide)
        have k4 := hcell 4 (by decide)
        simp only [add_add] at k0 k1 k2 k3 k4
        have hsp : spot = none := hs0 (by omega)
        subst hsp
        rw [Addr.add_mid] at k0 k1 k2 k3 k4
        exact ⟨⟨o, a, bb, c, z⟩, rfl, k0, k1, k2, k3, k4⟩
    obtain ⟨l, hll, hp⟩ := pick len (fun i hi => each i (by omega))
    subst hll
    refine ⟨l, some ⟨b, off, spot⟩, cap, rfl, fun h0 => ?_⟩
    obtain ⟨_, hsp, _⟩ := each 0 (by omega)
    subst hsp
    have hb : b < w.heap.size := hlt (.cell b off) (List.mem_append_left _ (MemPlace.mem_row.2 ⟨0, by rw [cells23]; omega, by simp⟩))
    exact ⟨b, off, rfl, hb, fun j hj => (hp j hj).2⟩

end Go.Proofs.YtnlkeghgmmoioaaDoor
