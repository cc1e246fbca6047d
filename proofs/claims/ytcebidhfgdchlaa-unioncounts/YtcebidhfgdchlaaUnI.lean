/-
  Rows of numbers (layer 8): one more behind a row; two rows that are the same (the document's Ints).
-/
import Derived.Test.YtcebidhfgdchlaaUnW
namespace Go.Proofs.Ytcebidhfgdchlaa
open Go.ChangeShapes Go.WideShapes Go.ChangeAt Go.RowKit Go.Shelf

set_option maxRecDepth 100000 in
theorem typI : ∃ i, Try.prog.info? 3 = some i ∧ i.zero = some (.int .i64 0) ∧ i.bytes = 8 ∧ i.size = 1 := ⟨_, rfl, rfl, rfl, rfl⟩
theorem app_int (w : World) (ty : TypeId) (base : Nat) (v : Value) (n : Nat) (xs : List Value) (hown : w.ownsRow base 3 1 v n xs) (x : Int) (hbd : n ≤ 100000000) (hbase : base ≤ w.heap.size) :
    ∃ g cap w', (Builtin.append_ #[36, 36] ty #[v, .slice (some ⟨w.heap.size, 0, none⟩) 1 1]).run Try.prog (w.alloc (.cells #[.int .i64 x] 3)) = .ok (.slice (some ⟨g, 0, none⟩) (n + 1) cap) w' ∧ w'.ownsRow base 3 1 (.slice (some ⟨g, 0, none⟩) (n + 1) cap) (n + 1) (xs ++ [.int .i64 x]) ∧ (w.alloc (.cells #[.int .i64 x] 3)).grownBy w' v.ownBlock ∧ (v.ownBlock = some g ∨ g = w.heap.size + 1) ∧ g < w'.heap.size := by
  obtain ⟨i, h1, h2, h3, h4⟩ := typI
  exact run_append_lies (P := Try.prog) (w.alloc (.cells #[.int .i64 x] 3)) 36 ty base 3 i _ 1 8 Try.underlying36 h1 h2 h4 h3 rfl (by decide) v n xs (hown.alloc _) ⟨w.heap.size, 0, none⟩ 1 1 [.int .i64 x] rfl
    (fun j u hu => by
      rw [Addr.add_mid]
      have hj : j = 0 := by have := (List.getElem?_eq_some_iff.1 hu).1; simp at this; omega
      subst hj
      simp at hu; subst hu
      rw [cell_of (World.alloc_heap_new w _)]; rfl)
    (fun u hu => by simp at hu; subst hu; rfl) (by decide) (by unfold maxLen; omega) (by omega) (by simp; omega) _ (by simp)


abbrev intsV (s : List Nat) : List Value := s.map fun x : Nat => .int .i64 (x : Int)
abbrev intsI (s : List Int) : List Value := s.map fun x : Int => .int .i64 x
theorem cast_at (l : List Nat) (k : Nat) : (l.map fun x : Nat => (x : Int)).getD k 0 = ((l.getD k 0 : Nat) : Int) := by
  rw [List.getD_eq_getElem?_getD, List.getD_eq_getElem?_getD, List.getElem?_map]
  cases l[k]? <;> rfl
theorem drewN_add (W : World) (a b : Nat) : (W.drewN a).drewN b = W.drewN (a + b) := by simp [World.drewN, Nat.add_assoc]
/-- A row of numbers that can be read. -/
def RowN (W : World) (v : Value) (xs : List Int) : Prop := ∃ (av : Option Addr) (cap blk off : Nat), v = .slice av xs.length cap ∧ (0 < xs.length → av = some ⟨blk, off, none⟩ ∧ blk < W.heap.size) ∧ ∀ k, k < xs.length → W.cell? ⟨blk, off + k, none⟩ = some (.int .i64 (xs.getD k 0))
theorem RowN.below {W W' : World} {v : Value} {xs : List Int} (h : RowN W v xs) (hb : Below W.heap.size W W') : RowN W' v xs := by
  obtain ⟨av, cap, blk, off, h1, h2, h3⟩ := h
  exact ⟨av, cap, blk, off, h1, fun h0 => ⟨(h2 h0).1, Nat.lt_of_lt_of_le (h2 h0).2 hb.size⟩, fun k hk => (hb.cell (p := ⟨blk, off + k, none⟩) (h2 (by omega)).2).trans (h3 k hk)⟩
abbrev castL (xs : List Nat) : List Int := xs.map fun n : Nat => (n : Int)
theorem RowN.of_owns {W : World} {base : Nat} {v : Value} {xs : List Nat} (h : W.ownsRow base 3 1 v xs.length (intsV xs)) : RowN W v (castL xs) := by
  obtain ⟨av, cap, rfl, _⟩ := owns_shape h
  by_cases h0 : 0 < xs.length
  · obtain ⟨gb, c', e, _, hlt⟩ := h.form h0
    injection e with e1 e2 e3
    subst e1
    refine ⟨_, cap, gb, 0, by rw [List.length_map], fun _ => ⟨rfl, hlt⟩, fun k hk => ?_⟩
    rw [List.length_map] at hk
    rw [Nat.zero_add, h.cellAt k (by omega), List.getElem?_map, cast_at, List.getD_eq_getElem?_getD, List.getElem?_eq_getElem hk]; rfl
  · exact ⟨av, cap, 0, 0, by rw [List.length_map], fun h => by rw [List.length_map] at h; exact absurd h h0, fun k hk => by rw [List.length_map] at hk; omega⟩
theorem RowN.of_block {W : World} {B : Nat} {xs : List Int} {n : Nat} (h : W.heap[B]? = some (.cells (xs.map (Value.int .i64)).toArray 3 (0, 0))) (hn : n = xs.length) : RowN W (.slice (some ⟨B, 0, none⟩) n n) xs := by
  subst hn
  refine ⟨_, _, B, 0, rfl, fun _ => ⟨rfl, lt_of h⟩, fun k hk => ?_⟩
  rw [cell_of h, Nat.zero_add, List.getElem?_toArray, List.getElem?_map, List.getD_eq_getElem?_getD, List.getElem?_eq_getElem hk]; rfl

set_option maxRecDepth 100000 in
set_option maxHeartbeats 1000000 in
theorem ints_same {W : World} {v1 v2 : Value} {xs : List Int} (hl : xs.length ≤ 100000000) (h1 : RowN W v1 xs) (h2 : RowN W v2 xs) :
    Calls Try.prog 20 #[v1, v2] W fun e w' => e = .returned (.bool true) ∧ ∃ q, w' = W.drewN q := by
  obtain ⟨av1, c1, b1, o1, rfl, a1, r1⟩ := h1
  obtain ⟨av2, c2, b2, o2, rfl, a2, r2⟩ := h2
  have A1 := hide a1
  have A2 := hide a2
  have R1 := hide r1
  have R2 := hide r2
  clear a1 a2 r1 r2
  generalize xs.length = n at *
  go_enter Try.func20, Try.ntmps20
  go_wp2
  go_loopw [5] (fun i wr => ∃ k q : Nat, k ≤ n ∧ i = .int .i64 k ∧ wr = W.drewN q) (fun i _ => n - (RowKit.intOf i).toNat)
  case atStart => exact ⟨0, 0, Nat.zero_le _, rfl, rfl⟩
  case round =>
    obtain ⟨k, q, hk, rfl, rfl⟩ := hrel
    by_cases hlt : k < n
    · obtain ⟨rfl, _⟩ := A1.out (by omega)
      obtain ⟨rfl, _⟩ := A2.out (by omega)
      have p0 := R1.out k hlt
      have q0 := R2.out k hlt
      generalize xs.getD k 0 = x at p0 q0
      go_wp2
      go_quiet (fail)
      go_wp2
      go_roundw
      case rel => exact ⟨k + 1, q + nq, by omega, by go_num, rfl⟩
      case measure => simp [RowKit.intOf]; omega
    · go_wp2
      go_ret
      exact ⟨rfl, q, rfl⟩

theorem RowN.of_ownsI {W : World} {base : Nat} {v : Value} {xs : List Int} (h : W.ownsRow base 3 1 v xs.length (intsI xs)) : RowN W v (xs) := by
  obtain ⟨av, cap, rfl, _⟩ := owns_shape h
  by_cases h0 : 0 < xs.length
  · obtain ⟨gb, c', e, _, hlt⟩ := h.form h0
    injection e with e1 e2 e3
    subst e1
    refine ⟨_, cap, gb, 0, rfl, fun _ => ⟨rfl, hlt⟩, fun k hk => ?_⟩
    rw [Nat.zero_add, h.cellAt k (by omega), List.getElem?_map, List.getD_eq_getElem?_getD, List.getElem?_eq_getElem hk]; rfl
  · exact ⟨av, cap, 0, 0, rfl, fun h => absurd h h0, fun k hk => by omega⟩

end Go.Proofs.Ytcebidhfgdchlaa
