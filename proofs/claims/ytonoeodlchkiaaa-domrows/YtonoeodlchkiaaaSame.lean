/-
  Rows held against one another (layer 6): contracts of Ints, Pairs, Rows, Few.
-/
import Derived.Test.YtonoeodlchkiaaaOwn
import Derived.Laws.IdiomArrays
namespace Go.Proofs.Ytonoeodlchkiaaa
open Go.ChangeShapes Go.WideShapes Go.ChangeAt Go.RowKit Go.Shelf

theorem drewN_add (W : World) (a b : Nat) : (W.drewN a).drewN b = W.drewN (a + b) := by simp [World.drewN, Nat.add_assoc]
/-- A row of numbers that can be read. -/
def RowN (W : World) (v : Value) (xs : List Int) : Prop := ∃ (av : Option Addr) (cap blk off : Nat), v = .slice av xs.length cap ∧ (0 < xs.length → av = some ⟨blk, off, none⟩ ∧ blk < W.heap.size) ∧ ∀ k, k < xs.length → W.cell? ⟨blk, off + k, none⟩ = some (.int .i64 (xs.getD k 0))
theorem RowN.below {W W' : World} {v : Value} {xs : List Int} (h : RowN W v xs) (hb : Below W.heap.size W W') : RowN W' v xs := by
  obtain ⟨av, cap, blk, off, h1, h2, h3⟩ := h
  exact ⟨av, cap, blk, off, h1, fun h0 => ⟨(h2 h0).1, Nat.lt_of_lt_of_le (h2 h0).2 hb.size⟩, fun k hk => (hb.cell (p := ⟨blk, off + k, none⟩) (h2 (by omega)).2).trans (h3 k hk)⟩
abbrev castL (xs : List Nat) : List Int := xs.map fun n : Nat => (n : Int)
theorem RowN.of_owns {W : World} {base : Nat} {v : Value} {xs : List Nat} (h : W.ownsRow base 3 1 v xs.length (intsV xs)) : RowN W v (castL xs) := by
  obtain ⟨av, cap, rfl, _⟩ := owns_shape h
  by_cases h0 : 0 < xs.length
  · obtain ⟨gb, c', e, _, hlt⟩ := h.form h0
    injection e with e1 e2 e3
    subst e1
    refine ⟨_, cap, gb, 0, by rw [List.length_map], fun _ => ⟨rfl, hlt⟩, fun k hk => ?_⟩
    rw [List.length_map] at hk
    rw [Nat.zero_add, h.cellAt k (by omega), List.getElem?_map, cast_at, List.getD_eq_getElem?_getD, List.getElem?_eq_getElem hk]; rfl
  · exact ⟨av, cap, 0, 0, by rw [List.length_map], fun h => by rw [List.length_map] at h; exact absurd h h0, fun k hk => by rw [List.length_map] at hk; omega⟩
theorem RowN.of_block {W : World} {B : Nat} {xs : List Int} {n : Nat} (h : W.heap[B]? = some (.cells (xs.map (Value.int .i64)).toArray 3 (0, 0))) (hn : n = xs.length) : RowN W (.slice (some ⟨B, 0, none⟩) n n) xs := by
  subst hn
  refine ⟨_, _, B, 0, rfl, fun _ => ⟨rfl, lt_of h⟩, fun k hk => ?_⟩
  rw [cell_of h, Nat.zero_add, List.getElem?_toArray, List.getElem?_map, List.getD_eq_getElem?_getD, List.getElem?_eq_getElem hk]; rfl

set_option maxRecDepth 100000 in
set_option maxHeartbeats 1000000 in
theorem ints_same {W : World} {v1 v2 : Value} {xs : List Int} (hl : xs.length ≤ 100000000) (h1 : RowN W v1 xs) (h2 : RowN W v2 xs) :
    Calls Try.prog 16 #[v1, v2] W fun e w' => e = .returned (.bool true) ∧ ∃ q, w' = W.drewN q := by
  obtain ⟨av1, c1, b1, o1, rfl, a1, r1⟩ := h1
  obtain ⟨av2, c2, b2, o2, rfl, a2, r2⟩ := h2
  have A1 := hide a1
  have A2 := hide a2
  have R1 := hide r1
  have R2 := hide r2
  clear a1 a2 r1 r2
  generalize xs.length = n at *
  go_enter Try.func16, Try.ntmps16
  go_wp2
  go_loopw [5] (fun i wr => ∃ k q : Nat, k ≤ n ∧ i = .int .i64 k ∧ wr = W.drewN q) (fun i _ => n - (intOf i).toNat)
  case atStart => exact ⟨0, 0, Nat.zero_le _, rfl, rfl⟩
  case round =>
    obtain ⟨k, q, hk, rfl, rfl⟩ := hrel
    by_cases hlt : k < n
    · obtain ⟨rfl, _⟩ := A1.out (by omega)
      obtain ⟨rfl, _⟩ := A2.out (by omega)
      have p0 := R1.out k hlt
      have q0 := R2.out k hlt
      generalize xs.getD k 0 = x at p0 q0
      go_wp2
      go_quiet (fail)
      go_wp2
      go_roundw
      case rel => exact ⟨k + 1, q + nq, by omega, by go_num, rfl⟩
      case measure => simp [intOf]; omega
    · go_wp2
      go_ret
      exact ⟨rfl, q, rfl⟩

def RowsN (W : World) (v : Value) (xss : List (List Int)) : Prop := ∃ (av : Option Addr) (cap blk off : Nat), v = .slice av xss.length cap ∧ (0 < xss.length → av = some ⟨blk, off, none⟩ ∧ blk < W.heap.size) ∧ ∀ k, k < xss.length → ∃ u, W.cell? ⟨blk, off + k, none⟩ = some u ∧ RowN W u (xss.getD k [])
theorem RowsN.below {W W' : World} {v : Value} {xss : List (List Int)} (h : RowsN W v xss) (hb : Below W.heap.size W W') : RowsN W' v xss := by
  obtain ⟨av, cap, blk, off, h1, h2, h3⟩ := h
  refine ⟨av, cap, blk, off, h1, fun h0 => ⟨(h2 h0).1, Nat.lt_of_lt_of_le (h2 h0).2 hb.size⟩, fun k hk => ?_⟩
  obtain ⟨u, hu, hr⟩ := h3 k hk
  exact ⟨u, (hb.cell (p := ⟨blk, off + k, none⟩) (h2 (by omega)).2).trans hu, hr.below hb⟩
theorem RowsN.of_rowsR {W : World} {base : Nat} {v : Value} {xss : List (List Nat)} (h : RowsR W base v xss) : RowsN W v (castG xss) := by
  obtain ⟨vs, h1, h2⟩ := h
  obtain ⟨av, cap, rfl, _⟩ := owns_shape h1
  by_cases h0 : 0 < xss.length
  · obtain ⟨gb, c', e, _, hlt⟩ := h1.form h0
    injection e with e1 e2 e3
    subst e1
    refine ⟨_, cap, gb, 0, by rw [castG_len], fun _ => ⟨rfl, hlt⟩, fun k hk => ?_⟩
    rw [castG_len] at hk
    obtain ⟨u, hu, ho⟩ := h2 k hk
    exact ⟨u, by rw [Nat.zero_add, h1.cellAt k (by omega)]; exact hu, by rw [castG_at]; exact RowN.of_owns ho⟩
  · exact ⟨av, cap, 0, 0, by rw [castG_len], fun h => by rw [castG_len] at h; exact absurd h h0, fun k hk => by rw [castG_len] at hk; omega⟩
theorem RowsN.of_rowsB {W : World} {base H n : Nat} {f : Nat → List Nat} (h : RowsB W base H n f) : RowsN W (.slice (some ⟨H, 0, none⟩) n n) (castG ((List.range n).map f)) := by
  obtain ⟨vs, h1, h2, h3, h4⟩ := h
  refine ⟨_, n, H, 0, by rw [castG_len]; simp, fun _ => ⟨rfl, lt_of h2⟩, fun k hk => ?_⟩
  rw [castG_len, List.length_map, List.length_range] at hk
  obtain ⟨v, hv, ho⟩ := h3 k hk
  refine ⟨v, by rw [Nat.zero_add, cell_of h2]; simpa using hv, ?_⟩
  rw [castG_at, show ((List.range n).map f).getD k [] = f k by rw [List.getD_eq_getElem?_getD]; simp [hk]]
  exact RowN.of_owns ho
theorem RowsN.of_gat {W : World} {av : Option Addr} {blk off cap : Nat} {hd : Nat → Hdr} {g : List (List Int)} (h : GAt W av blk off hd g) : RowsN W (.slice av g.length cap) g :=
  ⟨av, cap, blk, off, rfl, fun h0 => ⟨h.at_ h0, h.lt h0⟩, fun k hk => ⟨_, h.has k hk, (hd k).av, (hd k).cap, (hd k).blk, (hd k).off, rfl, fun h0 => ⟨h.rat k hk h0, h.rlt k hk h0⟩, fun j hj => h.rhas k j hk hj⟩⟩

set_option maxRecDepth 100000 in
set_option maxHeartbeats 1000000 in
theorem rows_same {W : World} {v1 v2 : Value} {xss : List (List Int)} (hl : xss.length ≤ 100000000) (hl2 : ∀ k, (xss.getD k []).length ≤ 100000000) (h1 : RowsN W v1 xss) (h2 : RowsN W v2 xss) :
    Calls Try.prog 13 #[v1, v2] W fun e w' => e = .returned (.bool true) ∧ ∃ q, w' = W.drewN q := by
  obtain ⟨av1, c1, b1, o1, rfl, a1, r1⟩ := h1
  obtain ⟨av2, c2, b2, o2, rfl, a2, r2⟩ := h2
  have A1 := hide a1
  have A2 := hide a2
  have R1 := hide r1
  have R2 := hide r2
  have L2 := hide hl2
  clear a1 a2 r1 r2 hl2
  generalize xss.length = n at *
  go_enter Try.func13, Try.ntmps13
  go_wp2
  go_loopw [5] (fun i wr => ∃ k q : Nat, k ≤ n ∧ i = .int .i64 k ∧ wr = W.drewN q) (fun i _ => n - (intOf i).toNat)
  case atStart => exact ⟨0, 0, Nat.zero_le _, rfl, rfl⟩
  case round =>
    obtain ⟨k, q, hk, rfl, rfl⟩ := hrel
    by_cases hlt : k < n
    · obtain ⟨rfl, _⟩ := A1.out (by omega)
      obtain ⟨rfl, _⟩ := A2.out (by omega)
      obtain ⟨u1, p1, n1⟩ := R1.out k hlt
      obtain ⟨u2, p2, n2⟩ := R2.out k hlt
      have HC : Hid (∀ m, Calls Try.prog 16 #[u1, u2] ((W.drewN q).drewN m) fun e w' => e = .returned (.bool true) ∧ ∃ m, w' = (W.drewN q).drewN m) := fun q' => (ints_same (W := (W.drewN q).drewN q') (L2.out k) n1 n2).mono fun e w' ⟨h1, m, h2⟩ => ⟨h1, q' + m, by rw [h2, drewN_add]⟩
      have p1' : (W.drewN q).cell? ⟨b1, o1 + k, none⟩ = some u1 := p1
      have p2' : (W.drewN q).cell? ⟨b2, o2 + k, none⟩ = some u2 := p2
      clear n1 n2 p1 p2
      generalize hX : W.drewN q = X at *
      have HX := hide hX
      clear hX
      have e1 : ((k : Int) < (n : Int)) = True := eq_true (by omega)
      go_wp2
      go_quiet ((go_at_call 16; exact HC.out _))
      go_wp2
      go_roundw
      case rel => exact ⟨k + 1, q + nq, by omega, by go_num, by rw [← HX.out, drewN_add]⟩
      case measure => simp [intOf]; omega
    · go_wp2
      go_ret
      exact ⟨rfl, q, rfl⟩

/-- Is a graph small enough to be played? -/
theorem few_is (av : Option Addr) (cap blk off : Nat) (hd : Nat → Hdr) (g : List (List Int)) (w : World) (hG : GAt w av blk off hd g) :
    Calls Try.prog 24 #[.slice av g.length cap] w fun e w' => w' = w ∧ ((e = .returned (.bool true) ∧ g.length ≤ 40 ∧ ∀ b, (g.getD b []).length ≤ 20) ∨ e = .returned (.bool false)) := by
  have HG := hide hG
  clear hG
  go_enter Try.func24, Try.ntmps24
  go_wp2
  go_loopw [3] (fun i wr => wr = w ∧ ∃ k : Nat, i = .int .i64 k ∧ k ≤ g.length ∧ k ≤ 100 ∧ ∀ b, b < k → (g.getD b []).length ≤ 20) (fun i _ => 100 - (intOf i).toNat)
  case atStart => exact ⟨rfl, 0, rfl, Nat.zero_le _, Nat.zero_le _, fun b hb => absurd hb (Nat.not_lt_zero _)⟩
  case round =>
    obtain ⟨rfl, k, rfl, hk, hk2, hall⟩ := hrel
    have HA := hide hall
    clear hall
    by_cases h1 : k < g.length
    · have e1 : ((k : Int) < (g.length : Int)) = True := eq_true (by omega)
      by_cases h2 : k < 100
      · have e2 : ((k : Int) < 100) = True := eq_true (by omega)
        obtain rfl := HG.out.at_ (by omega)
        have c1 := HG.out.has k h1
        by_cases h3 : (20 : Int) < ((g.getD k []).length : Int)
        · generalize (g.getD k []).length = n at *
          go_wp2
          go_ret
          exact ⟨rfl, .inr rfl⟩
        · have HA2 : Hid (∀ b, b < k + 1 → (g.getD b []).length ≤ 20) := fun b hb => by
            rcases Nat.lt_or_ge b k with h | h
            · exact HA.out b h
            · obtain rfl : b = k := by omega
              omega
          generalize (g.getD k []).length = n at *
          go_wp2
          go_roundw
          case rel => exact ⟨trivial, k + 1, by go_num, h1, by omega, HA2.out⟩
          case measure => simp [intOf]; omega
      · have e2 : ((k : Int) < 100) = False := eq_false (by omega)
        have e3 : ((g.length : Int) ≤ 40) = False := eq_false (by omega)
        go_wp2
        go_ret
        exact ⟨rfl, .inr rfl⟩
    · have e1 : ((k : Int) < (g.length : Int)) = False := eq_false (by omega)
      obtain rfl : k = g.length := by omega
      by_cases h4 : g.length ≤ 40
      · have e3 : ((g.length : Int) ≤ 40) = True := eq_true (by omega)
        go_wp2
        go_ret
        refine ⟨rfl, .inl ⟨rfl, h4, fun b => ?_⟩⟩
        rcases Nat.lt_or_ge b g.length with h | h
        · exact HA.out b h
        · rw [getDI_ge g b h]; exact Nat.zero_le _
      · have e3 : ((g.length : Int) ≤ 40) = False := eq_false (by omega)
        go_wp2
        go_ret
        exact ⟨rfl, .inr rfl⟩

end Go.Proofs.Ytonoeodlchkiaaa
