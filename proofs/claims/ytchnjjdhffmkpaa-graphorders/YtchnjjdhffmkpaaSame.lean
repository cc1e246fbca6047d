/-
  Rows held against one another (layer 6): contracts of Ints, Pairs, Rows, Few.
-/
import Derived.Test.YtchnjjdhffmkpaaLoops
import Derived.Laws.IdiomArrays
namespace Go.Proofs.Ytchnjjdhffmkpaa
open Go.ChangeShapes Go.WideShapes Go.ChangeAt Go.RowKit Go.Shelf

theorem drewN_add (W : World) (a b : Nat) : (W.drewN a).drewN b = W.drewN (a + b) := by simp [World.drewN, Nat.add_assoc]
/-- A row of numbers that can be read. -/
def RowN (W : World) (v : Value) (xs : List Int) : Prop := ∃ (av : Option Addr) (cap blk off : Nat), v = .slice av xs.length cap ∧ (0 < xs.length → av = some ⟨blk, off, none⟩ ∧ blk < W.heap.size) ∧ ∀ k, k < xs.length → W.cell? ⟨blk, off + k, none⟩ = some (.int .i64 (xs.getD k 0))
theorem RowN.below {W W' : World} {v : Value} {xs : List Int} (h : RowN W v xs) (hb : Below W.heap.size W W') : RowN W' v xs := by
  obtain ⟨av, cap, blk, off, h1, h2, h3⟩ := h
  exact ⟨av, cap, blk, off, h1, fun h0 => ⟨(h2 h0).1, Nat.lt_of_lt_of_le (h2 h0).2 hb.size⟩, fun k hk => (hb.cell (p := ⟨blk, off + k, none⟩) (h2 (by omega)).2).trans (h3 k hk)⟩
abbrev castL (xs : List Nat) : List Int := xs.map fun n : Nat => (n : Int)
theorem RowN.of_owns {W : World} {base : Nat} {v : Value} {xs : List Nat} (h : W.ownsRow base 3 1 v xs.length (intsV xs)) : RowN W v (castL xs) := by
  obtain ⟨av, cap, rfl, _⟩ := owns_shape h
  by_cases h0 : 0 < xs.length
  · obtain ⟨gb, c', e, _, hlt⟩ := h.form h0
    injection e with e1 e2 e3
    subst e1
    refine ⟨_, cap, gb, 0, by rw [List.length_map], fun _ => ⟨rfl, hlt⟩, fun k hk => ?_⟩
    rw [List.length_map] at hk
    rw [Nat.zero_add, h.cellAt k (by omega), List.getElem?_map, cast_at, List.getD_eq_getElem?_getD, List.getElem?_eq_getElem hk]; rfl
  · exact ⟨av, cap, 0, 0, by rw [List.length_map], fun h => by rw [List.length_map] at h; exact absurd h h0, fun k hk => by rw [List.length_map] at hk; omega⟩
theorem RowN.of_block {W : World} {B : Nat} {xs : List Int} {n : Nat} (h : W.heap[B]? = some (.cells (xs.map (Value.int .i64)).toArray 3 (0, 0))) (hn : n = xs.length) : RowN W (.slice (some ⟨B, 0, none⟩) n n) xs := by
  subst hn
  refine ⟨_, _, B, 0, rfl, fun _ => ⟨rfl, lt_of h⟩, fun k hk => ?_⟩
  rw [cell_of h, Nat.zero_add, List.getElem?_toArray, List.getElem?_map, List.getD_eq_getElem?_getD, List.getElem?_eq_getElem hk]; rfl

set_option maxRecDepth 100000 in
set_option maxHeartbeats 1000000 in
theorem ints_same {W : World} {v1 v2 : Value} {xs : List Int} (hl : xs.length ≤ 100000000) (h1 : RowN W v1 xs) (h2 : RowN W v2 xs) :
    Calls Try.prog 23 #[v1, v2] W fun e w' => e = .returned (.bool true) ∧ ∃ q, w' = W.drewN q := by
  obtain ⟨av1, c1, b1, o1, rfl, a1, r1⟩ := h1
  obtain ⟨av2, c2, b2, o2, rfl, a2, r2⟩ := h2
  have A1 := hide a1
  have A2 := hide a2
  have R1 := hide r1
  have R2 := hide r2
  clear a1 a2 r1 r2
  generalize xs.length = n at *
  go_enter Try.func23, Try.ntmps23
  go_wp2
  go_loopw [5] (fun i wr => ∃ k q : Nat, k ≤ n ∧ i = .int .i64 k ∧ wr = W.drewN q) (fun i _ => n - (intOf i).toNat)
  case atStart => exact ⟨0, 0, Nat.zero_le _, rfl, rfl⟩
  case round =>
    obtain ⟨k, q, hk, rfl, rfl⟩ := hrel
    by_cases hlt : k < n
    · obtain ⟨rfl, _⟩ := A1.out (by omega)
      obtain ⟨rfl, _⟩ := A2.out (by omega)
      have p0 := R1.out k hlt
      have q0 := R2.out k hlt
      generalize xs.getD k 0 = x at p0 q0
      go_wp2
      go_quiet (fail)
      go_wp2
      go_roundw
      case rel => exact ⟨k + 1, q + nq, by omega, by go_num, rfl⟩
      case measure => simp [intOf]; omega
    · go_wp2
      go_ret
      exact ⟨rfl, q, rfl⟩

/- Pairs. -/
theorem cellsOf3 : Try.prog.cellsOf 3 = 1 := by kernel_rfl
theorem under37 : Try.prog.underlying 37 = some (.array 2 3) := by kernel_rfl
theorem part3 (xs : Array Value) (k : Nat) (x : Int) (h : xs[k]? = some (.int .i64 x)) (w : World) : (part 3 xs k).run Try.prog w = .ok (.int .i64 x) w := by
  obtain ⟨hk, hx⟩ := Array.getElem?_eq_some_iff.1 h
  go_simp
theorem eq3 (d : Nat) (x : Int) (w : World) : (Op.equalIn (d + 1) 3 (.int .i64 x) (.int .i64 x)).run Try.prog w = .ok true w := by
  simp [Op.equalIn, run_underlying Try.underlying3]
theorem items_same (d : Nat) (r : List Int) (w : World) : ∀ is : List Nat, (∀ i ∈ is, i < r.length) → (Op.eqItems (d + 1) 3 1 (r.map (Value.int .i64)).toArray (r.map (Value.int .i64)).toArray is).run Try.prog w = .ok true w
  | [], _ => by simp [Op.eqItems]
  | i :: is, h => by
    have hi : i < r.length := h i (by simp)
    have hp := part3 (r.map (Value.int .i64)).toArray i r[i] (by simp [hi]) w
    have ih := items_same d r w is (fun j hj => h j (by simp [hj]))
    have he := eq3 d r[i] w
    simp [Op.eqItems, hp, he, ih]
theorem neqP_same (x y : Int) (w : World) : (binOp .neq 37 (.agg #[.int .i64 x, .int .i64 y]) (.agg #[.int .i64 x, .int .i64 y])).run Try.prog w = .ok (.bool false) w := by
  obtain ⟨i, hi, _⟩ := typI
  rw [run_neq_struct, show (10000 : Nat) = 9999 + 1 from rfl, run_equalIn_array w 9999 _ _ under37 hi, cellsOf3, show Op.eqItems 9999 3 1 #[.int .i64 x, .int .i64 y] #[.int .i64 x, .int .i64 y] (List.range 2) = Op.eqItems (9998 + 1) 3 1 ([x, y].map (Value.int .i64)).toArray ([x, y].map (Value.int .i64)).toArray (List.range 2) from rfl, items_same 9998 [x, y] w (List.range 2) (fun i hi => by simpa using hi)]
  rfl
def PairN (W : World) (v : Value) (l : List (Nat × Nat)) : Prop := ∃ (av : Option Addr) (cap blk : Nat), v = .slice av l.length cap ∧ (0 < l.length → av = some ⟨blk, 0, none⟩ ∧ blk < W.heap.size) ∧ ∀ k, k < l.length → W.cell? ⟨blk, k * 2, none⟩ = some (.int .i64 ((l.getD k (0, 0)).1 : Int)) ∧ W.cell? ⟨blk, k * 2 + 1, none⟩ = some (.int .i64 ((l.getD k (0, 0)).2 : Int))
theorem PairN.below {W W' : World} {v : Value} {xs : List (Nat × Nat)} (h : PairN W v xs) (hb : Below W.heap.size W W') : PairN W' v xs := by
  obtain ⟨av, cap, blk, h1, h2, h3⟩ := h
  exact ⟨av, cap, blk, h1, fun h0 => ⟨(h2 h0).1, Nat.lt_of_lt_of_le (h2 h0).2 hb.size⟩, fun k hk => ⟨(hb.cell (p := ⟨blk, k * 2, none⟩) (h2 (by omega)).2).trans (h3 k hk).1, (hb.cell (p := ⟨blk, k * 2 + 1, none⟩) (h2 (by omega)).2).trans (h3 k hk).2⟩⟩
theorem PairN.of_owns {W : World} {base : Nat} {v : Value} {l : List (Nat × Nat)} (h : W.ownsRow base 37 2 v l.length (pairsV l)) : PairN W v l := by
  obtain ⟨av, cap, rfl, _⟩ := owns_shape h
  by_cases h0 : 0 < l.length
  · obtain ⟨gb, c', e, _, hlt⟩ := h.form h0
    injection e with e1 e2 e3
    subst e1
    refine ⟨_, cap, gb, rfl, fun _ => ⟨rfl, hlt⟩, fun k hk => ?_⟩
    obtain ⟨p1, p2⟩ := pairs_at l k hk
    exact ⟨(h.cellAt _ (by omega)).trans p1, (h.cellAt _ (by omega)).trans p2⟩
  · exact ⟨av, cap, 0, rfl, fun h => absurd h h0, fun k hk => absurd hk (by omega)⟩

set_option maxRecDepth 100000 in
set_option maxHeartbeats 1000000 in
theorem pairs_same {W : World} {v1 v2 : Value} {l : List (Nat × Nat)} (hl : l.length ≤ 100000000) (h1 : PairN W v1 l) (h2 : PairN W v2 l) :
    Calls Try.prog 20 #[v1, v2] W fun e w' => e = .returned (.bool true) ∧ ∃ q, w' = W.drewN q := by
  obtain ⟨av1, c1, b1, rfl, a1, r1⟩ := h1
  obtain ⟨av2, c2, b2, rfl, a2, r2⟩ := h2
  have A1 := hide a1
  have A2 := hide a2
  have R1 := hide r1
  have R2 := hide r2
  clear a1 a2 r1 r2
  generalize l.length = n at *
  go_enter Try.func20, Try.ntmps20
  go_wp2
  go_loopw [5] (fun i wr => ∃ k q : Nat, k ≤ n ∧ i = .int .i64 k ∧ wr = W.drewN q) (fun i _ => n - (intOf i).toNat)
  case atStart => exact ⟨0, 0, Nat.zero_le _, rfl, rfl⟩
  case round =>
    obtain ⟨k, q, hk, rfl, rfl⟩ := hrel
    by_cases hlt : k < n
    · obtain ⟨rfl, _⟩ := A1.out (by omega)
      obtain ⟨rfl, _⟩ := A2.out (by omega)
      obtain ⟨p0, p1⟩ := R1.out k hlt
      obtain ⟨q0, q1⟩ := R2.out k hlt
      generalize l.getD k (0, 0) = x at p0 p1 q0 q1
      have hx := neqP_same x.1 x.2
      go_wp2
      go_quiet (fail)
      go_wp2
      go_roundw
      case rel => exact ⟨k + 1, q + nq, by omega, by go_num, rfl⟩
      case measure => simp [intOf]; omega
    · go_wp2
      go_ret
      exact ⟨rfl, q, rfl⟩

/- Rows of rows. -/
def RowsN (W : World) (v : Value) (xss : List (List Int)) : Prop := ∃ (av : Option Addr) (cap blk off : Nat), v = .slice av xss.length cap ∧ (0 < xss.length → av = some ⟨blk, off, none⟩ ∧ blk < W.heap.size) ∧ ∀ k, k < xss.length → ∃ u, W.cell? ⟨blk, off + k, none⟩ = some u ∧ RowN W u (xss.getD k [])
theorem RowsN.below {W W' : World} {v : Value} {xss : List (List Int)} (h : RowsN W v xss) (hb : Below W.heap.size W W') : RowsN W' v xss := by
  obtain ⟨av, cap, blk, off, h1, h2, h3⟩ := h
  refine ⟨av, cap, blk, off, h1, fun h0 => ⟨(h2 h0).1, Nat.lt_of_lt_of_le (h2 h0).2 hb.size⟩, fun k hk => ?_⟩
  obtain ⟨u, hu, hr⟩ := h3 k hk
  exact ⟨u, (hb.cell (p := ⟨blk, off + k, none⟩) (h2 (by omega)).2).trans hu, hr.below hb⟩
theorem RowsN.of_rowsR {W : World} {base : Nat} {v : Value} {xss : List (List Nat)} (h : RowsR W base v xss) : RowsN W v (castG xss) := by
  obtain ⟨vs, h1, h2⟩ := h
  obtain ⟨av, cap, rfl, _⟩ := owns_shape h1
  by_cases h0 : 0 < xss.length
  · obtain ⟨gb, c', e, _, hlt⟩ := h1.form h0
    injection e with e1 e2 e3
    subst e1
    refine ⟨_, cap, gb, 0, by rw [castG_len], fun _ => ⟨rfl, hlt⟩, fun k hk => ?_⟩
    rw [castG_len] at hk
    obtain ⟨u, hu, ho⟩ := h2 k hk
    exact ⟨u, by rw [Nat.zero_add, h1.cellAt k (by omega)]; exact hu, by rw [castG_at]; exact RowN.of_owns ho⟩
  · exact ⟨av, cap, 0, 0, by rw [castG_len], fun h => by rw [castG_len] at h; exact absurd h h0, fun k hk => by rw [castG_len] at hk; omega⟩
theorem RowsN.of_rowsB {W : World} {base H n : Nat} {f : Nat → List Nat} (h : RowsB W base H n f) : RowsN W (.slice (some ⟨H, 0, none⟩) n n) (castG ((List.range n).map f)) := by
  obtain ⟨vs, h1, h2, h3, h4⟩ := h
  refine ⟨_, n, H, 0, by rw [castG_len]; simp, fun _ => ⟨rfl, lt_of h2⟩, fun k hk => ?_⟩
  rw [castG_len, List.length_map, List.length_range] at hk
  obtain ⟨v, hv, ho⟩ := h3 k hk
  refine ⟨v, by rw [Nat.zero_add, cell_of h2]; simpa using hv, ?_⟩
  rw [castG_at, show ((List.range n).map f).getD k [] = f k by rw [List.getD_eq_getElem?_getD]; simp [hk]]
  exact RowN.of_owns ho
theorem RowsN.of_gat {W : World} {av : Option Addr} {blk off cap : Nat} {hd : Nat → Hdr} {g : List (List Int)} (h : GAt W av blk off hd g) : RowsN W (.slice av g.length cap) g :=
  ⟨av, cap, blk, off, rfl, fun h0 => ⟨h.at_ h0, h.lt h0⟩, fun k hk => ⟨_, h.has k hk, (hd k).av, (hd k).cap, (hd k).blk, (hd k).off, rfl, fun h0 => ⟨h.rat k hk h0, h.rlt k hk h0⟩, fun j hj => h.rhas k j hk hj⟩⟩

set_option maxRecDepth 100000 in
set_option maxHeartbeats 1000000 in
theorem rows_same {W : World} {v1 v2 : Value} {xss : List (List Int)} (hl : xss.length ≤ 100000000) (hl2 : ∀ k, (xss.getD k []).length ≤ 100000000) (h1 : RowsN W v1 xss) (h2 : RowsN W v2 xss) :
    Calls Try.prog 13 #[v1, v2] W fun e w' => e = .returned (.bool true) ∧ ∃ q, w' = W.drewN q := by
  obtain ⟨av1, c1, b1, o1, rfl, a1, r1⟩ := h1
  obtain ⟨av2, c2, b2, o2, rfl, a2, r2⟩ := h2
  have A1 := hide a1
  have A2 := hide a2
  have R1 := hide r1
  have R2 := hide r2
  have L2 := hide hl2
  clear a1 a2 r1 r2 hl2
  generalize xss.length = n at *
  go_enter Try.func13, Try.ntmps13
  go_wp2
  go_loopw [5] (fun i wr => ∃ k q : Nat, k ≤ n ∧ i = .int .i64 k ∧ wr = W.drewN q) (fun i _ => n - (intOf i).toNat)
  case atStart => exact ⟨0, 0, Nat.zero_le _, rfl, rfl⟩
  case round =>
    obtain ⟨k, q, hk, rfl, rfl⟩ := hrel
    by_cases hlt : k < n
    · obtain ⟨rfl, _⟩ := A1.out (by omega)
      obtain ⟨rfl, _⟩ := A2.out (by omega)
      obtain ⟨u1, p1, n1⟩ := R1.out k hlt
      obtain ⟨u2, p2, n2⟩ := R2.out k hlt
      have HC : Hid (∀ m, Calls Try.prog 23 #[u1, u2] ((W.drewN q).drewN m) fun e w' => e = .returned (.bool true) ∧ ∃ m, w' = (W.drewN q).drewN m) := fun q' => (ints_same (W := (W.drewN q).drewN q') (L2.out k) n1 n2).mono fun e w' ⟨h1, m, h2⟩ => ⟨h1, q' + m, by rw [h2, drewN_add]⟩
      have p1' : (W.drewN q).cell? ⟨b1, o1 + k, none⟩ = some u1 := p1
      have p2' : (W.drewN q).cell? ⟨b2, o2 + k, none⟩ = some u2 := p2
      clear n1 n2 p1 p2
      generalize hX : W.drewN q = X at *
      have HX := hide hX
      clear hX
      have e1 : ((k : Int) < (n : Int)) = True := eq_true (by omega)
      go_wp2
      go_quiet ((go_at_call 23; exact HC.out _))
      go_wp2
      go_roundw
      case rel => exact ⟨k + 1, q + nq, by omega, by go_num, by rw [← HX.out, drewN_add]⟩
      case measure => simp [intOf]; omega
    · go_wp2
      go_ret
      exact ⟨rfl, q, rfl⟩

/-- Is a graph small enough to be played? -/
theorem few_is (av : Option Addr) (cap blk off : Nat) (hd : Nat → Hdr) (g : List (List Int)) (w : World) (hG : GAt w av blk off hd g) :
    Calls Try.prog 10 #[.slice av g.length cap] w fun e w' => w' = w ∧ ((e = .returned (.bool true) ∧ g.length ≤ 40 ∧ ∀ b, (g.getD b []).length ≤ 20) ∨ e = .returned (.bool false)) := by
  have HG := hide hG
  clear hG
  go_enter Try.func10, Try.ntmps10
  go_wp2
  go_loopw [3] (fun i wr => wr = w ∧ ∃ k : Nat, i = .int .i64 k ∧ k ≤ g.length ∧ k ≤ 100 ∧ ∀ b, b < k → (g.getD b []).length ≤ 20) (fun i _ => 100 - (intOf i).toNat)
  case atStart => exact ⟨rfl, 0, rfl, Nat.zero_le _, Nat.zero_le _, fun b hb => absurd hb (Nat.not_lt_zero _)⟩
  case round =>
    obtain ⟨rfl, k, rfl, hk, hk2, hall⟩ := hrel
    have HA := hide hall
    clear hall
    by_cases h1 : k < g.length
    · have e1 : ((k : Int) < (g.length : Int)) = True := eq_true (by omega)
      by_cases h2 : k < 100
      · have e2 : ((k : Int) < 100) = True := eq_true (by omega)
        obtain rfl := HG.out.at_ (by omega)
        have c1 := HG.out.has k h1
        by_cases h3 : (20 : Int) < ((g.getD k []).length : Int)
        · generalize (g.getD k []).length = n at *
          go_wp2
          go_ret
          exact ⟨rfl, .inr rfl⟩
        · have HA2 : Hid (∀ b, b < k + 1 → (g.getD b []).length ≤ 20) := fun b hb => by
            rcases Nat.lt_or_ge b k with h | h
            · exact HA.out b h
            · obtain rfl : b = k := by omega
              omega
          generalize (g.getD k []).length = n at *
          go_wp2
          go_roundw
          case rel => exact ⟨trivial, k + 1, by go_num, h1, by omega, HA2.out⟩
          case measure => simp [intOf]; omega
      · have e2 : ((k : Int) < 100) = False := eq_false (by omega)
        have e3 : ((g.length : Int) ≤ 40) = False := eq_false (by omega)
        go_wp2
        go_ret
        exact ⟨rfl, .inr rfl⟩
    · have e1 : ((k : Int) < (g.length : Int)) = False := eq_false (by omega)
      obtain rfl : k = g.length := by omega
      by_cases h4 : g.length ≤ 40
      · have e3 : ((g.length : Int) ≤ 40) = True := eq_true (by omega)
        go_wp2
        go_ret
        refine ⟨rfl, .inl ⟨rfl, h4, fun b => ?_⟩⟩
        rcases Nat.lt_or_ge b g.length with h | h
        · exact HA.out b h
        · rw [getDI_ge g b h]; exact Nat.zero_le _
      · have e3 : ((g.length : Int) ≤ 40) = False := eq_false (by omega)
        go_wp2
        go_ret
        exact ⟨rfl, .inr rfl⟩

end Go.Proofs.Ytchnjjdhffmkpaa
