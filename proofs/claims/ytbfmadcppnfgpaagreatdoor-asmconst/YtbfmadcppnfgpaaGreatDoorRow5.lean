/-
  Rows of lines and of instructions (layer 5): how they lie, how they grow, whether two are alike.
-/
import Derived.Test.YtbfmadcppnfgpaaGreatDoorPlaces
import Derived.Deep.AppendSrc
import Derived.Deep.Upon
namespace Go.Proofs.YtbfmadcppnfgpaaGreatDoor
open Go.ChangeShapes Go.WideShapes Go.ChangeAt Go.RowKit

theorem owns_shape {w : World} {base : Nat} {e : TypeId} {size : Nat} {v : Value} {n : Nat} {xs : List Value} (h : w.ownsRow base e size v n xs) : ∃ av cap, v = .slice av n cap ∧ n ≤ cap ∧ cap ≤ maxLen := by
  rcases h.2 with ⟨rfl, rfl⟩ | ⟨g, cap, cur, rfl, _, _, h1, h2, _⟩
  · exact ⟨none, 0, rfl, Nat.le_refl _, Nat.zero_le _⟩
  · exact ⟨_, cap, rfl, h1, h2⟩
theorem owns_nothing {w : World} {base : Nat} {e : TypeId} {size : Nat} {v : Value} {n : Nat} {xs : List Value} (h : w.ownsRow base e size v n xs) (t ty : TypeId) (i : TypeInfo) (ht : Tryz.prog.underlying t = some (.slice e)) (hi : Tryz.prog.info? e = some i) (av : Option Addr) (cap : Nat) :
    (Builtin.append_ #[t, t] ty #[v, .slice av 0 cap]).run Tryz.prog w = .ok v w := by
  obtain ⟨bv, cp, rfl, h1, _⟩ := owns_shape h
  cases av with
  | none => exact run_append_nothing w t t ty e i ht hi bv n cp h1 _ (Src.ofNil w ht cap)
  | some a => exact run_append_nothing w t t ty e i ht hi bv n cp h1 _ (Src.ofSlice w ht a 0 cap [] (by simp) (fun j u hu => by simp at hu) (fun u hu => by cases hu))
/-- A slice of none, newly built. -/
theorem owns_empty (w : World) (base : Nat) (e : TypeId) (size : Nat) (hb : base ≤ w.heap.size) : (w.alloc (.cells #[] e)).ownsRow base e size (.slice (some ⟨w.heap.size, 0, none⟩) 0 0) 0 [] :=
  ⟨by simp, .inr ⟨w.heap.size, 0, #[], rfl, hb, World.alloc_heap_new _ _, Nat.le_refl _, Nat.zero_le _, by simp, by simp⟩⟩
theorem owns_below {w w' : World} {base : Nat} {e : TypeId} {size : Nat} {v : Value} {n : Nat} {xs : List Value} (h : w.ownsRow base e size v n xs) (hb : Below w.heap.size w w') : w'.ownsRow base e size v n xs :=
  h.kept (row := none) ⟨hb.os, hb.tape, hb.output, hb.size, fun k hk _ => hb.block k hk⟩ (by cases v.ownBlock <;> simp)
theorem grown_base {w w' : World} {base : Nat} {e : TypeId} {size : Nat} {v : Value} {n : Nat} {xs : List Value} (h : w.ownsRow base e size v n xs) (hg : w.grownBy w' v.ownBlock) (hb : base ≤ w.heap.size) : Below base w w' := Below.grown (Below.refl _ _) hg hb (fun k hk => (h.lt k hk).1)

/- Lines. -/
abbrev Ln.cl (x : Ln) : List Value := [.int .i64 x.L, .int .i64 x.o, .int .i64 x.a, .int .i64 x.b, .int .i64 x.c, .int .i64 x.i, .int .i64 x.t]
theorem lflat_len (l : List Ln) : (l.flatMap Ln.cl).length = l.length * 7 := by
  induction l with
  | nil => rfl
  | cons x r ih => rw [List.flatMap_cons, List.length_append, ih, List.length_cons]; simp; omega
theorem lflat_get : ∀ (l : List Ln) (j f : Nat) (hj : j < l.length), f < 7 → (l.flatMap Ln.cl)[j * 7 + f]? = (Ln.cl l[j])[f]?
  | x :: r, 0, f, _, hf => by rw [List.flatMap_cons, List.getElem?_append_left (by simp; omega)]; simp
  | x :: r, j + 1, f, hj, hf => by
    rw [List.flatMap_cons, List.getElem?_append_right (by simp; omega)]
    have := lflat_get r j f (by simpa using hj) hf
    rw [show (j + 1) * 7 + f - (Ln.cl x).length = j * 7 + f by simp; omega, this]; rfl
set_option maxRecDepth 100000 in
theorem typ38 : (Tryz.prog.info? 38).map (fun i => (i.zero, i.size, i.bytes)) = some (some (.agg #[.int .i64 0, .int .i64 0, .int .i64 0, .int .i64 0, .int .i64 0, .int .i64 0, .int .i64 0]), 7, 56) := by kernel_rfl
theorem append_lines (w : World) (ty : TypeId) (base : Nat) (v : Value) (n : Nat) (xs : List Value) (hown : w.ownsRow base 38 7 v n xs) (av : Option Addr) (cap blk off : Nat) (l : List Ln) (hs : IsLines w av blk off l) (hbd : n + l.length ≤ 100000000) (hbase : base ≤ w.heap.size) :
    ∃ v' w', (Builtin.append_ #[42, 42] ty #[v, .slice av l.length cap]).run Tryz.prog w = .ok v' w' ∧ w'.ownsRow base 38 7 v' (n + l.length) (xs ++ l.flatMap Ln.cl) ∧ w.grownBy w' v.ownBlock := by
  obtain ⟨i, hi, hz, hsi, hb⟩ := info_parts typ38
  by_cases h0 : 0 < l.length
  · obtain rfl := hs.at_ h0
    obtain ⟨g', cp, w', hr, h1, h2, _, _⟩ := run_append_lies (P := Tryz.prog) w 42 ty base 38 i _ 7 56 Tryz.underlying42 hi hz hsi hb rfl (by decide) v n xs hown ⟨blk, off, none⟩ l.length cap (l.flatMap Ln.cl) (lflat_len l)
      (fun j u hu => by
        rw [Addr.add_mid]
        have hj : j < l.length * 7 := by rw [← lflat_len]; exact (List.getElem?_eq_some_iff.1 hu).1
        obtain ⟨q, f, hf, rfl⟩ : ∃ q f, f < 7 ∧ j = q * 7 + f := ⟨j / 7, j % 7, by omega, by omega⟩
        rw [lflat_get l q f (by omega) hf] at hu
        obtain ⟨k0, k1, k2, k3, k4, k5, k6⟩ := hs.has q (by omega)
        have hf' : f = 0 ∨ f = 1 ∨ f = 2 ∨ f = 3 ∨ f = 4 ∨ f = 5 ∨ f = 6 := by omega
        rw [← Nat.add_assoc]
        rcases hf' with rfl | rfl | rfl | rfl | rfl | rfl | rfl
        · exact k0.trans hu
        · exact k1.trans hu
        · exact k2.trans hu
        · exact k3.trans hu
        · exact k4.trans hu
        · exact k5.trans hu
        · exact k6.trans hu)
      (fun u hu => by
        obtain ⟨x, _, hx⟩ := List.mem_flatMap.1 hu
        simp at hx
        rcases hx with rfl | rfl | rfl | rfl | rfl | rfl | rfl <;> rfl) h0 (by unfold maxLen; omega) (by omega) hbase _ rfl
    exact ⟨_, w', hr, h1, h2⟩
  · have hl : l = [] := List.length_eq_zero_iff.1 (by omega)
    subst hl
    refine ⟨v, w, owns_nothing hown 42 ty i Tryz.underlying42 hi av cap, ?_, ⟨rfl, rfl, rfl, Nat.le_refl _, fun _ _ _ => rfl⟩⟩
    simpa using hown
theorem owns_lines {w : World} {base : Nat} {v : Value} {l : List Ln} (h : w.ownsRow base 38 7 v l.length (l.flatMap Ln.cl)) : ∃ av cap blk off, v = .slice av l.length cap ∧ l.length ≤ cap ∧ IsLines w av blk off l ∧ (0 < l.length → base ≤ blk) := by
  obtain ⟨av, cap, rfl, h1, h2⟩ := owns_shape h
  by_cases h0 : 0 < l.length
  · obtain ⟨g, cp, e, hb, hlt⟩ := h.form h0
    injection e with e1 e2 e3
    subst e1
    refine ⟨_, cap, g, 0, rfl, h1, ⟨fun _ => rfl, fun _ => hlt, fun j hj => ?_⟩, fun _ => hb⟩
    have key : ∀ f, f < 7 → w.cell? ⟨g, 0 + j * 7 + f, none⟩ = (Ln.cl l[j])[f]? := fun f hf => by
      rw [← lflat_get l j f hj hf, ← h.cellAt (j * 7 + f) (by omega), Nat.zero_add]
    exact ⟨key 0 (by decide), key 1 (by decide), key 2 (by decide), key 3 (by decide), key 4 (by decide), key 5 (by decide), key 6 (by decide)⟩
  · exact ⟨av, cap, 0, 0, rfl, h1, ⟨fun h => absurd h h0, fun h => absurd h h0, fun j hj => absurd hj (by omega)⟩, fun h => absurd h h0⟩

/- Instructions. -/
structure IsIns (W : World) (av : Option Addr) (blk off : Nat) (l : List Ins) : Prop where
  at_ : 0 < l.length → av = some ⟨blk, off, none⟩
  lt : 0 < l.length → blk < W.heap.size
  has : HasInsts W blk off l
theorem IsIns.later {W W' : World} {av : Option Addr} {blk off : Nat} {l : List Ins} (h : IsIns W av blk off l) (hb : Below W.heap.size W W') : IsIns W' av blk off l :=
  ⟨h.at_, fun h0 => Nat.lt_of_lt_of_le (h.lt h0) hb.size, fun j hj => (h.has j hj).below hb (h.lt (by omega))⟩
theorem flat_len (l : List Ins) : (l.flatMap Ins.cells).length = l.length * 5 := by
  induction l with
  | nil => rfl
  | cons x r ih => rw [List.flatMap_cons, List.length_append, ih, List.length_cons]; simp; omega
theorem flat_get : ∀ (l : List Ins) (j f : Nat) (hj : j < l.length), f < 5 → (l.flatMap Ins.cells)[j * 5 + f]? = (Ins.cells l[j])[f]?
  | x :: r, 0, f, _, hf => by rw [List.flatMap_cons, List.getElem?_append_left (by simp; omega)]; simp
  | x :: r, j + 1, f, hj, hf => by
    rw [List.flatMap_cons, List.getElem?_append_right (by simp; omega)]
    have := flat_get r j f (by simpa using hj) hf
    rw [show (j + 1) * 5 + f - (Ins.cells x).length = j * 5 + f by simp; omega, this]; rfl
theorem typ32 : (Tryz.prog.info? 31).map (fun i => (i.zero, i.size, i.bytes)) = some (some (.agg #[.int .i64 0, .int .i64 0, .int .i64 0, .int .i64 0, .int .i64 0]), 5, 40) := by kernel_rfl
theorem append_row (w : World) (ty : TypeId) (base : Nat) (v : Value) (n : Nat) (xs : List Value) (hown : w.ownsRow base 31 5 v n xs) (av : Option Addr) (cap blk off : Nat) (l : List Ins) (hs : IsIns w av blk off l) (hbd : n + l.length ≤ 100000000) (hbase : base ≤ w.heap.size) :
    ∃ v' w', (Builtin.append_ #[23, 23] ty #[v, .slice av l.length cap]).run Tryz.prog w = .ok v' w' ∧ w'.ownsRow base 31 5 v' (n + l.length) (xs ++ l.flatMap Ins.cells) ∧ w.grownBy w' v.ownBlock := by
  obtain ⟨i, hi, hz, hsi, hb⟩ := info_parts typ32
  by_cases h0 : 0 < l.length
  · obtain rfl := hs.at_ h0
    obtain ⟨g', cp, w', hr, h1, h2, _, _⟩ := run_append_lies (P := Tryz.prog) w 23 ty base 31 i _ 5 40 Tryz.underlying23 hi hz hsi hb rfl (by decide) v n xs hown ⟨blk, off, none⟩ l.length cap (l.flatMap Ins.cells) (flat_len l)
      (fun j u hu => by
        rw [Addr.add_mid]
        have hj : j < l.length * 5 := by rw [← flat_len]; exact (List.getElem?_eq_some_iff.1 hu).1
        obtain ⟨q, f, hf, rfl⟩ : ∃ q f, f < 5 ∧ j = q * 5 + f := ⟨j / 5, j % 5, by omega, by omega⟩
        rw [flat_get l q f (by omega) hf] at hu
        obtain ⟨k0, k1, k2, k3, k4⟩ := hs.has q (by omega)
        have hf' : f = 0 ∨ f = 1 ∨ f = 2 ∨ f = 3 ∨ f = 4 := by omega
        rw [← Nat.add_assoc]
        rcases hf' with rfl | rfl | rfl | rfl | rfl
        · exact k0.trans hu
        · exact k1.trans hu
        · exact k2.trans hu
        · exact k3.trans hu
        · exact k4.trans hu)
      (fun u hu => by
        obtain ⟨x, _, hx⟩ := List.mem_flatMap.1 hu
        simp at hx
        rcases hx with rfl | rfl | rfl | rfl | rfl <;> rfl) h0 (by unfold maxLen; omega) (by omega) hbase _ rfl
    exact ⟨_, w', hr, h1, h2⟩
  · have hl : l = [] := List.length_eq_zero_iff.1 (by omega)
    subst hl
    refine ⟨v, w, owns_nothing hown 23 ty i Tryz.underlying23 hi av cap, ?_, ⟨rfl, rfl, rfl, Nat.le_refl _, fun _ _ _ => rfl⟩⟩
    simpa using hown
theorem owns_ins {w : World} {base : Nat} {v : Value} {l : List Ins} (h : w.ownsRow base 31 5 v l.length (l.flatMap Ins.cells)) : ∃ av cap blk off, v = .slice av l.length cap ∧ l.length ≤ cap ∧ IsIns w av blk off l := by
  obtain ⟨av, cap, rfl, h1, h2⟩ := owns_shape h
  by_cases h0 : 0 < l.length
  · obtain ⟨g, cp, e, _, hlt⟩ := h.form h0
    injection e with e1 e2 e3
    subst e1
    refine ⟨_, cap, g, 0, rfl, h1, ⟨fun _ => rfl, fun _ => hlt, fun j hj => ?_⟩⟩
    have key : ∀ f, f < 5 → w.cell? ⟨g, 0 + j * 5 + f, none⟩ = (Ins.cells l[j])[f]? := fun f hf => by
      rw [← flat_get l j f hj hf, ← h.cellAt (j * 5 + f) (by omega), Nat.zero_add]
    exact ⟨key 0 (by decide), key 1 (by decide), key 2 (by decide), key 3 (by decide), key 4 (by decide)⟩
  · exact ⟨av, cap, 0, 0, rfl, h1, ⟨fun h => absurd h h0, fun h => absurd h h0, fun j hj => absurd hj (by omega)⟩⟩

set_option maxRecDepth 100000 in
set_option maxHeartbeats 1000000 in
theorem same_rows {W : World} {av1 av2 : Option Addr} {c1 c2 b1 o1 b2 o2 : Nat} {l : List Ins} (hl : l.length ≤ 100000000) (h1 : IsIns W av1 b1 o1 l) (h2 : IsIns W av2 b2 o2 l) :
    Calls Tryz.prog 6 #[.slice av1 l.length c1, .slice av2 l.length c2] W fun e w' => e = .returned (.bool true) ∧ Below W.heap.size W w' := by
  have H1 : Hid (IsIns W av1 b1 o1 l) := h1
  have H2 : Hid (IsIns W av2 b2 o2 l) := h2
  clear h1 h2
  generalize hn : l.length = n at hl
  have HN : Hid (l.length = n) := hn
  clear hn
  go_enter Tryz.func6, Tryz.ntmps6
  go_wp2
  go_loopw [5] (fun i wr => ∃ k q : Nat, k ≤ n ∧ i = .int .i64 k ∧ wr = W.drewN q) (fun i _ => n - (intOf i).toNat)
  case atStart => exact ⟨0, 0, Nat.zero_le _, rfl, rfl⟩
  case round =>
    obtain ⟨k, q, hk, rfl, rfl⟩ := hrel
    by_cases hlt : k < n
    · have hn := HN.out
      obtain rfl := H1.out.at_ (by omega)
      obtain rfl := H2.out.at_ (by omega)
      obtain ⟨p0, p1, p2, p3, p4⟩ := H1.out.has k (by omega)
      obtain ⟨q0, q1, q2, q3, q4⟩ := H2.out.has k (by omega)
      generalize l[k]'(by omega) = x at p0 p1 p2 p3 p4 q0 q1 q2 q3 q4
      clear hn
      have hx := neqI_same x.o x.a x.b x.c x.i
      go_wp2
      go_quiet (fail)
      go_wp2
      go_roundw
      case rel => exact ⟨k + 1, q + nq, by omega, by go_num, rfl⟩
      case measure => simp [intOf]; omega
    · go_wp2
      go_ret
      exact ⟨rfl, below_drewN (Below.refl _ _) q⟩

/- Pairs. -/
theorem cellsOf3 : Tryz.prog.cellsOf 3 = 1 := by kernel_rfl
theorem under46 : Tryz.prog.underlying 49 = some (.array 2 3) := by kernel_rfl
set_option maxRecDepth 100000 in
theorem some3 : ∃ i, Tryz.prog.info? 3 = some i := ⟨_, rfl⟩
theorem part3 (xs : Array Value) (k : Nat) (x : Int) (h : xs[k]? = some (.int .i64 x)) (w : World) : (part 3 xs k).run Tryz.prog w = .ok (.int .i64 x) w := by
  obtain ⟨hk, hx⟩ := Array.getElem?_eq_some_iff.1 h
  go_simp
theorem eq3 (d : Nat) (x : Int) (w : World) : (Op.equalIn (d + 1) 3 (.int .i64 x) (.int .i64 x)).run Tryz.prog w = .ok true w := by
  simp [Op.equalIn, run_underlying Tryz.underlying3]
theorem items_same (d : Nat) (r : List Int) (w : World) : ∀ is : List Nat, (∀ i ∈ is, i < r.length) → (Op.eqItems (d + 1) 3 1 (r.map (Value.int .i64)).toArray (r.map (Value.int .i64)).toArray is).run Tryz.prog w = .ok true w
  | [], _ => by simp [Op.eqItems]
  | i :: is, h => by
    have hi : i < r.length := h i (by simp)
    have hp := part3 (r.map (Value.int .i64)).toArray i r[i] (by simp [hi]) w
    have ih := items_same d r w is (fun j hj => h j (by simp [hj]))
    have he := eq3 d r[i] w
    simp [Op.eqItems, hp, he, ih]
theorem neqP_same (x y : Int) (w : World) : (binOp .neq 49 (.agg #[.int .i64 x, .int .i64 y]) (.agg #[.int .i64 x, .int .i64 y])).run Tryz.prog w = .ok (.bool false) w := by
  obtain ⟨i, hi⟩ := some3
  rw [run_neq_struct, show (10000 : Nat) = 9999 + 1 from rfl, run_equalIn_array w 9999 _ _ under46 hi, cellsOf3, show Op.eqItems 9999 3 1 #[.int .i64 x, .int .i64 y] #[.int .i64 x, .int .i64 y] (List.range 2) = Op.eqItems (9998 + 1) 3 1 ([x, y].map (Value.int .i64)).toArray ([x, y].map (Value.int .i64)).toArray (List.range 2) from rfl, items_same 9998 [x, y] w (List.range 2) (fun i hi => by simpa using hi)]
  rfl
structure IsPairs (W : World) (av : Option Addr) (g : Nat) (l : List (Int × Int)) : Prop where
  at_ : 0 < l.length → av = some ⟨g, 0, none⟩
  lt : 0 < l.length → g < W.heap.size
  has : HasPairs W g l
theorem IsPairs.later {W W' : World} {av : Option Addr} {g : Nat} {l : List (Int × Int)} (h : IsPairs W av g l) (hb : Below W.heap.size W W') : IsPairs W' av g l :=
  ⟨h.at_, fun h0 => Nat.lt_of_lt_of_le (h.lt h0) hb.size, fun j hj => ⟨(hb.cell (p := ⟨g, j * 2, none⟩) (h.lt (by omega))).trans (h.has j hj).1, (hb.cell (p := ⟨g, j * 2 + 1, none⟩) (h.lt (by omega))).trans (h.has j hj).2⟩⟩

set_option maxRecDepth 100000 in
set_option maxHeartbeats 1000000 in
theorem same_pairs {W : World} {av1 av2 : Option Addr} {c1 c2 b1 b2 : Nat} {l : List (Int × Int)} (hl : l.length ≤ 100000000) (h1 : IsPairs W av1 b1 l) (h2 : IsPairs W av2 b2 l) :
    Calls Tryz.prog 17 #[.slice av1 l.length c1, .slice av2 l.length c2] W fun e w' => e = .returned (.bool true) ∧ Below W.heap.size W w' := by
  have H1 : Hid (IsPairs W av1 b1 l) := h1
  have H2 : Hid (IsPairs W av2 b2 l) := h2
  clear h1 h2
  generalize hn : l.length = n at hl
  have HN : Hid (l.length = n) := hn
  clear hn
  go_enter Tryz.func17, Tryz.ntmps17
  go_wp2
  go_loopw [5] (fun i wr => ∃ k q : Nat, k ≤ n ∧ i = .int .i64 k ∧ wr = W.drewN q) (fun i _ => n - (intOf i).toNat)
  case atStart => exact ⟨0, 0, Nat.zero_le _, rfl, rfl⟩
  case round =>
    obtain ⟨k, q, hk, rfl, rfl⟩ := hrel
    by_cases hlt : k < n
    · have hn := HN.out
      obtain rfl := H1.out.at_ (by omega)
      obtain rfl := H2.out.at_ (by omega)
      obtain ⟨p0, p1⟩ := H1.out.has k (by omega)
      obtain ⟨q0, q1⟩ := H2.out.has k (by omega)
      generalize l[k]'(by omega) = x at p0 p1 q0 q1
      clear hn
      have hx := neqP_same x.1 x.2
      go_wp2
      go_quiet (fail)
      go_wp2
      go_roundw
      case rel => exact ⟨k + 1, q + nq, by omega, by go_num, rfl⟩
      case measure => simp [intOf]; omega
    · go_wp2
      go_ret
      exact ⟨rfl, below_drewN (Below.refl _ _) q⟩

/- New blocks. -/
theorem new_ins (w : World) (l : List Ins) : IsIns (w.alloc (.cells (l.flatMap Ins.cells).toArray 31)) (some ⟨w.heap.size, 0, none⟩) w.heap.size 0 l := by
  refine ⟨fun _ => rfl, fun _ => by simp, fun j hj => ?_⟩
  have key : ∀ f, f < 5 → (w.alloc (.cells (l.flatMap Ins.cells).toArray 31)).cell? ⟨w.heap.size, 0 + j * 5 + f, none⟩ = (Ins.cells l[j])[f]? := fun f hf => by
    rw [← flat_get l j f hj hf, World.cell?_alloc_new, List.getElem?_toArray, Nat.zero_add]
  exact ⟨key 0 (by decide), key 1 (by decide), key 2 (by decide), key 3 (by decide), key 4 (by decide)⟩
theorem new_lines (w : World) (l : List Ln) : IsLines (w.alloc (.cells (l.flatMap Ln.cl).toArray 38)) (some ⟨w.heap.size, 0, none⟩) w.heap.size 0 l := by
  refine ⟨fun _ => rfl, fun _ => by simp, fun j hj => ?_⟩
  have key : ∀ f, f < 7 → (w.alloc (.cells (l.flatMap Ln.cl).toArray 38)).cell? ⟨w.heap.size, 0 + j * 7 + f, none⟩ = (Ln.cl l[j])[f]? := fun f hf => by
    rw [← lflat_get l j f hj hf, World.cell?_alloc_new, List.getElem?_toArray, Nat.zero_add]
  exact ⟨key 0 (by decide), key 1 (by decide), key 2 (by decide), key 3 (by decide), key 4 (by decide), key 5 (by decide), key 6 (by decide)⟩
theorem new_lines_own (w : World) (base : Nat) (l : List Ln) (hl : l.length ≤ 1000000) (hb : base ≤ w.heap.size) : (w.alloc (.cells (l.flatMap Ln.cl).toArray 38)).ownsRow base 38 7 (.slice (some ⟨w.heap.size, 0, none⟩) l.length l.length) l.length (l.flatMap Ln.cl) :=
  ⟨lflat_len l, .inr ⟨w.heap.size, l.length, _, rfl, hb, World.alloc_heap_new _ _, Nat.le_refl _, by unfold maxLen; omega, by rw [List.size_toArray, lflat_len], by rw [List.take_of_length_le]; rw [lflat_len]; exact Nat.le_refl _⟩⟩
theorem new_pairs (w : World) (l : List (Int × Int)) : IsPairs (w.alloc (.cells (l.flatMap pcells).toArray 49)) (some ⟨w.heap.size, 0, none⟩) w.heap.size l := by
  refine ⟨fun _ => rfl, fun _ => by simp, fun j hj => ?_⟩
  have key : ∀ f, f < 2 → (w.alloc (.cells (l.flatMap pcells).toArray 49)).cell? ⟨w.heap.size, j * 2 + f, none⟩ = (pcells l[j])[f]? := fun f hf => by
    rw [← pflat_get l j f hj hf, World.cell?_alloc_new, List.getElem?_toArray]
  exact ⟨key 0 (by decide), key 1 (by decide)⟩

end Go.Proofs.YtbfmadcppnfgpaaGreatDoor
