/-
  The document's own Copy (layer 6): rows of any numbers, appended; its contract.
-/
import Derived.Test.YtonoeodlchkiaaaRfA
import Derived.Deep.AppendSrc
import Derived.Deep.Upon
namespace Go.Proofs.Ytonoeodlchkiaaa
open Go.ChangeShapes Go.WideShapes Go.ChangeAt Go.RowKit Go.Shelf

abbrev intsI (s : List Int) : List Value := s.map fun x : Int => .int .i64 x
/-- A row of rows, each its own. -/
def RowsI (W : World) (base : Nat) (v : Value) (xss : List (List Int)) : Prop := ∃ vs : List Value, W.ownsRow base 25 1 v xss.length vs ∧ ∀ i, i < xss.length → ∃ u, vs[i]? = some u ∧ W.ownsRow base 3 1 u (xss.getD i []).length (intsI (xss.getD i []))
theorem RowsI.turns {W W' : World} {base : Nat} {v : Value} {xss : List (List Int)} {Q : Nat → Prop} (h : RowsI W base v xss) (ht : Turns Q W W') (hq : ∀ b, base ≤ b → b < W.heap.size → ¬ Q b) : RowsI W' base v xss := by
  obtain ⟨vs, h1, h2⟩ := h
  refine ⟨vs, owns_turns h1 ht (fun b hb => hq b (h1.lt b hb).1 (h1.lt b hb).2), fun i hi => ?_⟩
  obtain ⟨u, hu, ho⟩ := h2 i hi
  exact ⟨u, hu, owns_turns ho ht (fun b hb => hq b (ho.lt b hb).1 (ho.lt b hb).2)⟩
/-- One row more. -/
theorem rowsI_step {W : World} {base : Nat} {v : Value} {xss : List (List Int)} (h : RowsI W base v xss) (ty : TypeId) (u : Value) (xs : List Int) (hu : W.ownsRow base 3 1 u xs.length (intsI xs)) (hl : xss.length ≤ 100000000) (hbase : base ≤ W.heap.size) :
    ∃ g cap w', (Builtin.append_ #[22, 22] ty #[v, .slice (some ⟨W.heap.size, 0, none⟩) 1 1]).run Try.prog (W.alloc (.cells #[u] 25)) = .ok (.slice (some ⟨g, 0, none⟩) (xss.length + 1) cap) w' ∧ Turns (fun b => base ≤ b) W w' ∧ RowsI w' base (.slice (some ⟨g, 0, none⟩) (xss.length + 1) cap) (xss ++ [xs]) := by
  obtain ⟨vs, h1, h2⟩ := h
  have hu1 : u.oneCell' = true := by obtain ⟨av, cap, rfl, _⟩ := owns_shape hu; rfl
  obtain ⟨g, cap, w', hap, ho, hgb, hat, hlt⟩ := app_row W ty base v xss.length vs h1 u hu1 hl hbase
  have hT := grown_turns h1 hgb
  have hTv : Turns (fun b => v.ownBlock = some b) W w' := by
    have hsz := hgb.size
    rw [World.size_alloc] at hsz
    exact ⟨hgb.os, hgb.tape, hgb.output, by omega, fun b hb hq => (hgb.block b (by simp; omega) (fun e => hq e.symm)).trans (Below.heap_alloc _ _ _ hb)⟩
  have keep : ∀ (x : Value) (ys : List Int), W.ownsRow base 3 1 x ys.length (intsI ys) → w'.ownsRow base 3 1 x ys.length (intsI ys) := fun x ys hx => by
    refine owns_turns hx hTv (fun b hb hq => ?_)
    rcases hx.2 with ⟨rfl, _⟩ | ⟨g1, c1, cur1, rfl, _, e1, _⟩
    · cases hb
    · rcases h1.2 with ⟨rfl, _⟩ | ⟨g2, c2, cur2, rfl, _, e2, _⟩
      · cases hq
      · have a1 : g1 = b := by simpa [Value.ownBlock] using hb
        have a2 : g2 = b := by simpa [Value.ownBlock] using hq
        subst a1; subst a2
        rw [e1] at e2
        injection e2 with e2
        injection e2 with e2 e3
        exact absurd e3 (by decide)
  have hvl : vs.length = xss.length := by have := h1.1; omega
  refine ⟨g, cap, w', hap, hT, vs ++ [u], by rw [List.length_append]; exact ho, fun i hi => ?_⟩
  rw [List.length_append, List.length_singleton] at hi
  by_cases hil : i < xss.length
  · obtain ⟨x, hx, hox⟩ := h2 i hil
    refine ⟨x, by rw [List.getElem?_append_left (by omega)]; exact hx, ?_⟩
    rw [show (xss ++ [xs]).getD i [] = xss.getD i [] by rw [List.getD_eq_getElem?_getD, List.getD_eq_getElem?_getD, List.getElem?_append_left hil]]
    exact keep x _ hox
  · obtain rfl : i = xss.length := by omega
    refine ⟨u, by rw [List.getElem?_append_right (by omega)]; simp [hvl], ?_⟩
    rw [show (xss ++ [xs]).getD xss.length [] = xs by rw [List.getD_eq_getElem?_getD, List.getElem?_append_right (Nat.le_refl _)]; simp]
    exact keep u xs hu
/-- Rows that were appended are a graph. -/
theorem RowsI.gat {W : World} {base : Nat} {v : Value} {p : List (List Int)} (h : RowsI W base v p) : ∃ av cap blk hd, v = .slice av p.length cap ∧ GAt W av blk 0 hd (p) := by
  obtain ⟨vs, h1, h2⟩ := h
  obtain ⟨av, cap, rfl, _⟩ := owns_shape h1
  by_cases hp : 0 < p.length
  · obtain ⟨H, c', e, _, hH⟩ := h1.form hp
    injection e with e1 e2 e3
    subst e1
    have each : ∀ t, ∃ x : Hdr, t < p.length → (W.cell? ⟨H, 0 + t, none⟩ = some (.slice x.av (p.getD t []).length x.cap) ∧ (0 < (p.getD t []).length → x.av = some ⟨x.blk, x.off, none⟩ ∧ x.blk < W.heap.size) ∧ (p.getD t []).length ≤ x.cap ∧ ∀ k, k < (p.getD t []).length → W.cell? ⟨x.blk, x.off + k, none⟩ = some (.int .i64 ((p.getD t []).getD k 0))) := by
      intro t
      by_cases ht : t < p.length
      · obtain ⟨v, hv, ho⟩ := h2 t ht
        obtain ⟨av, cap, rfl, hc⟩ := owns_shape ho
        have hcell : W.cell? ⟨H, 0 + t, none⟩ = some (.slice av (p.getD t []).length cap) := by rw [Nat.zero_add, h1.cellAt t (by omega)]; exact hv
        by_cases h0 : 0 < (p.getD t []).length
        · obtain ⟨gb, cap', e, hb, hlt⟩ := ho.form h0
          injection e with e1 e2 e3
          subst e1
          refine ⟨⟨some ⟨gb, 0, none⟩, cap, gb, 0⟩, fun _ => ⟨hcell, fun _ => ⟨rfl, hlt⟩, hc, fun k hk => ?_⟩⟩
          show W.cell? ⟨gb, 0 + k, none⟩ = _
          rw [Nat.zero_add, ho.cellAt k (by omega), List.getElem?_map, List.getD_eq_getElem?_getD (l := p.getD t []), List.getElem?_eq_getElem hk]; rfl
        · exact ⟨⟨av, cap, 0, 0⟩, fun _ => ⟨hcell, fun h => absurd h h0, hc, fun k hk => absurd hk (by omega)⟩⟩
      · exact ⟨⟨none, 0, 0, 0⟩, fun h => absurd h ht⟩
    obtain ⟨hd, hhd⟩ := Classical.axiomOfChoice each
    refine ⟨_, cap, H, hd, rfl, ⟨fun _ => rfl, fun _ => hH, fun b hb => ?_, fun b hb h0 => ?_, fun b hb h0 => ?_, fun b hb => ?_, fun b k hb hk => ?_⟩⟩
    · exact (hhd b hb).1
    · exact ((hhd b hb).2.1 h0).1
    · exact ((hhd b hb).2.1 h0).2
    · exact (hhd b hb).2.2.1
    · exact (hhd b hb).2.2.2 k hk
  · refine ⟨av, cap, 0, fun _ => ⟨none, 0, 0, 0⟩, rfl, ⟨fun h => ?_, fun h => ?_, fun b h => ?_, fun b h => ?_, fun b h => ?_, fun b h => ?_, fun b k h => ?_⟩⟩ <;> omega
theorem RowN.of_ownsI {W : World} {base : Nat} {v : Value} {xs : List Int} (h : W.ownsRow base 3 1 v xs.length (intsI xs)) : RowN W v (xs) := by
  obtain ⟨av, cap, rfl, _⟩ := owns_shape h
  by_cases h0 : 0 < xs.length
  · obtain ⟨gb, c', e, _, hlt⟩ := h.form h0
    injection e with e1 e2 e3
    subst e1
    refine ⟨_, cap, gb, 0, rfl, fun _ => ⟨rfl, hlt⟩, fun k hk => ?_⟩
    rw [Nat.zero_add, h.cellAt k (by omega), List.getElem?_map, List.getD_eq_getElem?_getD, List.getElem?_eq_getElem hk]; rfl
  · exact ⟨av, cap, 0, 0, rfl, fun h => absurd h h0, fun k hk => by omega⟩
theorem RowsN.of_rowsI {W : World} {base : Nat} {v : Value} {xss : List (List Int)} (h : RowsI W base v xss) : RowsN W v (xss) := by
  obtain ⟨vs, h1, h2⟩ := h
  obtain ⟨av, cap, rfl, _⟩ := owns_shape h1
  by_cases h0 : 0 < xss.length
  · obtain ⟨gb, c', e, _, hlt⟩ := h1.form h0
    injection e with e1 e2 e3
    subst e1
    refine ⟨_, cap, gb, 0, rfl, fun _ => ⟨rfl, hlt⟩, fun k hk => ?_⟩
    obtain ⟨u, hu, ho⟩ := h2 k hk
    exact ⟨u, by rw [Nat.zero_add, h1.cellAt k (by omega)]; exact hu, RowN.of_ownsI ho⟩
  · exact ⟨av, cap, 0, 0, rfl, fun h => absurd h h0, fun k hk => by omega⟩
theorem owns_mono {w : World} {base base' : Nat} {e : TypeId} {size : Nat} {v : Value} {n : Nat} {xs : List Value} (h : w.ownsRow base e size v n xs) (hb : base' ≤ base) : w.ownsRow base' e size v n xs := by
  refine ⟨h.1, ?_⟩
  rcases h.2 with h' | ⟨g', cp, cur, h1, h2, h3⟩
  · exact .inl h'
  · exact .inr ⟨g', cp, cur, h1, by omega, h3⟩
theorem owns_nothing {w : World} {base : Nat} {v : Value} {n : Nat} {xs : List Value} (h : w.ownsRow base 3 1 v n xs) (ty : TypeId) (av : Option Addr) (cap : Nat) :
    (Builtin.append_ #[25, 25] ty #[v, .slice av 0 cap]).run Try.prog w = .ok v w := by
  obtain ⟨i, hi, -, -, -⟩ := typI
  obtain ⟨bv, cp, rfl, h1⟩ := owns_shape h
  cases av with
  | none => exact run_append_nothing w 25 25 ty 3 i Try.underlying25 hi bv n cp h1 _ (Src.ofNil w Try.underlying25 cap)
  | some a => exact run_append_nothing w 25 25 ty 3 i Try.underlying25 hi bv n cp h1 _ (Src.ofSlice w Try.underlying25 a 0 cap [] (by simp) (fun j u hu => by simp at hu) (fun u hu => by cases hu))
theorem owns_empty (w : World) (base : Nat) (e : TypeId) (size : Nat) (hb : base ≤ w.heap.size) : (w.alloc (.cells #[] e)).ownsRow base e size (.slice (some ⟨w.heap.size, 0, none⟩) 0 0) 0 [] :=
  ⟨by simp, .inr ⟨w.heap.size, 0, #[], rfl, hb, World.alloc_heap_new _ _, Nat.le_refl _, Nat.zero_le _, by simp, by simp⟩⟩
/-- A row appended to a new one. -/
theorem copy_row (w : World) (ty : TypeId) (av : Option Addr) (cap blk off : Nat) (r : List Int) (hl : r.length ≤ 1000) (h1 : 0 < r.length → av = some ⟨blk, off, none⟩ ∧ blk < w.heap.size) (h2 : ∀ k, k < r.length → w.cell? ⟨blk, off + k, none⟩ = some (.int .i64 (r.getD k 0))) :
    ∃ v w', (Builtin.append_ #[25, 25] ty #[.slice (some ⟨w.heap.size, 0, none⟩) 0 0, .slice av r.length cap]).run Try.prog (w.alloc (.cells #[] 3)) = .ok v w' ∧ w'.ownsRow w.heap.size 3 1 v r.length (intsI r) ∧ Below w.heap.size w w' := by
  have ho := owns_empty w w.heap.size 3 1 (Nat.le_refl _)
  have hbn : Below w.heap.size w (w.alloc (.cells #[] 3)) := (Below.refl _ w).alloc (Nat.le_refl _) _
  by_cases h0 : 0 < r.length
  · obtain ⟨rfl, hb⟩ := h1 h0
    obtain ⟨i, a1, a2, a3, a4⟩ := typI
    obtain ⟨g, cp, w', hap, ho2, hgb, -, -⟩ := run_append_lies (P := Try.prog) (w.alloc (.cells #[] 3)) 25 ty w.heap.size 3 i _ 1 8 Try.underlying25 a1 a2 a4 a3 rfl (by decide) _ 0 [] ho ⟨blk, off, none⟩ r.length cap (intsI r) (by simp)
      (fun j u hu => by
        rw [Addr.add_mid]
        have hj : j < r.length := by have := (List.getElem?_eq_some_iff.1 hu).1; simpa using this
        rw [hbn.cell (p := ⟨blk, off + j, none⟩) hb, h2 j hj, ← hu, List.getElem?_map, List.getD_eq_getElem?_getD, List.getElem?_eq_getElem hj]; rfl)
      (fun u hu => by obtain ⟨x, _, rfl⟩ := List.mem_map.1 hu; rfl) h0 (by unfold maxLen; omega) (by omega) (by simp) _ rfl
    refine ⟨_, w', hap, by simpa using ho2, ?_⟩
    have ht := hgb.size
    exact hbn.trans ⟨hgb.os, hgb.tape, hgb.output, hgb.size, fun b hb' => hgb.block b (by simp; omega) (fun e => by simp [Value.ownBlock] at e; omega)⟩
  · have hr : r = [] := List.eq_nil_of_length_eq_zero (by omega)
    subst hr
    exact ⟨_, _, owns_nothing ho ty av cap, ho, hbn⟩

set_option maxRecDepth 100000 in
set_option maxHeartbeats 2000000 in
/-- The document's Copy. -/
theorem copyg_is (av : Option Addr) (cap blk off : Nat) (hd : Nat → Hdr) (g : List (List Int)) (hl : g.length ≤ 40) (hl2 : ∀ b, (g.getD b []).length ≤ 20) (w : World) (hG : GAt w av blk off hd g) :
    Calls Try.prog 20 #[.slice av g.length cap] w fun e w' => Below w.heap.size w w' ∧ ∃ v, e = .returned v ∧ RowsI w' w.heap.size v g := by
  have HG := hide hG
  clear hG
  generalize hhs : w.heap.size = hs at *
  go_enter Try.func20, Try.ntmps20
  go_wp2
  go_loopw [4, 3] (fun i v W => ∃ k : Nat, i = .int .i64 k ∧ k ≤ g.length ∧ Below hs w W ∧ RowsI W hs v (g.take k)) (fun i _ _ => g.length - (intOf i).toNat)
  case atStart => exact ⟨0, rfl, Nat.zero_le _, by rw [← hhs]; exact Below.refl _ _, [], World.ownsRow_nil _ _ _ _, fun i hi => absurd hi (Nat.not_lt_zero _)⟩
  case round =>
    obtain ⟨k, rfl, hk, hBW, hRW⟩ := hrel
    have hsW := hBW.size
    rw [hhs] at hsW
    have htk : (g.take k).length = k := by rw [List.length_take]; omega
    obtain ⟨gav, gcap, hgv⟩ := (show ∃ lav lcap, _ = Value.slice lav (g.take k).length lcap from by obtain ⟨vs, ho, _⟩ := hRW; obtain ⟨x, y, z, _⟩ := owns_shape ho; exact ⟨x, y, z⟩)
    rw [htk] at hgv
    subst hgv
    by_cases hkl : k < g.length
    · have e1 : ((k : Int) < (g.length : Int)) = True := eq_true (by omega)
      have hG2 := HG.out.below (by rw [hhs]; exact hBW)
      obtain rfl := hG2.at_ (by omega)
      have c1 : (wr.alloc (.cells #[] 3)).cell? ⟨blk, off + k, none⟩ = _ := (((Below.refl wr.heap.size wr).alloc (Nat.le_refl _) (.cells #[] 3)).cell (p := ⟨blk, off + k, none⟩) (hG2.lt (by omega))).trans (hG2.has k hkl)
      have hrl := hl2 k
      obtain ⟨rv, W2, ap1, hrv, hb2⟩ := copy_row wr 25 (hd k).av (hd k).cap (hd k).blk (hd k).off (g.getD k []) (by omega) (fun h => ⟨hG2.rat k hkl h, hG2.rlt k hkl h⟩) (fun j hj => hG2.rhas k j hkl hj)
      have hs2 := hb2.size
      have hR2 : RowsI W2 hs (.slice gav k gcap) (g.take k) := hRW.turns (Turns.of_below hb2) (fun b _ hb hq => by omega)
      obtain ⟨gg, cc, W9, ap9, t9, hR9⟩ := rowsI_step hR2 22 rv (g.getD k []) (owns_mono hrv hsW) (by rw [htk]; omega) (by omega)
      rw [htk] at ap9 hR9
      have hB9 : Below hs w W9 := t9.below (hBW.trans (hb2.mono hsW)) (by omega) (fun b hb hq => by omega)
      have hcs : g.take (k + 1) = g.take k ++ [g.getD k []] := by
        rw [List.take_succ_eq_append_getElem hkl, List.getD_eq_getElem?_getD, List.getElem?_eq_getElem hkl]; rfl
      rw [← hcs] at hR9
      have HR9 := hide hR9
      have HA1 := hide ap1
      have HA9 := hide ap9
      obtain ⟨rav, rcap, hrr, -⟩ := owns_shape hrv
      subst hrr
      clear ap1 ap9 hR9 hR2 t9 hcs hRW hrv hb2 hG2 htk
      generalize (g.getD k []).length = rl at *
      go_wp2_with (at_builtin; first | (refine wpList_append_run rfl _ _ 25 rfl rfl rfl HA1.out ?_; clear HA1) | refine wpList_append_run rfl _ _ 22 rfl rfl rfl HA9.out ?_)
      go_roundw
      case rel => exact ⟨k + 1, by go_num, by omega, hB9, HR9.out⟩
      case measure => simp [intOf]; omega
    · have e1 : ((k : Int) < (g.length : Int)) = False := eq_false (by omega)
      obtain rfl : k = g.length := by omega
      rw [List.take_length] at hRW
      have HRW := hide hRW
      clear hRW htk
      go_wp2
      go_ret
      exact ⟨hBW, _, rfl, HRW.out⟩

end Go.Proofs.Ytonoeodlchkiaaa
