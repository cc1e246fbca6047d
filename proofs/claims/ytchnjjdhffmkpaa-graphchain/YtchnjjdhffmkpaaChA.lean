/-
  The law GraphChain (layer 6): its walk.
-/
import Derived.Test.YtchnjjdhffmkpaaSmall
import Derived.Test.YtchnjjdhffmkpaaChP
namespace Go.Proofs.Ytchnjjdhffmkpaa
open Go.ChangeShapes Go.WideShapes Go.ChangeAt Go.RowKit Go.Shelf

/-- Rows that were appended are a graph. -/
theorem RowsR.gat {W : World} {base : Nat} {v : Value} {p : List (List Nat)} (h : RowsR W base v p) : ∃ av cap blk hd, v = .slice av p.length cap ∧ GAt W av blk 0 hd (castG p) := by
  obtain ⟨vs, h1, h2⟩ := h
  obtain ⟨av, cap, rfl, _⟩ := owns_shape h1
  by_cases hp : 0 < p.length
  · obtain ⟨H, c', e, _, hH⟩ := h1.form hp
    injection e with e1 e2 e3
    subst e1
    have each : ∀ t, ∃ x : Hdr, t < p.length → (W.cell? ⟨H, 0 + t, none⟩ = some (.slice x.av (p.getD t []).length x.cap) ∧ (0 < (p.getD t []).length → x.av = some ⟨x.blk, x.off, none⟩ ∧ x.blk < W.heap.size) ∧ (p.getD t []).length ≤ x.cap ∧ ∀ k, k < (p.getD t []).length → W.cell? ⟨x.blk, x.off + k, none⟩ = some (.int .i64 (((p.getD t []).getD k 0 : Nat) : Int))) := by
      intro t
      by_cases ht : t < p.length
      · obtain ⟨v, hv, ho⟩ := h2 t ht
        obtain ⟨av, cap, rfl, hc⟩ := owns_shape ho
        have hcell : W.cell? ⟨H, 0 + t, none⟩ = some (.slice av (p.getD t []).length cap) := by rw [Nat.zero_add, h1.cellAt t (by omega)]; exact hv
        by_cases h0 : 0 < (p.getD t []).length
        · obtain ⟨gb, cap', e, hb, hlt⟩ := ho.form h0
          injection e with e1 e2 e3
          subst e1
          refine ⟨⟨some ⟨gb, 0, none⟩, cap, gb, 0⟩, fun _ => ⟨hcell, fun _ => ⟨rfl, hlt⟩, hc, fun k hk => ?_⟩⟩
          show W.cell? ⟨gb, 0 + k, none⟩ = _
          rw [Nat.zero_add, ho.cellAt k (by omega), List.getElem?_map, List.getD_eq_getElem?_getD (l := p.getD t []), List.getElem?_eq_getElem hk]; rfl
        · exact ⟨⟨av, cap, 0, 0⟩, fun _ => ⟨hcell, fun h => absurd h h0, hc, fun k hk => absurd hk (by omega)⟩⟩
      · exact ⟨⟨none, 0, 0, 0⟩, fun h => absurd h ht⟩
    obtain ⟨hd, hhd⟩ := Classical.axiomOfChoice each
    refine ⟨_, cap, H, hd, rfl, ⟨fun _ => rfl, fun _ => hH, fun b hb => ?_, fun b hb h0 => ?_, fun b hb h0 => ?_, fun b hb => ?_, fun b k hb hk => ?_⟩⟩
    · rw [castG_len] at hb; rw [castG_at, List.length_map]; exact (hhd b hb).1
    · rw [castG_len] at hb; rw [castG_at, List.length_map] at h0; exact ((hhd b hb).2.1 h0).1
    · rw [castG_len] at hb; rw [castG_at, List.length_map] at h0; exact ((hhd b hb).2.1 h0).2
    · rw [castG_len] at hb; rw [castG_at, List.length_map]; exact (hhd b hb).2.2.1
    · rw [castG_len] at hb; rw [castG_at, List.length_map] at hk; rw [castG_at, cast_at]; exact (hhd b hb).2.2.2 k hk
  · refine ⟨av, cap, 0, fun _ => ⟨none, 0, 0, 0⟩, rfl, ⟨fun h => ?_, fun h => ?_, fun b h => ?_, fun b h => ?_, fun b h => ?_, fun b h => ?_, fun b k h => ?_⟩⟩ <;> (rw [castG_len] at h; omega)
theorem owns_mono {w : World} {base base' : Nat} {e : TypeId} {size : Nat} {v : Value} {n : Nat} {xs : List Value} (h : w.ownsRow base e size v n xs) (hb : base' ≤ base) : w.ownsRow base' e size v n xs := by
  refine ⟨h.1, ?_⟩
  rcases h.2 with h' | ⟨g', cp, cur, h1, h2, h3⟩
  · exact .inl h'
  · exact .inr ⟨g', cp, cur, h1, by omega, h3⟩
/-- One number more behind a row of one's own. -/
theorem one_more {W : World} {base : Nat} {v : Value} {l : List Nat} (h : W.ownsRow base 3 1 v l.length (intsV l)) (x : Nat) (ty : TypeId) (hl : l.length ≤ 100000000) (hbase : base ≤ W.heap.size) :
    ∃ g cap w', (Builtin.append_ #[27, 27] ty #[v, .slice (some ⟨W.heap.size, 0, none⟩) 1 1]).run Try.prog (W.alloc (.cells #[.int .i64 (x : Int)] 3)) = .ok (.slice (some ⟨g, 0, none⟩) (l.length + 1) cap) w' ∧ w'.ownsRow base 3 1 (.slice (some ⟨g, 0, none⟩) (l.length + 1) cap) (l ++ [x]).length (intsV (l ++ [x])) ∧ Turns (fun b => base ≤ b) W w' := by
  obtain ⟨g, cap, w', hap, ho, hgb, -, -⟩ := app_int W ty base v l.length (intsV l) h x hl hbase
  refine ⟨g, cap, w', hap, ?_, grown_turns h hgb⟩
  rw [List.length_append, intsV, List.map_append]
  exact ho

set_option maxRecDepth 100000 in
set_option maxHeartbeats 8000000 in
theorem chain_walk (a b c : Int) (w : World) :
    Calls Try.prog 8 #[.int .i64 a, .int .i64 b, .int .i64 c] w fun e w' => e = .returned (.bool true) ∧ Below w.heap.size w w' := by
  go_enter Try.func8, Try.ntmps8
  go_wp2_with fail
  refine (small_is w).mono ?_
  rintro e w1 ⟨rfl, hb1⟩
  by_cases h1 : a < 1
  · go_wp2
    go_ret
    exact ⟨rfl, hb1⟩
  by_cases h2 : 60 < a
  · go_wp2
    go_ret
    exact ⟨rfl, hb1⟩
  by_cases h3 : c < 0
  · go_wp2
    go_ret
    exact ⟨rfl, hb1⟩
  by_cases h4 : b < c
  · go_wp2
    go_ret
    exact ⟨rfl, hb1⟩
  by_cases h5 : a ≤ b
  · go_wp2
    go_ret
    exact ⟨rfl, hb1⟩
  obtain ⟨n, rfl⟩ := Int.eq_ofNat_of_zero_le (a := a) (by omega)
  obtain ⟨f, rfl⟩ := Int.eq_ofNat_of_zero_le (a := b) (by omega)
  obtain ⟨t, rfl⟩ := Int.eq_ofNat_of_zero_le (a := c) (by omega)
  have n1 : 1 ≤ n := by omega
  have n2 : n ≤ 60 := by omega
  have n3 : t ≤ f := by omega
  have n4 : f < n := by omega
  have hr := ch_right n f t n1 n2 n3 n4
  have hcw := ch_walk n f t n1 n3 n4
  have hcb := ch_back n f t n3 n4
  have hcl := ch_loops n f t n3 n4
  have HP := hide (And.intro hr (And.intro hcw (And.intro hcb hcl)))
  clear hr hcw hcb hcl
  have hsw := hb1.size
  generalize hhs : w1.heap.size = hs at *
  clear h1 h2 h3 h4 h5
  have q1 : ((n : Int) < 1) = False := eq_false (by omega)
  have q2 : ((60 : Int) < (n : Int)) = False := eq_false (by omega)
  have q3 : ((t : Int) < 0) = False := eq_false (by omega)
  have q4 : (f < t) = False := eq_false (by omega)
  have q5 : (n ≤ f) = False := eq_false (by omega)
  have q6 : ((f : Int) < (t : Int)) = False := eq_false (by omega)
  have q7 : ((n : Int) ≤ (f : Int)) = False := eq_false (by omega)
  go_wp2
  clear q1 q2 q3 q4 q5 q6 q7
  go_loopw [9, 8] (fun i v W => ∃ k : Nat, i = .int .i64 k ∧ k ≤ n ∧ Below hs w1 W ∧ RowsR W hs v (chG n f t k)) (fun i _ _ => n - (intOf i).toNat)
  case atStart => exact ⟨0, rfl, Nat.zero_le _, by rw [← hhs]; exact Below.refl _ _, [], World.ownsRow_nil _ _ _ _, fun i hi => absurd hi (Nat.not_lt_zero _)⟩
  case round =>
    obtain ⟨k, rfl, hk, hBW, hRW⟩ := hrel
    have hsW := hBW.size
    rw [hhs] at hsW
    obtain ⟨gav, gcap, hgv⟩ := (show ∃ lav lcap, _ = Value.slice lav (chG n f t k).length lcap from by obtain ⟨vs, ho, _⟩ := hRW; obtain ⟨x, y, z, _⟩ := owns_shape ho; exact ⟨x, y, z⟩)
    rw [chG_len] at hgv
    subst hgv
    by_cases hkl : k < n
    · have e1 : ((k : Int) < (n : Int)) = True := eq_true (by omega)
      by_cases hka : k + 1 < n
      · by_cases hkf : k = f
        · have ea : ((k : Int) + 1 < (n : Int)) = True := eq_true (by omega)
          have eb : ((k : Int) == (f : Int)) = true := by simp; omega
          have o0 : wr.ownsRow wr.heap.size 3 1 (.slice none 0 0) ([] : List Nat).length (intsV []) := World.ownsRow_nil _ _ _ _
          have T0 := Turns.refl (fun b => wr.heap.size ≤ b) wr
          obtain ⟨g1, c1, W1, ap1, o1, t1⟩ := one_more o0 (k + 1) 27 (by simp) (by have := T0.size; omega)
          have T1 := T0.trans t1
          obtain ⟨g2, c2, W2, ap2, o2, t2⟩ := one_more o1 (t) 27 (by simp) (by have := T1.size; omega)
          have T2 := T1.trans t2
          have hcr : chRow n f t k = [k + 1, t] := by unfold chRow; rw [if_pos (by omega)]; rw [if_pos (by omega)]; rfl
          have hR2 : RowsR W2 hs (.slice gav k gcap) (chG n f t k) := hRW.turns T2 (fun b _ hb hq => by omega)
          obtain ⟨gg, cc, W9, ap9, t9, hR9⟩ := rowsR_step hR2 22 _ [k + 1, t] (owns_mono o2 hsW) (by rw [chG_len]; omega) (by have := T2.size; omega)
          rw [chG_len] at ap9 hR9
          have hT9 : Turns (fun b => hs ≤ b) wr W9 := (T2.mono (fun b hb => by omega)).trans t9
          have hB9 : Below hs w1 W9 := hT9.below hBW hsW (fun b hb hq => by omega)
          have hcs := chG_succ n f t k
          rw [hcr] at hcs
          try simp only [List.nil_append, List.cons_append] at hR9
          rw [← hcs] at hR9
          have HR9 := hide hR9
          have HA1 := hide ap1
          have HA2 := hide ap2
          have HA9 := hide ap9
          clear hkf ap9 hR9 hR2 t9 hT9 hcs hcr hRW o0 T0 ap1 o1 t1 ap2 o2 t2 T1 T2
          simp only [List.length_nil, Nat.zero_add, Int.natCast_add, Int.natCast_one] at HA1
          simp only [List.length_nil, Nat.zero_add] at HA2
          go_wp2_with (at_builtin; first | (refine wpList_append_run rfl _ _ 27 rfl rfl rfl HA1.out ?_; clear HA1) | (refine wpList_append_run rfl _ _ 27 rfl rfl rfl HA2.out ?_; clear HA2) | refine wpList_append_run rfl _ _ 22 rfl rfl rfl HA9.out ?_)
          go_roundw
          case rel => exact ⟨k + 1, by go_num, by omega, hB9, HR9.out⟩
          case measure => simp [intOf]; omega
        · have ea : ((k : Int) + 1 < (n : Int)) = True := eq_true (by omega)
          have eb : ((k : Int) == (f : Int)) = false := by simp; omega
          have o0 : wr.ownsRow wr.heap.size 3 1 (.slice none 0 0) ([] : List Nat).length (intsV []) := World.ownsRow_nil _ _ _ _
          have T0 := Turns.refl (fun b => wr.heap.size ≤ b) wr
          obtain ⟨g1, c1, W1, ap1, o1, t1⟩ := one_more o0 (k + 1) 27 (by simp) (by have := T0.size; omega)
          have T1 := T0.trans t1
          have hcr : chRow n f t k = [k + 1] := by unfold chRow; rw [if_pos (by omega)]; rw [if_neg (by omega)]; rfl
          have hR2 : RowsR W1 hs (.slice gav k gcap) (chG n f t k) := hRW.turns T1 (fun b _ hb hq => by omega)
          obtain ⟨gg, cc, W9, ap9, t9, hR9⟩ := rowsR_step hR2 22 _ [k + 1] (owns_mono o1 hsW) (by rw [chG_len]; omega) (by have := T1.size; omega)
          rw [chG_len] at ap9 hR9
          have hT9 : Turns (fun b => hs ≤ b) wr W9 := (T1.mono (fun b hb => by omega)).trans t9
          have hB9 : Below hs w1 W9 := hT9.below hBW hsW (fun b hb hq => by omega)
          have hcs := chG_succ n f t k
          rw [hcr] at hcs
          rw [← hcs] at hR9
          have HR9 := hide hR9
          have HA1 := hide ap1
          have HA9 := hide ap9
          clear hkf ap9 hR9 hR2 t9 hT9 hcs hcr hRW o0 T0 ap1 o1 t1 T1
          simp only [List.length_nil, Nat.zero_add, Int.natCast_add, Int.natCast_one] at HA1
          simp only [List.length_nil, Nat.zero_add] at HA9
          go_wp2_with (at_builtin; first | (refine wpList_append_run rfl _ _ 27 rfl rfl rfl HA1.out ?_; clear HA1) | refine wpList_append_run rfl _ _ 22 rfl rfl rfl HA9.out ?_)
          go_roundw
          case rel => exact ⟨k + 1, by go_num, by omega, hB9, HR9.out⟩
          case measure => simp [intOf]; omega
      · by_cases hkf : k = f
        · have ea : ((k : Int) + 1 < (n : Int)) = False := eq_false (by omega)
          have eb : ((k : Int) == (f : Int)) = true := by simp; omega
          have o0 : wr.ownsRow wr.heap.size 3 1 (.slice none 0 0) ([] : List Nat).length (intsV []) := World.ownsRow_nil _ _ _ _
          have T0 := Turns.refl (fun b => wr.heap.size ≤ b) wr
          obtain ⟨g1, c1, W1, ap1, o1, t1⟩ := one_more o0 (t) 27 (by simp) (by have := T0.size; omega)
          have T1 := T0.trans t1
          have hcr : chRow n f t k = [t] := by unfold chRow; rw [if_neg (by omega)]; rw [if_pos (by omega)]; rfl
          have hR2 : RowsR W1 hs (.slice gav k gcap) (chG n f t k) := hRW.turns T1 (fun b _ hb hq => by omega)
          obtain ⟨gg, cc, W9, ap9, t9, hR9⟩ := rowsR_step hR2 22 _ [t] (owns_mono o1 hsW) (by rw [chG_len]; omega) (by have := T1.size; omega)
          rw [chG_len] at ap9 hR9
          have hT9 : Turns (fun b => hs ≤ b) wr W9 := (T1.mono (fun b hb => by omega)).trans t9
          have hB9 : Below hs w1 W9 := hT9.below hBW hsW (fun b hb hq => by omega)
          have hcs := chG_succ n f t k
          rw [hcr] at hcs
          rw [← hcs] at hR9
          have HR9 := hide hR9
          have HA1 := hide ap1
          have HA9 := hide ap9
          clear hkf ap9 hR9 hR2 t9 hT9 hcs hcr hRW o0 T0 ap1 o1 t1 T1
          simp only [List.length_nil, Nat.zero_add] at HA1
          simp only [List.length_nil, Nat.zero_add] at HA9
          go_wp2_with (at_builtin; first | (refine wpList_append_run rfl _ _ 27 rfl rfl rfl HA1.out ?_; clear HA1) | refine wpList_append_run rfl _ _ 22 rfl rfl rfl HA9.out ?_)
          go_roundw
          case rel => exact ⟨k + 1, by go_num, by omega, hB9, HR9.out⟩
          case measure => simp [intOf]; omega
        · have ea : ((k : Int) + 1 < (n : Int)) = False := eq_false (by omega)
          have eb : ((k : Int) == (f : Int)) = false := by simp; omega
          have o0 : wr.ownsRow wr.heap.size 3 1 (.slice none 0 0) ([] : List Nat).length (intsV []) := World.ownsRow_nil _ _ _ _
          have T0 := Turns.refl (fun b => wr.heap.size ≤ b) wr
          have hcr : chRow n f t k = [] := by unfold chRow; rw [if_neg (by omega)]; rw [if_neg (by omega)]; rfl
          have hR2 : RowsR wr hs (.slice gav k gcap) (chG n f t k) := hRW.turns T0 (fun b _ hb hq => by omega)
          obtain ⟨gg, cc, W9, ap9, t9, hR9⟩ := rowsR_step hR2 22 _ [] (owns_mono o0 hsW) (by rw [chG_len]; omega) (by have := T0.size; omega)
          rw [chG_len] at ap9 hR9
          have hT9 : Turns (fun b => hs ≤ b) wr W9 := (T0.mono (fun b hb => by omega)).trans t9
          have hB9 : Below hs w1 W9 := hT9.below hBW hsW (fun b hb hq => by omega)
          have hcs := chG_succ n f t k
          rw [hcr] at hcs
          rw [← hcs] at hR9
          have HR9 := hide hR9
          have HA9 := hide ap9
          clear hkf ap9 hR9 hR2 t9 hT9 hcs hcr hRW o0 T0  
          go_wp2_with (at_builtin; first | refine wpList_append_run rfl _ _ 22 rfl rfl rfl HA9.out ?_)
          go_roundw
          case rel => exact ⟨k + 1, by go_num, by omega, hB9, HR9.out⟩
          case measure => simp [intOf]; omega
    · have e1 : ((k : Int) < (n : Int)) = False := eq_false (by omega)
      obtain rfl : k = n := by omega
      clear e1
      have e1 : ((k : Int) < (k : Int)) = False := eq_false (by omega)
      obtain ⟨hr, hcw, hcb, hcl⟩ := HP.out
      clear HP
      obtain ⟨gav', gcap', gblk, hd, hge, hG⟩ := hRW.gat
      rw [chG_len] at hge
      injection hge with ga gb gc
      subst ga gc
      clear hRW gb
      have hB1 : Below w.heap.size w wr := hb1.trans (hBW.mono hsw)
      have ho := order_is gav gcap gblk 0 hd (chG k f t k) hr wr hG
      rw [chG_len] at ho
      go_wp2_with fail
      refine ho.mono ?_
      rintro e w3 ⟨hb3, v, m', o, rfl, hov, hw⟩
      clear ho
      obtain rfl := (hw.det hcw).2
      rw [List.reverse_reverse] at hov
      have hB3 := bel_two hB1 hb3
      have hG3 := hG.below hb3
      have hl := loops_is gav gcap gblk 0 hd (chG k f t k) hr w3 hG3
      rw [chG_len] at hl
      obtain ⟨oav, ocap, hoe, -⟩ := owns_shape hov
      have hno : ((List.range k).reverse).length = k := by simp
      rw [hno] at hov hoe
      subst hoe
      have hrn := RowN.of_owns (v := .slice oav k ocap) (xs := List.range k) (by rw [List.length_range]; exact hov)
      clear hw hov
      go_wp2_with fail
      refine hl.mono ?_
      rintro e w4 ⟨hb4, v, m', o, rfl, hw, hov⟩
      clear hl
      obtain rfl := (hw.det hcw).2
      rw [hcl] at hov
      have hrl := RowsN.of_rowsR hov
      clear hw hov
      have hB4 := bel_two hB3 hb4
      have hG4 := hG3.below hb4
      have hrn4 := hrn.below hb4
      have hbk := back_is gav gcap gblk 0 hd (chG k f t k) hr w4 hG4
      rw [chG_len] at hbk
      obtain ⟨lav, lcap, LB, LO, hle, hl2, hl3⟩ := hrl
      simp only [castG, List.map_cons, List.map_nil, List.length_cons, List.length_nil, Nat.zero_add] at hle hl2 hl3
      subst hle
      obtain ⟨rfl, hLB⟩ := hl2 (by omega)
      obtain ⟨u, hu, rav, rcap, RB, RO, rfl, hr2, hr3⟩ := hl3 0 (by omega)
      simp only [List.getD_cons_zero, List.length_map, List.length_range'] at hu hr2 hr3
      obtain ⟨rfl, hRB⟩ := hr2 (by omega)
      have HLC : Hid (∀ j, j < f - t + 1 → w4.cell? ⟨RB, RO + j, none⟩ = some (.int .i64 ((t + j : Nat) : Int))) := fun j hj => by
        rw [hr3 j hj, cast_at, List.getD_eq_getElem?_getD, List.getElem?_eq_getElem (by simpa using hj), List.getElem_range']; simp
      rw [Nat.add_zero] at hu
      clear hl2 hl3 hr2 hr3 hrn hB3 hG hG3
      have HL : Hid (∃ L, f - t + 1 = L ∧ ((((L : Nat) : Int) = (f : Int) - (t : Int) + 1) = True)) := ⟨_, rfl, eq_true (by omega)⟩
      obtain ⟨L, hL, hlen⟩ := HL.out
      clear HL
      have hlen2 : ((((L : Nat) : Int) != (f : Int) - (t : Int) + 1)) = false := by simpa using hlen
      rw [hL] at hu HLC
      have HLL := hide hL
      clear hL
      go_wp2_with fail
      refine hbk.mono ?_
      rintro e w5 ⟨hb5, v, m', o, rfl, hw, hov⟩
      clear hbk
      obtain rfl := (hw.det hcw).2
      rw [List.reverse_reverse, hcb] at hov
      have hv5 := PairN.of_owns hov
      clear hov hw
      have hB5 := bel_two hB4 hb5
      have k7 := World.alloc_heap_new w5 (.cells #[.int .i64 (f : Int), .int .i64 (t : Int)] 37)
      have hn7 : PairN (w5.alloc (.cells #[.int .i64 (f : Int), .int .i64 (t : Int)] 37)) (.slice (some ⟨w5.heap.size, 0, none⟩) 1 1) [(f, t)] := ⟨_, 1, w5.heap.size, rfl, fun _ => ⟨rfl, by simp⟩, fun k hk => by
        obtain rfl : k = 0 := by simpa using hk
        exact ⟨cell_of k7 0, cell_of k7 1⟩⟩
      have HI := hide (pairs_same (W := w5.alloc (.cells #[.int .i64 (f : Int), .int .i64 (t : Int)] 37)) (l := [(f, t)]) (by simp) (hv5.below (bel_new w5 _)) hn7)
      obtain ⟨av6, cp6, hv6e⟩ := hv5.shape
      subst hv6e
      clear hn7 k7 hv5
      go_wp2_with fail
      refine HI.out.mono ?_
      clear HI
      rintro e w8 ⟨rfl, hq8⟩
      have hb8 := bel_two hb5 (bel_two (bel_new w5 _) (bel_q hq8))
      have HB8 := hide (bel_two hB4 hb8)
      clear hq8 hB5 hb5 hB4 hG4
      obtain ⟨oav', ocap', OB, OO, hoe, ho2, ho3⟩ := hrn4.below hb8
      have hs8 := hb8.size
      have cu : w8.cell? ⟨LB, LO, none⟩ = some (.slice (some ⟨RB, RO, none⟩) L rcap) := (hb8.cell (p := ⟨LB, LO, none⟩) hLB).trans hu
      have HLC8 : Hid (∀ j, j < L → w8.cell? ⟨RB, RO + j, none⟩ = some (.int .i64 ((t + j : Nat) : Int))) := fun j hj => (hb8.cell (p := ⟨RB, RO + j, none⟩) hRB).trans (HLC.out j hj)
      have hcl : (castL (List.range k)).length = k := by simp
      rw [hcl] at hoe ho2 ho3
      injection hoe with e1 e2 e3
      subst e1 e3
      obtain ⟨rfl, hOB⟩ := ho2 (by omega)
      have HOC : Hid (∀ j, j < k → w8.cell? ⟨OB, OO + j, none⟩ = some (.int .i64 (j : Int))) := fun j hj => by
        rw [ho3 j hj, cast_at, List.getD_eq_getElem?_getD, List.getElem?_eq_getElem (by simpa using hj), List.getElem_range]; rfl
      clear ho2 ho3 hcl HLC hu hb8 hrn4 hb4 hb3
      go_wp2
      go_loopw [13] (fun i W => w8 = W ∧ ∃ j : Nat, i = .int .i64 j ∧ j ≤ k) (fun i _ => k - (intOf i).toNat)
      case atStart => exact ⟨rfl, 0, rfl, Nat.zero_le _⟩
      case round =>
        obtain ⟨rfl, j, rfl, hj⟩ := hrel
        by_cases hjl : j < k
        · have e2 : ((j : Int) < (k : Int)) = True := eq_true (by omega)
          have cj := HOC.out j hjl
          by_cases hjf : j < L
          · have e3 : ((j : Int) < (L : Int)) = True := eq_true (by omega)
            have cl := HLC8.out j hjf
            go_wp2
            go_roundw
            case rel => exact ⟨trivial, j + 1, by go_num, by omega⟩
            case measure => simp [intOf]; omega
          · have e3 : ((j : Int) < (L : Int)) = False := eq_false (by omega)
            go_wp2
            go_roundw
            case rel => exact ⟨trivial, j + 1, by go_num, by omega⟩
            case measure => simp [intOf]; omega
        · have e2 : ((j : Int) < (k : Int)) = False := eq_false (by omega)
          go_wp2
          go_ret
          exact ⟨rfl, HB8.out⟩

end Go.Proofs.Ytchnjjdhffmkpaa
