/-
  The law DomChain (layer 7): its walk.
-/
import Derived.Test.YtonoeodlchkiaaaChP
namespace Go.Proofs.Ytonoeodlchkiaaa
open Go.ChangeShapes Go.WideShapes Go.ChangeAt Go.RowKit Go.Shelf

/-- Rows that were appended are a graph. -/
theorem RowsR.gat {W : World} {base : Nat} {v : Value} {p : List (List Nat)} (h : RowsR W base v p) (hp : 0 < p.length) : ∃ cap blk hd, v = .slice (some ⟨blk, 0, none⟩) p.length cap ∧ base ≤ blk ∧ GAt W (some ⟨blk, 0, none⟩) blk 0 hd (castG p) ∧ ∃ cur, W.heap[blk]? = some (.cells cur 25 (0, 0)) := by
  obtain ⟨vs, h1, h2⟩ := h
  obtain ⟨av, cap, rfl, _⟩ := owns_shape h1
  · obtain ⟨H, c', e, hbH, hH⟩ := h1.form hp
    injection e with e1 e2 e3
    subst e1
    have each : ∀ t, ∃ x : Hdr, t < p.length → (W.cell? ⟨H, 0 + t, none⟩ = some (.slice x.av (p.getD t []).length x.cap) ∧ (0 < (p.getD t []).length → x.av = some ⟨x.blk, x.off, none⟩ ∧ x.blk < W.heap.size) ∧ (p.getD t []).length ≤ x.cap ∧ ∀ k, k < (p.getD t []).length → W.cell? ⟨x.blk, x.off + k, none⟩ = some (.int .i64 (((p.getD t []).getD k 0 : Nat) : Int))) := by
      intro t
      by_cases ht : t < p.length
      · obtain ⟨v, hv, ho⟩ := h2 t ht
        obtain ⟨av, cap, rfl, hc⟩ := owns_shape ho
        have hcell : W.cell? ⟨H, 0 + t, none⟩ = some (.slice av (p.getD t []).length cap) := by rw [Nat.zero_add, h1.cellAt t (by omega)]; exact hv
        by_cases h0 : 0 < (p.getD t []).length
        · obtain ⟨gb, cap', e, hb, hlt⟩ := ho.form h0
          injection e with e1 e2 e3
          subst e1
          refine ⟨⟨some ⟨gb, 0, none⟩, cap, gb, 0⟩, fun _ => ⟨hcell, fun _ => ⟨rfl, hlt⟩, hc, fun k hk => ?_⟩⟩
          show W.cell? ⟨gb, 0 + k, none⟩ = _
          rw [Nat.zero_add, ho.cellAt k (by omega), List.getElem?_map, List.getD_eq_getElem?_getD (l := p.getD t []), List.getElem?_eq_getElem hk]; rfl
        · exact ⟨⟨av, cap, 0, 0⟩, fun _ => ⟨hcell, fun h => absurd h h0, hc, fun k hk => absurd hk (by omega)⟩⟩
      · exact ⟨⟨none, 0, 0, 0⟩, fun h => absurd h ht⟩
    obtain ⟨hd, hhd⟩ := Classical.axiomOfChoice each
    refine ⟨cap, H, hd, rfl, hbH, ⟨fun _ => rfl, fun _ => hH, fun b hb => ?_, fun b hb h0 => ?_, fun b hb h0 => ?_, fun b hb => ?_, fun b k hb hk => ?_⟩, ?_⟩
    · rw [castG_len] at hb; rw [castG_at, List.length_map]; exact (hhd b hb).1
    · rw [castG_len] at hb; rw [castG_at, List.length_map] at h0; exact ((hhd b hb).2.1 h0).1
    · rw [castG_len] at hb; rw [castG_at, List.length_map] at h0; exact ((hhd b hb).2.1 h0).2
    · rw [castG_len] at hb; rw [castG_at, List.length_map]; exact (hhd b hb).2.2.1
    · rw [castG_len] at hb; rw [castG_at, List.length_map] at hk; rw [castG_at, cast_at]; exact (hhd b hb).2.2.2 k hk
    · rcases h1.2 with ⟨e, _⟩ | ⟨g1, c1, cur1, e, _, e1, _⟩
      · cases e
      · injection e with e2
        injection e2 with e2
        injection e2 with e2
        subst e2
        exact ⟨_, e1⟩

theorem castG_set (g : List (List Nat)) (i : Nat) (r : List Nat) : castG (g.set i r) = (castG g).set i (castL r) := by unfold castG castL; rw [List.map_set]
/-- One row of a graph is another. -/
theorem GAt.set {W : World} {blk : Nat} {hd : Nat → Hdr} {g : List (List Int)} (h : GAt W (some ⟨blk, 0, none⟩) blk 0 hd g) (i : Nat) (hi : i < g.length) (B : Nat) (x : Int) (hB : W.heap[B]? = some (.cells #[.int .i64 x] 3 (0, 0))) :
    GAt (W.setCell ⟨blk, i, none⟩ (.slice (some ⟨B, 0, none⟩) 1 1)) (some ⟨blk, 0, none⟩) blk 0 (fun b => if b = i then ⟨some ⟨B, 0, none⟩, 1, B, 0⟩ else hd b) (g.set i [x]) := by
  have hci := h.has i hi
  rw [Nat.zero_add] at hci
  have hsz : (W.setCell ⟨blk, i, none⟩ (.slice (some ⟨B, 0, none⟩) 1 1)).heap.size = W.heap.size := by simp [World.setCell]
  have hlen : (g.set i [x]).length = g.length := List.length_set
  have hsame : (W.setCell ⟨blk, i, none⟩ (.slice (some ⟨B, 0, none⟩) 1 1)).cell? ⟨blk, i, none⟩ = some (.slice (some ⟨B, 0, none⟩) 1 1) := World.cell?_setCell_same _ _ _ hci
  have hoth : ∀ p : Addr, p ≠ ⟨blk, i, none⟩ → (W.setCell ⟨blk, i, none⟩ (.slice (some ⟨B, 0, none⟩) 1 1)).cell? p = W.cell? p := fun p hp => World.cell?_setCell_other _ _ _ _ (Ne.symm hp)
  have hint : ∀ (p : Addr) (z : Int), W.cell? p = some (.int .i64 z) → (W.setCell ⟨blk, i, none⟩ (.slice (some ⟨B, 0, none⟩) 1 1)).cell? p = some (.int .i64 z) := fun p z hp => by
    rw [hoth p (fun e => by subst e; rw [hci] at hp; cases hp)]; exact hp
  have hg : ∀ b, (g.set i [x]).getD b [] = if b = i then [x] else g.getD b [] := fun b => by
    rw [List.getD_eq_getElem?_getD, List.getD_eq_getElem?_getD]
    by_cases e : b = i
    · subst e; rw [List.getElem?_set_self hi, if_pos rfl]; rfl
    · rw [List.getElem?_set_ne (Ne.symm e), if_neg e]
  refine ⟨fun _ => rfl, fun h0 => by rw [hsz]; exact h.lt (by omega), fun b hb => ?_, fun b hb h0 => ?_, fun b hb h0 => ?_, fun b hb => ?_, fun b k hb hk => ?_⟩
  · rw [hlen] at hb
    rw [hg, Nat.zero_add]
    by_cases e : b = i
    · subst e; simp only [↓reduceIte]; exact hsame
    · simp only [if_neg e]
      have := h.has b hb
      rw [Nat.zero_add] at this
      rw [hoth _ (fun e' => e (by injection e'))]; exact this
  · rw [hlen] at hb
    rw [hg] at h0
    by_cases e : b = i
    · simp only [if_pos e]
    · simp only [if_neg e] at h0 ⊢; exact h.rat b hb h0
  · rw [hlen] at hb
    rw [hg] at h0
    rw [hsz]
    by_cases e : b = i
    · simp only [if_pos e]; exact lt_of hB
    · simp only [if_neg e] at h0 ⊢; exact h.rlt b hb h0
  · rw [hlen] at hb
    rw [hg]
    by_cases e : b = i
    · simp only [if_pos e]; simp
    · simp only [if_neg e]; exact h.rcap b hb
  · rw [hlen] at hb
    rw [hg] at hk ⊢
    by_cases e : b = i
    · simp only [if_pos e] at hk ⊢
      have hk0 : k = 0 := by simpa using hk
      subst hk0
      exact hint _ _ (cell_of hB 0)
    · simp only [if_neg e] at hk ⊢
      exact hint _ _ (h.rhas b k hb hk)

set_option maxRecDepth 100000 in
set_option maxHeartbeats 8000000 in
theorem dchain_walk (a b : Int) (w : World) :
    Calls Try.prog 6 #[.int .i64 a, .int .i64 b] w fun e w' => e = .returned (.bool true) ∧ Below w.heap.size w w' := by
  go_enter Try.func6, Try.ntmps6
  go_wp2_with fail
  refine (small_is w).mono ?_
  rintro e w1 ⟨rfl, hb1⟩
  by_cases h1 : a < 1
  · go_wp2
    go_ret
    exact ⟨rfl, hb1⟩
  by_cases h2 : 20 < a
  · go_wp2
    go_ret
    exact ⟨rfl, hb1⟩
  by_cases h3 : b < 0
  · go_wp2
    go_ret
    exact ⟨rfl, hb1⟩
  by_cases h4 : a ≤ b
  · go_wp2
    go_ret
    exact ⟨rfl, hb1⟩
  obtain ⟨m, hm⟩ := Int.eq_ofNat_of_zero_le (a := a - 1) (by omega)
  obtain ⟨t, rfl⟩ := Int.eq_ofNat_of_zero_le (a := b) (by omega)
  obtain rfl : a = (m : Int) + 1 := by omega
  have n1 : m + 1 ≤ 20 := by omega
  have n2 : t < m + 1 := by omega
  have hr1 := ch_right (m + 1) (m + 1) 0 (by omega) (by omega) (by omega)
  have hr2 := ch_right (m + 1) m t (by omega) (by omega) n2
  have hcs := chG_set (m + 1) t (by omega)
  have HP := hide (And.intro hr1 (And.intro hr2 hcs))
  clear hr1 hr2 hcs hm
  have hsw := hb1.size
  generalize hhs : w1.heap.size = hs at *
  have q1 : ((m : Int) + 1 < 1) = False := eq_false (by omega)
  have q2 : ((20 : Int) < (m : Int) + 1) = False := eq_false (by omega)
  have q3 : ((t : Int) < 0) = False := eq_false (by omega)
  have q4 : ((m : Int) + 1 ≤ (t : Int)) = False := eq_false (by omega)
  clear h1 h2 h3 h4
  go_wp2
  clear q1 q2 q3 q4
  go_loopw [7, 6] (fun i v W => ∃ k : Nat, i = .int .i64 k ∧ k ≤ m + 1 ∧ Below hs w1 W ∧ RowsR W hs v (chG (m + 1) (m + 1) 0 k)) (fun i _ _ => m + 1 - (intOf i).toNat)
  case atStart => exact ⟨0, rfl, Nat.zero_le _, by rw [← hhs]; exact Below.refl _ _, [], World.ownsRow_nil _ _ _ _, fun i hi => absurd hi (Nat.not_lt_zero _)⟩
  case round =>
    obtain ⟨k, rfl, hk, hBW, hRW⟩ := hrel
    have hsW := hBW.size
    rw [hhs] at hsW
    obtain ⟨gav, gcap, hgv⟩ := (show ∃ lav lcap, _ = Value.slice lav (chG (m + 1) (m + 1) 0 k).length lcap from by obtain ⟨vs, ho, _⟩ := hRW; obtain ⟨x, y, z, _⟩ := owns_shape ho; exact ⟨x, y, z⟩)
    rw [chG_len] at hgv
    subst hgv
    by_cases hkl : k < m + 1
    · have e1 : ((k : Int) < (m : Int) + 1) = True := eq_true (by omega)
      have o1 := owns_one wr hs (k + 1) hsW
      have t1 : Turns (fun b => wr.heap.size ≤ b) wr (wr.alloc (.cells #[.int .i64 ((k + 1 : Nat) : Int)] 3)) := Turns.alloc _ _ _
      have hR1 : RowsR (wr.alloc (.cells #[.int .i64 ((k + 1 : Nat) : Int)] 3)) hs (.slice gav k gcap) (chG (m + 1) (m + 1) 0 k) := hRW.turns t1 (fun b _ hb hq => by omega)
      have hs1 := t1.size
      have hcs := chG_succ (m + 1) (m + 1) 0 k
      by_cases hkm : k = m
      · have e2 : ((k : Int) + 1 == (m : Int) + 1) = true := by simp; omega
        have e2' : ((k : Int) + 1 = (m : Int) + 1) = True := eq_true (by omega)
        have e3 : ((k : Int) == (m : Int)) = true := by simp; omega
        have e3' : ((k : Int) = (m : Int)) = True := eq_true (by omega)
        have hcr : chRow (m + 1) (m + 1) 0 k = [] := by unfold chRow; rw [if_neg (by omega), if_neg (by omega)]; rfl
        obtain ⟨gg, cc, W9, ap9, t9, hR9⟩ := rowsR_step hR1 22 (.slice none 0 0) [] (World.ownsRow_nil _ _ _ _) (by rw [chG_len]; omega) (by omega)
        rw [chG_len] at ap9 hR9
        rw [hcr] at hcs
        rw [← hcs] at hR9
        have hT9 : Turns (fun b => hs ≤ b) wr W9 := (t1.mono (fun b hb => by omega)).trans t9
        have hB9 : Below hs w1 W9 := hT9.below hBW hsW (fun b hb hq => by omega)
        have HR9 := hide hR9
        have HA9 := hide ap9
        simp only [World.size_alloc, Int.natCast_add, Int.natCast_one] at HA9
        clear ap9 hR9 hR1 t9 hT9 hcs hcr hRW o1 t1 hs1 hkm
        go_wp2_with (at_builtin; refine wpList_append_run rfl _ _ 22 rfl rfl rfl HA9.out ?_)
        go_roundw
        case rel => exact ⟨k + 1, by go_num, by omega, hB9, HR9.out⟩
        case measure => simp [intOf]; omega
      · have e2 : ((k : Int) + 1 == (m : Int) + 1) = false := by simp; omega
        have e2' : ((k : Int) + 1 = (m : Int) + 1) = False := eq_false (by omega)
        have e3 : ((k : Int) == (m : Int)) = false := by simp; omega
        have e3' : ((k : Int) = (m : Int)) = False := eq_false (by omega)
        have hcr : chRow (m + 1) (m + 1) 0 k = [k + 1] := by unfold chRow; rw [if_pos (by omega), if_neg (by omega)]; rfl
        obtain ⟨gg, cc, W9, ap9, t9, hR9⟩ := rowsR_step hR1 22 _ [k + 1] o1 (by rw [chG_len]; omega) (by omega)
        rw [chG_len] at ap9 hR9
        rw [hcr] at hcs
        rw [← hcs] at hR9
        have hT9 : Turns (fun b => hs ≤ b) wr W9 := (t1.mono (fun b hb => by omega)).trans t9
        have hB9 : Below hs w1 W9 := hT9.below hBW hsW (fun b hb hq => by omega)
        have HR9 := hide hR9
        have HA9 := hide ap9
        simp only [World.size_alloc, Int.natCast_add, Int.natCast_one] at HA9
        clear ap9 hR9 hR1 t9 hT9 hcs hcr hRW o1 t1 hs1 hkm
        go_wp2_with (at_builtin; refine wpList_append_run rfl _ _ 22 rfl rfl rfl HA9.out ?_)
        go_roundw
        case rel => exact ⟨k + 1, by go_num, by omega, hB9, HR9.out⟩
        case measure => simp [intOf]; omega
    · have e1 : ((k : Int) < (m : Int) + 1) = False := eq_false (by omega)
      obtain rfl : k = m + 1 := by omega
      obtain ⟨cap, blk, hd, hve, hbl, hG, cur, hfz⟩ := hRW.gat (by rw [chG_len]; omega)
      rw [chG_len] at hve
      injection hve with hv1 hv2 hv3
      subst hv1 hv3
      generalize hW0 : wr = w2 at *
      clear hW0
      have hblt : blk < w2.heap.size := hG.lt (by rw [castG_len, chG_len]; omega)
      have HG2 := hide hG
      have HFZ := hide hfz
      have hFR := frontier_is (some ⟨blk, 0, none⟩) gcap blk 0 hd (chG (m + 1) (m + 1) 0 (m + 1)) HP.out.1 w2 hG
      rw [chG_len] at hFR
      have HFR := hide hFR
      clear hFR hRW hG hfz hk
      go_wp2_with fail
      refine HFR.out.mono ?_
      clear HFR
      rintro e w3 ⟨hb3, RB, base, d3, m3, o3, f3, hRB1, hRB2, hRB3, rfl, hwk3, hfin3, hrows3, hfro3⟩
      have hlen1 : (chG (m + 1) (m + 1) 0 (m + 1)).length = m + 1 := chG_len _ _ _ _
      have hord3 := ord_of (g := chG (m + 1) (m + 1) 0 (m + 1)) (by rw [hlen1]; omega) (by rw [hlen1]; exact hwk3)
      have hff3 := ch_fro (m + 1) (m + 1) 0 (by omega) (by omega) (fun h => by omega) hord3 hfin3 hfro3
      have hs3 := hb3.size
      have HF3 : Hid (∀ W, Turns (fun b => b = blk ∨ w3.heap.size ≤ b) w3 W → ∀ i, i < m + 1 → ∃ av cap, W.cell? ⟨RB, i, none⟩ = some (.slice av 0 cap)) := fun W ht i hi => by
        obtain ⟨av, cp, hc⟩ := (hrows3.turns ht (fun b hb hl hq => by omega)).cell i hi
        rw [hff3 i hi, if_neg (by omega)] at hc
        exact ⟨av, cp, hc⟩
      have hID := idom_is (some ⟨blk, 0, none⟩) gcap blk 0 hd (chG (m + 1) (m + 1) 0 (m + 1)) HP.out.1 w3 (HG2.out.below hb3)
      rw [hlen1] at hID
      have HID := hide hID
      have HG3 := hide (HG2.out.below hb3)
      clear hID hrows3 hfro3 hff3 hfin3 hwk3 hord3
      go_wp2_with fail
      refine HID.out.mono ?_
      clear HID
      rintro e w4 ⟨hb4, IB, d4, m4, o4, hIB, rfl, hdB, hwk4, hfin4⟩
      have hord4 := ord_of (g := chG (m + 1) (m + 1) 0 (m + 1)) (by rw [hlen1]; omega) (by rw [hlen1]; exact hwk4)
      have hin1 : InRow (chG (m + 1) (m + 1) 0 (m + 1)) := ch_inrow (m + 1) (m + 1) 0 (fun h => by omega)
      have hd4 := hin1.row hord4 hfin4
      rw [hlen1] at hd4
      subst hd4
      have HFIN := hide hfin4
      have HORD := hide hord4
      have HANC : Hid (∀ a x, x < m + 1 → (Anc (rowD (m + 1)) x a ↔ a ≤ x)) := fun a x hx => hin1.anc hord4 hfin4 (by rw [hlen1]; exact hx)
      have HALL : Hid (∀ x, x < m + 1 → x ∈ o4) := fun x hx => hin1.all hord4 x (by rw [hlen1]; exact hx)
      have hs4 := hb4.size
      have hIl := lt_of hdB
      -- the last row is another
      have k5 := World.alloc_heap_new w4 (.cells #[.int .i64 (t : Int)] 3)
      have hb5 := bel_new w4 (.cells #[.int .i64 (t : Int)] 3)
      have hG5 := ((HG3.out.below hb4).below hb5).set m (by rw [castG_len, hlen1]; omega) w4.heap.size (t : Int) k5
      rw [show ((castG (chG (m + 1) (m + 1) 0 (m + 1))).set m [(t : Int)]) = castG (chG (m + 1) m t (m + 1)) from by
        have := castG_set (chG (m + 1) (m + 1) 0 (m + 1)) m [t]
        rw [show (m + 1 - 1) = m from rfl] at *
        rw [← HP.out.2.2]; exact this.symm] at hG5
      have hT5 : Turns (fun b => b = blk) w4 ((w4.alloc (.cells #[.int .i64 (t : Int)] 3)).setCell ⟨blk, m, none⟩ (.slice (some ⟨w4.heap.size, 0, none⟩) 1 1)) := (Turns.alloc _ _ _).trans (Turns.setCell _ ⟨blk, m, none⟩ _ rfl)
      have hc5 := ((HG3.out.below hb4).below hb5).has m (by rw [castG_len, hlen1]; omega)
      have hf5 : (w4.alloc (.cells #[.int .i64 (t : Int)] 3)).frozen? ⟨blk, m, none⟩ = false := frozen_of ((hb5.block blk (by omega)).trans ((hb4.block blk (by omega)).trans ((hb3.block blk (by omega)).trans HFZ.out))) m
      have HK := hide (And.intro hG5 hT5)
      rw [Nat.zero_add] at hc5
      clear hG5 hT5 k5 hin1 hord4 hfin4 hwk4
      have g5 : ((m : Int) < (m : Int) + 1) = True := eq_true (by omega)
      have g6 : (m < m + 1) = True := eq_true (by omega)
      have HB12 := hide hb1
      have hbw2 : Below w.heap.size w w2 := hb1.trans (by rw [← hhs] at hBW; exact hBW.mono (by omega))
      have hbw4 := bel_two (bel_two hbw2 hb3) hb4
      have HIB := hide hdB
      clear hdB
      go_wp2_with fail
      clear hc5 hf5
      obtain ⟨hG5, hT5⟩ := HK.out
      clear HK
      generalize (w4.alloc (.cells #[.int .i64 (t : Int)] 3)).setCell ⟨blk, m, none⟩ (.slice (some ⟨w4.heap.size, 0, none⟩) 1 1) = w5 at *
      have hs5 := hT5.size
      have hbw5 : Below w.heap.size w w5 := hT5.below hbw4 hbw4.size (fun b hb hq => by omega)
      have hlen2 : (chG (m + 1) m t (m + 1)).length = m + 1 := chG_len _ _ _ _
      have HIB5 := hide ((hT5.block IB hIl (by omega)).trans HIB.out)
      have HF5 : Hid (∀ W, Below w5.heap.size w5 W → ∀ i, i < m + 1 → ∃ av cap, W.cell? ⟨RB, i, none⟩ = some (.slice av 0 cap)) := fun W hb => HF3.out W (((Turns.of_below hb4).mono fun b hb => .inr hb).trans ((hT5.mono fun b hb => .inl hb).trans ((Turns.of_below hb).mono fun b hb => .inr (by omega))))
      have HG5 := hide hG5
      have hFR := frontier_is (some ⟨blk, 0, none⟩) gcap blk 0 _ (chG (m + 1) m t (m + 1)) HP.out.2.1 w5 hG5
      rw [hlen2] at hFR
      have HFR := hide hFR
      clear hFR hG5 hT5 HF3 HIB HG2 HG3 hb3 hb4 hb5
      refine HFR.out.mono ?_
      clear HFR
      rintro e w6 ⟨hb6, RB6, base6, d6, m6, o6, f6, -, -, -, rfl, hwk6, hfin6, hrows6, hfro6⟩
      have hord6 := ord_of (g := chG (m + 1) m t (m + 1)) (by rw [hlen2]; omega) (by rw [hlen2]; exact hwk6)
      have hff6 := ch_fro (m + 1) m t (by omega) n2 (fun h => rfl) hord6 hfin6 hfro6
      have HV6 : Hid (∀ i, i < m + 1 → ∃ u, w6.cell? ⟨RB6, i, none⟩ = some u ∧ RowN w6 u (if t ≤ i then [(t : Int)] else []) ∧ RB6 < w6.heap.size) := fun i hi => by
        obtain ⟨vs, h1, h2, h3, _⟩ := hrows6
        obtain ⟨v, hv, ho⟩ := h3 i hi
        refine ⟨v, by rw [cell_of h2]; simpa using hv, ?_, lt_of h2⟩
        have := RowN.of_owns ho
        rw [hff6 i hi] at this
        by_cases hti : t ≤ i
        · rw [if_pos ⟨by omega, hti⟩] at this; rw [if_pos hti]; exact this
        · rw [if_neg (fun h => hti h.2)] at this; rw [if_neg hti]; exact this
      have hID := idom_is (some ⟨blk, 0, none⟩) gcap blk 0 _ (chG (m + 1) m t (m + 1)) HP.out.2.1 w6 (HG5.out.below hb6)
      rw [hlen2] at hID
      have HID := hide hID
      have hs6 := hb6.size
      have HIB6 := hide ((hb6.block IB (by have := lt_of HIB5.out; exact this)).trans HIB5.out)
      have hbw6 := bel_two hbw5 hb6
      clear hID hrows6 hfro6 hff6 hfin6 hwk6 hord6
      go_wp2_with fail
      refine HID.out.mono ?_
      clear HID
      rintro e w7 ⟨hb7, IB7, d7, m7, o7, hIB7, rfl, hdB7, hwk7, hfin7⟩
      have hord7 := ord_of (g := chG (m + 1) m t (m + 1)) (by rw [hlen2]; omega) (by rw [hlen2]; exact hwk7)
      have hin2 : InRow (chG (m + 1) m t (m + 1)) := ch_inrow (m + 1) m t (fun h => by omega)
      have hd7 := hin2.row hord7 hfin7
      rw [hlen2] at hd7
      subst hd7
      have hIB7' := (hb7.block IB (lt_of HIB6.out)).trans HIB6.out
      have hbw7 := bel_two hbw6 hb7
      have r1 : RowN w7 (.slice (some ⟨IB7, 0, none⟩) (m + 1) (m + 1)) (rowD (m + 1)) := RowN.of_block (xs := rowD (m + 1)) hdB7 (by rw [rowD_len])
      have r2 : RowN w7 (.slice (some ⟨IB, 0, none⟩) (m + 1) (m + 1)) (rowD (m + 1)) := RowN.of_block (xs := rowD (m + 1)) hIB7' (by rw [rowD_len])
      have HI := hide (ints_same (xs := rowD (m + 1)) (by rw [rowD_len]; omega) r1 r2)
      have HIBB := hide hIB7'
      have hb57 := bel_two hb6 hb7
      clear r1 r2 hIB7' hdB7 hwk7 hfin7 hord7 hin2 HIB5 HIB6
      go_wp2_with fail
      refine HI.out.mono ?_
      clear HI
      rintro e w8 ⟨rfl, hq8⟩
      have hb8 := bel_q hq8
      clear hq8
      have hbw8 := bel_two hbw7 hb8
      have hb58 := bel_two hb57 hb8
      have hb68 := bel_two hb7 hb8
      have HIB8 := hide ((hb8.block IB (lt_of HIBB.out)).trans HIBB.out)
      have HF8 : Hid (∀ W, Below w8.heap.size w8 W → ∀ i, i < m + 1 → ∃ av cap, W.cell? ⟨RB, i, none⟩ = some (.slice av 0 cap)) := fun W hb => HF5.out W (bel_two hb58 hb)
      have HV8 : Hid (∀ W, Below w8.heap.size w8 W → ∀ i, i < m + 1 → ∃ u, W.cell? ⟨RB6, i, none⟩ = some u ∧ RowN W u (if t ≤ i then [(t : Int)] else [])) := fun W hb i hi => by
        obtain ⟨u, h1, h2, h3⟩ := HV6.out i hi
        have hbb := bel_two hb68 hb
        exact ⟨u, (hbb.cell (p := ⟨RB6, i, none⟩) h3).trans h1, h2.below hbb⟩
      clear HF5 HV6 HIBB hb57 hb58 hb68 hb8 hb7 hb6
      go_wp2
      go_loopw [12] (fun i W => ∃ k : Nat, i = .int .i64 k ∧ k ≤ m + 1 ∧ Below w8.heap.size w8 W) (fun i _ => m + 1 - (intOf i).toNat)
      case atStart => exact ⟨0, rfl, Nat.zero_le _, Below.refl _ _⟩
      case round =>
        obtain ⟨k, rfl, hk, hb⟩ := hrel
        by_cases hkl : k < m + 1
        · have e1 : ((k : Int) < (m : Int) + 1) = True := eq_true (by omega)
          have e1' : ((k : Int) < ((m + 1 : Nat) : Int)) = True := eq_true (by omega)
          have hba := bel_new wr (.cells #[.int .i64 (t : Int)] 3)
          have hb9 := bel_two hb hba
          have ci := ints_at ((hb9.block IB (lt_of HIB8.out)).trans HIB8.out) k (by rw [rowD_len]; exact hkl)
          rw [rowD_ask _ _ hkl] at ci
          obtain ⟨fav, fcap, cf⟩ := HF8.out _ hb9 k hkl
          obtain ⟨u, ch, hu⟩ := HV8.out _ hb9 k hkl
          have k9 := World.alloc_heap_new wr (.cells #[.int .i64 (t : Int)] 3)
          have t1 : domB o4 (rowD (m + 1)) (0 : Int) (k : Int) = true := domB_true.2 ⟨0, k, rfl, rfl, HALL.out 0 (by omega), HALL.out k hkl, (HANC.out 0 k hkl).2 (by omega)⟩
          have t2 : domB o4 (rowD (m + 1)) (m : Int) (k : Int) = decide (k = m) := by
            by_cases hkm : k = m
            · rw [decide_eq_true hkm]
              exact domB_true.2 ⟨m, k, rfl, rfl, HALL.out m (by omega), HALL.out k hkl, (HANC.out m k hkl).2 (by omega)⟩
            · rw [decide_eq_false hkm]
              refine domB_false fun ⟨x, y, h1, h2, h3, h4, h5⟩ => ?_
              have hx : x = m := by omega
              have hy : y = k := by omega
              subst hx hy
              have := (HANC.out x y hkl).1 h5
              omega
          have HD : Hid (∀ W, Below w8.heap.size w8 W → (Calls Try.prog 10 #[.slice (some ⟨IB, 0, none⟩) (m + 1) (m + 1), .int .i64 0, .int .i64 (k : Int)] W fun e w' => Below W.heap.size W w' ∧ e = .returned (.bool true)) ∧ (Calls Try.prog 10 #[.slice (some ⟨IB, 0, none⟩) (m + 1) (m + 1), .int .i64 (m : Int), .int .i64 (k : Int)] W fun e w' => Below W.heap.size W w' ∧ e = .returned (.bool (decide (k = m))))) := fun W hW => by
            have hI := (hW.block IB (lt_of HIB8.out)).trans HIB8.out
            have a1 := dominates_is (chG (m + 1) (m + 1) 0 (m + 1)) (by rw [hlen1]; omega) o4 HORD.out _ HFIN.out IB 0 k W hI
            have a2 := dominates_is (chG (m + 1) (m + 1) 0 (m + 1)) (by rw [hlen1]; omega) o4 HORD.out _ HFIN.out IB m k W hI
            rw [t1, hlen1] at a1
            rw [t2, hlen1] at a2
            exact ⟨a1, a2⟩
          have HDM : Hid (decide (k = m) = ((k : Int) == (m : Int))) := by
            rw [Hid]
            by_cases hkm : k = m
            · subst hkm; simp
            · rw [decide_eq_false hkm]; symm; simp; omega
          obtain ⟨uav, ucap, hue⟩ := hu.shape
          subst hue
          have HI : Hid (∀ want, RowN (wr.alloc (.cells #[.int .i64 (t : Int)] 3)) want (if t ≤ k then [(t : Int)] else []) → Calls Try.prog 16 #[.slice uav (if t ≤ k then [(t : Int)] else []).length ucap, want] (wr.alloc (.cells #[.int .i64 (t : Int)] 3)) fun e w' => e = .returned (.bool true) ∧ ∃ q, w' = (wr.alloc (.cells #[.int .i64 (t : Int)] 3)).drewN q) := fun want hw => ints_same (by split <;> simp) hu hw
          clear t1 t2 hu
          by_cases htk : t ≤ k
          · have q1 : ((k : Int) < (t : Int)) = False := eq_false (by omega)
            have HN := hide (HI.out (.slice (some ⟨wr.heap.size, 0, none⟩) 1 1) (by rw [if_pos htk]; exact RowN.of_block (xs := [(t : Int)]) k9 rfl))
            rw [if_pos htk] at HN ch
            have HB9 := hide hb9
            clear HI k9 htk hba hb9
            simp only [List.length_cons, List.length_nil, Nat.zero_add] at HN ch
            go_wp2_with fail
            refine HN.out.mono ?_
            clear HN
            rintro e w9 ⟨rfl, hq9⟩
            have hb10 := bel_two HB9.out (bel_q hq9)
            clear hq9 HB9
            go_wp2_with fail
            refine (HD.out w9 hb10).1.mono ?_
            rintro e w10 ⟨hbx, rfl⟩
            have hb11 := bel_two hb10 hbx
            clear hbx hb10
            go_wp2_with fail
            refine (HD.out w10 hb11).2.mono ?_
            rintro e w11 ⟨hbx, rfl⟩
            have hb12 := bel_two hb11 hbx
            clear hbx hb11
            rw [HDM.out]
            go_wp2
            go_roundw
            case rel => exact ⟨k + 1, by go_num, by omega, hb12⟩
            case measure => simp [intOf]; omega
          · have q1 : ((k : Int) < (t : Int)) = True := eq_true (by omega)
            have HN := hide (HI.out (.slice none 0 0) (by rw [if_neg htk]; exact ⟨none, 0, 0, 0, rfl, fun h => absurd h (by decide), fun k hk => absurd hk (Nat.not_lt_zero _)⟩))
            rw [if_neg htk] at HN ch
            have HB9 := hide hb9
            clear HI k9 htk hba hb9
            simp only [List.length_nil] at HN ch
            go_wp2_with fail
            refine HN.out.mono ?_
            clear HN
            rintro e w9 ⟨rfl, hq9⟩
            have hb10 := bel_two HB9.out (bel_q hq9)
            clear hq9 HB9
            go_wp2_with fail
            refine (HD.out w9 hb10).1.mono ?_
            rintro e w10 ⟨hbx, rfl⟩
            have hb11 := bel_two hb10 hbx
            clear hbx hb10
            go_wp2_with fail
            refine (HD.out w10 hb11).2.mono ?_
            rintro e w11 ⟨hbx, rfl⟩
            have hb12 := bel_two hb11 hbx
            clear hbx hb11
            rw [HDM.out]
            go_wp2
            go_roundw
            case rel => exact ⟨k + 1, by go_num, by omega, hb12⟩
            case measure => simp [intOf]; omega
        · have e1 : ((k : Int) < (m : Int) + 1) = False := eq_false (by omega)
          go_wp2
          go_ret
          exact ⟨rfl, bel_two hbw8 hb⟩
end Go.Proofs.Ytonoeodlchkiaaa
