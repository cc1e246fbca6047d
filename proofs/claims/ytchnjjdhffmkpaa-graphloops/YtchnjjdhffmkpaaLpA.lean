/-
  The law GraphLoops (layer 6): its walk.
-/
import Derived.Test.YtchnjjdhffmkpaaReaA
import Derived.Test.YtchnjjdhffmkpaaLpP
namespace Go.Proofs.Ytchnjjdhffmkpaa
open Go.ChangeShapes Go.WideShapes Go.ChangeAt Go.RowKit Go.Shelf

def sumTo (f : Nat → Nat) (k : Nat) : Nat := ((List.range k).map f).sum
theorem sumTo_succ (f : Nat → Nat) (k : Nat) : sumTo f (k + 1) = sumTo f k + f k := by
  unfold sumTo; rw [List.range_succ, List.map_append, List.sum_append]; simp
theorem sumTo_le (f : Nat → Nat) (c : Nat) (h : ∀ i, f i ≤ c) : ∀ k, sumTo f k ≤ c * k
  | 0 => by simp [sumTo]
  | k + 1 => by have := sumTo_le f c h k; have := h k; rw [sumTo_succ, Nat.mul_add, Nat.mul_one]; omega
theorem sumTo_mono (f : Nat → Nat) (n : Nat) : ∀ d, sumTo f n ≤ sumTo f (n + d)
  | 0 => Nat.le_refl _
  | d + 1 => by rw [← Nat.add_assoc, sumTo_succ]; have := sumTo_mono f n d; omega

set_option maxRecDepth 100000 in
set_option maxHeartbeats 8000000 in
theorem lloops_walk (av : Option Addr) (cap blk off : Nat) (hd : Nat → Hdr) (gi : List (List Int)) (w : World) (hG : GAt w av blk off hd gi) :
    Calls Try.prog 6 #[.slice av gi.length cap] w fun e w' => e = .returned (.bool true) ∧ Below w.heap.size w w' := by
  go_enter Try.func6, Try.ntmps6
  go_wp2_with fail
  refine (small_is w).mono ?_
  rintro e w1 ⟨rfl, hb1⟩
  have hG1 := hG.below hb1
  have hf := few_is av cap blk off hd gi w1 hG1
  go_wp2_with fail
  refine hf.mono ?_
  rintro e w1' ⟨rfl, ⟨rfl, hl40, hl20⟩ | rfl⟩
  case inr =>
    go_wp2
    go_ret
    exact ⟨rfl, hb1⟩
  clear hf hl20
  have hr := right_any av cap blk off hd gi w1' hG1
  by_cases hri : RightI gi
  case neg =>
    rw [rightB_false hri] at hr
    go_wp2_with fail
    refine hr.mono ?_
    rintro e w3 ⟨rfl, hb3⟩
    go_wp2
    go_ret
    exact ⟨rfl, bel_two hb1 hb3⟩
  obtain ⟨g, hgr, rfl⟩ := hri.nat
  rw [castG_len] at *
  rw [rightB_true.2 hgr.toI] at hr
  go_wp2_with fail
  refine hr.mono ?_
  rintro e w2 ⟨rfl, hb2⟩
  have hG2 := hG1.below hb2
  have hB2 := bel_two hb1 hb2
  clear hr hG1 hG hb1 hb2
  have hlp := loops_is av cap blk off hd g hgr w2 hG2
  go_wp2_with fail
  refine hlp.mono ?_
  rintro e w3 ⟨hb3, vl, m', o, rfl, hw, hrl⟩
  have hG3 := hG2.below hb3
  have hB3 := bel_two hB2 hb3
  have hrn := RowsN.of_rowsR hrl
  clear hlp hG2 hb3 hB2 hrl
  have hbk := back_is av cap blk off hd g hgr w3 hG3
  obtain ⟨lav, lcap, LB, LO, hle, hrn2, hrn3⟩ := hrn
  rw [castG_len] at hle hrn2 hrn3
  subst hle
  go_wp2_with fail
  refine hbk.mono ?_
  rintro e W ⟨hb4, vb, m3, o3, rfl, hw3, hob⟩
  obtain rfl := (hw3.det hw).2
  clear hbk hw3
  have hB4 := bel_two hB3 hb4
  have hG4 := hG3.below hb4
  obtain ⟨bav, bcap, hbe, -⟩ := owns_shape hob
  subst hbe
  clear hob hri
  have hone := hgr.one
  have hmost := hgr.most
  have hrows := hgr.rows
  have hle := loops_le hgr o3
  have hz := loops_zero hgr o3
  have hBl : (backL (plc o3.reverse) g).length ≤ 40000 := by have := backTo_len (plc o3.reverse) g hrows g.length; unfold backL; omega
  have HOK := hide (loopsTo_ok hgr hw)
  have HSUM := hide (edges_both hgr)
  generalize (backL (plc o3.reverse) g).length = nb at *
  generalize loopsTo g o3 g.length = L at *
  have HLR : Hid (∀ i, i < L.length → lav = some ⟨LB, LO, none⟩ ∧ ∃ rav rcap rb ro, W.cell? ⟨LB, LO + i, none⟩ = some (.slice rav (L.getD i []).length rcap) ∧ LB < W.heap.size ∧ (0 < (L.getD i []).length → rav = some ⟨rb, ro, none⟩ ∧ rb < W.heap.size) ∧ ∀ k, k < (L.getD i []).length → W.cell? ⟨rb, ro + k, none⟩ = some (.int .i64 (((L.getD i []).getD k 0 : Nat) : Int))) := fun i hi => by
    obtain ⟨a1, a2⟩ := hrn2 (by omega)
    obtain ⟨u, hu, hr⟩ := hrn3 i hi
    obtain ⟨rav, rcap, rb, ro, rfl, r2, r3⟩ := hr
    rw [castG_at] at hu r2 r3
    rw [List.length_map] at hu r2 r3
    have hs := hb4.size
    refine ⟨a1, rav, rcap, rb, ro, (hb4.cell (p := ⟨LB, LO + i, none⟩) a2).trans hu, by omega, fun h0 => ⟨(r2 h0).1, by have := (r2 h0).2; omega⟩, fun k hk => ?_⟩
    rw [hb4.cell (p := ⟨rb, ro + k, none⟩) (r2 (by omega)).2, r3 k hk, cast_at]
  have HLM : Hid (∀ i, i < L.length → LoopOk g (L.getD i [])) := fun i hi => HOK.out _ (by rw [List.getD_eq_getElem?_getD, List.getElem?_eq_getElem hi]; exact List.getElem_mem hi)
  have HGG := hide hG4
  have HBB := hide hB4
  clear hrn2 hrn3 hG3 hB3 hb4 hw HOK hG4 hB4
  have mk := make_flags g.length (by omega)
  generalize hl0 : L.length = l0 at *
  clear hl0
  by_cases hl00 : l0 = 0
  case pos =>
    have t1 : ((l0 : Int) == 0) = true := by simp; omega
    have t2 : ((nb : Int) == 0) = true := by have := hz.1 hl00; simp; omega
    have t3 : ((nb : Int) < (l0 : Int)) = False := eq_false (by omega)
    have t4 : (nb < l0) = False := eq_false (by omega)
    clear hz hl00
    go_wp2
    clear t1 t2 t3 t4
    go_loopw [7] (fun i wr => ∃ k : Nat, i = .int .i64 k ∧ k ≤ l0 ∧ Below W.heap.size W wr) (fun i _ => l0 - (intOf i).toNat)
    case atStart => exact ⟨0, rfl, Nat.zero_le _, Below.refl _ _⟩
    case round =>
      obtain ⟨k, rfl, hk, hBr⟩ := hrel
      by_cases hkl : k < l0
      · have e1 : ((k : Int) < (l0 : Int)) = True := eq_true (by omega)
        obtain ⟨hlav, rav, rcap, rb, ro, c1, hLB, hrv, hrc⟩ := HLR.out k hkl
        subst hlav
        have hok := HLM.out k hkl
        clear HLR HLM HSUM
        generalize L.getD k [] = r at *
        have hrlen : r.length ≤ 4096 := by
          have h1 := hok.nodup.length_le_of_subset (l₂ := List.range g.length) (fun x hx => List.mem_range.2 (hok.lt x hx))
          rw [List.length_range] at h1; omega
        have HTK : Hid (∀ j, j < r.length → r.getD j 0 < g.length ∧ r.getD j 0 ∉ r.take j ∧ r.take (j + 1) = r.take j ++ [r.getD j 0]) := fun j hj => by
          have h1 := take_next r j hj
          refine ⟨hok.lt _ (getD_mem _ _ hj), fun hm => ?_, h1⟩
          have h2 := hok.nodup.sublist (List.take_sublist (j + 1) r)
          rw [h1, List.nodup_append] at h2
          exact h2.2.2 _ hm _ (by simp) rfl
        have HST : Hid (∀ j, j < r.length → r.getD j 0 < g.length ∧ ∃ y, y ∈ g.getD (r.getD j 0) [] ∧ y ∈ r) := fun j hj => ⟨hok.lt _ (getD_mem _ _ hj), hok.stay _ (getD_mem _ _ hj)⟩
        have cW : wr.cell? ⟨LB, LO + k, none⟩ = some (.slice rav r.length rcap) := (hBr.cell (p := ⟨LB, LO + k, none⟩) hLB).trans c1
        have HRC0 := hide hrc
        have HTA : Hid (r.take r.length = r) := List.take_length
        clear hok hrc
        generalize hn : r.length = n at *
        clear hn
        have hWA := hBr.size
        go_wp2
        have hb6 := bel_new wr (flagsO (List.replicate g.length false))
        have k6 : (wr.alloc (flagsO (List.replicate g.length false))).heap[wr.heap.size]? = some (flagsO (flg g.length (r.take 0))) := by
          rw [List.take_zero, flg_nil]; exact World.alloc_heap_new wr _
        have hs6 : (wr.alloc (flagsO (List.replicate g.length false))).heap.size = wr.heap.size + 1 := by simp
        have hB6 := bel_two hBr hb6
        generalize wr.alloc (flagsO (List.replicate g.length false)) = w6 at *
        generalize wr.heap.size = A at *
        have c6 : w6.cell? ⟨LB, LO + k, none⟩ = some (.slice rav n rcap) := (hB6.cell (p := ⟨LB, LO + k, none⟩) hLB).trans c1
        have HRC : Hid (∀ j, j < n → w6.cell? ⟨rb, ro + j, none⟩ = some (.int .i64 ((r.getD j 0 : Nat) : Int))) := fun j hj => (hB6.cell (p := ⟨rb, ro + j, none⟩) (hrv (by omega)).2).trans (HRC0.out j hj)
        have HB6 := hide hB6
        clear mk hb6 hBr cW c1 HRC0 hB6
        go_loopw [9] (fun i wr => ∃ j : Nat, i = .int .i64 j ∧ j ≤ n ∧ Turns (fun b => b = A) w6 wr ∧ wr.heap[A]? = some (flagsO (flg g.length (r.take j)))) (fun i _ => n - (intOf i).toNat)
        case atStart => exact ⟨0, rfl, Nat.zero_le _, Turns.refl _ _, k6⟩
        case round =>
          obtain ⟨j, rfl, hj, ht, kp⟩ := hrel
          have cL : wr.cell? ⟨LB, LO + k, none⟩ = some (.slice rav n rcap) := (World.cell?_of_block (ht.block LB (by omega) (by show ¬ LB = A; omega))).trans c6
          have HRC2 : Hid (∀ j, j < n → wr.cell? ⟨rb, ro + j, none⟩ = some (.int .i64 ((r.getD j 0 : Nat) : Int))) := fun j hj => by
            have hx := (hrv (by omega)).2
            exact (World.cell?_of_block (ht.block rb (by omega) (by show ¬ rb = A; omega))).trans (HRC.out j hj)
          clear k6 c6 HRC
          by_cases hjl : j < n
          · have e2 : ((j : Int) < (n : Int)) = True := eq_true (by omega)
            obtain ⟨hx1, hx3, hx4⟩ := HTK.out j hjl
            obtain ⟨rfl, hrb⟩ := hrv (by omega)
            have c2 := HRC2.out j hjl
            have c3 : wr.cell? ⟨A, r.getD j 0, none⟩ = some (.bool false) := by
              rw [cell_of kp, List.getElem?_toArray, List.getElem?_map, flg_at _ _ _ hx1, decide_eq_false hx3]; rfl
            have f3 := frozen_of kp (r.getD j 0)
            have hset := flg_set g.length (r.take j) (r.getD j 0)
            rw [← hx4] at hset
            have HS := hide hset
            have HKP := hide kp
            clear hset hx4 hx3 kp
            generalize r.getD j 0 = x at *
            have hxi : ((x : Int) < (g.length : Int)) = True := eq_true (by omega)
            have hxg : ((g.length : Int) ≤ (x : Int)) = False := eq_false (by omega)
            have hxb : x ≤ 4096 := by omega
            go_wp2
            go_roundw
            case rel =>
              refine ⟨j + 1, by go_num, hjl, ht.trans (Turns.setCell (Q := fun b => b = A) wr ⟨A, x, none⟩ _ rfl), ?_⟩
              rw [← HS.out]
              exact set_flags HKP.out x true
            case measure => simp [intOf]; omega
          · have e2 : ((j : Int) < (n : Int)) = False := eq_false (by omega)
            obtain rfl : j = n := by omega
            rw [HTA.out] at kp
            have hB7 : Below W.heap.size W wr := Turns.below HB6.out (by have := HB6.out.size; omega) ht (fun b hb => by show ¬ b = A; omega)
            have hG7 := HGG.out.below hB7
            have HIN : Hid (∀ x, x < g.length → wr.cell? ⟨A, x, none⟩ = some (.bool (decide (x ∈ r)))) := fun x hx => by
              rw [cell_of kp, List.getElem?_toArray, List.getElem?_map, flg_at _ _ _ hx]; rfl
            have HGC : Hid ((∀ b, b < g.length → wr.cell? ⟨blk, off + b, none⟩ = some (.slice (hd b).av (g.getD b []).length (hd b).cap)) ∧ (∀ b, b < g.length → 0 < (g.getD b []).length → (hd b).av = some ⟨(hd b).blk, (hd b).off, none⟩) ∧ ∀ b k, b < g.length → k < (g.getD b []).length → wr.cell? ⟨(hd b).blk, (hd b).off + k, none⟩ = some (.int .i64 (((g.getD b []).getD k 0 : Nat) : Int))) :=
              ⟨fun b hb => by have := hG7.has b (by rw [castG_len]; exact hb); rwa [castG_at, List.length_map] at this, fun b hb => by have := hG7.rat b (by rw [castG_len]; exact hb); rwa [castG_at, List.length_map] at this, fun b k hb hk => by have := hG7.rhas b k (by rw [castG_len]; exact hb) (by rw [castG_at, List.length_map]; exact hk); rwa [castG_at, cast_at] at this⟩
            obtain rfl := hG7.at_ (by rw [castG_len]; omega)
            have HB7 := hide hB7
            clear ht kp HB6 hs6 hG7 hB7 HTK HTA HGG
            generalize hWW : wr = W2 at *
            clear hWW
            go_wp2
            go_loopw [11] (fun i wr => W2 = wr ∧ ∃ q : Nat, i = .int .i64 q ∧ q ≤ j) (fun i _ => j - (intOf i).toNat)
            case atStart => exact ⟨rfl, 0, rfl, Nat.zero_le _⟩
            case round =>
              obtain ⟨rfl, q, rfl, hq⟩ := hrel
              by_cases hql : q < j
              · have e3 : ((q : Int) < (j : Int)) = True := eq_true (by omega)
                obtain ⟨hx1, y, hy1, hy2⟩ := HST.out q hql
                obtain ⟨rfl, hrb⟩ := hrv (by omega)
                have c2 := HRC2.out q hql
                generalize r.getD q 0 = x at *
                have hxi : ((x : Int) < (g.length : Int)) = True := eq_true (by omega)
                have hxb : x ≤ 4096 := by omega
                have HT : Hid (∀ m, m < (g.getD x []).length → (g.getD x []).getD m 0 < g.length) := fun m hm => hgr.lt x _ (getD_mem _ _ hm)
                have hr8 := hrows x
                have HXC : Hid (∀ m, m < (g.getD x []).length → W2.cell? ⟨(hd x).blk, (hd x).off + m, none⟩ = some (.int .i64 (((g.getD x []).getD m 0 : Nat) : Int))) := fun m hm => HGC.out.2.2 x m hx1 hm
                have cg := HGC.out.1 x hx1
                have hav := HGC.out.2.1 x hx1
                have HY : Hid (∃ m, m < (g.getD x []).length ∧ (g.getD x []).getD m 0 ∈ r) := by
                  obtain ⟨m, hm, e⟩ := (mem_getD _ _).1 hy1
                  exact ⟨m, hm, by rw [e]; exact hy2⟩
                clear hy1 hy2
                generalize g.getD x [] = row at *
                generalize hn : row.length = n2 at *
                clear hn
                go_wp2
                go_loopw [14, 13] (fun i sv wr => W2 = wr ∧ ∃ (m : Nat) (b : Bool), i = .int .i64 m ∧ sv = .bool b ∧ m ≤ n2 ∧ (b = true ↔ ∃ p, p < m ∧ row.getD p 0 ∈ r)) (fun i _ _ => n2 - (intOf i).toNat)
                case atStart => exact ⟨rfl, 0, false, rfl, rfl, Nat.zero_le _, by simp⟩
                case round =>
                  obtain ⟨rfl, m, b, rfl, rfl, hm, hb⟩ := hrel
                  have HB := hide hb
                  clear hb
                  by_cases hml : m < n2
                  · have e4 : ((m : Int) < (n2 : Int)) = True := eq_true (by omega)
                    have hav2 := hav (by omega)
                    rw [hav2] at cg
                    have cm := HXC.out m hml
                    have ht1 := HT.out m hml
                    have ct := HIN.out _ ht1
                    have HM : Hid (∃ t, t = row.getD m 0) := ⟨_, rfl⟩
                    have HUP : Hid (row.getD m 0 ∈ r → ∃ p, p < m + 1 ∧ row.getD p 0 ∈ r) := fun h => ⟨m, by omega, h⟩
                    have HUP2 : Hid ((∃ p, p < m ∧ row.getD p 0 ∈ r) → ∃ p, p < m + 1 ∧ row.getD p 0 ∈ r) := fun ⟨p, h1, h2⟩ => ⟨p, by omega, h2⟩
                    have HDN : Hid ((∃ p, p < m + 1 ∧ row.getD p 0 ∈ r) → (∃ p, p < m ∧ row.getD p 0 ∈ r) ∨ row.getD m 0 ∈ r) := fun ⟨p, h1, h2⟩ => by
                      rcases Nat.lt_or_ge p m with h | h
                      · exact .inl ⟨p, h, h2⟩
                      · obtain rfl : p = m := by omega
                        exact .inr h2
                    generalize row.getD m 0 = t at *
                    have hti : ((t : Int) < (g.length : Int)) = True := eq_true (by omega)
                    have htb : t ≤ 4096 := by omega
                    cases b with
                    | true =>
                      have HR := hide (HUP2.out (HB.out.1 rfl))
                      clear ct
                      go_wp2
                      go_roundw
                      case rel => exact ⟨trivial, m + 1, true, by go_num, rfl, hml, ⟨fun _ => HR.out, fun _ => rfl⟩⟩
                      case measure => simp [intOf]; omega
                    | false =>
                      have HNO : Hid (¬ ∃ p, p < m ∧ row.getD p 0 ∈ r) := fun h => by have := HB.out.2 h; cases this
                      by_cases htr : t ∈ r
                      · rw [decide_eq_true htr] at ct
                        have HR := hide (HUP.out htr)
                        clear htr
                        go_wp2
                        go_roundw
                        case rel => exact ⟨trivial, m + 1, true, by go_num, rfl, hml, ⟨fun _ => HR.out, fun _ => rfl⟩⟩
                        case measure => simp [intOf]; omega
                      · rw [decide_eq_false htr] at ct
                        have HR : Hid (¬ ∃ p, p < m + 1 ∧ row.getD p 0 ∈ r) := fun h => (HDN.out h).elim HNO.out htr
                        clear htr
                        go_wp2
                        go_roundw
                        case rel => exact ⟨trivial, m + 1, false, by go_num, rfl, hml, ⟨fun h => (by cases h), fun h => (HR.out h).elim⟩⟩
                        case measure => simp [intOf]; omega
                  · have e4 : ((m : Int) < (n2 : Int)) = False := eq_false (by omega)
                    have hbt : b = true := HB.out.2 (by obtain ⟨p, h1, h2⟩ := HY.out; exact ⟨p, by omega, h2⟩)
                    subst hbt
                    go_wp2
                    go_roundw
                    case rel => exact ⟨trivial, q + 1, by go_num, hql⟩
                    case measure => simp [intOf]; omega
              · have e3 : ((q : Int) < (j : Int)) = False := eq_false (by omega)
                go_wp2
                go_roundw
                case rel => exact ⟨k + 1, by go_num, hkl, HB7.out⟩
                case measure => simp [intOf]; omega
      · have e1 : ((k : Int) < (l0 : Int)) = False := eq_false (by omega)
        have hp := preds_is av cap blk off hd g hgr wr (HGG.out.below hBr)
        have hB5 := bel_two HBB.out hBr
        have hG5 := HGG.out.below hBr
        clear HLR HLM HGG HBB mk hBr
        go_wp2_with fail
        refine hp.mono ?_
        rintro e W5 ⟨hb5, H, base, hH1, hH2, rfl, hrb⟩
        have hB6 := bel_two hB5 hb5
        have hG6 := hG5.below hb5
        have HPH : Hid (∀ t, t < g.length → ∃ pav pcap, W5.cell? ⟨H, t, none⟩ = some (.slice pav (aheadL (edgesL g) t).length pcap)) := fun t ht => by
          obtain ⟨vs, h1, h2, h3, h4⟩ := hrb
          obtain ⟨v, hv, ho⟩ := h3 t ht
          obtain ⟨pav, pcap, rfl, -⟩ := owns_shape ho
          exact ⟨pav, pcap, by rw [cell_of h2]; simpa using hv⟩
        have HGH : Hid (∀ b, b < g.length → W5.cell? ⟨blk, off + b, none⟩ = some (.slice (hd b).av (g.getD b []).length (hd b).cap)) := fun b hb => by have := hG6.has b (by rw [castG_len]; exact hb); rwa [castG_at, List.length_map] at this
        obtain rfl := hG6.at_ (by rw [castG_len]; omega)
        have HFIN := hide hB6
        have HS2 : Hid (sumTo (fun t => (aheadL (edgesL g) t).length) g.length = sumTo (fun i => (g.getD i []).length) g.length) := by
          have h1 := HSUM.out
          have h2 : ((List.range g.length).map fun t => ((predsL g).getD t []).length) = (List.range g.length).map fun t => (aheadL (edgesL g) t).length := List.map_congr_left fun t ht => by rw [predsL_at _ _ (List.mem_range.1 ht)]
          rw [h2] at h1
          exact h1
        have HSL : Hid (∀ k, sumTo (fun i => (g.getD i []).length) k ≤ 8 * k) := sumTo_le _ 8 hrows
        clear hp hb5 hB5 hG5 hrb hB6 hG6 HSUM hH1 hH2
        go_wp2
        go_loopw [17, 16] (fun i nv wr => W5 = wr ∧ ∃ k : Nat, i = .int .i64 k ∧ nv = .int .i64 (sumTo (fun i => (g.getD i []).length) k : Nat) ∧ k ≤ g.length) (fun i _ _ => g.length - (intOf i).toNat)
        case atStart => exact ⟨rfl, 0, rfl, rfl, Nat.zero_le _⟩
        case round =>
          obtain ⟨rfl, q, rfl, rfl, hq⟩ := hrel
          by_cases hql : q < g.length
          · have e2 : ((q : Int) < (g.length : Int)) = True := eq_true (by omega)
            have cg := HGH.out q hql
            have hr8 := hrows q
            have hs8 := HSL.out q
            have HSC := hide (sumTo_succ (fun i => (g.getD i []).length) q)
            generalize sumTo (fun i => (g.getD i []).length) q = s at *
            generalize hgl : (g.getD q []).length = gl at *
            clear hgl
            have hqb : q ≤ 4096 := by omega
            go_wp2
            go_roundw
            case rel => exact ⟨trivial, q + 1, by go_num, by rw [HSC.out]; go_num, hql⟩
            case measure => simp [intOf]; omega
          · have e2 : ((q : Int) < (g.length : Int)) = False := eq_false (by omega)
            obtain rfl : q = g.length := by omega
            have hs8 := HSL.out g.length
            have HPM : Hid (∀ k, k < g.length → sumTo (fun t => (aheadL (edgesL g) t).length) k + (aheadL (edgesL g) k).length ≤ sumTo (fun i => (g.getD i []).length) g.length) := fun k hk => by
              rw [← HS2.out, ← sumTo_succ (fun t => (aheadL (edgesL g) t).length) k]
              have := sumTo_mono (fun t => (aheadL (edgesL g) t).length) (k + 1) (g.length - (k + 1))
              rwa [show k + 1 + (g.length - (k + 1)) = g.length by omega] at this
            clear HSL HGH
            generalize sumTo (fun i => (g.getD i []).length) g.length = S at *
            go_wp2
            go_loopw [18, 16] (fun i nv wr => W5 = wr ∧ ∃ (k : Nat) (z : Int), i = .int .i64 k ∧ nv = .int .i64 z ∧ k ≤ g.length ∧ z = (S : Int) - (sumTo (fun t => (aheadL (edgesL g) t).length) k : Nat)) (fun i _ _ => g.length - (intOf i).toNat)
            case atStart => exact ⟨rfl, 0, _, rfl, rfl, Nat.zero_le _, by simp [sumTo]⟩
            case round =>
              obtain ⟨rfl, p, z, rfl, rfl, hp, hz⟩ := hrel
              have HZ := hide hz
              clear hz
              by_cases hpl : p < g.length
              · have e3 : ((p : Int) < (g.length : Int)) = True := eq_true (by omega)
                obtain ⟨pav, pcap, cp⟩ := HPH.out p hpl
                have hm := HPM.out p hpl
                have HSC := hide (sumTo_succ (fun t => (aheadL (edgesL g) t).length) p)
                have hz1 : 0 ≤ z := by have := HZ.out; omega
                have hz2 : z ≤ 32768 := by have := HZ.out; omega
                have hal : (aheadL (edgesL g) p).length ≤ 32768 := by omega
                have HZ2 : Hid (z - ((aheadL (edgesL g) p).length : Int) = (S : Int) - (sumTo (fun t => (aheadL (edgesL g) t).length) (p + 1) : Nat)) := by
                  have := HZ.out; have h2 := HSC.out; rw [Hid, h2]; omega
                clear HZ hm HSC
                generalize (aheadL (edgesL g) p).length = al at *
                have hpb : p ≤ 4096 := by omega
                go_wp2
                go_roundw
                case rel => exact ⟨trivial, p + 1, z - (al : Int), by go_num, by go_num, hpl, HZ2.out⟩
                case measure => simp [intOf]; omega
              · have e3 : ((p : Int) < (g.length : Int)) = False := eq_false (by omega)
                obtain rfl : z = 0 := by have h1 := HZ.out; rw [show p = g.length by omega, HS2.out] at h1; omega
                go_wp2
                go_ret
                exact ⟨rfl, HFIN.out⟩
  case neg =>
    have hnb0 : nb ≠ 0 := fun h => hl00 (hz.2 h)
    have t1 : ((l0 : Int) == 0) = false := by simp; omega
    have t2 : ((nb : Int) == 0) = false := by simp; omega
    have t3 : ((nb : Int) < (l0 : Int)) = False := eq_false (by omega)
    have t4 : (nb < l0) = False := eq_false (by omega)
    clear hz
    go_wp2
    clear t1 t2 t3 t4
    go_loopw [7] (fun i wr => ∃ k : Nat, i = .int .i64 k ∧ k ≤ l0 ∧ Below W.heap.size W wr) (fun i _ => l0 - (intOf i).toNat)
    case atStart => exact ⟨0, rfl, Nat.zero_le _, Below.refl _ _⟩
    case round =>
      obtain ⟨k, rfl, hk, hBr⟩ := hrel
      by_cases hkl : k < l0
      · have e1 : ((k : Int) < (l0 : Int)) = True := eq_true (by omega)
        obtain ⟨hlav, rav, rcap, rb, ro, c1, hLB, hrv, hrc⟩ := HLR.out k hkl
        subst hlav
        have hok := HLM.out k hkl
        clear HLR HLM HSUM
        generalize L.getD k [] = r at *
        have hrlen : r.length ≤ 4096 := by
          have h1 := hok.nodup.length_le_of_subset (l₂ := List.range g.length) (fun x hx => List.mem_range.2 (hok.lt x hx))
          rw [List.length_range] at h1; omega
        have HTK : Hid (∀ j, j < r.length → r.getD j 0 < g.length ∧ r.getD j 0 ∉ r.take j ∧ r.take (j + 1) = r.take j ++ [r.getD j 0]) := fun j hj => by
          have h1 := take_next r j hj
          refine ⟨hok.lt _ (getD_mem _ _ hj), fun hm => ?_, h1⟩
          have h2 := hok.nodup.sublist (List.take_sublist (j + 1) r)
          rw [h1, List.nodup_append] at h2
          exact h2.2.2 _ hm _ (by simp) rfl
        have HST : Hid (∀ j, j < r.length → r.getD j 0 < g.length ∧ ∃ y, y ∈ g.getD (r.getD j 0) [] ∧ y ∈ r) := fun j hj => ⟨hok.lt _ (getD_mem _ _ hj), hok.stay _ (getD_mem _ _ hj)⟩
        have cW : wr.cell? ⟨LB, LO + k, none⟩ = some (.slice rav r.length rcap) := (hBr.cell (p := ⟨LB, LO + k, none⟩) hLB).trans c1
        have HRC0 := hide hrc
        have HTA : Hid (r.take r.length = r) := List.take_length
        clear hok hrc
        generalize hn : r.length = n at *
        clear hn
        have hWA := hBr.size
        go_wp2
        have hb6 := bel_new wr (flagsO (List.replicate g.length false))
        have k6 : (wr.alloc (flagsO (List.replicate g.length false))).heap[wr.heap.size]? = some (flagsO (flg g.length (r.take 0))) := by
          rw [List.take_zero, flg_nil]; exact World.alloc_heap_new wr _
        have hs6 : (wr.alloc (flagsO (List.replicate g.length false))).heap.size = wr.heap.size + 1 := by simp
        have hB6 := bel_two hBr hb6
        generalize wr.alloc (flagsO (List.replicate g.length false)) = w6 at *
        generalize wr.heap.size = A at *
        have c6 : w6.cell? ⟨LB, LO + k, none⟩ = some (.slice rav n rcap) := (hB6.cell (p := ⟨LB, LO + k, none⟩) hLB).trans c1
        have HRC : Hid (∀ j, j < n → w6.cell? ⟨rb, ro + j, none⟩ = some (.int .i64 ((r.getD j 0 : Nat) : Int))) := fun j hj => (hB6.cell (p := ⟨rb, ro + j, none⟩) (hrv (by omega)).2).trans (HRC0.out j hj)
        have HB6 := hide hB6
        clear mk hb6 hBr cW c1 HRC0 hB6
        go_loopw [9] (fun i wr => ∃ j : Nat, i = .int .i64 j ∧ j ≤ n ∧ Turns (fun b => b = A) w6 wr ∧ wr.heap[A]? = some (flagsO (flg g.length (r.take j)))) (fun i _ => n - (intOf i).toNat)
        case atStart => exact ⟨0, rfl, Nat.zero_le _, Turns.refl _ _, k6⟩
        case round =>
          obtain ⟨j, rfl, hj, ht, kp⟩ := hrel
          have cL : wr.cell? ⟨LB, LO + k, none⟩ = some (.slice rav n rcap) := (World.cell?_of_block (ht.block LB (by omega) (by show ¬ LB = A; omega))).trans c6
          have HRC2 : Hid (∀ j, j < n → wr.cell? ⟨rb, ro + j, none⟩ = some (.int .i64 ((r.getD j 0 : Nat) : Int))) := fun j hj => by
            have hx := (hrv (by omega)).2
            exact (World.cell?_of_block (ht.block rb (by omega) (by show ¬ rb = A; omega))).trans (HRC.out j hj)
          clear k6 c6 HRC
          by_cases hjl : j < n
          · have e2 : ((j : Int) < (n : Int)) = True := eq_true (by omega)
            obtain ⟨hx1, hx3, hx4⟩ := HTK.out j hjl
            obtain ⟨rfl, hrb⟩ := hrv (by omega)
            have c2 := HRC2.out j hjl
            have c3 : wr.cell? ⟨A, r.getD j 0, none⟩ = some (.bool false) := by
              rw [cell_of kp, List.getElem?_toArray, List.getElem?_map, flg_at _ _ _ hx1, decide_eq_false hx3]; rfl
            have f3 := frozen_of kp (r.getD j 0)
            have hset := flg_set g.length (r.take j) (r.getD j 0)
            rw [← hx4] at hset
            have HS := hide hset
            have HKP := hide kp
            clear hset hx4 hx3 kp
            generalize r.getD j 0 = x at *
            have hxi : ((x : Int) < (g.length : Int)) = True := eq_true (by omega)
            have hxg : ((g.length : Int) ≤ (x : Int)) = False := eq_false (by omega)
            have hxb : x ≤ 4096 := by omega
            go_wp2
            go_roundw
            case rel =>
              refine ⟨j + 1, by go_num, hjl, ht.trans (Turns.setCell (Q := fun b => b = A) wr ⟨A, x, none⟩ _ rfl), ?_⟩
              rw [← HS.out]
              exact set_flags HKP.out x true
            case measure => simp [intOf]; omega
          · have e2 : ((j : Int) < (n : Int)) = False := eq_false (by omega)
            obtain rfl : j = n := by omega
            rw [HTA.out] at kp
            have hB7 : Below W.heap.size W wr := Turns.below HB6.out (by have := HB6.out.size; omega) ht (fun b hb => by show ¬ b = A; omega)
            have hG7 := HGG.out.below hB7
            have HIN : Hid (∀ x, x < g.length → wr.cell? ⟨A, x, none⟩ = some (.bool (decide (x ∈ r)))) := fun x hx => by
              rw [cell_of kp, List.getElem?_toArray, List.getElem?_map, flg_at _ _ _ hx]; rfl
            have HGC : Hid ((∀ b, b < g.length → wr.cell? ⟨blk, off + b, none⟩ = some (.slice (hd b).av (g.getD b []).length (hd b).cap)) ∧ (∀ b, b < g.length → 0 < (g.getD b []).length → (hd b).av = some ⟨(hd b).blk, (hd b).off, none⟩) ∧ ∀ b k, b < g.length → k < (g.getD b []).length → wr.cell? ⟨(hd b).blk, (hd b).off + k, none⟩ = some (.int .i64 (((g.getD b []).getD k 0 : Nat) : Int))) :=
              ⟨fun b hb => by have := hG7.has b (by rw [castG_len]; exact hb); rwa [castG_at, List.length_map] at this, fun b hb => by have := hG7.rat b (by rw [castG_len]; exact hb); rwa [castG_at, List.length_map] at this, fun b k hb hk => by have := hG7.rhas b k (by rw [castG_len]; exact hb) (by rw [castG_at, List.length_map]; exact hk); rwa [castG_at, cast_at] at this⟩
            obtain rfl := hG7.at_ (by rw [castG_len]; omega)
            have HB7 := hide hB7
            clear ht kp HB6 hs6 hG7 hB7 HTK HTA HGG
            generalize hWW : wr = W2 at *
            clear hWW
            go_wp2
            go_loopw [11] (fun i wr => W2 = wr ∧ ∃ q : Nat, i = .int .i64 q ∧ q ≤ j) (fun i _ => j - (intOf i).toNat)
            case atStart => exact ⟨rfl, 0, rfl, Nat.zero_le _⟩
            case round =>
              obtain ⟨rfl, q, rfl, hq⟩ := hrel
              by_cases hql : q < j
              · have e3 : ((q : Int) < (j : Int)) = True := eq_true (by omega)
                obtain ⟨hx1, y, hy1, hy2⟩ := HST.out q hql
                obtain ⟨rfl, hrb⟩ := hrv (by omega)
                have c2 := HRC2.out q hql
                generalize r.getD q 0 = x at *
                have hxi : ((x : Int) < (g.length : Int)) = True := eq_true (by omega)
                have hxb : x ≤ 4096 := by omega
                have HT : Hid (∀ m, m < (g.getD x []).length → (g.getD x []).getD m 0 < g.length) := fun m hm => hgr.lt x _ (getD_mem _ _ hm)
                have hr8 := hrows x
                have HXC : Hid (∀ m, m < (g.getD x []).length → W2.cell? ⟨(hd x).blk, (hd x).off + m, none⟩ = some (.int .i64 (((g.getD x []).getD m 0 : Nat) : Int))) := fun m hm => HGC.out.2.2 x m hx1 hm
                have cg := HGC.out.1 x hx1
                have hav := HGC.out.2.1 x hx1
                have HY : Hid (∃ m, m < (g.getD x []).length ∧ (g.getD x []).getD m 0 ∈ r) := by
                  obtain ⟨m, hm, e⟩ := (mem_getD _ _).1 hy1
                  exact ⟨m, hm, by rw [e]; exact hy2⟩
                clear hy1 hy2
                generalize g.getD x [] = row at *
                generalize hn : row.length = n2 at *
                clear hn
                go_wp2
                go_loopw [14, 13] (fun i sv wr => W2 = wr ∧ ∃ (m : Nat) (b : Bool), i = .int .i64 m ∧ sv = .bool b ∧ m ≤ n2 ∧ (b = true ↔ ∃ p, p < m ∧ row.getD p 0 ∈ r)) (fun i _ _ => n2 - (intOf i).toNat)
                case atStart => exact ⟨rfl, 0, false, rfl, rfl, Nat.zero_le _, by simp⟩
                case round =>
                  obtain ⟨rfl, m, b, rfl, rfl, hm, hb⟩ := hrel
                  have HB := hide hb
                  clear hb
                  by_cases hml : m < n2
                  · have e4 : ((m : Int) < (n2 : Int)) = True := eq_true (by omega)
                    have hav2 := hav (by omega)
                    rw [hav2] at cg
                    have cm := HXC.out m hml
                    have ht1 := HT.out m hml
                    have ct := HIN.out _ ht1
                    have HM : Hid (∃ t, t = row.getD m 0) := ⟨_, rfl⟩
                    have HUP : Hid (row.getD m 0 ∈ r → ∃ p, p < m + 1 ∧ row.getD p 0 ∈ r) := fun h => ⟨m, by omega, h⟩
                    have HUP2 : Hid ((∃ p, p < m ∧ row.getD p 0 ∈ r) → ∃ p, p < m + 1 ∧ row.getD p 0 ∈ r) := fun ⟨p, h1, h2⟩ => ⟨p, by omega, h2⟩
                    have HDN : Hid ((∃ p, p < m + 1 ∧ row.getD p 0 ∈ r) → (∃ p, p < m ∧ row.getD p 0 ∈ r) ∨ row.getD m 0 ∈ r) := fun ⟨p, h1, h2⟩ => by
                      rcases Nat.lt_or_ge p m with h | h
                      · exact .inl ⟨p, h, h2⟩
                      · obtain rfl : p = m := by omega
                        exact .inr h2
                    generalize row.getD m 0 = t at *
                    have hti : ((t : Int) < (g.length : Int)) = True := eq_true (by omega)
                    have htb : t ≤ 4096 := by omega
                    cases b with
                    | true =>
                      have HR := hide (HUP2.out (HB.out.1 rfl))
                      clear ct
                      go_wp2
                      go_roundw
                      case rel => exact ⟨trivial, m + 1, true, by go_num, rfl, hml, ⟨fun _ => HR.out, fun _ => rfl⟩⟩
                      case measure => simp [intOf]; omega
                    | false =>
                      have HNO : Hid (¬ ∃ p, p < m ∧ row.getD p 0 ∈ r) := fun h => by have := HB.out.2 h; cases this
                      by_cases htr : t ∈ r
                      · rw [decide_eq_true htr] at ct
                        have HR := hide (HUP.out htr)
                        clear htr
                        go_wp2
                        go_roundw
                        case rel => exact ⟨trivial, m + 1, true, by go_num, rfl, hml, ⟨fun _ => HR.out, fun _ => rfl⟩⟩
                        case measure => simp [intOf]; omega
                      · rw [decide_eq_false htr] at ct
                        have HR : Hid (¬ ∃ p, p < m + 1 ∧ row.getD p 0 ∈ r) := fun h => (HDN.out h).elim HNO.out htr
                        clear htr
                        go_wp2
                        go_roundw
                        case rel => exact ⟨trivial, m + 1, false, by go_num, rfl, hml, ⟨fun h => (by cases h), fun h => (HR.out h).elim⟩⟩
                        case measure => simp [intOf]; omega
                  · have e4 : ((m : Int) < (n2 : Int)) = False := eq_false (by omega)
                    have hbt : b = true := HB.out.2 (by obtain ⟨p, h1, h2⟩ := HY.out; exact ⟨p, by omega, h2⟩)
                    subst hbt
                    go_wp2
                    go_roundw
                    case rel => exact ⟨trivial, q + 1, by go_num, hql⟩
                    case measure => simp [intOf]; omega
              · have e3 : ((q : Int) < (j : Int)) = False := eq_false (by omega)
                go_wp2
                go_roundw
                case rel => exact ⟨k + 1, by go_num, hkl, HB7.out⟩
                case measure => simp [intOf]; omega
      · have e1 : ((k : Int) < (l0 : Int)) = False := eq_false (by omega)
        have hp := preds_is av cap blk off hd g hgr wr (HGG.out.below hBr)
        have hB5 := bel_two HBB.out hBr
        have hG5 := HGG.out.below hBr
        clear HLR HLM HGG HBB mk hBr
        go_wp2_with fail
        refine hp.mono ?_
        rintro e W5 ⟨hb5, H, base, hH1, hH2, rfl, hrb⟩
        have hB6 := bel_two hB5 hb5
        have hG6 := hG5.below hb5
        have HPH : Hid (∀ t, t < g.length → ∃ pav pcap, W5.cell? ⟨H, t, none⟩ = some (.slice pav (aheadL (edgesL g) t).length pcap)) := fun t ht => by
          obtain ⟨vs, h1, h2, h3, h4⟩ := hrb
          obtain ⟨v, hv, ho⟩ := h3 t ht
          obtain ⟨pav, pcap, rfl, -⟩ := owns_shape ho
          exact ⟨pav, pcap, by rw [cell_of h2]; simpa using hv⟩
        have HGH : Hid (∀ b, b < g.length → W5.cell? ⟨blk, off + b, none⟩ = some (.slice (hd b).av (g.getD b []).length (hd b).cap)) := fun b hb => by have := hG6.has b (by rw [castG_len]; exact hb); rwa [castG_at, List.length_map] at this
        obtain rfl := hG6.at_ (by rw [castG_len]; omega)
        have HFIN := hide hB6
        have HS2 : Hid (sumTo (fun t => (aheadL (edgesL g) t).length) g.length = sumTo (fun i => (g.getD i []).length) g.length) := by
          have h1 := HSUM.out
          have h2 : ((List.range g.length).map fun t => ((predsL g).getD t []).length) = (List.range g.length).map fun t => (aheadL (edgesL g) t).length := List.map_congr_left fun t ht => by rw [predsL_at _ _ (List.mem_range.1 ht)]
          rw [h2] at h1
          exact h1
        have HSL : Hid (∀ k, sumTo (fun i => (g.getD i []).length) k ≤ 8 * k) := sumTo_le _ 8 hrows
        clear hp hb5 hB5 hG5 hrb hB6 hG6 HSUM hH1 hH2
        go_wp2
        go_loopw [17, 16] (fun i nv wr => W5 = wr ∧ ∃ k : Nat, i = .int .i64 k ∧ nv = .int .i64 (sumTo (fun i => (g.getD i []).length) k : Nat) ∧ k ≤ g.length) (fun i _ _ => g.length - (intOf i).toNat)
        case atStart => exact ⟨rfl, 0, rfl, rfl, Nat.zero_le _⟩
        case round =>
          obtain ⟨rfl, q, rfl, rfl, hq⟩ := hrel
          by_cases hql : q < g.length
          · have e2 : ((q : Int) < (g.length : Int)) = True := eq_true (by omega)
            have cg := HGH.out q hql
            have hr8 := hrows q
            have hs8 := HSL.out q
            have HSC := hide (sumTo_succ (fun i => (g.getD i []).length) q)
            generalize sumTo (fun i => (g.getD i []).length) q = s at *
            generalize hgl : (g.getD q []).length = gl at *
            clear hgl
            have hqb : q ≤ 4096 := by omega
            go_wp2
            go_roundw
            case rel => exact ⟨trivial, q + 1, by go_num, by rw [HSC.out]; go_num, hql⟩
            case measure => simp [intOf]; omega
          · have e2 : ((q : Int) < (g.length : Int)) = False := eq_false (by omega)
            obtain rfl : q = g.length := by omega
            have hs8 := HSL.out g.length
            have HPM : Hid (∀ k, k < g.length → sumTo (fun t => (aheadL (edgesL g) t).length) k + (aheadL (edgesL g) k).length ≤ sumTo (fun i => (g.getD i []).length) g.length) := fun k hk => by
              rw [← HS2.out, ← sumTo_succ (fun t => (aheadL (edgesL g) t).length) k]
              have := sumTo_mono (fun t => (aheadL (edgesL g) t).length) (k + 1) (g.length - (k + 1))
              rwa [show k + 1 + (g.length - (k + 1)) = g.length by omega] at this
            clear HSL HGH
            generalize sumTo (fun i => (g.getD i []).length) g.length = S at *
            go_wp2
            go_loopw [18, 16] (fun i nv wr => W5 = wr ∧ ∃ (k : Nat) (z : Int), i = .int .i64 k ∧ nv = .int .i64 z ∧ k ≤ g.length ∧ z = (S : Int) - (sumTo (fun t => (aheadL (edgesL g) t).length) k : Nat)) (fun i _ _ => g.length - (intOf i).toNat)
            case atStart => exact ⟨rfl, 0, _, rfl, rfl, Nat.zero_le _, by simp [sumTo]⟩
            case round =>
              obtain ⟨rfl, p, z, rfl, rfl, hp, hz⟩ := hrel
              have HZ := hide hz
              clear hz
              by_cases hpl : p < g.length
              · have e3 : ((p : Int) < (g.length : Int)) = True := eq_true (by omega)
                obtain ⟨pav, pcap, cp⟩ := HPH.out p hpl
                have hm := HPM.out p hpl
                have HSC := hide (sumTo_succ (fun t => (aheadL (edgesL g) t).length) p)
                have hz1 : 0 ≤ z := by have := HZ.out; omega
                have hz2 : z ≤ 32768 := by have := HZ.out; omega
                have hal : (aheadL (edgesL g) p).length ≤ 32768 := by omega
                have HZ2 : Hid (z - ((aheadL (edgesL g) p).length : Int) = (S : Int) - (sumTo (fun t => (aheadL (edgesL g) t).length) (p + 1) : Nat)) := by
                  have := HZ.out; have h2 := HSC.out; rw [Hid, h2]; omega
                clear HZ hm HSC
                generalize (aheadL (edgesL g) p).length = al at *
                have hpb : p ≤ 4096 := by omega
                go_wp2
                go_roundw
                case rel => exact ⟨trivial, p + 1, z - (al : Int), by go_num, by go_num, hpl, HZ2.out⟩
                case measure => simp [intOf]; omega
              · have e3 : ((p : Int) < (g.length : Int)) = False := eq_false (by omega)
                obtain rfl : z = 0 := by have h1 := HZ.out; rw [show p = g.length by omega, HS2.out] at h1; omega
                go_wp2
                go_ret
                exact ⟨rfl, HFIN.out⟩

end Go.Proofs.Ytchnjjdhffmkpaa
