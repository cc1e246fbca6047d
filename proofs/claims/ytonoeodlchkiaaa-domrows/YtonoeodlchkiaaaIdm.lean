/-
  Idom (layer 7): the contract of dom's own.
-/
import Derived.Test.YtonoeodlchkiaaaNar
import Derived.Test.YtonoeodlchkiaaaRep
namespace Go.Proofs.Ytonoeodlchkiaaa
open Go.ChangeShapes Go.WideShapes Go.ChangeAt Go.RowKit Go.Shelf

theorem bel_new (w : World) (o : Obj) : Below w.heap.size w (w.alloc o) := (Below.refl _ w).alloc (Nat.le_refl _) _
theorem bel_two {a b c : World} (h1 : Below a.heap.size a b) (h2 : Below b.heap.size b c) : Below a.heap.size a c := h1.trans (h2.mono h1.size)
theorem bel_q {a : World} {w' : World} (h : ∃ q, w' = a.drewN q) : Below a.heap.size a w' := by
  obtain ⟨q, rfl⟩ := h
  have k := Below.refl a.heap.size a
  exact ⟨k.os, k.tape, k.output, k.size, k.block⟩

/-- How much a row in memory may still be narrowed. -/
def muW (n : Nat) (l : List Nat) (B : Nat) (W : World) : Nat := match W.heap[B]? with
  | some (.cells cs _ _) => mu n l (cs.toList.map intOf)
  | _ => 0
theorem muW_is {n : Nat} {l : List Nat} {B : Nat} {W : World} {d : List Int} (h : W.heap[B]? = some (.cells (intsI d).toArray 3 (0, 0))) : muW n l B W = mu n l d := by
  unfold muW
  rw [h]
  simp only [intsI]
  rw [List.map_map]
  congr 1
  conv => rhs; rw [← List.map_id d]
  exact List.map_congr_left fun x _ => rfl

set_option maxRecDepth 100000 in
set_option maxHeartbeats 8000000 in
/-- Idom of a right graph. -/
theorem idom_is (av : Option Addr) (cap blk off : Nat) (hd : Nat → Hdr) (g : List (List Nat)) (hgr : Right g) (w : World) (hG : GAt w av blk off hd (castG g)) :
    Calls Try.prog 9 #[.slice av g.length cap] w fun e w' => Below w.heap.size w w' ∧ ∃ B d m' o, w.heap.size ≤ B ∧ e = .returned (.slice (some ⟨B, 0, none⟩) g.length g.length) ∧ w'.heap[B]? = some (.cells (intsI d).toArray 3 (0, 0)) ∧ Walk g [0] (List.replicate g.length false) m' o ∧ Fin g o d := by
  have hone := hgr.one
  have hmost := hgr.most
  have hr := right_any av cap blk off hd (castG g) w hG
  rw [castG_len, rightB_true.2 hgr.toI] at hr
  have HG := hide hG
  clear hG
  go_enter Try.func9, Try.ntmps9
  go_wp2_with fail
  refine hr.mono ?_
  rintro e w1 ⟨rfl, hb1⟩
  clear hr
  have HORDR := hide (order_is av cap blk off hd g hgr w1 (HG.out.below hb1))
  go_wp2_with fail
  refine HORDR.out.mono ?_
  clear HORDR
  rintro e w2 ⟨hb2, v, m', o, rfl, hov, hw⟩
  have hord := ord_of hone hw
  have hol : o.length ≤ g.length := by
    have h2 := hord.nodup.length_le_of_subset (l₂ := List.range g.length) (fun x hx => List.mem_range.2 (hord.lt x hx))
    rwa [List.length_range] at h2
  have hlo : 0 < o.length := List.length_pos_of_mem hord.zero
  obtain ⟨OB, ocap, hve, hOB1, hOB2⟩ := hov.form hlo
  subst hve
  have HOC : Hid (∀ k, k < o.length → w2.cell? ⟨OB, k, none⟩ = some (.int .i64 ((o.reverse.getD k 0 : Nat) : Int))) := fun k hk => by
    have hk2 : k < o.reverse.length := by rw [List.length_reverse]; exact hk
    rw [hov.cellAt k (by omega), List.getElem?_map, List.getD_eq_getElem?_getD, List.getElem?_eq_getElem hk2]; rfl
  have hs1 := hb1.size
  have hs2 := hb2.size
  have hB2 := bel_two hb1 hb2
  have HWK := hide hw
  have HORD := hide hord
  have hndr : o.reverse.Nodup := by
    unfold List.Nodup
    rw [List.pairwise_reverse]
    exact List.Pairwise.imp (fun h => h.symm) hord.nodup
  have HEL : Hid (∀ k, k < o.length → o.reverse.getD k 0 ∈ o ∧ o.reverse.getD k 0 < g.length ∧ plI o.reverse (o.reverse.getD k 0) = (k : Int) ∧ ∀ j, j < k → o.reverse.getD j 0 ≠ o.reverse.getD k 0) := fun k hk => by
    have hk2 : k < o.reverse.length := by rw [List.length_reverse]; exact hk
    have hm := List.mem_reverse.1 (getD_mem o.reverse k hk2)
    have hp := plc_getD o.reverse hndr k hk2
    refine ⟨hm, hord.lt _ hm, by unfold plI; omega, fun j hj e => ?_⟩
    have hp2 := plc_getD o.reverse hndr j (by omega)
    rw [e] at hp2
    omega
  have HALL : Hid (∀ x, x ∈ o → ∃ k, k < o.length ∧ o.reverse.getD k 0 = x) := fun x hx => by
    obtain ⟨g1, g2⟩ := getD_of_mem o.reverse x (List.mem_reverse.2 hx)
    exact ⟨_, by rwa [List.length_reverse] at g2, g1⟩
  clear hov hw hord hndr hb1 hb2
  have mk := make_ints g.length (by omega)
  have kp := World.alloc_heap_new w2 (.cells (List.replicate g.length (.int .i64 0)).toArray 3)
  have hb3 : Below w2.heap.size w2 (w2.alloc (.cells (List.replicate g.length (.int .i64 0)).toArray 3)) := bel_new _ _
  have HK := hide (And.intro kp hb3)
  clear kp hb3
  generalize hno : o.length = no at *
  have HNO := hide hno
  clear hno
  go_wp2
  rw [← List.toArray_replicate]
  obtain ⟨kp, hb3⟩ := HK.out
  clear HK mk
  generalize w2.alloc (.cells (List.replicate g.length (.int .i64 0)).toArray 3) = w3 at *
  generalize hP : w2.heap.size = P at *
  go_loopw [18] (fun i W => ∃ (k : Nat) (cs : List Value), i = .int .i64 k ∧ k ≤ no ∧ Below P w2 W ∧ W.heap[P]? = some (.cells cs.toArray 3 (0, 0)) ∧ cs.length = g.length ∧ ∀ j, j < k → cs[o.reverse.getD j 0]? = some (.int .i64 (j : Int))) (fun i _ => no - (intOf i).toNat)
  case atStart => exact ⟨0, _, rfl, Nat.zero_le _, hb3, kp, by simp, fun j hj => absurd hj (Nat.not_lt_zero _)⟩
  case round =>
    clear kp hb3
    obtain ⟨k, cs, rfl, hk, hB, kp, hcl, hcs⟩ := hrel
    have hsB := hB.size
    by_cases hkl : k < no
    · have e1 : ((k : Int) < (no : Int)) = True := eq_true (by omega)
      have c1 : wr.cell? ⟨OB, k, none⟩ = some (.int .i64 ((o.reverse.getD k 0 : Nat) : Int)) := (hB.cell (p := ⟨OB, k, none⟩) (by omega)).trans (HOC.out k hkl)
      obtain ⟨hx1, hx2, hx3, hx4⟩ := HEL.out k hkl
      have fk := frozen_of kp (o.reverse.getD k 0)
      have ck : wr.cell? ⟨P, o.reverse.getD k 0, none⟩ = some (cs.getD (o.reverse.getD k 0) (.int .i64 0)) := by
        rw [cell_of kp, List.getElem?_toArray, List.getD_eq_getElem?_getD (l := cs), List.getElem?_eq_getElem (by omega)]; rfl
      have HKP := hide (heap_set_same kp (o.reverse.getD k 0) (.int .i64 (k : Int)))
      have HB := hide (hB.setCell (p := ⟨P, o.reverse.getD k 0, none⟩) (Nat.le_refl _) (.int .i64 (k : Int)))
      have HCS : Hid ((cs.set (o.reverse.getD k 0) (.int .i64 (k : Int))).length = g.length ∧ ∀ j, j < k + 1 → (cs.set (o.reverse.getD k 0) (.int .i64 (k : Int)))[o.reverse.getD j 0]? = some (.int .i64 (j : Int))) := ⟨by rw [List.length_set]; exact hcl, fun j hj => by
        rcases Nat.lt_or_ge j k with h | h
        · rw [List.getElem?_set_ne (fun e => hx4 j h e.symm)]; exact hcs j h
        · obtain rfl : j = k := by omega
          rw [List.getElem?_set_self (by omega)]⟩
      clear kp hB hcs hcl hx3 hx4 hx1
      generalize cs.getD (o.reverse.getD k 0) (.int .i64 0) = old at *
      generalize cs.set (o.reverse.getD k 0) (.int .i64 (k : Int)) = cs2 at *
      generalize o.reverse.getD k 0 = x at *
      have hxi : ((x : Int) < (g.length : Int)) = True := eq_true (by omega)
      have hxb : x ≤ 4096 := by omega
      have hkb : k ≤ 4096 := by omega
      go_wp2
      go_roundw
      case rel => exact ⟨k + 1, cs2, by go_num, by omega, HB.out, HKP.out, HCS.out.1, HCS.out.2⟩
      case measure => simp [intOf]; omega
    · have e1 : ((k : Int) < (no : Int)) = False := eq_false (by omega)
      have HPC : Hid (∀ x, x ∈ o → wr.cell? ⟨P, x, none⟩ = some (.int .i64 (plI o.reverse x))) := fun x hx => by
        obtain ⟨j, hj, rfl⟩ := HALL.out x hx
        rw [cell_of kp, List.getElem?_toArray, hcs j (by omega), (HEL.out j hj).2.2.1]
      have hPl := lt_of kp
      have HOC3 : Hid (∀ k, k < no → wr.cell? ⟨OB, k, none⟩ = some (.int .i64 ((o.reverse.getD k 0 : Nat) : Int))) := fun k hk => (hB.cell (p := ⟨OB, k, none⟩) (by omega)).trans (HOC.out k hk)
      clear kp hcs hcl HOC HALL HEL
      generalize hW3 : wr = w4 at *
      clear hW3
      have cS : (w4.alloc (.cells #[.int .i64 (-1)] 3)).cell? ⟨w4.heap.size, 0, none⟩ = some (.int .i64 (-1)) := cell_of (World.alloc_heap_new w4 (.cells #[.int .i64 (-1)] 3)) 0
      have hrep := repeat_is w4.heap.size g.length (-1) hone hmost (w4.alloc (.cells #[.int .i64 (-1)] 3)) cS (by simp)
      have HREP := hide hrep
      clear hrep cS
      go_wp2_with fail
      refine HREP.out.mono ?_
      clear HREP
      rintro e w5 ⟨hb5, B, hB1, rfl, hB5⟩
      have hb45 : Below w4.heap.size w4 w5 := bel_two (bel_new w4 _) hb5
      rw [World.size_alloc] at hB1
      have hBl := lt_of hB5
      have hbw5 : Below w.heap.size w w5 := (hB2.trans (hB.mono (by omega))).trans (hb45.mono (by omega))
      have hs45 := hb45.size
      have hOB4 : OB < w4.heap.size := by omega
      have HNAR : Hid (∀ (W : World) (d : List Int), Turns (fun b => b = B ∨ w5.heap.size ≤ b) w5 W → W.heap[B]? = some (.cells (intsI d).toArray 3 (0, 0)) → Tr g o d →
          Calls Try.prog 27 #[.slice av g.length cap, .slice (some ⟨OB, 0, none⟩) no ocap, .slice (some ⟨P, 0, none⟩) g.length g.length, .slice (some ⟨B, 0, none⟩) g.length g.length] W fun e w' =>
            Turns (fun b => b = B ∨ W.heap.size ≤ b) W w' ∧ ∃ d2 ch, e = .returned (.bool ch) ∧ w'.heap[B]? = some (.cells (intsI d2).toArray 3 (0, 0)) ∧ NS g o d (edO g o.reverse o.reverse.length 0) d2 ch) := fun W d hT hdd htr => by
        have hsW := hT.size
        refine narrow_is av cap blk off hd g hgr o HORD.out OB ocap P B no (by rw [List.length_reverse]; exact HNO.out.symm) d htr w W HG.out (hT.below hbw5 (by omega) (fun b hb hq => by omega)) (by omega) (by omega) (by omega) (by omega) (by omega) (fun k hk => ?_) (fun x hx => ?_) hdd
        · rw [List.length_reverse, HNO.out] at hk
          exact (World.cell?_of_block (hT.block OB (by omega) (by show ¬ (OB = B ∨ w5.heap.size ≤ OB); omega))).trans ((hb45.cell (p := ⟨OB, k, none⟩) hOB4).trans (HOC3.out k hk))
        · exact (World.cell?_of_block (hT.block P (by omega) (by show ¬ (P = B ∨ w5.heap.size ≤ P); omega))).trans ((hb45.cell (p := ⟨P, x, none⟩) hPl).trans (HPC.out x hx))
      have HTR0 := hide (tr_none g o)
      clear hb5 hb45 HPC HOC3
      go_wp2
      go_loopw [36] (fun _ W => ∃ d : List Int, Turns (fun b => b = B ∨ w5.heap.size ≤ b) w5 W ∧ W.heap[B]? = some (.cells (intsI d).toArray 3 (0, 0)) ∧ Tr g o d) (fun _ W => muW g.length o.reverse B W)
      case atStart => exact ⟨_, Turns.refl _ _, hB5, HTR0.out⟩
      case round =>
        clear hB5
        obtain ⟨d, hT, hd5, htr⟩ := hrel
        have hn := HNAR.out wr d hT hd5 htr
        have HMU := hide (muW_is (n := g.length) (l := o.reverse) hd5)
        have hsT := hT.size
        clear hd5
        go_wp2_with fail
        refine hn.mono ?_
        clear hn
        rintro e w6 ⟨hT6, d2, ch, rfl, hd6, hns⟩
        have hT7 : Turns (fun b => b = B ∨ w5.heap.size ≤ b) w5 w6 := hT.trans (hT6.mono fun b hb => by omega)
        cases ch with
        | true =>
          have HL : Hid (muW g.length o.reverse B w6 < mu g.length o.reverse d) := by rw [Hid, muW_is hd6]; exact hns.less rfl
          have HN : Hid (w6.heap[B]? = some (.cells (intsI d2).toArray 3 (0, 0)) ∧ Tr g o d2) := ⟨hd6, hns.tr⟩
          clear hd6 hns hT6
          go_wp2
          go_roundw
          case rel => exact ⟨d2, hT7, HN.out.1, HN.out.2⟩
          case measure => have a1 := HL.out; have a2 := HMU.out; omega
        | false =>
          obtain ⟨hde, hfin⟩ := hns.fin HORD.out
          subst hde
          have HN : Hid (w6.heap[B]? = some (.cells (intsI d2).toArray 3 (0, 0)) ∧ Fin g o d2) := ⟨hd6, hfin⟩
          clear hd6 hns hT6 hfin
          go_wp2
          go_ret
          exact ⟨hT7.below hbw5 (by omega) (fun b hb hq => by omega), B, d2, m', o, by omega, rfl, HN.out.1, HWK.out, HN.out.2⟩
theorem idom_none (av : Option Addr) (cap blk off : Nat) (hd : Nat → Hdr) (g : List (List Int)) (hno : ¬ RightI g) (w : World) (hG : GAt w av blk off hd g) :
    Calls Try.prog 9 #[.slice av g.length cap] w fun e w' => Below w.heap.size w w' ∧ e = .returned (.slice none 0 0) := by
  have hr := right_any av cap blk off hd g w hG
  rw [rightB_false hno] at hr
  clear hG
  go_enter Try.func9, Try.ntmps9
  go_wp2_with fail
  refine hr.mono ?_
  rintro e w1 ⟨rfl, hb1⟩
  go_wp2
  go_ret
  exact ⟨hb1, rfl⟩

end Go.Proofs.Ytonoeodlchkiaaa
