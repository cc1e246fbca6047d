/-
  The law DomTree (layer 7): its walk, given that of the small case.
-/
import Derived.Test.YtonoeodlchkiaaaDep
namespace Go.Proofs.Ytonoeodlchkiaaa
open Go.ChangeShapes Go.WideShapes Go.ChangeAt Go.RowKit Go.Shelf

theorem few7_is (av : Option Addr) (cap blk off : Nat) (hd : Nat → Hdr) (g : List (List Int)) (w : World) (hG : GAt w av blk off hd g) :
    Calls Try.prog 8 #[.slice av g.length cap] w fun e w' => w' = w ∧ ((e = .returned (.bool true) ∧ g.length ≤ 24 ∧ ∀ b, (g.getD b []).length ≤ 20) ∨ e = .returned (.bool false)) := by
  have hf := few_is av cap blk off hd g w hG
  clear hG
  go_enter Try.func8, Try.ntmps8
  go_wp2_with fail
  refine hf.mono ?_
  rintro e w1 ⟨rfl, ⟨rfl, h1, h2⟩ | rfl⟩
  · have H2 := hide h2
    clear h2 hf
    by_cases h3 : g.length ≤ 24
    · have e3 : ((g.length : Int) ≤ 24) = True := eq_true (by omega)
      go_wp2
      go_ret
      exact ⟨rfl, .inl ⟨rfl, h3, H2.out⟩⟩
    · have e3 : ((g.length : Int) ≤ 24) = False := eq_false (by omega)
      go_wp2
      go_ret
      exact ⟨rfl, .inr rfl⟩
  · clear hf
    go_wp2
    go_ret
    exact ⟨rfl, .inr rfl⟩

def sumTo (f : Nat → Nat) (k : Nat) : Nat := ((List.range k).map f).sum
theorem sumTo_succ (f : Nat → Nat) (k : Nat) : sumTo f (k + 1) = sumTo f k + f k := by
  unfold sumTo; rw [List.range_succ, List.map_append, List.sum_append]; simp
theorem sumTo_add (f g : Nat → Nat) : ∀ k, sumTo (fun i => f i + g i) k = sumTo f k + sumTo g k
  | 0 => rfl
  | k + 1 => by rw [sumTo_succ, sumTo_succ, sumTo_succ, sumTo_add f g k]; omega
theorem sumTo_ind (v : Int) : ∀ n : Nat, sumTo (fun i => if v = (i : Int) then 1 else 0) n = if 0 ≤ v ∧ v < (n : Int) then 1 else 0
  | 0 => by rw [if_neg (by omega)]; rfl
  | n + 1 => by
    rw [sumTo_succ, sumTo_ind v n]
    by_cases h1 : 0 ≤ v ∧ v < (n : Int)
    · rw [if_pos h1, if_neg (by omega), if_pos (by omega)]
    · rw [if_neg h1]
      by_cases h2 : v = (n : Int)
      · rw [if_pos h2, if_pos (by omega)]
      · rw [if_neg h2, if_neg (by omega)]
def cntO (o : List Nat) (k : Nat) : Nat := ((List.range k).filter fun x => decide (x ∈ o)).length
theorem cntO_succ (o : List Nat) (k : Nat) : cntO o (k + 1) = cntO o k + (if k ∈ o then 1 else 0) := by
  unfold cntO
  rw [List.range_succ, List.filter_append, List.length_append]
  by_cases h : k ∈ o <;> simp [h]
theorem cntO_le (o : List Nat) : ∀ k, cntO o k ≤ k
  | 0 => by simp [cntO]
  | k + 1 => by have := cntO_le o k; rw [cntO_succ]; split <;> omega
theorem kids_count {g : List (List Nat)} {o : List Nat} (ho : Ord g o) {d : List Int} (hf : Fin g o d) : ∀ k, k ≤ g.length → sumTo (fun i => (kidsTo d k i).length) g.length + (if 0 < k then 1 else 0) = cntO o k
  | 0, _ => by
    have : ∀ m, sumTo (fun i => (kidsTo d 0 i).length) m = 0 := fun m => by
      induction m with
      | zero => rfl
      | succ m ih => rw [sumTo_succ, ih]; simp [kidsTo]
    rw [this]; simp [cntO]
  | k + 1, hk => by
    have ih := kids_count ho hf k (by omega)
    have e : sumTo (fun i => (kidsTo d (k + 1) i).length) g.length = sumTo (fun i => (kidsTo d k i).length) g.length + sumTo (fun i => if ask d k = (i : Int) then 1 else 0) g.length := by
      rw [← sumTo_add]
      congr 1
      funext i
      rw [kidsTo_succ, List.length_append]
      split <;> rfl
    rw [e, sumTo_ind, cntO_succ, if_pos (show 0 < k + 1 by omega)]
    by_cases hko : k ∈ o
    · rw [if_pos hko]
      by_cases h0 : k = 0
      · subst h0
        rw [if_neg (show ¬ (0 ≤ ask d 0 ∧ ask d 0 < (g.length : Int)) by rw [hf.zero]; omega)]
        rw [if_neg (Nat.lt_irrefl 0)] at ih
        omega
      · obtain ⟨y, h1, h2, _⟩ := hf.toTr.next (hf.told hko) h0
        have := ho.lt y h2.1
        rw [if_pos (show 0 ≤ ask d k ∧ ask d k < (g.length : Int) by omega)]
        rw [if_pos (show 0 < k by omega)] at ih
        omega
    · have h0 : k ≠ 0 := fun e => hko (e ▸ ho.zero)
      rw [if_neg hko, if_neg (show ¬ (0 ≤ ask d k ∧ ask d k < (g.length : Int)) by rw [hf.none hko]; omega)]
      rw [if_pos (show 0 < k by omega)] at ih
      omega
theorem sumTo_le_all (f : Nat → Nat) (c n : Nat) (h : sumTo f n ≤ c) : ∀ k, k ≤ n → sumTo f k ≤ c := by
  intro k hk
  have : ∀ m, sumTo f k ≤ sumTo f (k + m) := fun m => by
    induction m with
    | zero => exact Nat.le_refl _
    | succ m ih => rw [← Nat.add_assoc, sumTo_succ]; omega
  have h2 := this (n - k)
  rw [show k + (n - k) = n by omega] at h2
  omega

set_option maxRecDepth 100000 in
set_option maxHeartbeats 8000000 in
theorem tree_walk (hsm : ∀ w : World, Calls Try.prog 7 #[] w fun e w' => e = .returned (.bool true) ∧ Below w.heap.size w w') (av : Option Addr) (cap blk off : Nat) (hd : Nat → Hdr) (gi : List (List Int)) (w : World) (hG : GAt w av blk off hd gi) :
    Calls Try.prog 5 #[.slice av gi.length cap] w fun e w' => e = .returned (.bool true) ∧ Below w.heap.size w w' := by
  have HSM := hide (hsm w)
  clear hsm
  go_enter Try.func5, Try.ntmps5
  go_wp2_with fail
  refine HSM.out.mono ?_
  clear HSM
  rintro e w1 ⟨rfl, hb1⟩
  have hG1 := hG.below hb1
  have hf := few7_is av cap blk off hd gi w1 hG1
  go_wp2_with fail
  refine hf.mono ?_
  rintro e w1' ⟨rfl, ⟨rfl, hl24, hl20⟩ | rfl⟩
  case inr =>
    clear hf
    go_wp2
    go_ret
    exact ⟨rfl, hb1⟩
  clear hf hl20 hG
  have hr := right_any av cap blk off hd gi w1' hG1
  by_cases hri : RightI gi
  case neg =>
    rw [rightB_false hri] at hr
    go_wp2_with fail
    refine hr.mono ?_
    rintro e w3 ⟨rfl, hb3⟩
    go_wp2
    go_ret
    exact ⟨rfl, bel_two hb1 hb3⟩
  obtain ⟨g, hgr, rfl⟩ := hri.nat
  rw [castG_len] at *
  rw [rightB_true.2 hgr.toI] at hr
  go_wp2_with fail
  refine hr.mono ?_
  rintro e w2 ⟨rfl, hb2⟩
  have hG2 := hG1.below hb2
  have hB2 := bel_two hb1 hb2
  clear hr hG1 hb1 hb2
  have hone := hgr.one
  have hmost := hgr.most
  have h3 := idom_is av cap blk off hd g hgr w2 hG2
  go_wp2_with fail
  refine h3.mono ?_
  rintro e w3 ⟨hb3, B, d, m', o, hB0, rfl, kB3, hw, hfin⟩
  clear h3
  have hord := ord_of hone hw
  have hG3 := hG2.below hb3
  have hB3 := bel_two hB2 hb3
  have hlen := hfin.len
  have h4 := kids_is B g.length hmost d hlen w3 kB3
  clear hG2 hB2 hb3 hB0
  go_wp2_with fail
  refine h4.mono ?_
  rintro e w4 ⟨hb4, H, base, hH1, hH2, rfl, hK4⟩
  clear h4
  have kB4 := (hb4.block B (lt_of kB3)).trans kB3
  have hG4 := hG3.below hb4
  have hB4 := bel_two hB3 hb4
  clear kB3 hG3 hB3 hb4 hH1
  have h5 := depth_is g hmost o hord d hfin B w4 kB4
  go_wp2_with fail
  refine h5.mono ?_
  rintro e w5 ⟨hb5, R, de, hR1, rfl, kR5, hdeep⟩
  clear h5
  have kB5 := (hb5.block B (lt_of kB4)).trans kB4
  have hK5 := hK4.turns (Turns.of_below hb5) (fun b _ hb hq => by omega)
  have hG5 := hG4.below hb5
  have hB5 := bel_two hB4 hb5
  clear kB4 hK4 hG4 hB4 hb5 hR1
  have h6 := reach_is av cap blk off hd g hgr 0 (by omega) w5 hG5
  rw [show ((0 : Nat) : Int) = 0 from rfl] at h6
  go_wp2_with fail
  refine h6.mono ?_
  rintro e w6 ⟨hb6, F, m2, o2, hF1, rfl, kF6, hw2⟩
  clear h6
  obtain rfl := (hw2.det hw).2
  have kB6 := (hb6.block B (lt_of kB5)).trans kB5
  have kR6 := (hb6.block R (lt_of kR5)).trans kR5
  have hK6 := hK5.turns (Turns.of_below hb6) (fun b _ hb hq => by omega)
  have HB6 := hide (bel_two hB5 hb6)
  clear kB5 kR5 hK5 hG5 hB5 hb6 hF1 hw2 hw
  have HIC : Hid (∀ x, x < g.length → w6.cell? ⟨B, x, none⟩ = some (.int .i64 (ask d x))) := fun x hx => ints_at kB6 x (by omega)
  have HDC : Hid (∀ x, x < g.length → w6.cell? ⟨R, x, none⟩ = some (.int .i64 (ask de x))) := fun x hx => ints_at kR6 x (by rw [hdeep.len]; exact hx)
  have HFC : Hid (∀ x, x < g.length → w6.cell? ⟨F, x, none⟩ = some (.bool (decide (x ∈ o2)))) := fun x hx => by
    rw [cell_of kF6, List.getElem?_toArray, List.getElem?_map, flg_at _ _ _ hx]; rfl
  have HKC : Hid (∀ t, t < g.length → ∃ kav kcap, w6.cell? ⟨H, t, none⟩ = some (.slice kav (kidsTo d g.length t).length kcap) ∧ ∀ j, j < (kidsTo d g.length t).length → ∃ kb, kav = some ⟨kb, 0, none⟩ ∧ w6.cell? ⟨kb, j, none⟩ = some (.int .i64 (((kidsTo d g.length t).getD j 0 : Nat) : Int))) := fun t ht => by
    obtain ⟨kav, kcap, ck⟩ := hK6.cell t ht
    refine ⟨kav, kcap, ck, fun j hj => ?_⟩
    obtain ⟨kb, kc, r1, _, _, r2⟩ := hK6.row t ht (by omega)
    rw [ck] at r1
    injection r1 with r1
    injection r1 with r1
    refine ⟨kb, r1, ?_⟩
    have := r2 j hj
    rwa [Nat.zero_add] at this
  have HKM : Hid (∀ t j, j < (kidsTo d g.length t).length → ask d ((kidsTo d g.length t).getD j 0) = (t : Int)) := fun t j hj =>
    of_decide_eq_true (List.mem_filter.1 (show _ ∈ (List.range g.length).filter _ from getD_mem (kidsTo d g.length t) j hj)).2
  have hcnt := kids_count hord hfin g.length (Nat.le_refl _)
  rw [if_pos (by omega)] at hcnt
  have hcle := cntO_le o2 g.length
  have HSL : Hid (∀ k, k ≤ g.length → sumTo (fun i => (kidsTo d g.length i).length) k ≤ 24) := sumTo_le_all _ 24 g.length (by omega)
  have HCNT := hide hcnt
  have HF := hide hfin
  have HO := hide hord
  have HD := hide hdeep
  have HBD : Hid (∀ x, -1 ≤ ask de x ∧ ask de x ≤ 100 ∧ (x ∈ o2 → 0 ≤ ask de x) ∧ (x ∉ o2 → ask de x = -1)) := fun x => by
    have h1 := hdeep.bound x
    have h2 := plc_le_len hord x
    refine ⟨?_, by omega, hdeep.pos x, hdeep.none x⟩
    by_cases hx : x ∈ o2
    · have := hdeep.pos x hx; omega
    · rw [hdeep.none x hx]; omega
  clear kB6 kR6 kF6 hK6 hcnt hcle hfin hord hdeep
  go_wp2
  go_loopw [10, 9] (fun i nv W => ∃ (q k : Nat) (z : Int), W = w6.drewN q ∧ i = .int .i64 k ∧ nv = .int .i64 z ∧ k ≤ g.length ∧ z = (sumTo (fun i => (kidsTo d g.length i).length) k : Int) - (cntO o2 k : Int)) (fun i _ _ => g.length - (intOf i).toNat)
  case atStart => exact ⟨0, 0, 0, rfl, rfl, rfl, Nat.zero_le _, by simp [sumTo, cntO]⟩
  case round =>
    obtain ⟨q, k, z, rfl, rfl, rfl, hk, hz⟩ := hrel
    have HZ := hide hz
    clear hz
    by_cases hkl : k < g.length
    · have e1 : ((k : Int) < (g.length : Int)) = True := eq_true (by omega)
      have hkb : k ≤ 24 := by omega
      obtain ⟨kav, kcap, ck, HKR0⟩ := HKC.out k hkl
      have HKR := hide HKR0
      clear HKR0
      have HM : Hid (∀ j, j < (kidsTo d g.length k).length → ask d ((kidsTo d g.length k).getD j 0) = (k : Int)) := fun j hj => HKM.out k j hj
      have hkn := kidsTo_len d g.length k
      have hs1 := HSL.out k hk
      have hc1 := cntO_le o2 k
      have hzb : -24 ≤ z ∧ z ≤ 24 := by have := HZ.out; omega
      obtain ⟨hz1, hz2⟩ := hzb
      have HSS := hide (sumTo_succ (fun i => (kidsTo d g.length i).length) k)
      have HCS := hide (cntO_succ o2 k)
      have cd := HDC.out k hkl
      have cf := HFC.out k hkl
      obtain ⟨hd1, hd2, hd3, hd4⟩ := HBD.out k
      have HD3 := hide hd3
      have HD4 := hide hd4
      clear hd3 hd4 hs1 hc1
      generalize hks : kidsTo d g.length k = ks at *
      clear hks
      generalize hkn2 : ks.length = kn at *
      clear hkn2
      go_wp2
      go_loopw [11] (fun i W => ∃ q2 j : Nat, W = w6.drewN q2 ∧ i = .int .i64 j ∧ j ≤ kn) (fun i _ => kn - (intOf i).toNat)
      case atStart => exact ⟨q, 0, rfl, rfl, Nat.zero_le _⟩
      case round =>
        obtain ⟨q2, j, rfl, rfl, hj⟩ := hrel
        by_cases hjl : j < kn
        · have e2 : ((j : Int) < (kn : Int)) = True := eq_true (by omega)
          obtain ⟨kb, rfl, cj⟩ := HKR.out j hjl
          have hm := HM.out j hjl
          obtain ⟨hxo, hx0, y, hy1, hy2, hy3, hy4⟩ := HF.out.up (ks.getD j 0) (by omega)
          have hxl := HO.out.lt _ hxo
          have ci := HIC.out (ks.getD j 0) hxl
          have cx := HDC.out (ks.getD j 0) hxl
          have hup := HD.out.up (ks.getD j 0) k hm
          rw [hm] at ci
          rw [hup] at cx
          clear hm hup hxo hy1 hy2 hy3 hy4 cf
          generalize ks.getD j 0 = x at *
          generalize ask de k = v at *
          have hxi : ((x : Int) < (g.length : Int)) = True := eq_true (by omega)
          have hxg : ((g.length : Int) ≤ (x : Int)) = False := eq_false (by omega)
          have hxg2 : (g.length ≤ x) = False := eq_false (by omega)
          have hx1 : ((x : Int) < 1) = False := eq_false (by omega)
          have hxb : x ≤ 24 := by omega
          go_wp2
          go_quiet (fail)
          go_wp2
          go_roundw
          case rel => exact ⟨q2 + nq, j + 1, rfl, by go_num, by omega⟩
          case measure => simp [intOf]; omega
        · have e2 : ((j : Int) < (kn : Int)) = False := eq_false (by omega)
          by_cases hko : k ∈ o2
          · rw [decide_eq_true hko] at cf
            have hv0 := HD3.out hko
            have g1 : ((0 : Int) ≤ ask de k) = True := eq_true hv0
            have g2 : decide ((0 : Int) ≤ ask de k) = true := by simpa using hv0
            have HZ2 : Hid (z + (kn : Int) - 1 = (sumTo (fun i => (kidsTo d g.length i).length) (k + 1) : Int) - (cntO o2 (k + 1) : Int)) := by
              have a1 := HZ.out
              have a2 := HSS.out
              have a3 := HCS.out
              rw [if_pos hko] at a3
              rw [Hid, a2, a3, a1]
              omega
            clear hko HZ HSS HCS HD3 HD4
            generalize ask de k = v at *
            go_wp2
            go_quiet (fail)
            go_wp2
            go_roundw
            case rel => exact ⟨q2 + nq, k + 1, z + (kn : Int) - 1, rfl, by go_num, by go_num, by omega, HZ2.out⟩
            case measure => simp [intOf]; omega
          · rw [decide_eq_false hko] at cf
            rw [HD4.out hko] at cd
            have HZ2 : Hid (z + (kn : Int) = (sumTo (fun i => (kidsTo d g.length i).length) (k + 1) : Int) - (cntO o2 (k + 1) : Int)) := by
              have a1 := HZ.out
              have a2 := HSS.out
              have a3 := HCS.out
              rw [if_neg hko] at a3
              rw [Hid, a2, a3, a1]
              omega
            clear hko HZ HSS HCS HD3 HD4
            go_wp2
            go_quiet (fail)
            go_wp2
            go_roundw
            case rel => exact ⟨q2 + nq, k + 1, z + (kn : Int), rfl, by go_num, by go_num, by omega, HZ2.out⟩
            case measure => simp [intOf]; omega
    · have e1 : ((k : Int) < (g.length : Int)) = False := eq_false (by omega)
      obtain rfl : k = g.length := by omega
      have c0 := HDC.out 0 (by omega)
      rw [HD.out.zero] at c0
      have hzz : z = -1 := by have := HZ.out; have := HCNT.out; omega
      subst hzz
      clear HZ
      go_wp2
      go_ret
      exact ⟨rfl, bel_two HB6.out (bel_q ⟨q, rfl⟩)⟩

end Go.Proofs.Ytonoeodlchkiaaa
