/-
  The document's own Back (layer 6): its contract.
-/
import Derived.Test.YtchnjjdhffmkpaaRfG
namespace Go.Proofs.Ytchnjjdhffmkpaa
open Go.ChangeShapes Go.WideShapes Go.ChangeAt Go.RowKit Go.Shelf

/-- The back edges of the first k blocks, and of the next one's first j edges. -/
def backUp (pl : Nat → Nat) (g : List (List Nat)) (k j : Nat) : List (Nat × Nat) := backTo pl g k ++ (if pl k = 0 then [] else backRow pl k (g.getD k []) j)
theorem backUp_zero (pl : Nat → Nat) (g : List (List Nat)) (k : Nat) : backUp pl g k 0 = backTo pl g k := by
  unfold backUp; split <;> simp [backRow]
theorem backUp_all (pl : Nat → Nat) (g : List (List Nat)) (k : Nat) : backUp pl g k (g.getD k []).length = backUp pl g (k + 1) 0 := by
  rw [backUp_zero, backTo_succ]; rfl
theorem backUp_none (pl : Nat → Nat) (g : List (List Nat)) (k j : Nat) (h : pl k = 0) : backUp pl g k j = backUp pl g (k + 1) 0 := by
  rw [backUp_zero, backTo_succ, if_pos h]; unfold backUp; rw [if_pos h]
theorem backUp_step (pl : Nat → Nat) (g : List (List Nat)) (k j : Nat) (h : pl k ≠ 0) (hj : j < (g.getD k []).length) : backUp pl g k (j + 1) = backUp pl g k j ++ (if pl ((g.getD k []).getD j 0) ≤ pl k ∧ (k, (g.getD k []).getD j 0) ∉ backUp pl g k j then [(k, (g.getD k []).getD j 0)] else []) := by
  have hm : ∀ t, pl t ≤ pl k → ((k, t) ∈ backUp pl g k j ↔ t ∈ (g.getD k []).take j) := fun t ht => by
    unfold backUp
    rw [if_neg h, List.mem_append, mem_backRow _ _ _ _ (by omega)]
    constructor
    · rintro (h' | ⟨_, h', _⟩)
      · unfold backTo at h'
        rw [List.mem_flatMap] at h'
        obtain ⟨i, hi, h'⟩ := h'
        rw [List.mem_range] at hi
        by_cases hz : pl i = 0
        · rw [if_pos hz] at h'; cases h'
        · rw [if_neg hz, mem_backRow _ _ _ _ (Nat.le_refl _)] at h'
          omega
      · exact h'
    · intro h'; exact .inr ⟨rfl, h', ht⟩
  have e : backUp pl g k (j + 1) = backUp pl g k j ++ (if pl ((g.getD k []).getD j 0) ≤ pl k ∧ (g.getD k []).getD j 0 ∉ (g.getD k []).take j then [(k, (g.getD k []).getD j 0)] else []) := by
    unfold backUp; rw [if_neg h, if_neg h, backRow_succ, List.append_assoc]
  rw [e]
  congr 1
  by_cases ht : pl ((g.getD k []).getD j 0) ≤ pl k
  · simp only [ht, true_and, hm _ ht]
  · simp only [ht, false_and]
theorem backUp_len (pl : Nat → Nat) (g : List (List Nat)) (h : ∀ b, (g.getD b []).length ≤ 8) (k j : Nat) (hj : j ≤ (g.getD k []).length) : (backUp pl g k j).length ≤ 8 * k + 8 := by
  have h1 := backTo_len pl g h k
  have h2 := backRow_len pl k (g.getD k []) j
  have h3 := h k
  unfold backUp
  rw [List.length_append]
  split
  · simp; omega
  · omega

set_option maxRecDepth 100000 in
set_option maxHeartbeats 8000000 in
/-- The document's Back of a right graph. -/
theorem rback_is (av : Option Addr) (cap blk off : Nat) (hd : Nat → Hdr) (g : List (List Nat)) (hgr : Right g) (hl : g.length ≤ 40) (w : World) (hG : GAt w av blk off hd (castG g)) :
    Calls Try.prog 27 #[.slice av g.length cap] w fun e w' => Below w.heap.size w w' ∧ ∃ v m' o, e = .returned v ∧ Walk g [0] (List.replicate g.length false) m' o ∧ w'.ownsRow w.heap.size 37 2 v (backL (plc o.reverse) g).length (pairsV (backL (plc o.reverse) g)) := by
  have hrows := hgr.rows
  have hone := hgr.one
  have hr := rright_is av cap blk off hd (castG g) (by rw [castG_len]; exact hl) (fun b => by rw [castG_at, List.length_map]; have := hrows b; omega) w hG
  rw [castG_len, rightB_true.2 hgr.toI] at hr
  have HP := hide (rplaces_is av cap blk off hd g hgr hl w hG)
  have HG := hide hG
  clear hG
  go_enter Try.func27, Try.ntmps27
  go_wp2_with fail
  refine hr.mono ?_
  rintro e w0 ⟨rfl, rfl⟩
  clear hr
  go_wp2_with fail
  refine HP.out.mono ?_
  clear HP
  rintro e w1 ⟨hb1, P, l, hP1, rfl, kP, m', o, hlo, hw⟩
  have hs1 := hb1.size
  have HW := hide hw
  have HLO := hide hlo
  clear hw hlo
  have hPl := lt_of kP
  have HPC : Hid (∀ x, x < g.length → w1.cell? ⟨P, x, none⟩ = some (.int .i64 (plI l x))) := fun x hx => by rw [cell_of kP, List.getElem?_toArray, plm_at _ _ _ hx]
  clear kP
  generalize hhs : w1.heap.size = hs at *
  go_wp2
  go_loopw [6, 5] (fun i v W => ∃ k : Nat, i = .int .i64 k ∧ k ≤ g.length ∧ Below hs w1 W ∧ W.ownsRow hs 37 2 v (backUp (plc l) g k 0).length (pairsV (backUp (plc l) g k 0))) (fun i _ _ => g.length - (intOf i).toNat)
  case atStart => exact ⟨0, rfl, Nat.zero_le _, by rw [← hhs]; exact Below.refl _ _, by rw [backUp_zero]; exact World.ownsRow_nil _ _ _ _⟩
  case round =>
    obtain ⟨k, rfl, hk, hB, hO⟩ := hrel
    by_cases hkl : k < g.length
    · have e1 : ((k : Int) < (g.length : Int)) = True := eq_true (by omega)
      have hkb : k ≤ 4096 := by omega
      have HO := hide hO
      clear hO
      go_wp2
      go_loopw [7, 5] (fun i v W => ∃ j : Nat, i = .int .i64 j ∧ j ≤ (g.getD k []).length ∧ Below hs w1 W ∧ W.ownsRow hs 37 2 v (backUp (plc l) g k j).length (pairsV (backUp (plc l) g k j))) (fun i _ _ => (g.getD k []).length - (intOf i).toNat)
      case atStart => exact ⟨0, rfl, Nat.zero_le _, hB, HO.out⟩
      case round =>
        clear hB HO
        obtain ⟨j, rfl, hj, hB, hO⟩ := hrel
        have hsB := hB.size
        have hG2 := HG.out.below (hb1.trans (hB.mono (by omega)))
        obtain rfl := hG2.at_ (by rw [castG_len]; omega)
        have c1 := hG2.has k (by rw [castG_len]; exact hkl)
        rw [castG_at, List.length_map] at c1
        have hr8 := hrows k
        have hcl := backUp_len (plc l) g hrows k j hj
        obtain ⟨oav, ocap, hov, -⟩ := owns_shape hO
        subst hov
        have c5 : wr.cell? ⟨P, k, none⟩ = some (.int .i64 (plI l k)) := (hB.cell (p := ⟨P, k, none⟩) (by omega)).trans (HPC.out k hkl)
        have hpk : (0 ≤ plI l k) ↔ plc l k ≠ 0 := by unfold plI; omega
        by_cases hj2 : j < (g.getD k []).length ∧ plc l k ≠ 0
        · obtain ⟨hjl, hg1⟩ := hj2
          have e2 : ((j : Int) < ((g.getD k []).length : Int)) = True := eq_true (by omega)
          have e3 : ((0 : Int) ≤ plI l k) = True := eq_true (hpk.2 hg1)
          have hav := hG2.rat k (by rw [castG_len]; exact hkl) (by rw [castG_at, List.length_map]; omega)
          rw [hav] at c1
          have c2 := hG2.rhas k j (by rw [castG_len]; exact hkl) (by rw [castG_at, List.length_map]; exact hjl)
          rw [castG_at, cast_at] at c2
          have htl : (g.getD k []).getD j 0 < g.length := hgr.lt k _ (getD_mem _ _ hjl)
          have c4 : wr.cell? ⟨P, (g.getD k []).getD j 0, none⟩ = some (.int .i64 (plI l ((g.getD k []).getD j 0))) := (hB.cell (p := ⟨P, _, none⟩) (by omega)).trans (HPC.out _ htl)
          have hcs := backUp_step (plc l) g k j hg1 hjl
          have hpt : (plI l ((g.getD k []).getD j 0) ≤ plI l k) ↔ plc l ((g.getD k []).getD j 0) ≤ plc l k := by unfold plI; omega
          have HCT : Hid (∀ q, Calls Try.prog 38 #[.slice oav (backUp (plc l) g k j).length ocap, .int .i64 (k : Int), .int .i64 (((g.getD k []).getD j 0 : Nat) : Int)] (wr.drewN q) fun e w' => e = .returned (.bool (decide ((k, (g.getD k []).getD j 0) ∈ backUp (plc l) g k j))) ∧ w' = wr.drewN q) := fun q =>
            has_is _ _ (by omega) k ((g.getD k []).getD j 0) (wr.drewN q) (PairN.of_owns (W := wr.drewN q) hO)
          by_cases hp : plc l ((g.getD k []).getD j 0) ≤ plc l k
          · have e4 : (plI l ((g.getD k []).getD j 0) ≤ plI l k) = True := eq_true (hpt.2 hp)
            have e5 : decide (plI l ((g.getD k []).getD j 0) ≤ plI l k) = true := by simpa using hpt.2 hp
            by_cases hm : (k, (g.getD k []).getD j 0) ∈ backUp (plc l) g k j
            · rw [if_neg (fun h => h.2 hm), List.append_nil] at hcs
              rw [decide_eq_true hm] at HCT
              rw [← hcs] at hO
              have HO := hide hO
              have HL : Hid ((backUp (plc l) g k j).length = (backUp (plc l) g k (j + 1)).length) := by rw [Hid, hcs]
              clear hO hcs hG2 hp hav hpt hpk hm
              generalize plI l ((g.getD k []).getD j 0) = pt at *
              generalize plI l k = pk at *
              generalize (g.getD k []).getD j 0 = t at *
              generalize (g.getD k []).length = rl at *
              generalize (backUp (plc l) g k j).length = bl at *
              have hti : ((t : Int) < (g.length : Int)) = True := eq_true (by omega)
              have htb : t ≤ 4096 := by omega
              go_wp2
              go_quiet ((go_at_call 38; exact Calls.quiet_of_same (HCT.out _)))
              go_wp2
              go_roundw
              case rel => exact ⟨j + 1, by go_num, by omega, below_drewN hB _, by rw [HL.out]; exact HO.out⟩
              case measure => simp [intOf]; omega
            · rw [if_pos ⟨hp, hm⟩] at hcs
              rw [decide_eq_false hm] at HCT
              have HAP : Hid (∀ q, ∃ g' cp w', (Builtin.append_ #[32, 32] 32 #[.slice oav (backUp (plc l) g k j).length ocap, .slice (some ⟨wr.heap.size, 0, none⟩) 1 1]).run Try.prog ((wr.drewN q).alloc (.cells #[.int .i64 (k : Int), .int .i64 (((g.getD k []).getD j 0 : Nat) : Int)] 37)) = .ok (.slice (some ⟨g', 0, none⟩) ((backUp (plc l) g k j).length + 1) cp) w' ∧ Turns (fun b => hs ≤ b) wr w' ∧ w'.ownsRow hs 37 2 (.slice (some ⟨g', 0, none⟩) ((backUp (plc l) g k j).length + 1) cp) (backUp (plc l) g k (j + 1)).length (pairsV (backUp (plc l) g k (j + 1)))) := fun q => by
                obtain ⟨g', cp, w', hap, ho, hT⟩ := pair_more (W := wr.drewN q) hO k ((g.getD k []).getD j 0) 32 (by omega) (by show hs ≤ wr.heap.size; omega)
                exact ⟨g', cp, w', hap, ⟨hT.os, hT.tape, hT.output, hT.size, hT.block⟩, by rw [hcs]; exact ho⟩
              clear hO hcs hG2 hp hav hpt hpk hm
              generalize plI l ((g.getD k []).getD j 0) = pt at *
              generalize plI l k = pk at *
              generalize (g.getD k []).getD j 0 = t at *
              generalize (g.getD k []).length = rl at *
              generalize (backUp (plc l) g k j).length = bl at *
              have hti : ((t : Int) < (g.length : Int)) = True := eq_true (by omega)
              have htb : t ≤ 4096 := by omega
              go_wp2
              go_quiet ((go_at_call 38; exact Calls.quiet_of_same (HCT.out _)))
              obtain ⟨g', cp, w', hap, hT, hof⟩ := HAP.out nq
              have HA := hide hap
              have HOF := hide hof
              have hsz6 := hT.size
              clear hap hof HAP
              go_wp2_with (at_builtin; refine wpList_append_run rfl _ _ 32 rfl rfl rfl HA.out ?_)
              go_roundw
              case rel => exact ⟨j + 1, by go_num, by omega, hT.below hB (by omega) (fun b hb hq => by omega), HOF.out⟩
              case measure => simp [intOf]; omega
          · have e4 : (plI l ((g.getD k []).getD j 0) ≤ plI l k) = False := eq_false (fun h => hp (hpt.1 h))
            have e5 : decide (plI l ((g.getD k []).getD j 0) ≤ plI l k) = false := by simpa using fun h => hp (hpt.1 h)
            rw [if_neg (fun h => hp h.1), List.append_nil] at hcs
            rw [← hcs] at hO
            have HO := hide hO
            have HL : Hid ((backUp (plc l) g k j).length = (backUp (plc l) g k (j + 1)).length) := by rw [Hid, hcs]
            clear hO hcs hG2 hp hav hpt hpk HCT
            generalize plI l ((g.getD k []).getD j 0) = pt at *
            generalize plI l k = pk at *
            generalize (g.getD k []).getD j 0 = t at *
            generalize (g.getD k []).length = rl at *
            generalize (backUp (plc l) g k j).length = bl at *
            have hti : ((t : Int) < (g.length : Int)) = True := eq_true (by omega)
            have htb : t ≤ 4096 := by omega
            go_wp2
            go_quiet (fail)
            go_wp2
            go_roundw
            case rel => exact ⟨j + 1, by go_num, by omega, below_drewN hB _, by rw [HL.out]; exact HO.out⟩
            case measure => simp [intOf]; omega
        · have hfin : backUp (plc l) g k j = backUp (plc l) g (k + 1) 0 := by
            by_cases h1 : plc l k = 0
            · exact backUp_none _ _ _ _ h1
            · obtain rfl : j = (g.getD k []).length := by omega
              exact backUp_all _ _ _
          have HL : Hid ((backUp (plc l) g k j).length = (backUp (plc l) g (k + 1) 0).length) := by rw [Hid, hfin]
          rw [hfin] at hO
          have HO := hide hO
          clear hO hG2 hfin
          by_cases hjl : j < (g.getD k []).length
          · have e2 : ((j : Int) < ((g.getD k []).length : Int)) = True := eq_true (by omega)
            have e3 : ((0 : Int) ≤ plI l k) = False := eq_false (fun h => hj2 ⟨hjl, hpk.1 h⟩)
            clear hpk hj2
            generalize plI l k = pk at *
            generalize (g.getD k []).length = rl at *
            generalize (backUp (plc l) g k j).length = bl at *
            go_wp2
            go_roundw
            case rel => exact ⟨k + 1, by go_num, by omega, hB, by first | exact HO.out | (rw [HL.out]; exact HO.out)⟩
            case measure => simp [intOf]; omega
          · have e2 : ((j : Int) < ((g.getD k []).length : Int)) = False := eq_false (by omega)
            clear hpk hj2
            generalize plI l k = pk at *
            generalize (g.getD k []).length = rl at *
            generalize (backUp (plc l) g k j).length = bl at *
            go_wp2
            go_roundw
            case rel => exact ⟨k + 1, by go_num, by omega, hB, by first | exact HO.out | (rw [HL.out]; exact HO.out)⟩
            case measure => simp [intOf]; omega
    · have e1 : ((k : Int) < (g.length : Int)) = False := eq_false (by omega)
      obtain rfl : k = g.length := by omega
      have hfin : backUp (plc l) g g.length 0 = backL (plc l) g := backUp_zero _ _ _
      rw [hfin] at hO
      have HO := hide hO
      obtain ⟨oav, ocap, hov, -⟩ := owns_shape hO
      subst hov
      clear hO hfin
      go_wp2
      go_ret
      exact ⟨hb1.trans (hB.mono (by omega)), _, m', o, rfl, HW.out, by rw [← HLO.out]; exact owns_mono HO.out (by omega)⟩
theorem rback_none (av : Option Addr) (cap blk off : Nat) (hd : Nat → Hdr) (g : List (List Int)) (hl : g.length ≤ 40) (hl2 : ∀ b, (g.getD b []).length ≤ 20) (hno : ¬ RightI g) (w : World) (hG : GAt w av blk off hd g) :
    Calls Try.prog 27 #[.slice av g.length cap] w fun e w' => e = .returned (.slice none 0 0) ∧ w' = w := by
  have hr := rright_is av cap blk off hd g hl hl2 w hG
  rw [rightB_false hno] at hr
  clear hG
  go_enter Try.func27, Try.ntmps27
  go_wp2_with fail
  refine hr.mono ?_
  rintro e w1 ⟨rfl, rfl⟩
  go_wp2
  go_ret
  exact ⟨rfl, rfl⟩

end Go.Proofs.Ytchnjjdhffmkpaa
