/-
  The document's own Critical (layer 6): its contract.
-/
import Derived.Test.YtchnjjdhffmkpaaRfD
namespace Go.Proofs.Ytchnjjdhffmkpaa
open Go.ChangeShapes Go.WideShapes Go.ChangeAt Go.RowKit Go.Shelf

/-- One pair more behind a row of one's own. -/
theorem pair_more {W : World} {base : Nat} {v : Value} {l : List (Nat × Nat)} (h : W.ownsRow base 37 2 v l.length (pairsV l)) (x y : Nat) (ty : TypeId) (hl : l.length ≤ 100000000) (hbase : base ≤ W.heap.size) :
    ∃ g cap w', (Builtin.append_ #[32, 32] ty #[v, .slice (some ⟨W.heap.size, 0, none⟩) 1 1]).run Try.prog (W.alloc (.cells #[.int .i64 (x : Int), .int .i64 (y : Int)] 37)) = .ok (.slice (some ⟨g, 0, none⟩) (l.length + 1) cap) w' ∧ w'.ownsRow base 37 2 (.slice (some ⟨g, 0, none⟩) (l.length + 1) cap) (l ++ [(x, y)]).length (pairsV (l ++ [(x, y)])) ∧ Turns (fun b => base ≤ b) W w' := by
  obtain ⟨g, cap, w', hap, ho, hgb, -, -⟩ := app_pair W ty base v l.length (pairsV l) h x y hl hbase
  refine ⟨g, cap, w', hap, ?_, grown_turns h hgb⟩
  rw [List.length_append, show pairsV (l ++ [(x, y)]) = pairsV l ++ [.int .i64 (x : Int), .int .i64 (y : Int)] by simp [pairsV]]
  exact ho
def critUp (g : List (List Nat)) (k j : Nat) : List (Nat × Nat) := (edgesUp g k j).filter (critB g)
theorem critUp_step (g : List (List Nat)) (k j : Nat) (h : j < (g.getD k []).length) : critUp g k (j + 1) = critUp g k j ++ (if critB g (k, (g.getD k []).getD j 0) then [(k, (g.getD k []).getD j 0)] else []) := by
  unfold critUp
  rw [edgesUp_step g k j h, List.filter_append]
  congr 1
  by_cases hc : critB g (k, (g.getD k []).getD j 0)
  · rw [if_pos hc, List.filter_cons_of_pos hc]; rfl
  · rw [if_neg hc, List.filter_cons_of_neg hc]; rfl
theorem critUp_short (g : List (List Nat)) (k : Nat) (h : ¬ 1 < (g.getD k []).length) : ∀ j, j ≤ (g.getD k []).length → critUp g k j = critUp g k 0
  | 0, _ => rfl
  | j + 1, hj => by
    have hc : critB g (k, (g.getD k []).getD j 0) = false := by simp [critB]; intro h'; exact absurd h' (by simpa using h)
    rw [critUp_step g k j (by omega), critUp_short g k h j (by omega), if_neg (by rw [hc]; simp), List.append_nil]
theorem critUp_next (g : List (List Nat)) (k : Nat) : critUp g k (g.getD k []).length = critUp g (k + 1) 0 := by
  unfold critUp; rw [edgesUp_all, edgesUp_zero]
theorem critUp_len (g : List (List Nat)) (h : ∀ b, (g.getD b []).length ≤ 8) (k j : Nat) : (critUp g k j).length ≤ 8 * k + 8 := Nat.le_trans (List.length_filter_le _ _) (edgesUp_len g h k j)

set_option maxRecDepth 100000 in
set_option maxHeartbeats 4000000 in
/-- The document's Critical of a right graph. -/
theorem rcritical_is (av : Option Addr) (cap blk off : Nat) (hd : Nat → Hdr) (g : List (List Nat)) (hgr : Right g) (hl : g.length ≤ 40) (w : World) (hG : GAt w av blk off hd (castG g)) :
    Calls Try.prog 22 #[.slice av g.length cap] w fun e w' => Below w.heap.size w w' ∧ ∃ v, e = .returned v ∧ w'.ownsRow w.heap.size 37 2 v (critL g).length (pairsV (critL g)) := by
  have hrows := hgr.rows
  have hone := hgr.one
  have HP := hide (rpreds_is av cap blk off hd g hgr hl w hG)
  have HG := hide hG
  clear hG
  go_enter Try.func22, Try.ntmps22
  go_wp2_with fail
  refine HP.out.mono ?_
  clear HP
  rintro e w1 ⟨hb1, H, base, hH1, hH2, rfl, hR⟩
  have hs1 := hb1.size
  have HPC : Hid (∀ t, t < g.length → ∃ pav pcap, w1.cell? ⟨H, t, none⟩ = some (.slice pav (aheadL (edgesL g) t).length pcap)) := fun t ht => hR.cell t ht
  have hHl : H < w1.heap.size := by obtain ⟨vs, _, h2, _⟩ := hR; exact lt_of h2
  clear hR
  generalize hhs : w1.heap.size = hs at *
  go_wp2
  go_loopw [5, 4] (fun i v W => ∃ k : Nat, i = .int .i64 k ∧ k ≤ g.length ∧ Below hs w1 W ∧ W.ownsRow hs 37 2 v (critUp g k 0).length (pairsV (critUp g k 0))) (fun i _ _ => g.length - (intOf i).toNat)
  case atStart => exact ⟨0, rfl, Nat.zero_le _, by rw [← hhs]; exact Below.refl _ _, World.ownsRow_nil _ _ _ _⟩
  case round =>
    obtain ⟨k, rfl, hk, hB, hO⟩ := hrel
    by_cases hkl : k < g.length
    · have e1 : ((k : Int) < (g.length : Int)) = True := eq_true (by omega)
      have hkb : k ≤ 4096 := by omega
      have HO := hide hO
      clear hO
      go_wp2
      go_loopw [6, 4] (fun i v W => ∃ j : Nat, i = .int .i64 j ∧ j ≤ (g.getD k []).length ∧ Below hs w1 W ∧ W.ownsRow hs 37 2 v (critUp g k j).length (pairsV (critUp g k j))) (fun i _ _ => (g.getD k []).length - (intOf i).toNat)
      case atStart => exact ⟨0, rfl, Nat.zero_le _, hB, HO.out⟩
      case round =>
        clear hB HO
        obtain ⟨j, rfl, hj, hB, hO⟩ := hrel
        have hsB := hB.size
        have hG2 := HG.out.below (hb1.trans (hB.mono (by omega)))
        obtain rfl := hG2.at_ (by rw [castG_len]; omega)
        have c1 := hG2.has k (by rw [castG_len]; exact hkl)
        rw [castG_at, List.length_map] at c1
        have hr8 := hrows k
        have hcl := critUp_len g hrows k j
        obtain ⟨oav, ocap, hov, -⟩ := owns_shape hO
        subst hov
        by_cases hj2 : j < (g.getD k []).length ∧ 1 < (g.getD k []).length
        · obtain ⟨hjl, hg1⟩ := hj2
          have e2 : ((j : Int) < ((g.getD k []).length : Int)) = True := eq_true (by omega)
          have e3 : ((1 : Int) < ((g.getD k []).length : Int)) = True := eq_true (by omega)
          have hav := hG2.rat k (by rw [castG_len]; exact hkl) (by rw [castG_at, List.length_map]; omega)
          rw [hav] at c1
          have c2 := hG2.rhas k j (by rw [castG_len]; exact hkl) (by rw [castG_at, List.length_map]; exact hjl)
          rw [castG_at, cast_at] at c2
          have htl : (g.getD k []).getD j 0 < g.length := hgr.lt k _ (getD_mem _ _ hjl)
          obtain ⟨pav, pcap, c3⟩ := HPC.out _ htl
          have c4 : wr.cell? ⟨H, (g.getD k []).getD j 0, none⟩ = _ := (hB.cell (p := ⟨H, _, none⟩) (by omega)).trans c3
          have hcs := critUp_step g k j hjl
          have hcb : critB g (k, (g.getD k []).getD j 0) = decide (1 < (aheadL (edgesL g) ((g.getD k []).getD j 0)).length) := by simp [critB]; intro; simpa using hg1
          rw [hcb] at hcs
          clear hcb c3
          have hala := aheadL_len (edgesL g) ((g.getD k []).getD j 0)
          have hel := edgesL_len g hrows
          by_cases hp : 1 < (aheadL (edgesL g) ((g.getD k []).getD j 0)).length
          · have e4 : ((1 : Int) < ((aheadL (edgesL g) ((g.getD k []).getD j 0)).length : Int)) = True := eq_true (by omega)
            rw [if_pos (by simpa using hp)] at hcs
            obtain ⟨g', cp, w', hap, ho, hT⟩ := pair_more hO k ((g.getD k []).getD j 0) 32 (by omega) (by omega)
            rw [← hcs] at ho
            have HO := hide ho
            have HAP := hide hap
            have hB9 : Below hs w1 w' := hT.below hB (by omega) (fun b hb hq => by omega)
            clear hO ho hap hcs hG2 hT hp hav
            generalize (aheadL (edgesL g) ((g.getD k []).getD j 0)).length = al at *
            generalize (g.getD k []).getD j 0 = t at *
            generalize (g.getD k []).length = rl at *
            generalize (critUp g k j).length = cl at *
            have hti : ((t : Int) < (g.length : Int)) = True := eq_true (by omega)
            have htb : t ≤ 4096 := by omega
            go_wp2_with (at_builtin; refine wpList_append_run rfl _ _ 32 rfl rfl rfl HAP.out ?_)
            go_roundw
            case rel => exact ⟨j + 1, by go_num, by omega, hB9, HO.out⟩
            case measure => simp [intOf]; omega
          · have e4 : ((1 : Int) < ((aheadL (edgesL g) ((g.getD k []).getD j 0)).length : Int)) = False := eq_false (by omega)
            rw [if_neg (by simpa using hp), List.append_nil] at hcs
            rw [← hcs] at hO
            have HO := hide hO
            have hlen : (critUp g k j).length = (critUp g k (j + 1)).length := by rw [hcs]
            have HL := hide hlen
            clear hO hcs hG2 hp hav hlen
            generalize (aheadL (edgesL g) ((g.getD k []).getD j 0)).length = al at *
            generalize (g.getD k []).getD j 0 = t at *
            generalize (g.getD k []).length = rl at *
            have hti : ((t : Int) < (g.length : Int)) = True := eq_true (by omega)
            have htb : t ≤ 4096 := by omega
            go_wp2
            go_roundw
            case rel => exact ⟨j + 1, by go_num, by omega, hB, by first | exact HO.out | (rw [HL.out]; exact HO.out) | (rw [← HL.out]; exact HO.out)⟩
            case measure => simp [intOf]; omega
        · have hfin : critUp g k j = critUp g (k + 1) 0 := by
            by_cases h1 : 1 < (g.getD k []).length
            · obtain rfl : j = (g.getD k []).length := by omega
              exact critUp_next g k
            · rw [← critUp_next g k, critUp_short g k h1 j hj, critUp_short g k h1 _ (Nat.le_refl _)]
          rw [hfin] at hO
          have HO := hide hO
          have HFIN := hide hfin
          clear hO hG2 hfin
          by_cases hjl : j < (g.getD k []).length
          · have e2 : ((j : Int) < ((g.getD k []).length : Int)) = True := eq_true (by omega)
            have e3 : ((1 : Int) < ((g.getD k []).length : Int)) = False := eq_false (by omega)
            generalize (g.getD k []).length = rl at *
            go_wp2
            go_roundw
            case rel => exact ⟨k + 1, by go_num, by omega, hB, by first | exact HO.out | (rw [HFIN.out]; exact HO.out)⟩
            case measure => simp [intOf]; omega
          · have e2 : ((j : Int) < ((g.getD k []).length : Int)) = False := eq_false (by omega)
            generalize (g.getD k []).length = rl at *
            go_wp2
            go_roundw
            case rel => exact ⟨k + 1, by go_num, by omega, hB, by first | exact HO.out | (rw [HFIN.out]; exact HO.out)⟩
            case measure => simp [intOf]; omega
    · have e1 : ((k : Int) < (g.length : Int)) = False := eq_false (by omega)
      obtain rfl : k = g.length := by omega
      have hfin : critUp g g.length 0 = critL g := by unfold critUp; rw [edgesUp_zero]; rfl
      rw [hfin] at hO
      have HO := hide hO
      obtain ⟨oav, ocap, hov, -⟩ := owns_shape hO
      subst hov
      clear hO hfin
      go_wp2
      go_ret
      exact ⟨hb1.trans (hB.mono (by omega)), _, rfl, owns_mono HO.out (by omega)⟩
theorem rcritical_none (av : Option Addr) (cap blk off : Nat) (hd : Nat → Hdr) (g : List (List Int)) (hl : g.length ≤ 40) (hl2 : ∀ b, (g.getD b []).length ≤ 20) (hno : ¬ RightI g) (w : World) (hG : GAt w av blk off hd g) :
    Calls Try.prog 22 #[.slice av g.length cap] w fun e w' => e = .returned (.slice none 0 0) ∧ w' = w := by
  have hr := rpreds_none av cap blk off hd g hl hl2 hno w hG
  clear hG
  go_enter Try.func22, Try.ntmps22
  go_wp2_with fail
  refine hr.mono ?_
  rintro e w1 ⟨rfl, rfl⟩
  clear hr
  go_wp2
  go_loopw [5, 4] (fun i v W => i = .int .i64 0 ∧ v = .slice none 0 0 ∧ w1 = W) (fun _ _ _ => 0)
  case atStart => exact ⟨rfl, rfl, rfl⟩
  case round =>
    obtain ⟨rfl, rfl, rfl⟩ := hrel
    go_wp2
    go_ret
    exact ⟨rfl, rfl⟩

end Go.Proofs.Ytchnjjdhffmkpaa
