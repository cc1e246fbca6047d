/-
  The document's own Loops (layer 6): the walk.
-/
import Derived.Test.YtchnjjdhffmkpaaRfI
namespace Go.Proofs.Ytchnjjdhffmkpaa
open Go.ChangeShapes Go.WideShapes Go.ChangeAt Go.RowKit Go.Shelf

set_option maxRecDepth 100000 in
set_option maxHeartbeats 16000000 in
/-- The document's Loops of a right graph. -/
theorem rloops_is (av : Option Addr) (cap blk off : Nat) (hd : Nat → Hdr) (g : List (List Nat)) (hgr : Right g) (hl : g.length ≤ 40) (w : World) (hG : GAt w av blk off hd (castG g)) :
    Calls Try.prog 29 #[.slice av g.length cap] w fun e w' => Below w.heap.size w w' ∧ ∃ v m' o, e = .returned v ∧ Walk g [0] (List.replicate g.length false) m' o ∧ RowsR w' w.heap.size v (loopsTo g o g.length) := by
  have hrows := hgr.rows
  have hone := hgr.one
  have HG := hide hG
  have HBK := hide (rback_is av cap blk off hd g hgr hl w hG)
  clear hG
  go_enter Try.func29, Try.ntmps29
  go_wp2_with fail
  refine HBK.out.mono ?_
  clear HBK
  rintro e w1 ⟨hb1, v, m', o, rfl, hw, hov⟩
  have hpn := PairN.of_owns hov
  clear hov
  obtain ⟨bav, bcap, hbv⟩ := hpn.shape
  subst hbv
  have HPL := hide (rplaces_is av cap blk off hd g hgr hl w1 (HG.out.below hb1))
  go_wp2_with fail
  refine HPL.out.mono ?_
  clear HPL
  rintro e w2 ⟨hb2, P, l, hP1, rfl, kP, m2, o2, rfl, hw2⟩
  obtain rfl := (hw2.det hw).2
  clear hw2
  have hs1 := hb1.size
  have hs2 := hb2.size
  have hB2 := bel_two hb1 hb2
  have hpn2 := hpn.below hb2
  have hPl := lt_of kP
  have HPC : Hid (∀ x, x < g.length → w2.cell? ⟨P, x, none⟩ = some (.int .i64 (plI o2.reverse x)) ∧ ((0 ≤ plI o2.reverse x) ↔ x ∈ o2)) := fun x hx => by
    refine ⟨by rw [cell_of kP, List.getElem?_toArray, plm_at _ _ _ hx], ?_⟩
    have h1 := plc_zero o2.reverse x
    rw [List.mem_reverse] at h1
    unfold plI
    constructor
    · intro h
      apply Classical.byContradiction
      intro hn
      have := h1.2 hn
      omega
    · intro h
      have : plc o2.reverse x ≠ 0 := fun e => h1.1 e h
      omega
  have HCL : Hid (∀ x ∈ o2, ∀ v ∈ g.getD x [], v ∈ o2) := fun x hx v hv => by
    have := hw.closed x hx v hv
    rw [hw.met] at this
    rcases this with h' | h'
    · exact ((repl_at _ _).1 h').elim
    · exact h'
  have hlo : ∀ x ∈ o2, x < g.length := fun x hx => by simpa using hw.lt x hx
  generalize hBe : backL (plc o2.reverse) g = B at *
  have HBM : Hid (∀ e ∈ B, e.1 < g.length ∧ e.2 < g.length ∧ e.1 ∈ o2) := fun ⟨a, b⟩ he => by
    rw [← hBe, mem_backL] at he
    have h1 : a ∈ o2 := by
      have := he.1
      rw [Ne, plc_zero] at this
      exact List.mem_reverse.1 (Classical.not_not.1 this)
    exact ⟨hlo a h1, hgr.lt a b he.2.1, h1⟩
  have hBl : B.length ≤ 8 * g.length + 8 := by rw [← hBe]; have := backTo_len (plc o2.reverse) g hrows g.length; unfold backL; omega
  have HLT : Hid (∀ k, loopsTo g o2 (k + 1) = loopsTo g o2 k ++ (if aheadL B k = [] then [] else [loopRow (predsL g) k (aheadL B k) o2])) := fun k => by rw [← hBe]; exact loopsTo_succ g o2 k
  have HLW : Hid (∀ h, h < g.length → ∃ Wk, LoopW g o2 B h Wk) := fun h hh => loopW_ex g hgr o2 B h hh (fun e he => ⟨(HBM.out e he).1, (HBM.out e he).2.2⟩)
  have HLL : Hid (∀ k, (loopsTo g o2 k).length ≤ k) := loopsTo_len g o2
  obtain ⟨bav', bcap', BB, hbe, hbp1, hbp2⟩ := hpn2
  injection hbe with be1 be2 be3
  subst be1 be3
  have HBC : Hid (∀ i, i < B.length → bav = some ⟨BB, 0, none⟩ ∧ BB < w2.heap.size ∧ w2.cell? ⟨BB, i * 2, none⟩ = some (.int .i64 ((B.getD i (0, 0)).1 : Int)) ∧ w2.cell? ⟨BB, i * 2 + 1, none⟩ = some (.int .i64 ((B.getD i (0, 0)).2 : Int)) ∧ B.take (i + 1) = B.take i ++ [B.getD i (0, 0)] ∧ B.getD i (0, 0) ∈ B) := fun i hi => by
    refine ⟨(hbp1 (by omega)).1, (hbp1 (by omega)).2, (hbp2 i hi).1, (hbp2 i hi).2, take_pair B i hi, ?_⟩
    rw [List.getD_eq_getElem?_getD, List.getElem?_eq_getElem hi]; exact List.getElem_mem hi
  have HW := hide hw
  have HB2 := hide hB2
  clear hw kP hpn hbp1 hbp2 hBe hlo be2 hB2 hb1
  have mk := make_flags g.length (by omega)
  generalize hhs : w2.heap.size = hs at *
  generalize hnb : B.length = nb at *
  have HNB := hide hnb
  clear hnb
  go_wp2
  go_loopw [6, 5] (fun i v W => ∃ k : Nat, i = .int .i64 k ∧ k ≤ g.length ∧ Below hs w2 W ∧ RowsR W hs v (loopsTo g o2 k)) (fun i _ _ => g.length - (intOf i).toNat)
  case atStart => exact ⟨0, rfl, Nat.zero_le _, by rw [← hhs]; exact Below.refl _ _, [], World.ownsRow_nil _ _ _ _, fun i hi => absurd hi (Nat.not_lt_zero _)⟩
  case round =>
    obtain ⟨k, rfl, hk, hB, hR⟩ := hrel
    have hsB := hB.size
    rw [hhs] at hsB
    obtain ⟨oav, ocap, hov⟩ := (show ∃ lav lcap, _ = Value.slice lav (loopsTo g o2 k).length lcap from by obtain ⟨vs, ho, _⟩ := hR; obtain ⟨x, y, z, _⟩ := owns_shape ho; exact ⟨x, y, z⟩)
    subst hov
    generalize hW0 : wr = wr0 at *
    clear hW0
    have hll := HLL.out k
    by_cases hkl : k < g.length
    · have e1 : ((k : Int) < (g.length : Int)) = True := eq_true (by omega)
      have hkb : k ≤ 4096 := by omega
      have kA : (wr0.alloc (flagsO (List.replicate g.length false))).heap[wr0.heap.size]? = some (flagsO (flg g.length (endsL (B.take 0) k))) := by
        rw [show endsL (B.take 0) k = [] by simp [endsL], flg_nil]; exact World.alloc_heap_new _ _
      have hbA : Below wr0.heap.size wr0 (wr0.alloc (flagsO (List.replicate g.length false))) := (Below.refl _ _).alloc (Nat.le_refl _) _
      have HKA := hide (And.intro kA hbA)
      have HR := hide hR
      have hnl : ∃ nl, (loopsTo g o2 k).length = nl := ⟨_, rfl⟩
      obtain ⟨nl, hnl⟩ := hnl
      have HNL := hide hnl
      rw [hnl] at hll ⊢
      rw [hnl] at HR
      clear kA hbA hR hnl
      go_wp2
      obtain ⟨kA, hbA⟩ := HKA.out
      clear HKA
      generalize wr0.alloc (flagsO (List.replicate g.length false)) = w3 at *
      generalize hA : wr0.heap.size = A at *
      have hsA : hs ≤ A := hsB
      go_loopw [8] (fun i W => ∃ i' : Nat, i = .int .i64 i' ∧ i' ≤ nb ∧ Below A wr0 W ∧ W.heap[A]? = some (flagsO (flg g.length (endsL (B.take i') k)))) (fun i _ => nb - (intOf i).toNat)
      case atStart => exact ⟨0, rfl, Nat.zero_le _, hbA, kA⟩
      case round =>
        clear hbA kA
        obtain ⟨i, rfl, hi, hBA, kA⟩ := hrel
        by_cases hil : i < nb
        · have e2 : ((i : Int) < (nb : Int)) = True := eq_true (by omega)
          obtain ⟨rfl, hBB, p1, p2, htk, hmem⟩ := HBC.out i hil
          have hBs : BB < hs := hBB
          have hBAl : BB < A := by omega
          have hBM := HBM.out _ hmem
          have hes := endsL_snoc (B.take i) k (B.getD i (0, 0)).1 (B.getD i (0, 0)).2
          rw [← show B.take (i + 1) = B.take i ++ [((B.getD i (0, 0)).1, (B.getD i (0, 0)).2)] from htk] at hes
          have c1 : wr.cell? ⟨BB, i * 2, none⟩ = some (.int .i64 ((B.getD i (0, 0)).1 : Int)) := (hBA.cell (p := ⟨BB, i * 2, none⟩) hBAl).trans ((hB.cell (p := ⟨BB, i * 2, none⟩) hBs).trans p1)
          have c2 : wr.cell? ⟨BB, i * 2 + 1, none⟩ = some (.int .i64 ((B.getD i (0, 0)).2 : Int)) := (hBA.cell (p := ⟨BB, i * 2 + 1, none⟩) hBAl).trans ((hB.cell (p := ⟨BB, i * 2 + 1, none⟩) hBs).trans p2)
          clear p1 p2 htk hmem
          generalize B.getD i (0, 0) = e at *
          obtain ⟨ea, eb⟩ := e
          simp only at hBM hes c1 c2
          by_cases hek : eb = k
          · subst hek
            rw [if_pos rfl] at hes
            have kB := set_flags kA eb true
            have kC := set_flags kB ea true
            rw [flg_set, flg_set, List.append_assoc] at kC
            rw [show [eb] ++ [ea] = [eb, ea] from rfl, ← hes] at kC
            have fA := frozen_of kA eb
            have fB := frozen_of kB ea
            have cA : wr.cell? ⟨A, eb, none⟩ = some (.bool (decide (eb ∈ endsL (B.take i) eb))) := by rw [cell_of kA, List.getElem?_toArray, List.getElem?_map, flg_at _ _ _ hkl]; rfl
            have hne : ∃ bo, (wr.setCell ⟨A, eb, none⟩ (.bool true)).cell? ⟨A, ea, none⟩ = some (.bool bo) := by
              rw [cell_of kB, List.getElem?_toArray, List.getElem?_map, flg_set, flg_at _ _ _ hBM.1]; exact ⟨_, rfl⟩
            obtain ⟨bo, cB⟩ := hne
            have cE : (wr.setCell ⟨A, eb, none⟩ (.bool true)).cell? ⟨BB, i * 2, none⟩ = some (.int .i64 (ea : Int)) := (World.cell?_of_block (Below.heap_setCell _ _ _ _ (by show BB ≠ A; omega))).trans c1
            have HKC := hide kC
            have HBC2 := hide ((hBA.setCell (p := ⟨A, eb, none⟩) (Nat.le_refl _) (.bool true)).setCell (p := ⟨A, ea, none⟩) (Nat.le_refl _) (.bool true))
            have eae : ((ea : Int) < (g.length : Int)) = True := eq_true (by have := hBM.1; omega)
            have eab : ea ≤ 4096 := by have := hBM.1; omega
            clear kA kB kC hes hBA
            generalize decide (eb ∈ endsL (B.take i) eb) = b0 at *
            have hib : i ≤ 100000 := by omega
            go_wp2
            go_roundw
            case rel => exact ⟨i + 1, by go_num, by omega, HBC2.out, HKC.out⟩
            case measure => simp [intOf]; omega
          · rw [if_neg hek, List.append_nil] at hes
            rw [← hes] at kA
            have HKC := hide kA
            have e3 : ((eb : Int) == (k : Int)) = false := by simp; omega
            have e4 : ((eb : Int) = (k : Int)) = False := eq_false (by omega)
            clear kA hes
            have hib : i ≤ 100000 := by omega
            go_wp2
            go_roundw
            case rel => exact ⟨i + 1, by go_num, by omega, hBA, HKC.out⟩
            case measure => simp [intOf]; omega
        · have e2 : ((i : Int) < (nb : Int)) = False := eq_false (by omega)
          rw [List.take_of_length_le (by have := HNB.out; omega)] at kA
          have hmk := mem_endsL B k
          have hlt := HLT.out k
          by_cases hz : aheadL B k = []
          · have hno : k ∉ endsL B k := fun hc => by
              rcases (hmk k).1 hc with h' | h'
              · exact h'.2 hz
              · rw [hz] at h'; cases h'
            have cA : wr.cell? ⟨A, k, none⟩ = some (.bool false) := by rw [cell_of kA, List.getElem?_toArray, List.getElem?_map, flg_at _ _ _ hkl, decide_eq_false hno]; rfl
            rw [if_pos hz, List.append_nil] at hlt
            have hR2 : RowsR wr hs (.slice oav nl ocap) (loopsTo g o2 (k + 1)) := by rw [hlt]; exact HR.out.turns (Turns.of_below hBA) (fun b _ hb hq => by omega)
            have HR2 := hide hR2
            have hB3 : Below hs w2 wr := hB.trans (hBA.mono (by omega))
            clear kA hmk hlt hz hno hR2
            go_wp2
            go_roundw
            case rel => exact ⟨k + 1, by go_num, by omega, hB3, HR2.out⟩
            case measure => simp [intOf]; omega
          · have hyes : k ∈ endsL B k := (hmk k).2 (.inl ⟨rfl, hz⟩)
            have cA : wr.cell? ⟨A, k, none⟩ = some (.bool true) := by rw [cell_of kA, List.getElem?_toArray, List.getElem?_map, flg_at _ _ _ hkl, decide_eq_true hyes]; rfl
            rw [if_neg hz] at hlt
            obtain ⟨Wk, hLW⟩ := HLW.out k hkl
            rw [hLW.row] at hlt
            have hH0 : HalfL g.length o2 Wk (aheadL B k) k (flg g.length (endsL B k)) := by
              refine ⟨flg_len _ _, fun x hx => ?_, fun x hx => ?_⟩
              · have hxl : x < g.length := by have := (List.getElem?_eq_some_iff.1 hx).1; rwa [flg_len] at this
                rw [flg_at _ _ _ hxl] at hx
                have hx' : x ∈ endsL B k := by simpa using hx
                rcases (hmk x).1 hx' with h' | h'
                · exact .inl h'.1
                · exact hLW.ends x h'
              · have hxe : x ∈ endsL B k := by
                  rcases hx with rfl | hx
                  · exact hyes
                  · exact (hmk x).2 (.inr hx)
                have hxl : x < g.length := by
                  rcases hx with rfl | hx
                  · exact hkl
                  · exact (HBM.out (x, k) ((mem_aheadL B k x).1 hx)).1
                rw [flg_at _ _ _ hxl]; simpa using hxe
            have HLT2 := hide hlt
            have HLWK := hide hLW
            clear hmk hlt hz hyes hLW
            generalize flg g.length (endsL B k) = m1 at *
            go_wp2
            go_loopw [9] (fun mv W => ∃ (m : List Bool) (more : Bool), mv = .bool more ∧ Below A wr0 W ∧ W.heap[A]? = some (flagsO m) ∧ HalfL g.length o2 Wk (aheadL B k) k m ∧ (more = false → ∀ b, b ∈ o2 → m[b]? ≠ some true → ∀ t ∈ g.getD b [], m[t]? = some true → t = k)) (fun mv W => 2 * offN W A + onN mv)
            case atStart => exact ⟨m1, true, rfl, hBA, kA, hH0, fun h => by cases h⟩
            case round =>
              clear hBA kA hH0 cA
              obtain ⟨m0, more, rfl, hBA, kA, hH, hcl⟩ := hrel
              cases more with
              | false => 
                have HC := hide (hcl rfl)
                clear hcl
                have hfl := hH.done HLWK.out.walk.choose_spec HLWK.out.hno HCL.out HC.out
                have HRD : Hid (∀ W, Below A wr0 W → W.heap[A]? = some (flagsO m0) → ∀ x, x < g.length → W.cell? ⟨A, x, none⟩ = some (.bool (decide (x = k ∨ (x ∈ Wk ∧ x ∈ o2))))) := fun W _ hk x hx => by
                  rw [cell_of hk, List.getElem?_toArray, List.getElem?_map, hfl x hx]; rfl
                have hkW := HLWK.out.hno
                clear hfl hH HC
                generalize hW1 : wr = wr1 at *
                clear hW1
                have ho1 := owns_one wr1 (wr1.heap.size) k (Nat.le_refl _)
                have hb4 : Below wr1.heap.size wr1 (wr1.alloc (.cells #[.int .i64 (k : Int)] 3)) := (Below.refl _ _).alloc (Nat.le_refl _) _
                have HK4 := hide (And.intro ho1 hb4)
                clear ho1 hb4
                have hszA := lt_of kA
                go_wp2
                obtain ⟨ho1, hb4⟩ := HK4.out
                clear HK4
                generalize wr1.alloc (.cells #[.int .i64 (k : Int)] 3) = w5 at *
                generalize hR5 : wr1.heap.size = RB at *
                go_loopw [13, 12] (fun i v W => ∃ i' : Nat, i = .int .i64 i' ∧ i' ≤ g.length ∧ Below RB wr1 W ∧ W.ownsRow RB 3 1 v (k :: (List.range i').filter fun x => decide (x ∈ Wk) && decide (x ∈ o2)).length (intsV (k :: (List.range i').filter fun x => decide (x ∈ Wk) && decide (x ∈ o2)))) (fun i _ _ => g.length - (intOf i).toNat)
                case atStart => exact ⟨0, rfl, Nat.zero_le _, hb4, ho1⟩
                case round =>
                  clear ho1 hb4
                  obtain ⟨i, rfl, hi, hB5, hO5⟩ := hrel
                  have hs5 := hB5.size
                  obtain ⟨rav, rcap, hrv, -⟩ := owns_shape hO5
                  subst hrv
                  have hfl := List.length_filter_le (fun x => decide (x ∈ Wk) && decide (x ∈ o2)) (List.range i)
                  rw [List.length_range] at hfl
                  have hBA2 : Below A wr0 wr := hBA.trans (hB5.mono (by omega))
                  by_cases hil : i < g.length
                  · have e2 : ((i : Int) < (g.length : Int)) = True := eq_true (by omega)
                    have ci := HRD.out wr hBA2 ((hB5.block A (by omega)).trans kA) i hil
                    have hfs := filter_succ i (fun x => decide (x ∈ Wk) && decide (x ∈ o2))
                    have hib : i ≤ 4096 := by omega
                    by_cases hin : i ∈ Wk ∧ i ∈ o2
                    · have hik : i ≠ k := fun e => hkW (e ▸ hin.1)
                      rw [decide_eq_true (.inr hin)] at ci
                      rw [if_pos (by simpa using hin)] at hfs
                      obtain ⟨g9, c9, W9, hap, ho, hT⟩ := int_more hO5 i 27 (by simp only [List.length_cons]; omega) (by omega)
                      rw [List.cons_append, ← hfs] at ho
                      have hB9 : Below RB wr1 W9 := hT.below hB5 (by omega) (fun b hb hq => by omega)
                      have HAP := hide hap
                      have HO := hide ho
                      have e3 : ((i : Int) == (k : Int)) = false := by simp; omega
                      have e4 : ((i : Int) = (k : Int)) = False := eq_false (by omega)
                      clear hap ho hT hO5 hfs hin hik hfl
                      generalize (k :: (List.range i).filter fun x => decide (x ∈ Wk) && decide (x ∈ o2)).length = rl at *
                      go_wp2_with (at_builtin; refine wpList_append_run rfl _ _ 27 rfl rfl rfl HAP.out ?_)
                      go_roundw
                      case rel => exact ⟨i + 1, by go_num, by omega, hB9, HO.out⟩
                      case measure => simp [intOf]; omega
                    · rw [if_neg (by simpa using hin), List.append_nil] at hfs
                      rw [← hfs] at hO5
                      have HO := hide hO5
                      have HL : Hid ((k :: (List.range i).filter fun x => decide (x ∈ Wk) && decide (x ∈ o2)).length = (k :: (List.range (i + 1)).filter fun x => decide (x ∈ Wk) && decide (x ∈ o2)).length) := by rw [Hid, hfs]
                      clear hO5 hfs hfl
                      by_cases hik : i = k
                      · rw [decide_eq_true (.inl hik)] at ci
                        have e3 : ((i : Int) == (k : Int)) = true := by simp; omega
                        have e4 : ((i : Int) = (k : Int)) = True := eq_true (by omega)
                        clear hik hin
                        generalize (k :: (List.range i).filter fun x => decide (x ∈ Wk) && decide (x ∈ o2)).length = rl at *
                        go_wp2
                        go_roundw
                        case rel => exact ⟨i + 1, by go_num, by omega, hB5, by first | exact HO.out | (rw [HL.out]; exact HO.out)⟩
                        case measure => simp [intOf]; omega
                      · rw [decide_eq_false (fun h => h.elim hik hin)] at ci
                        clear hik hin
                        generalize (k :: (List.range i).filter fun x => decide (x ∈ Wk) && decide (x ∈ o2)).length = rl at *
                        go_wp2
                        go_roundw
                        case rel => exact ⟨i + 1, by go_num, by omega, hB5, by first | exact HO.out | (rw [HL.out]; exact HO.out)⟩
                        case measure => simp [intOf]; omega
                  · have e2 : ((i : Int) < (g.length : Int)) = False := eq_false (by omega)
                    obtain rfl : i = g.length := by omega
                    have hR6 : RowsR wr hs (.slice oav nl ocap) (loopsTo g o2 k) := HR.out.turns (Turns.of_below hBA2) (fun b _ hb hq => by omega)
                    have hnl2 := HNL.out
                    obtain ⟨gg, cc, W9, ap9, t9, hR9⟩ := rowsR_step hR6 22 _ _ (owns_mono hO5 (base' := hs) (by omega)) (by omega) (by omega)
                    rw [hnl2] at ap9 hR9
                    rw [← HLT2.out] at hR9
                    have hB9 : Below hs w2 W9 := t9.below (hB.trans (hBA2.mono (by omega))) (by omega) (fun b hb hq => by omega)
                    have HAP := hide ap9
                    have HR9 := hide hR9
                    clear ap9 hR9 t9 hR6 hO5 hfl hnl2
                    generalize (k :: (List.range g.length).filter fun x => decide (x ∈ Wk) && decide (x ∈ o2)).length = rl at *
                    go_wp2_with (at_builtin; refine wpList_append_run rfl _ _ 22 rfl rfl rfl HAP.out ?_)
                    go_roundw
                    case rel => exact ⟨k + 1, by go_num, by omega, hB9, HR9.out⟩
                    case measure => simp [intOf]; omega
              | true => 
                clear hcl
                have HOFF := hide (offN_is kA)
                go_wp2
                go_loopw [10, 9] (fun i mv W => ∃ (i' : Nat) (m : List Bool) (more : Bool), i = .int .i64 i' ∧ i' ≤ g.length ∧ mv = .bool more ∧ Below A wr0 W ∧ W.heap[A]? = some (flagsO m) ∧ HalfL g.length o2 Wk (aheadL B k) k m ∧ SweptL g o2 k m0 m more i' 0) (fun i _ _ => g.length - (intOf i).toNat)
                case atStart => exact ⟨0, m0, false, rfl, Nat.zero_le _, rfl, hBA, kA, hH, .inl ⟨rfl, rfl, fun b hb => absurd hb (Nat.not_lt_zero _), fun p hp => absurd hp (Nat.not_lt_zero _)⟩⟩
                case round =>
                  clear hBA kA hH
                  obtain ⟨i, m, more, rfl, hi, rfl, hBk, kpk, hHk, hS⟩ := hrel
                  by_cases hil : i < g.length
                  · have e2 : ((i : Int) < (g.length : Int)) = True := eq_true (by omega)
                    have hib : i ≤ 4096 := by omega
                    go_wp2
                    go_loopw [11, 9] (fun j mv W => ∃ (j' : Nat) (m : List Bool) (more : Bool), j = .int .i64 j' ∧ j' ≤ (g.getD i []).length ∧ mv = .bool more ∧ Below A wr0 W ∧ W.heap[A]? = some (flagsO m) ∧ HalfL g.length o2 Wk (aheadL B k) k m ∧ SweptL g o2 k m0 m more i j') (fun j _ _ => (g.getD i []).length - (intOf j).toNat)
                    case atStart => exact ⟨0, m, more, rfl, Nat.zero_le _, rfl, hBk, kpk, hHk, hS⟩
                    case round =>
                      clear hBk kpk hHk hS
                      obtain ⟨j, m2, more2, rfl, hj, rfl, hB2', kp2, hH2, hS2⟩ := hrel
                      have hG2 := HG.out.below (HB2.out.trans ((hB.trans (hB2'.mono (by omega))).mono (by omega)))
                      obtain rfl := hG2.at_ (by rw [castG_len]; omega)
                      have c1 := hG2.has i (by rw [castG_len]; exact hil)
                      rw [castG_at, List.length_map] at c1
                      obtain ⟨bi, hbi⟩ := flag_some m2 i (by rw [hH2.len]; exact hil)
                      have cA : wr.cell? ⟨A, i, none⟩ = some (.bool bi) := by rw [cell_of kp2, List.getElem?_toArray, List.getElem?_map, hbi]; rfl
                      obtain ⟨p1, p2⟩ := HPC.out i hil
                      have cP : wr.cell? ⟨P, i, none⟩ = some (.int .i64 (plI o2.reverse i)) := (hB2'.cell (p := ⟨P, i, none⟩) (Nat.lt_of_lt_of_le hPl hsA)).trans ((hB.cell (p := ⟨P, i, none⟩) hPl).trans p1)
                      have hr8 := hrows i
                      clear p1
                      by_cases hjl : j < (g.getD i []).length
                      · have e3 : ((j : Int) < ((g.getD i []).length : Int)) = True := eq_true (by omega)
                        cases bi with
                        | true =>
                          have HN := hide (hS2.next (.inr (.inl hbi)))
                          have HKP := hide kp2
                          clear hS2 kp2 hG2 p2
                          generalize (g.getD i []).length = rl at *
                          generalize plI o2.reverse i = pi at *
                          go_wp2
                          go_roundw
                          case rel => exact ⟨i + 1, m2, more2, by go_num, by omega, rfl, hB2', HKP.out, hH2, HN.out⟩
                          case measure => simp [intOf]; omega
                        | false =>
                          by_cases hio : i ∈ o2
                          · have e4 : ((0 : Int) ≤ plI o2.reverse i) = True := eq_true (p2.2 hio)
                            have hav := hG2.rat i (by rw [castG_len]; exact hil) (by rw [castG_at, List.length_map]; omega)
                            rw [hav] at c1
                            have c2 := hG2.rhas i j (by rw [castG_len]; exact hil) (by rw [castG_at, List.length_map]; exact hjl)
                            rw [castG_at, cast_at] at c2
                            have htm := getD_mem (g.getD i []) j hjl
                            have htl : (g.getD i []).getD j 0 < g.length := hgr.lt i _ htm
                            obtain ⟨bt, hbt⟩ := flag_some m2 ((g.getD i []).getD j 0) (by rw [hH2.len]; exact htl)
                            have cT : wr.cell? ⟨A, (g.getD i []).getD j 0, none⟩ = some (.bool bt) := by rw [cell_of kp2, List.getElem?_toArray, List.getElem?_map, hbt]; rfl
                            cases bt with
                            | false =>
                              have HN := hide (hS2.step (fun h => by rw [hbt] at h; cases h))
                              have HKP := hide kp2
                              clear hS2 kp2 hG2 hbt hav p2 htm hio
                              generalize (g.getD i []).getD j 0 = t at *
                              generalize (g.getD i []).length = rl at *
                              generalize plI o2.reverse i = pi at *
                              have hti : ((t : Int) < (g.length : Int)) = True := eq_true (by omega)
                              have htb : t ≤ 4096 := by omega
                              go_wp2
                              go_roundw
                              case rel => exact ⟨j + 1, m2, more2, by go_num, by omega, rfl, hB2', HKP.out, hH2, HN.out⟩
                              case measure => simp [intOf]; omega
                            | true =>
                              by_cases htk : (g.getD i []).getD j 0 = k
                              · have HN := hide (hS2.step (fun _ => htk))
                                have HKP := hide kp2
                                have e5 : ((((g.getD i []).getD j 0 : Nat) : Int) == (k : Int)) = true := beq_iff_eq.2 (by omega)
                                have e6 : ((((g.getD i []).getD j 0 : Nat) : Int) = (k : Int)) = True := eq_true (by omega)
                                clear hS2 kp2 hG2 hbt hav p2 htm hio htk
                                generalize (g.getD i []).getD j 0 = t at *
                                generalize (g.getD i []).length = rl at *
                                generalize plI o2.reverse i = pi at *
                                have hti : ((t : Int) < (g.length : Int)) = True := eq_true (by omega)
                                have htb : t ≤ 4096 := by omega
                                go_wp2
                                go_roundw
                                case rel => exact ⟨j + 1, m2, more2, by go_num, by omega, rfl, hB2', HKP.out, hH2, HN.out⟩
                                case measure => simp [intOf]; omega
                              · have htW : (g.getD i []).getD j 0 ∈ Wk := by
                                  rcases hH2.snd _ hbt with h' | h'
                                  · exact absurd h' htk
                                  · exact h'.1
                                have HN := hide (hS2.found hbi i (j + 1))
                                have HH := hide (hH2.put (HLWK.out.pred i _ hio htm htW) hbi)
                                have HKP := hide (set_flags kp2 i true)
                                have HBB := hide (hB2'.setCell (p := ⟨A, i, none⟩) (Nat.le_refl _) (.bool true))
                                have f3 := frozen_of kp2 i
                                have e5 : ((((g.getD i []).getD j 0 : Nat) : Int) == (k : Int)) = false := beq_eq_false_iff_ne.2 (by omega)
                                have e6 : ((((g.getD i []).getD j 0 : Nat) : Int) = (k : Int)) = False := eq_false (by omega)
                                clear hS2 kp2 hG2 hbt hav p2 htm hio htk hH2 hB2' htW
                                generalize (g.getD i []).getD j 0 = t at *
                                generalize (g.getD i []).length = rl at *
                                generalize plI o2.reverse i = pi at *
                                have hti : ((t : Int) < (g.length : Int)) = True := eq_true (by omega)
                                have htb : t ≤ 4096 := by omega
                                go_wp2
                                go_roundw
                                case rel => exact ⟨j + 1, m2.set i true, true, by go_num, by omega, rfl, HBB.out, HKP.out, HH.out, HN.out⟩
                                case measure => simp [intOf]; omega
                          · have e4 : ((0 : Int) ≤ plI o2.reverse i) = False := eq_false (fun h => hio (p2.1 h))
                            have HN := hide (hS2.next (.inr (.inr hio)))
                            have HKP := hide kp2
                            clear hS2 kp2 hG2 p2 hio
                            generalize (g.getD i []).length = rl at *
                            generalize plI o2.reverse i = pi at *
                            go_wp2
                            go_roundw
                            case rel => exact ⟨i + 1, m2, more2, by go_num, by omega, rfl, hB2', HKP.out, hH2, HN.out⟩
                            case measure => simp [intOf]; omega
                      · have e3 : ((j : Int) < ((g.getD i []).length : Int)) = False := eq_false (by omega)
                        have HN := hide (hS2.next (.inl (by omega)))
                        have HKP := hide kp2
                        clear hS2 kp2 hG2 p2
                        generalize (g.getD i []).length = rl at *
                        generalize plI o2.reverse i = pi at *
                        go_wp2
                        go_roundw
                        case rel => exact ⟨i + 1, m2, more2, by go_num, by omega, rfl, hB2', HKP.out, hH2, HN.out⟩
                        case measure => simp [intOf]; omega
                  · have e2 : ((i : Int) < (g.length : Int)) = False := eq_false (by omega)
                    have HKP := hide kpk
                    have HM := hide (offN_is kpk)
                    have HS := hide hS
                    clear kpk hS
                    go_wp2
                    go_roundw
                    case rel =>
                      refine ⟨m, more, rfl, hBk, HKP.out, hHk, fun h b hb hm t ht hmt => ?_⟩
                      rcases HS.out with ⟨_, h2, h3, _⟩ | ⟨h1, _⟩
                      · rw [h2] at hm hmt
                        have hbl : b < g.length := by
                          rcases Nat.lt_or_ge b g.length with h' | h'
                          · exact h'
                          · rw [getD_ge g b h'] at ht; cases ht
                        exact h3 b (by omega) hb hm t ht hmt
                      · rw [h] at h1; cases h1
                    case measure =>
                      have a1 := HM.out
                      have a2 := HOFF.out
                      rcases HS.out with ⟨h1, h2, _, _⟩ | ⟨h1, h2⟩
                      · subst h1; subst h2
                        show 2 * offN wr A + 0 < 2 * offN _ A + 1
                        omega
                      · subst h1
                        show 2 * offN wr A + 1 < 2 * offN _ A + 1
                        omega
    · have e1 : ((k : Int) < (g.length : Int)) = False := eq_false (by omega)
      obtain rfl : k = g.length := by omega
      have HR := hide hR
      clear hR
      go_wp2
      go_ret
      refine ⟨HB2.out.trans (hB.mono (by omega)), _, m', o2, rfl, HW.out, ?_⟩
      obtain ⟨vs, h1, h2⟩ := HR.out
      exact ⟨vs, owns_mono h1 (by omega), fun i hi => by obtain ⟨u, hu, ho⟩ := h2 i hi; exact ⟨u, hu, owns_mono ho (by omega)⟩⟩

end Go.Proofs.Ytchnjjdhffmkpaa
