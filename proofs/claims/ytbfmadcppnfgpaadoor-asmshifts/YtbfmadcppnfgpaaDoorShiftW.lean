/-
  The law AsmShifts (layer 5): its walk.
-/
import Derived.Test.YtbfmadcppnfgpaaDoorShiftA
namespace Go.Proofs.YtbfmadcppnfgpaaDoor
open Go.ChangeShapes Go.WideShapes Go.ChangeAt Go.RowKit

theorem below_grown5 {B : Nat} {w W w' : World} {v : Value} {base : Nat} {e : TypeId} {size n : Nat} {xs : List Value} (h : Below B w W) (hB : B ≤ W.heap.size) (ho : W.ownsRow base e size v n xs) (hb : B ≤ base) (hg : W.grownBy w' v.ownBlock) : Below B w w' :=
  h.trans ⟨hg.os, hg.tape, hg.output, hg.size, fun b hb' => hg.block b (by omega) (fun e => by have := (ho.lt b e.symm).1; omega)⟩

set_option maxRecDepth 100000 in
set_option maxHeartbeats 8000000 in
theorem shiftsLaw (av : Option Addr) (cap blk off : Nat) (ls : List Ln) (a : Int) (w : World) (hT : Tabs w) (hfL : ∀ x ∈ ls, Fits x.L) (hfT : ∀ x ∈ ls, Fits x.t) (hin : IsLines w av blk off ls) :
    Calls Tryd.prog 5 #[.slice av ls.length cap, .int .i64 a] w fun e w' => e = .returned (.bool true) ∧ Below w.heap.size w w' := by
  go_enter Tryd.func5, Tryd.ntmps5
  go_wp2_with fail
  refine (small_is w hT).mono ?_; rintro e w1 ⟨rfl, hb1⟩
  by_cases hbig : (100 : Int) < (ls.length : Int)
  · go_wp2
    go_ret
    exact ⟨rfl, hb1⟩
  by_cases hneg : a < 0
  · go_wp2
    go_ret
    exact ⟨rfl, hb1⟩
  by_cases hgt : (50 : Int) < a
  · go_wp2
    go_ret
    exact ⟨rfl, hb1⟩
  obtain ⟨n, rfl⟩ : ∃ n : Nat, a = (n : Int) := ⟨a.toNat, by omega⟩
  have hl : ls.length ≤ 100 := by omega
  have hn : n ≤ 50 := by omega
  have hin1 := hin.later hb1
  clear hT hin
  go_wp2
  go_loopw [7, 6] (fun i v wr => ∃ k : Nat, i = .int .i64 k ∧ k ≤ n ∧ Below w1.heap.size w1 wr ∧ wr.ownsRow w1.heap.size 38 7 v k ((ahd k).flatMap Ln.cl)) (fun i _ _ => n - (intOf i).toNat)
  case atStart => exact ⟨0, rfl, Nat.zero_le _, Below.refl _ _, World.ownsRow_nil _ _ _ _⟩
  case round =>
    obtain ⟨k, rfl, hk, hB, hO⟩ := hrel
    have hszB := hB.size
    by_cases hkn : k < n
    · have e1 : ((k : Int) < (n : Int)) = True := eq_true (by omega)
      obtain ⟨bav, bcap, hbv, -, -⟩ := owns_shape hO
      have HO := hide hO
      subst hbv
      clear hO
      go_wp2_with fail
      refine (plain_any 12 3 0 0 0 _).mono ?_
      rintro e w2 ⟨rfl, hb2⟩
      have hO2 := owns_below HO.out hb2
      have hB2 := hB.trans (hb2.mono hszB)
      have hs2 := hb2.size
      have hl1 : IsLines (w2.alloc (.cells #[.int .i64 0, .int .i64 12, .int .i64 3, .int .i64 0, .int .i64 0, .int .i64 0, .int .i64 0] 38)) (some ⟨w2.heap.size, 0, none⟩) w2.heap.size 0 [outLn] := new_lines w2 [outLn]
      have hO3 := owns_below hO2 (bel_new w2 (.cells #[.int .i64 0, .int .i64 12, .int .i64 3, .int .i64 0, .int .i64 0, .int .i64 0, .int .i64 0] 38))
      obtain ⟨v', w3, hap, hO4, hg⟩ := append_lines _ 22 w1.heap.size _ k _ hO3 _ 1 w2.heap.size 0 [outLn] hl1 (by simp; omega) (by simp; omega)
      have hB3 : Below w1.heap.size w1 w3 := below_grown5 (hB2.trans ((bel_new w2 _).mono (by omega))) (by simp; omega) hO3 (Nat.le_refl _) hg
      have hO5 : w3.ownsRow w1.heap.size 38 7 v' (k + 1) ((ahd (k + 1)).flatMap Ln.cl) := by
        rw [show ahd (k + 1) = ahd k ++ [outLn] from List.replicate_succ', List.flatMap_append]; exact hO4
      have HAP := hide hap
      have HO5 := hide hO5
      have HB3 := hide hB3
      clear hap hO4 hO5 hg hB3 hO3 hl1 hO2 hb2 hB2 HO
      go_wp2_with (at_builtin; refine wpList_append_run rfl _ _ 22 rfl rfl rfl HAP.out ?_)
      go_roundw
      case rel => exact ⟨k + 1, by go_num, hkn, HB3.out, HO5.out⟩
      case measure => simp [intOf]; omega
    · have e1 : ((k : Int) < (n : Int)) = False := eq_false (by omega)
      obtain rfl : k = n := by omega
      clear hk hkn
      obtain ⟨bav, bcap, hbv, -, -⟩ := owns_shape hO
      have HO := hide hO
      subst hbv
      clear hO
      have hinr := hin1.later hB
      have HAS := hide (assemble_any av cap blk off ls wr (by omega) hfL hfT hinr)
      go_wp2_with fail
      refine HAS.out.mono ?_
      clear HAS
      rintro e w2 ⟨hb2, hcase⟩
      have hB2 := hB.trans (hb2.mono hszB)
      have hin2 := hinr.later hb2
      have hO2 := owns_below HO.out hb2
      have hs2 := hb2.size
      obtain ⟨v', w3, hap, hO3, hg⟩ := append_lines w2 22 w1.heap.size _ k _ hO2 av cap blk off ls hin2 (by omega) (by omega)
      have hB3 : Below w1.heap.size w1 w3 := below_grown5 hB2 (by omega) hO2 (Nat.le_refl _) hg
      rw [← List.flatMap_append, show k + ls.length = (ahd k ++ ls).length by simp] at hO3
      obtain ⟨av3, cap3, blk3, off3, rfl, hc3, hl3, -⟩ := owns_lines hO3
      have hf3 : (∀ x ∈ ahd k ++ ls, Fits x.L) ∧ ∀ x ∈ ahd k ++ ls, Fits x.t := by
        constructor <;> intro x hx <;> rcases List.mem_append.1 hx with hx | hx
        · rw [List.eq_of_mem_replicate hx]; decide
        · exact hfL x hx
        · rw [List.eq_of_mem_replicate hx]; decide
        · exact hfT x hx
      have hA3 := (assemble_any av3 cap3 blk3 off3 (ahd k ++ ls) w3 (by rw [ahd_len]; omega) hf3.1 hf3.2 hl3)
      rw [ahd_len] at hA3 hap
      have HA3 := hide hA3
      clear hA3
      have HAP := hide hap
      have hgu : ∀ g, w1.heap.size ≤ w2.heap.size → g < w2.heap.size → wr.heap.size ≤ g → w3.heap[g]? = w2.heap[g]? := fun g _ h1 h2 => hg.block g h1 (fun e => by have := (HO.out.lt g e.symm).2; omega)
      have hs3 := hg.size
      clear hap hO3 hg hl3 hinr hin2 hc3 hf3
      rcases hcase with ⟨t1, ht1, rfl⟩ | ⟨hgood, g1, hg1, hg2, rfl, hc1⟩
      · go_wp2_with (at_builtin; refine wpList_append_run rfl _ _ 22 rfl rfl rfl HAP.out ?_)
        refine HA3.out.mono ?_
        rintro e w4 ⟨hb4, ⟨t2, ht2, rfl⟩ | ⟨hgood, _⟩⟩
        · obtain rfl := told_same ht1 ht2
          have hn0 : ((t1 : Int) == 0) = false := by cases ht1 <;> rfl
          have hn1 : ¬ t1 = 0 := by intro e; rw [e] at hn0; cases hn0
          have HB := hide (bel_two hb1 (hB3.trans (hb4.mono hB3.size)))
          clear ht1 ht2 hb4 HA3 HAP HO hO2
          go_wp2
          go_loopw [12] (fun i wr' => wr' = w4 ∧ i = .int .i64 0) (fun _ _ => 0)
          case atStart => exact ⟨rfl, rfl⟩
          case round =>
            obtain ⟨rfl, rfl⟩ := hrel
            go_wp2
            go_ret
            exact ⟨rfl, HB.out⟩
        · exact (good_not ((good_ahd k ls).1 hgood) ht1).elim
      · go_wp2_with (at_builtin; refine wpList_append_run rfl _ _ 22 rfl rfl rfl HAP.out ?_)
        refine HA3.out.mono ?_
        rintro e w4 ⟨hb4, ⟨t2, ht2, rfl⟩ | ⟨_, g2, hg3, hg4, rfl, hc2⟩⟩
        · exact (good_not ((good_ahd k ls).2 hgood) ht2).elim
        have hblen := asm_ahd_len k ls
        rw [hblen]
        have hc1' : HasInsts w3 g1 0 (asmL ls) := fun j hj => (hc1 j hj).block (hgu g1 (by omega) hg2 hg1)
        have hc1'' : HasInsts w4 g1 0 (asmL ls) := fun j hj => (hc1' j hj).below hb4 (by omega)
        have hB4 : Below w1.heap.size w1 w4 := hB3.trans (hb4.mono hB3.size)
        have hal := asmL_len ls
        have hpl := plc_le ls ls.length
        have hlt1 : g1 < w4.heap.size := by have := hb4.size; omega
        have HCC : Hid (∀ i, i < (asmL ls).length → ∃ x y : Ins, AtIns w4 g1 (i * 5) x ∧ AtIns w4 g2 ((i + k) * 5) y ∧ (y = x ∨ (y.o = x.o ∧ y.a = x.a ∧ y.i = x.i + (k : Int) ∧ 0 ≤ x.i ∧ x.i ≤ (ls.length : Int)))) := fun i hi => by
          obtain ⟨x, y, h1, h2, h3⟩ := asm_ahd_at k ls hgood i hi
          obtain ⟨i1, e1⟩ := List.getElem?_eq_some_iff.1 h1
          obtain ⟨i2, e2⟩ := List.getElem?_eq_some_iff.1 h2
          refine ⟨x, y, ?_, ?_, h3⟩
          · have := hc1'' i i1; rw [e1, Nat.zero_add] at this; exact this
          · have := hc2 (i + k) i2; rw [e2, Nat.zero_add] at this; exact this
        clear hc1 hc1' hc1'' hc2 HA3 HAP HO hO2 hgu hgood hblen
        generalize hna : (asmL ls).length = na at *
        clear hna
        have hnb : na ≤ 100 := by omega
        go_wp2
        go_loopw [12] (fun i wr' => ∃ j : Nat, i = .int .i64 j ∧ j ≤ na ∧ Below w4.heap.size w4 wr') (fun i _ => na - (intOf i).toNat)
        case atStart => exact ⟨0, rfl, Nat.zero_le _, Below.refl _ _⟩
        case round =>
          obtain ⟨j, rfl, hj, hBj⟩ := hrel
          by_cases hjl : j < na
          · have e2 : ((j : Int) < (na : Int)) = True := eq_true (by omega)
            obtain ⟨x, y, hx, hy, hxy⟩ := HCC.out j hjl
            have hx2 := hx.below hBj hlt1
            have hy2 := hy.below hBj hg4
            have hsj := hBj.size
            obtain ⟨p0, p1, p2, p3, p4⟩ := hx2
            obtain ⟨q0, q1, q2, q3, q4⟩ := hy2
            have hjk : ((j : Int) + (k : Int) < (na : Int) + (k : Int)) = True := eq_true (by omega)
            have HBB : Hid (Below w4.heap.size w4 ((wr.alloc (.cells #[.int .i64 x.o, .int .i64 x.a, .int .i64 x.b, .int .i64 x.c, .int .i64 x.i] 32)).alloc (.cells #[.int .i64 y.o, .int .i64 y.a, .int .i64 y.b, .int .i64 y.c, .int .i64 y.i] 32))) := (hBj.alloc hsj _).alloc (by simp; omega) _
            clear hx hy
            have hg2r : g2 < wr.heap.size := by omega
            have hxy2 : y = x ∨ (y ≠ x ∧ y.o = x.o ∧ y.a = x.a ∧ y.i = x.i + (k : Int) ∧ 0 ≤ x.i ∧ x.i ≤ (ls.length : Int)) := by
              by_cases hh : y = x
              · exact .inl hh
              · exact .inr ⟨hh, hxy.resolve_left hh⟩
            clear hxy
            rcases hxy2 with rfl | ⟨hyx, ho, ha, hi, hi0, hi1⟩
            · have hne := neqI_same y.o y.a y.b y.c y.i
              cases hmv : ((y.i : Int) == y.i + (k : Int)) <;>
              · go_wp2
                go_roundw
                case rel => exact ⟨j + 1, by go_num, hjl, HBB.out⟩
                case measure => simp [intOf]; omega
            · rw [ho] at q0
              rw [ha] at q1
              rw [hi] at q4
              rw [ho, ha, hi] at HBB
              have hfi : x.i + (k : Int) ≤ 200 := by omega
              have heq : ¬ (x.b = y.b ∧ x.c = y.c ∧ x.i = x.i + (k : Int)) := fun ⟨e3, e4, e5⟩ => hyx (by
                obtain ⟨xo, xa, xb, xc, xi⟩ := x
                obtain ⟨yo, ya, yb, yc, yi⟩ := y
                simp only at ho ha hi e3 e4 e5
                rw [ho, ha, ← e3, ← e4, hi, ← e5])
              clear hyx
              · have hne := neqI_diff x.o x.a x.b x.c x.i x.o x.a y.b y.c (x.i + (k : Int)) (fun h => heq ⟨h.2.2.1, h.2.2.2.1, h.2.2.2.2⟩)
                clear heq
                go_wp2
                go_roundw
                case rel => exact ⟨j + 1, by go_num, hjl, HBB.out⟩
                case measure => simp [intOf]; omega
          · have e2 : ((j : Int) < (na : Int)) = False := eq_false (by omega)
            have HBF := hide (bel_two hb1 (hB4.trans (hBj.mono hB4.size)))
            go_wp2
            go_ret
            exact ⟨rfl, HBF.out⟩

end Go.Proofs.YtbfmadcppnfgpaaDoor
