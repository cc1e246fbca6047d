/-
  The parser's parameters and operands (layer 10): their contracts.
  The parser's results (layer 10): the contract.
-/
import Derived.Test.YtgndnodahlabiaaPsF

/- The parser's parameters and operands (layer 10): their contracts. -/
namespace Go.Proofs.Ytgndnodahlabiaa
open Go.ChangeShapes Go.WideShapes Go.ChangeAt Go.RowKit

set_option maxRecDepth 100000 in
set_option maxHeartbeats 4000000 in
theorem param_is {W : World} {P : Nat} {av : Option Addr} {cap blk off : Nat} {ts : List Tok} {s : St} {r : Nat} {v : Lv} (hv : Deep P av cap blk off ts r v) (h : ParAt W P av cap blk off ts s r) :
    Calls Try.prog 60 #[.pointer (some ⟨P, 0, none⟩)] W (PaAns P av cap blk off ts r (paramF ts v) s W) := by
  have hN := node_is (h.below (bel_new W (.cells #[.int .i64 0, .string ⟨#[]⟩, .int .i64 0, .slice none 0 0] 24))) 3
  have hS : ∀ W1, _ → _ := fun W1 hb => Fr.start (W1 := W1) h hb 3 (nextT ts s).a
  have HS := hidW hS
  clear h hS
  have hw : paramF ts v s = (.mk 3 (nameS ts s).1 ((nextT ts s).a : Int) [(v.t (nameS ts s).2).1], (v.t (nameS ts s).2).2) := rfl
  go_enter Try.func60, Try.ntmps60
  go_wp2_with fail
  refine hN.mono ?_; rintro e W1 ⟨rfl, hb1⟩
  have F1 := HS.out W1 hb1
  clear HS hN hb1
  have HT := hidW (name_is F1.par)
  have HF := hidW F1
  clear F1
  go_wp2_with fail
  refine HT.out.mono ?_; clear HT; rintro e W3 ⟨rfl, p3, t3⟩
  have F3 := HF.out.step p3 t3
  clear HF p3 t3
  have n1 := cell_of F3.nod 1
  have m1 := frozen_of F3.nod 1
  simp only [List.getElem?_toArray, List.getElem?_cons_succ, List.getElem?_cons_zero] at n1
  have F4 := F3.set1 (.string (bs (nameS ts s).1))
  clear F3
  have HD := hidW (hv.t _ _ F4.par)
  have HF := hidW F4
  clear F4
  go_wp2_with fail
  refine HD.out.mono ?_; clear HD; rintro e W5 ⟨⟨nk, nt, na, nav, ncap, nblk, noff, nks⟩, rfl, hl, hn, p5, t5⟩
  have F5 := HF.out.step p5 t5
  have hl5 := Lies.mono (base' := W1.heap.size + 1) hl (lt_of HF.out.nod)
  have hK := kids_one (base := W1.heap.size + 1) hl5 (lt_of F5.nod)
  have F6 := F5.below (bel_new W5 (.cells #[.int .i64 nk, .string (bs nt), .int .i64 na, .slice nav nks.length ncap] 24))
  have hK7 := hK.turns (turns_p W1.heap.size 3 (.slice (some ⟨W5.heap.size, 0, none⟩) 1 1) _) (fun b hb _ => by omega)
  have F7 := F6.set3 (.slice (some ⟨W5.heap.size, 0, none⟩) 1 1)
  have hw2 : paramF ts v s = (Nd.mk 3 (nameS ts s).1 (nextT ts s).a ([(Nv.mk nk nt na nav ncap nblk noff nks)].map Nv.nd), _) := hw.trans (by rw [← hn]; rfl)
  clear HF p5 t5 F5 hl hl5 hK hn
  have u0 := cell_of F6.nod 0
  have u1 := cell_of F6.nod 1
  have u2 := cell_of F6.nod 2
  have u3 := cell_of F6.nod 3
  have l0 := frozen_of F6.nod 0
  have l1 := frozen_of F6.nod 1
  have l2 := frozen_of F6.nod 2
  have l3 := frozen_of F6.nod 3
  have y0 := cell_of F6.res 0
  have y1 := cell_of F6.res 1
  have y2 := cell_of F6.res 2
  have y3 := cell_of F6.res 3
  have g0 := frozen_of F6.res 0
  have g1 := frozen_of F6.res 1
  have g2 := frozen_of F6.res 2
  have g3 := frozen_of F6.res 3
  simp only [List.getElem?_toArray, List.getElem?_cons_zero, List.getElem?_cons_succ] at u0 u1 u2 u3 y0 y1 y2 y3
  have n0 := cell_of F7.nod 0
  have n1 := cell_of F7.nod 1
  have n2 := cell_of F7.nod 2
  have n3 := cell_of F7.nod 3
  have m0 := frozen_of F7.nod 0
  have m1 := frozen_of F7.nod 1
  have m2 := frozen_of F7.nod 2
  have m3 := frozen_of F7.nod 3
  have z0 := cell_of F7.res 0
  have z1 := cell_of F7.res 1
  have z2 := cell_of F7.res 2
  have z3 := cell_of F7.res 3
  have f0 := frozen_of F7.res 0
  have f1 := frozen_of F7.res 1
  have f2 := frozen_of F7.res 2
  have f3 := frozen_of F7.res 3
  simp only [List.getElem?_toArray, List.getElem?_cons_zero, List.getElem?_cons_succ] at n0 n1 n2 n3 z0 z1 z2 z3
  obtain ⟨r0, r1, r2, r3⟩ := res4 F7.res (.int .i64 3) (.string (bs (nameS ts s).1)) (.int .i64 (nextT ts s).a) (.slice (some ⟨W5.heap.size, 0, none⟩) 1 1)
  have HFin := hidW (F7.fin (k := 3) (t := (nameS ts s).1) (a := (nextT ts s).a) (w := paramF ts v) hK7 hw2)
  clear F7
  go_wp2
  refine bodyPost_ret (v := .agg #[.int .i64 3, .string (bs (nameS ts s).1), .int .i64 (nextT ts s).a, .slice (some ⟨W5.heap.size, 0, none⟩) 1 1]) (by simp [results, Try.results60, go_sem, r0, r1, r2, r3]) rfl ?_
  exact HFin.out

set_option maxRecDepth 100000 in
set_option maxHeartbeats 4000000 in
theorem operand_is {W : World} {P : Nat} {av : Option Addr} {cap blk off : Nat} {ts : List Tok} {s : St} {r : Nat} {v : Lv} (hv : Deep P av cap blk off ts r v) (hp : ∀ s W, ParAt W P av cap blk off ts s r → Calls Try.prog 91 #[.pointer (some ⟨P, 0, none⟩)] W (PaAns P av cap blk off ts r (partF ts v) s W)) (h : ParAt W P av cap blk off ts s r) :
    Calls Try.prog 90 #[.pointer (some ⟨P, 0, none⟩)] W (PaAns P av cap blk off ts r (operF ts v) s W) := by
  have hN := node_is (h.below (bel_new W (.cells #[.int .i64 0, .string ⟨#[]⟩, .int .i64 0, .slice none 0 0] 24))) 0
  have hS : ∀ W1, _ → _ := fun W1 hb => Fr.start (W1 := W1) h hb 0 (nextT ts s).a
  have HS := hidW hS
  clear h hS
  cases q1 : isW ts [45] s with
  | true =>
    have hw : operF ts v s = (.mk 20 [] ((nextT ts s).a : Int) [(v.o (adv s)).1], (v.o (adv s)).2) := by unfold operF; rw [if_pos q1]
    go_enter Try.func90, Try.ntmps90
    go_wp2_with fail
    refine hN.mono ?_; rintro e W1 ⟨rfl, hb1⟩
    have F1 := HS.out W1 hb1
    clear HS hN hb1
    have HT := hidW (take_yes F1.par q1)
    have HF := hidW F1
    clear F1
    go_wp2_with fail
    refine HT.out.mono ?_; clear HT; rintro e W3 ⟨rfl, p3, t3⟩
    have F3 := HF.out.step p3 t3
    clear HF p3 t3
    have n0 := cell_of F3.nod 0
    have m0 := frozen_of F3.nod 0
    simp only [List.getElem?_toArray, List.getElem?_cons_zero] at n0
    have F4 := F3.set0 (.int .i64 20)
    clear F3
    have HD := hidW (hv.o _ _ F4.par)
    have HF := hidW F4
    clear F4
    go_wp2_with fail
    refine HD.out.mono ?_; clear HD; rintro e W5 ⟨⟨nk, nt, na, nav, ncap, nblk, noff, nks⟩, rfl, hl, hn, p5, t5⟩
    have F5 := HF.out.step p5 t5
    have hl5 := Lies.mono (base' := W1.heap.size + 1) hl (lt_of HF.out.nod)
    have hK := kids_one (base := W1.heap.size + 1) hl5 (lt_of F5.nod)
    have F6 := F5.below (bel_new W5 (.cells #[.int .i64 nk, .string (bs nt), .int .i64 na, .slice nav nks.length ncap] 24))
    have hK7 := hK.turns (turns_p W1.heap.size 3 (.slice (some ⟨W5.heap.size, 0, none⟩) 1 1) _) (fun b hb _ => by omega)
    have F7 := F6.set3 (.slice (some ⟨W5.heap.size, 0, none⟩) 1 1)
    have hw2 : operF ts v s = (Nd.mk 20 [] (nextT ts s).a ([(Nv.mk nk nt na nav ncap nblk noff nks)].map Nv.nd), _) := hw.trans (by rw [← hn]; rfl)
    clear HF p5 t5 F5 hl hl5 hK hn
    have u0 := cell_of F6.nod 0
    have u1 := cell_of F6.nod 1
    have u2 := cell_of F6.nod 2
    have u3 := cell_of F6.nod 3
    have l0 := frozen_of F6.nod 0
    have l1 := frozen_of F6.nod 1
    have l2 := frozen_of F6.nod 2
    have l3 := frozen_of F6.nod 3
    have y0 := cell_of F6.res 0
    have y1 := cell_of F6.res 1
    have y2 := cell_of F6.res 2
    have y3 := cell_of F6.res 3
    have g0 := frozen_of F6.res 0
    have g1 := frozen_of F6.res 1
    have g2 := frozen_of F6.res 2
    have g3 := frozen_of F6.res 3
    simp only [List.getElem?_toArray, List.getElem?_cons_zero, List.getElem?_cons_succ] at u0 u1 u2 u3 y0 y1 y2 y3
    have n0 := cell_of F7.nod 0
    have n1 := cell_of F7.nod 1
    have n2 := cell_of F7.nod 2
    have n3 := cell_of F7.nod 3
    have m0 := frozen_of F7.nod 0
    have m1 := frozen_of F7.nod 1
    have m2 := frozen_of F7.nod 2
    have m3 := frozen_of F7.nod 3
    have z0 := cell_of F7.res 0
    have z1 := cell_of F7.res 1
    have z2 := cell_of F7.res 2
    have z3 := cell_of F7.res 3
    have f0 := frozen_of F7.res 0
    have f1 := frozen_of F7.res 1
    have f2 := frozen_of F7.res 2
    have f3 := frozen_of F7.res 3
    simp only [List.getElem?_toArray, List.getElem?_cons_zero, List.getElem?_cons_succ] at n0 n1 n2 n3 z0 z1 z2 z3
    obtain ⟨r0, r1, r2, r3⟩ := res4 F7.res (.int .i64 20) (.string ⟨#[]⟩) (.int .i64 (nextT ts s).a) (.slice (some ⟨W5.heap.size, 0, none⟩) 1 1)
    have HFin := hidW (F7.fin (k := 20) (t := []) (a := (nextT ts s).a) (w := operF ts v) hK7 hw2)
    clear F7
    go_wp2
    refine bodyPost_ret (v := .agg #[.int .i64 20, .string ⟨#[]⟩, .int .i64 (nextT ts s).a, .slice (some ⟨W5.heap.size, 0, none⟩) 1 1]) (by simp [results, Try.results90, go_sem, r0, r1, r2, r3]) rfl ?_
    exact HFin.out
  | false =>
    cases q2 : isW ts [42] s with
    | true =>
      have hw : operF ts v s = (.mk 21 [] ((nextT ts s).a : Int) [(v.o (adv s)).1], (v.o (adv s)).2) := by unfold operF; rw [if_neg (by simp [q1]), if_pos q2]
      go_enter Try.func90, Try.ntmps90
      go_wp2_with fail
      refine hN.mono ?_; rintro e W1 ⟨rfl, hb1⟩
      have F1 := HS.out W1 hb1
      clear HS hN hb1
      have HT := hidW (take_no F1.par q1)
      have HF := hidW F1
      clear F1
      go_wp2_with fail
      refine HT.out.mono ?_; clear HT; rintro e W20 ⟨rfl, p3, t3⟩
      have F20 := HF.out.step p3 t3
      clear HF p3 t3
      have HT := hidW (take_yes F20.par q2)
      have HF := hidW F20
      clear F20
      go_wp2_with fail
      refine HT.out.mono ?_; clear HT; rintro e W3 ⟨rfl, p3, t3⟩
      have F3 := HF.out.step p3 t3
      clear HF p3 t3
      have n0 := cell_of F3.nod 0
      have m0 := frozen_of F3.nod 0
      simp only [List.getElem?_toArray, List.getElem?_cons_zero] at n0
      have F4 := F3.set0 (.int .i64 21)
      clear F3
      have HD := hidW (hv.o _ _ F4.par)
      have HF := hidW F4
      clear F4
      go_wp2_with fail
      refine HD.out.mono ?_; clear HD; rintro e W5 ⟨⟨nk, nt, na, nav, ncap, nblk, noff, nks⟩, rfl, hl, hn, p5, t5⟩
      have F5 := HF.out.step p5 t5
      have hl5 := Lies.mono (base' := W1.heap.size + 1) hl (lt_of HF.out.nod)
      have hK := kids_one (base := W1.heap.size + 1) hl5 (lt_of F5.nod)
      have F6 := F5.below (bel_new W5 (.cells #[.int .i64 nk, .string (bs nt), .int .i64 na, .slice nav nks.length ncap] 24))
      have hK7 := hK.turns (turns_p W1.heap.size 3 (.slice (some ⟨W5.heap.size, 0, none⟩) 1 1) _) (fun b hb _ => by omega)
      have F7 := F6.set3 (.slice (some ⟨W5.heap.size, 0, none⟩) 1 1)
      have hw2 : operF ts v s = (Nd.mk 21 [] (nextT ts s).a ([(Nv.mk nk nt na nav ncap nblk noff nks)].map Nv.nd), _) := hw.trans (by rw [← hn]; rfl)
      clear HF p5 t5 F5 hl hl5 hK hn
      have u0 := cell_of F6.nod 0
      have u1 := cell_of F6.nod 1
      have u2 := cell_of F6.nod 2
      have u3 := cell_of F6.nod 3
      have l0 := frozen_of F6.nod 0
      have l1 := frozen_of F6.nod 1
      have l2 := frozen_of F6.nod 2
      have l3 := frozen_of F6.nod 3
      have y0 := cell_of F6.res 0
      have y1 := cell_of F6.res 1
      have y2 := cell_of F6.res 2
      have y3 := cell_of F6.res 3
      have g0 := frozen_of F6.res 0
      have g1 := frozen_of F6.res 1
      have g2 := frozen_of F6.res 2
      have g3 := frozen_of F6.res 3
      simp only [List.getElem?_toArray, List.getElem?_cons_zero, List.getElem?_cons_succ] at u0 u1 u2 u3 y0 y1 y2 y3
      have n0 := cell_of F7.nod 0
      have n1 := cell_of F7.nod 1
      have n2 := cell_of F7.nod 2
      have n3 := cell_of F7.nod 3
      have m0 := frozen_of F7.nod 0
      have m1 := frozen_of F7.nod 1
      have m2 := frozen_of F7.nod 2
      have m3 := frozen_of F7.nod 3
      have z0 := cell_of F7.res 0
      have z1 := cell_of F7.res 1
      have z2 := cell_of F7.res 2
      have z3 := cell_of F7.res 3
      have f0 := frozen_of F7.res 0
      have f1 := frozen_of F7.res 1
      have f2 := frozen_of F7.res 2
      have f3 := frozen_of F7.res 3
      simp only [List.getElem?_toArray, List.getElem?_cons_zero, List.getElem?_cons_succ] at n0 n1 n2 n3 z0 z1 z2 z3
      obtain ⟨r0, r1, r2, r3⟩ := res4 F7.res (.int .i64 21) (.string ⟨#[]⟩) (.int .i64 (nextT ts s).a) (.slice (some ⟨W5.heap.size, 0, none⟩) 1 1)
      have HFin := hidW (F7.fin (k := 21) (t := []) (a := (nextT ts s).a) (w := operF ts v) hK7 hw2)
      clear F7
      go_wp2
      refine bodyPost_ret (v := .agg #[.int .i64 21, .string ⟨#[]⟩, .int .i64 (nextT ts s).a, .slice (some ⟨W5.heap.size, 0, none⟩) 1 1]) (by simp [results, Try.results90, go_sem, r0, r1, r2, r3]) rfl ?_
      exact HFin.out
    | false =>
      cases q3 : isW ts [38] s with
      | true =>
        have hw : operF ts v s = (.mk 22 [] ((nextT ts s).a : Int) [(v.o (adv s)).1], (v.o (adv s)).2) := by unfold operF; rw [if_neg (by simp [q1]), if_neg (by simp [q2]), if_pos q3]
        go_enter Try.func90, Try.ntmps90
        go_wp2_with fail
        refine hN.mono ?_; rintro e W1 ⟨rfl, hb1⟩
        have F1 := HS.out W1 hb1
        clear HS hN hb1
        have HT := hidW (take_no F1.par q1)
        have HF := hidW F1
        clear F1
        go_wp2_with fail
        refine HT.out.mono ?_; clear HT; rintro e W20 ⟨rfl, p3, t3⟩
        have F20 := HF.out.step p3 t3
        clear HF p3 t3
        have HT := hidW (take_no F20.par q2)
        have HF := hidW F20
        clear F20
        go_wp2_with fail
        refine HT.out.mono ?_; clear HT; rintro e W21 ⟨rfl, p3, t3⟩
        have F21 := HF.out.step p3 t3
        clear HF p3 t3
        have HT := hidW (take_yes F21.par q3)
        have HF := hidW F21
        clear F21
        go_wp2_with fail
        refine HT.out.mono ?_; clear HT; rintro e W3 ⟨rfl, p3, t3⟩
        have F3 := HF.out.step p3 t3
        clear HF p3 t3
        have n0 := cell_of F3.nod 0
        have m0 := frozen_of F3.nod 0
        simp only [List.getElem?_toArray, List.getElem?_cons_zero] at n0
        have F4 := F3.set0 (.int .i64 22)
        clear F3
        have HD := hidW (hv.o _ _ F4.par)
        have HF := hidW F4
        clear F4
        go_wp2_with fail
        refine HD.out.mono ?_; clear HD; rintro e W5 ⟨⟨nk, nt, na, nav, ncap, nblk, noff, nks⟩, rfl, hl, hn, p5, t5⟩
        have F5 := HF.out.step p5 t5
        have hl5 := Lies.mono (base' := W1.heap.size + 1) hl (lt_of HF.out.nod)
        have hK := kids_one (base := W1.heap.size + 1) hl5 (lt_of F5.nod)
        have F6 := F5.below (bel_new W5 (.cells #[.int .i64 nk, .string (bs nt), .int .i64 na, .slice nav nks.length ncap] 24))
        have hK7 := hK.turns (turns_p W1.heap.size 3 (.slice (some ⟨W5.heap.size, 0, none⟩) 1 1) _) (fun b hb _ => by omega)
        have F7 := F6.set3 (.slice (some ⟨W5.heap.size, 0, none⟩) 1 1)
        have hw2 : operF ts v s = (Nd.mk 22 [] (nextT ts s).a ([(Nv.mk nk nt na nav ncap nblk noff nks)].map Nv.nd), _) := hw.trans (by rw [← hn]; rfl)
        clear HF p5 t5 F5 hl hl5 hK hn
        have u0 := cell_of F6.nod 0
        have u1 := cell_of F6.nod 1
        have u2 := cell_of F6.nod 2
        have u3 := cell_of F6.nod 3
        have l0 := frozen_of F6.nod 0
        have l1 := frozen_of F6.nod 1
        have l2 := frozen_of F6.nod 2
        have l3 := frozen_of F6.nod 3
        have y0 := cell_of F6.res 0
        have y1 := cell_of F6.res 1
        have y2 := cell_of F6.res 2
        have y3 := cell_of F6.res 3
        have g0 := frozen_of F6.res 0
        have g1 := frozen_of F6.res 1
        have g2 := frozen_of F6.res 2
        have g3 := frozen_of F6.res 3
        simp only [List.getElem?_toArray, List.getElem?_cons_zero, List.getElem?_cons_succ] at u0 u1 u2 u3 y0 y1 y2 y3
        have n0 := cell_of F7.nod 0
        have n1 := cell_of F7.nod 1
        have n2 := cell_of F7.nod 2
        have n3 := cell_of F7.nod 3
        have m0 := frozen_of F7.nod 0
        have m1 := frozen_of F7.nod 1
        have m2 := frozen_of F7.nod 2
        have m3 := frozen_of F7.nod 3
        have z0 := cell_of F7.res 0
        have z1 := cell_of F7.res 1
        have z2 := cell_of F7.res 2
        have z3 := cell_of F7.res 3
        have f0 := frozen_of F7.res 0
        have f1 := frozen_of F7.res 1
        have f2 := frozen_of F7.res 2
        have f3 := frozen_of F7.res 3
        simp only [List.getElem?_toArray, List.getElem?_cons_zero, List.getElem?_cons_succ] at n0 n1 n2 n3 z0 z1 z2 z3
        obtain ⟨r0, r1, r2, r3⟩ := res4 F7.res (.int .i64 22) (.string ⟨#[]⟩) (.int .i64 (nextT ts s).a) (.slice (some ⟨W5.heap.size, 0, none⟩) 1 1)
        have HFin := hidW (F7.fin (k := 22) (t := []) (a := (nextT ts s).a) (w := operF ts v) hK7 hw2)
        clear F7
        go_wp2
        refine bodyPost_ret (v := .agg #[.int .i64 22, .string ⟨#[]⟩, .int .i64 (nextT ts s).a, .slice (some ⟨W5.heap.size, 0, none⟩) 1 1]) (by simp [results, Try.results90, go_sem, r0, r1, r2, r3]) rfl ?_
        exact HFin.out
      | false =>
        have hw : operF ts v s = partF ts v s := by unfold operF; rw [if_neg (by simp [q1]), if_neg (by simp [q2]), if_neg (by simp [q3])]
        go_enter Try.func90, Try.ntmps90
        go_wp2_with fail
        refine hN.mono ?_; rintro e W1 ⟨rfl, hb1⟩
        have F1 := HS.out W1 hb1
        clear HS hN hb1
        have HT := hidW (take_no F1.par q1)
        have HF := hidW F1
        clear F1
        go_wp2_with fail
        refine HT.out.mono ?_; clear HT; rintro e W2 ⟨rfl, p3, t3⟩
        have F2 := HF.out.step p3 t3
        clear HF p3 t3
        have HT := hidW (take_no F2.par q2)
        have HF := hidW F2
        clear F2
        go_wp2_with fail
        refine HT.out.mono ?_; clear HT; rintro e W2b ⟨rfl, p3, t3⟩
        have F2b := HF.out.step p3 t3
        clear HF p3 t3
        have HT := hidW (take_no F2b.par q3)
        have HF := hidW F2b
        clear F2b
        go_wp2_with fail
        refine HT.out.mono ?_; clear HT; rintro e W3 ⟨rfl, p3, t3⟩
        have F3 := HF.out.step p3 t3
        clear HF p3 t3
        have HP := hidW (hp s _ F3.par)
        have HF := hidW F3
        clear F3 hp
        go_wp2_with fail
        refine HP.out.mono ?_; clear HP; rintro e W4 ⟨⟨k, tx, a, nav, ncap, nblk, noff, ks⟩, rfl, hl1, hn1, p1, t1⟩
        have F4 := HF.out.step p1 t1
        have hsz := HF.out.tur.size
        have n0 := cell_of F4.nod 0
        have n1 := cell_of F4.nod 1
        have n2 := cell_of F4.nod 2
        have n3 := cell_of F4.nod 3
        have m0 := frozen_of F4.nod 0
        have m1 := frozen_of F4.nod 1
        have m2 := frozen_of F4.nod 2
        have m3 := frozen_of F4.nod 3
        have z0 := cell_of F4.res 0
        have z1 := cell_of F4.res 1
        have z2 := cell_of F4.res 2
        have z3 := cell_of F4.res 3
        have f0 := frozen_of F4.res 0
        have f1 := frozen_of F4.res 1
        have f2 := frozen_of F4.res 2
        have f3 := frozen_of F4.res 3
        simp only [List.getElem?_toArray, List.getElem?_cons_zero, List.getElem?_cons_succ] at n0 n1 n2 n3 z0 z1 z2 z3
        obtain ⟨r0, r1, r2, r3⟩ := res4 F4.res (.int .i64 k) (.string (bs tx)) (.int .i64 a) (.slice nav ks.length ncap)
        have hX := hidW (And.intro F4 (And.intro hl1 (And.intro hn1 (lt_of HF.out.res))))
        clear F4 hl1 hn1 p1 t1 HF
        go_wp2
        refine bodyPost_ret (v := .agg #[.int .i64 k, .string (bs tx), .int .i64 a, .slice nav ks.length ncap]) (by simp [results, Try.results90, go_sem, r0, r1, r2, r3]) rfl ?_
        obtain ⟨F4, hl1, hn1, hlr⟩ := hX.out
        have hne := F4.ne
        obtain ⟨q1, q2⟩ := put4 (b := W.heap.size) (v0 := .int .i64 k) (v1 := .string (bs tx)) (v2 := .int .i64 a) (v3 := .slice nav ks.length ncap) F4.tur (Nat.le_refl _)
        refine ⟨.mk k tx a nav ncap nblk noff ks, rfl, Lies.mono (Lies.turns hl1 q2 (fun c hc _ => by omega)) hsz, by rw [hn1, hw], ?_, q1⟩
        rw [hw]; exact F4.par.turns2 q2 (by omega) (fun h0 => by have := F4.bk h0; omega)

end Go.Proofs.Ytgndnodahlabiaa

/- The parser's results (layer 10): the contract. -/
namespace Go.Proofs.Ytgndnodahlabiaa
open Go.ChangeShapes Go.WideShapes Go.ChangeAt Go.RowKit

/-- The result's box alone. -/
structure Bx0 (W0 : World) (P : Nat) (av : Option Addr) (cap blk off : Nat) (ts : List Tok) (s : St) (r : Nat) (W : World) : Prop where
  par : ParAt W P av cap blk off ts s r
  res : W.heap[W0.heap.size]? = some (.cells #[.int .i64 0, .string ⟨#[]⟩, .int .i64 0, .slice none 0 0] 24 (0, 0))
  tur : Turns (fun b => b = P) W0 W
  ne : P < W0.heap.size
  bk : 0 < ts.length → blk < W0.heap.size
theorem Bx0.start {W0 : World} {P : Nat} {av : Option Addr} {cap blk off : Nat} {ts : List Tok} {s : St} {r : Nat} (h : ParAt W0 P av cap blk off ts s r) : Bx0 W0 P av cap blk off ts s r (W0.alloc (.cells #[.int .i64 0, .string ⟨#[]⟩, .int .i64 0, .slice none 0 0] 24)) :=
  ⟨h.below (bel_new _ _), World.alloc_heap_new W0 _, Turns.alloc _ _ _, lt_of h.box, fun h0 => (h.lt h0).1⟩
theorem Bx0.step {W0 W W' : World} {P : Nat} {av : Option Addr} {cap blk off : Nat} {ts : List Tok} {s s' : St} {r : Nat} (h : Bx0 W0 P av cap blk off ts s r W) (p : ParAt W' P av cap blk off ts s' r) (t : Turns (fun b => b = P) W W') : Bx0 W0 P av cap blk off ts s' r W' :=
  ⟨p, (t.block _ (lt_of h.res) (by have := h.ne; omega)).trans h.res, h.tur.trans t, h.ne, h.bk⟩
theorem Bx0.fin {W0 W : World} {P : Nat} {av : Option Addr} {cap blk off : Nat} {ts : List Tok} {s s0 : St} {r : Nat} {w : Pa} (h : Bx0 W0 P av cap blk off ts s r W) (k : Int) (t : List UInt8) (a : Int) (nav : Option Addr) (ncap nblk noff : Nat) (ks : List Nv)
    (hl : Lies (W0.heap.size + 1) W (.mk k t a nav ncap nblk noff ks)) (hw : w s0 = ((Nv.mk k t a nav ncap nblk noff ks).nd, s)) :
    PaAns P av cap blk off ts r w s0 W0 (.returned (.agg #[.int .i64 k, .string (bs t), .int .i64 a, .slice nav ks.length ncap])) ((((W.setCell ⟨W0.heap.size, 0, none⟩ (.int .i64 k)).setCell ⟨W0.heap.size, 1, none⟩ (.string (bs t))).setCell ⟨W0.heap.size, 2, none⟩ (.int .i64 a)).setCell ⟨W0.heap.size, 3, none⟩ (.slice nav ks.length ncap)) := by
  have hn := h.ne
  obtain ⟨q1, q2⟩ := put4 (b := W0.heap.size) (v0 := .int .i64 k) (v1 := .string (bs t)) (v2 := .int .i64 a) (v3 := .slice nav ks.length ncap) h.tur (Nat.le_refl _)
  exact ⟨.mk k t a nav ncap nblk noff ks, rfl, Lies.mono (Lies.turns hl q2 (fun c hc _ => by omega)) (by omega), by rw [hw], by rw [hw]; exact h.par.turns2 q2 (by omega) (fun h0 => by have := h.bk h0; omega), q1⟩

set_option maxRecDepth 100000 in
set_option maxHeartbeats 4000000 in
theorem result_is {W : World} {P : Nat} {av : Option Addr} {cap blk off : Nat} {ts : List Tok} {s : St} {r : Nat} {v : Lv} (hv : Deep P av cap blk off ts r v) (h : ParAt W P av cap blk off ts s r) :
    Calls Try.prog 61 #[.pointer (some ⟨P, 0, none⟩)] W (PaAns P av cap blk off ts r (resultF ts v) s W) := by
  have B0 := Bx0.start h
  have HI := hidW (is_is B0.par [123])
  clear h
  cases hq : isW ts [123] s with
  | true =>
    have hw : resultF ts v s = ((Nv.mk 4 [] ((nextT ts s).a : Int) none 0 0 0 []).nd, s) := by unfold resultF; rw [if_pos hq, nd_mk]; rfl
    rw [hq] at HI
    have HB := hidW B0
    clear B0 hq
    go_enter Try.func61, Try.ntmps61
    go_wp2_with fail
    refine HI.out.mono ?_; clear HI; rintro e W1 ⟨rfl, hb1⟩
    have B1 := HB.out.step (HB.out.par.below hb1) (turns_b hb1)
    have HN := hidW (node_is B1.par 4)
    have HB1 := hidW B1
    clear B1 hb1 HB
    go_wp2_with fail
    refine HN.out.mono ?_; clear HN; rintro e W2 ⟨rfl, hb2⟩
    have B2 := HB1.out.step (HB1.out.par.below hb2) (turns_b hb2)
    have z0 := cell_of B2.res 0
    have z1 := cell_of B2.res 1
    have z2 := cell_of B2.res 2
    have z3 := cell_of B2.res 3
    have f0 := frozen_of B2.res 0
    have f1 := frozen_of B2.res 1
    have f2 := frozen_of B2.res 2
    have f3 := frozen_of B2.res 3
    simp only [List.getElem?_toArray, List.getElem?_cons_zero, List.getElem?_cons_succ] at z0 z1 z2 z3
    obtain ⟨r0, r1, r2, r3⟩ := res4 B2.res (.int .i64 4) (.string (bs [])) (.int .i64 ((nextT ts s).a : Int)) (.slice none 0 0)
    have HFin := hidW (B2.fin (s0 := s) (w := resultF ts v) 4 [] ((nextT ts s).a : Int) none 0 0 0 [] (lies_leaf _ _ _ _ _) hw)
    clear B2 HB1
    go_wp2
    refine bodyPost_ret (v := .agg #[.int .i64 4, .string (bs []), .int .i64 ((nextT ts s).a : Int), .slice none 0 0]) (by simp [results, Try.results61, go_sem, r0, r1, r2, r3]) rfl ?_
    exact HFin.out
  | false =>
    have hw : resultF ts v s = v.t s := by unfold resultF; rw [if_neg (by simp [hq])]
    rw [hq] at HI
    have HB := hidW B0
    clear B0 hq
    go_enter Try.func61, Try.ntmps61
    go_wp2_with fail
    refine HI.out.mono ?_; clear HI; rintro e W1 ⟨rfl, hb1⟩
    have B1 := HB.out.step (HB.out.par.below hb1) (turns_b hb1)
    have HN := hidW (hv.t _ _ B1.par)
    have HB1 := hidW B1
    clear B1 hb1 HB
    go_wp2_with fail
    refine HN.out.mono ?_; clear HN; rintro e W2 ⟨⟨k, tx, a, nav, ncap, nblk, noff, ks⟩, rfl, hl2, hn2, p2, t2⟩
    have B2 := HB1.out.step p2 t2
    have hl3 := Lies.mono (base' := W.heap.size + 1) hl2 (lt_of HB1.out.res)
    have z0 := cell_of B2.res 0
    have z1 := cell_of B2.res 1
    have z2 := cell_of B2.res 2
    have z3 := cell_of B2.res 3
    have f0 := frozen_of B2.res 0
    have f1 := frozen_of B2.res 1
    have f2 := frozen_of B2.res 2
    have f3 := frozen_of B2.res 3
    simp only [List.getElem?_toArray, List.getElem?_cons_zero, List.getElem?_cons_succ] at z0 z1 z2 z3
    obtain ⟨r0, r1, r2, r3⟩ := res4 B2.res (.int .i64 k) (.string (bs tx)) (.int .i64 a) (.slice nav ks.length ncap)
    have HFin := hidW (B2.fin (s0 := s) (w := resultF ts v) k tx a nav ncap nblk noff ks hl3 (by rw [hw, hn2]))
    clear B2 HB1
    go_wp2
    refine bodyPost_ret (v := .agg #[.int .i64 k, .string (bs tx), .int .i64 a, .slice nav ks.length ncap]) (by simp [results, Try.results61, go_sem, r0, r1, r2, r3]) rfl ?_
    exact HFin.out

end Go.Proofs.Ytgndnodahlabiaa
