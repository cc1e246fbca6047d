/-
  The parser's types and operands (layer 10): their contracts.
-/
import Derived.Test.YtgndnodahlabiaaMgD
namespace Go.Proofs.Ytgndnodahlabiaa
open Go.ChangeShapes Go.WideShapes Go.ChangeAt Go.RowKit

set_option maxRecDepth 100000 in
set_option maxHeartbeats 4000000 in
theorem type_is {W : World} {P : Nat} {av : Option Addr} {cap blk off : Nat} {ts : List Tok} {s : St} {r : Nat} {v : Lv} (hv : Deep P av cap blk off ts r v) (hg : GoodV ts v) (h : ParAt W P av cap blk off ts s r) :
    Calls Try.prog 74 #[.pointer (some ⟨P, 0, none⟩)] W (PaAns P av cap blk off ts r (typF ts v) s W) := by
  have hN := node_is (h.below (bel_new W (.cells #[.int .i64 0, .string ⟨#[]⟩, .int .i64 0, .slice none 0 0] 24))) 5
  have hS : ∀ W1, _ → _ := fun W1 hb => Fr.start (W1 := W1) h hb 5 (nextT ts s).a
  have HS := hidW hS
  clear h hS
  cases q1 : isW ts [105, 110, 116] s with
  | true =>
    have hw : typF ts v s = (.mk 5 [] ((nextT ts s).a : Int) (([] : List Nv).map Nv.nd), adv s) := by unfold typF; rw [if_pos q1]; rfl
    go_enter Try.func74, Try.ntmps74
    go_wp2_with fail
    refine hN.mono ?_; rintro e W1 ⟨rfl, hb1⟩
    have F1 := HS.out W1 hb1
    clear HS hN hb1
    have HT := hidW (take_yes F1.par q1)
    have HF := hidW F1
    clear F1
    go_wp2_with fail
    refine HT.out.mono ?_; clear HT; rintro e W3 ⟨rfl, p3, t3⟩
    have F3 := HF.out.step p3 t3
    clear HF p3 t3
    have n0 := cell_of F3.nod 0
    have n1 := cell_of F3.nod 1
    have n2 := cell_of F3.nod 2
    have n3 := cell_of F3.nod 3
    have m0 := frozen_of F3.nod 0
    have m1 := frozen_of F3.nod 1
    have m2 := frozen_of F3.nod 2
    have m3 := frozen_of F3.nod 3
    have z0 := cell_of F3.res 0
    have z1 := cell_of F3.res 1
    have z2 := cell_of F3.res 2
    have z3 := cell_of F3.res 3
    have f0 := frozen_of F3.res 0
    have f1 := frozen_of F3.res 1
    have f2 := frozen_of F3.res 2
    have f3 := frozen_of F3.res 3
    simp only [List.getElem?_toArray, List.getElem?_cons_zero, List.getElem?_cons_succ] at n0 n1 n2 n3 z0 z1 z2 z3
    obtain ⟨r0, r1, r2, r3⟩ := res4 F3.res (.int .i64 5) (.string ⟨#[]⟩) (.int .i64 (nextT ts s).a) (.slice none 0 0)
    have HFin := hidW (F3.fin (k := 5) (t := []) (a := (nextT ts s).a) (w := typF ts v) (kids_none _ _) hw)
    clear F3
    go_wp2
    refine bodyPost_ret (v := .agg #[.int .i64 5, .string ⟨#[]⟩, .int .i64 (nextT ts s).a, .slice none 0 0]) (by simp [results, Try.results74, go_sem, r0, r1, r2, r3]) rfl ?_
    exact HFin.out
  | false =>
    cases q2 : isW ts [42] s with
    | true =>
      have hw : typF ts v s = (.mk 6 [] ((nextT ts s).a : Int) [(v.t (adv s)).1], (v.t (adv s)).2) := by unfold typF; rw [if_neg (by simp [q1]), if_pos q2]
      go_enter Try.func74, Try.ntmps74
      go_wp2_with fail
      refine hN.mono ?_; rintro e W1 ⟨rfl, hb1⟩
      have F1 := HS.out W1 hb1
      clear HS hN hb1
      have HT := hidW (take_no F1.par q1)
      have HF := hidW F1
      clear F1
      go_wp2_with fail
      refine HT.out.mono ?_; clear HT; rintro e W2 ⟨rfl, p3, t3⟩
      have F2 := HF.out.step p3 t3
      clear HF p3 t3
      have HT := hidW (take_yes F2.par q2)
      have HF := hidW F2
      clear F2
      go_wp2_with fail
      refine HT.out.mono ?_; clear HT; rintro e W3 ⟨rfl, p3, t3⟩
      have F3 := HF.out.step p3 t3
      clear HF p3 t3
      have n0 := cell_of F3.nod 0
      have m0 := frozen_of F3.nod 0
      simp only [List.getElem?_toArray, List.getElem?_cons_zero] at n0
      have F4 := F3.set0 (.int .i64 6)
      clear F3
      have HD := hidW (hv.t _ _ F4.par)
      have HF := hidW F4
      clear F4
      go_wp2_with fail
      refine HD.out.mono ?_; clear HD; rintro e W5 ⟨⟨nk, nt, na, nav, ncap, nblk, noff, nks⟩, rfl, hl, hn, p5, t5⟩
      have F5 := HF.out.step p5 t5
      have hl5 := Lies.mono (base' := W1.heap.size + 1) hl (lt_of HF.out.nod)
      have hK := kids_one (base := W1.heap.size + 1) hl5 (lt_of F5.nod)
      have F6 := F5.below (bel_new W5 (.cells #[.int .i64 nk, .string (bs nt), .int .i64 na, .slice nav nks.length ncap] 24))
      have hK7 := hK.turns (turns_p W1.heap.size 3 (.slice (some ⟨W5.heap.size, 0, none⟩) 1 1) _) (fun b hb _ => by omega)
      have F7 := F6.set3 (.slice (some ⟨W5.heap.size, 0, none⟩) 1 1)
      have hw2 : typF ts v s = (Nd.mk 6 [] (nextT ts s).a ([(Nv.mk nk nt na nav ncap nblk noff nks)].map Nv.nd), _) := hw.trans (by rw [← hn]; rfl)
      clear HF p5 t5 F5 hl hl5 hK hn
      have u0 := cell_of F6.nod 0
      have u1 := cell_of F6.nod 1
      have u2 := cell_of F6.nod 2
      have u3 := cell_of F6.nod 3
      have l0 := frozen_of F6.nod 0
      have l1 := frozen_of F6.nod 1
      have l2 := frozen_of F6.nod 2
      have l3 := frozen_of F6.nod 3
      have y0 := cell_of F6.res 0
      have y1 := cell_of F6.res 1
      have y2 := cell_of F6.res 2
      have y3 := cell_of F6.res 3
      have g0 := frozen_of F6.res 0
      have g1 := frozen_of F6.res 1
      have g2 := frozen_of F6.res 2
      have g3 := frozen_of F6.res 3
      simp only [List.getElem?_toArray, List.getElem?_cons_zero, List.getElem?_cons_succ] at u0 u1 u2 u3 y0 y1 y2 y3
      have n0 := cell_of F7.nod 0
      have n1 := cell_of F7.nod 1
      have n2 := cell_of F7.nod 2
      have n3 := cell_of F7.nod 3
      have m0 := frozen_of F7.nod 0
      have m1 := frozen_of F7.nod 1
      have m2 := frozen_of F7.nod 2
      have m3 := frozen_of F7.nod 3
      have z0 := cell_of F7.res 0
      have z1 := cell_of F7.res 1
      have z2 := cell_of F7.res 2
      have z3 := cell_of F7.res 3
      have f0 := frozen_of F7.res 0
      have f1 := frozen_of F7.res 1
      have f2 := frozen_of F7.res 2
      have f3 := frozen_of F7.res 3
      simp only [List.getElem?_toArray, List.getElem?_cons_zero, List.getElem?_cons_succ] at n0 n1 n2 n3 z0 z1 z2 z3
      obtain ⟨r0, r1, r2, r3⟩ := res4 F7.res (.int .i64 6) (.string ⟨#[]⟩) (.int .i64 (nextT ts s).a) (.slice (some ⟨W5.heap.size, 0, none⟩) 1 1)
      have HFin := hidW (F7.fin (k := 6) (t := []) (a := (nextT ts s).a) (w := typF ts v) hK7 hw2)
      clear F7
      go_wp2
      refine bodyPost_ret (v := .agg #[.int .i64 6, .string ⟨#[]⟩, .int .i64 (nextT ts s).a, .slice (some ⟨W5.heap.size, 0, none⟩) 1 1]) (by simp [results, Try.results74, go_sem, r0, r1, r2, r3]) rfl ?_
      exact HFin.out
    | false =>
      cases q3 : isW ts [91] s with
      | true =>
        have hw : typF ts v s = (.mk 7 (numS ts (adv s)).1 ((nextT ts s).a : Int) [(v.t (wantS ts [93] (numS ts (adv s)).2)).1], (v.t (wantS ts [93] (numS ts (adv s)).2)).2) := by unfold typF; rw [if_neg (by simp [q1]), if_neg (by simp [q2]), if_pos q3]
        go_enter Try.func74, Try.ntmps74
        go_wp2_with fail
        refine hN.mono ?_; rintro e W1 ⟨rfl, hb1⟩
        have F1 := HS.out W1 hb1
        clear HS hN hb1
        have HT := hidW (take_no F1.par q1)
        have HF := hidW F1
        clear F1
        go_wp2_with fail
        refine HT.out.mono ?_; clear HT; rintro e W2 ⟨rfl, p3, t3⟩
        have F2 := HF.out.step p3 t3
        clear HF p3 t3
        have HT := hidW (take_no F2.par q2)
        have HF := hidW F2
        clear F2
        go_wp2_with fail
        refine HT.out.mono ?_; clear HT; rintro e W2b ⟨rfl, p3, t3⟩
        have F2b := HF.out.step p3 t3
        clear HF p3 t3
        have HT := hidW (take_yes F2b.par q3)
        have HF := hidW F2b
        clear F2b
        go_wp2_with fail
        refine HT.out.mono ?_; clear HT; rintro e W3 ⟨rfl, p3, t3⟩
        have F3 := HF.out.step p3 t3
        clear HF p3 t3
        have HT := hidW (number_is F3.par)
        have HF := hidW F3
        clear F3
        go_wp2_with fail
        refine HT.out.mono ?_; clear HT; rintro e W3b ⟨rfl, p3, t3⟩
        have F3b := HF.out.step p3 t3
        clear HF p3 t3
        have n0 := cell_of F3b.nod 0
        have m0 := frozen_of F3b.nod 0
        have n1 := cell_of F3b.nod 1
        have m1 := frozen_of F3b.nod 1
        simp only [List.getElem?_toArray, List.getElem?_cons_zero, List.getElem?_cons_succ] at n0 n1
        have F3c := F3b.set0 (.int .i64 7)
        have o1 := cell_of F3c.nod 1
        have p1 := frozen_of F3c.nod 1
        simp only [List.getElem?_toArray, List.getElem?_cons_zero, List.getElem?_cons_succ] at o1
        have F4 := F3c.set1 (.string (bs (numS ts (adv s)).1))
        clear F3b F3c
        have HT := hidW (want_is F4.par [93])
        have HF := hidW F4
        clear F4
        go_wp2_with fail
        refine HT.out.mono ?_; clear HT; rintro e W4 ⟨rfl, p3, t3⟩
        have F4b := HF.out.step p3 t3
        clear HF p3 t3
        have HD := hidW (hv.t _ _ F4b.par)
        have HF := hidW F4b
        clear F4b
        go_wp2_with fail
        refine HD.out.mono ?_; clear HD; rintro e W5 ⟨⟨nk, nt, na, nav, ncap, nblk, noff, nks⟩, rfl, hl, hn, p5, t5⟩
        have F5 := HF.out.step p5 t5
        have hl5 := Lies.mono (base' := W1.heap.size + 1) hl (lt_of HF.out.nod)
        have hK := kids_one (base := W1.heap.size + 1) hl5 (lt_of F5.nod)
        have F6 := F5.below (bel_new W5 (.cells #[.int .i64 nk, .string (bs nt), .int .i64 na, .slice nav nks.length ncap] 24))
        have hK7 := hK.turns (turns_p W1.heap.size 3 (.slice (some ⟨W5.heap.size, 0, none⟩) 1 1) _) (fun b hb _ => by omega)
        have F7 := F6.set3 (.slice (some ⟨W5.heap.size, 0, none⟩) 1 1)
        have hw2 : typF ts v s = (Nd.mk 7 (numS ts (adv s)).1 (nextT ts s).a ([(Nv.mk nk nt na nav ncap nblk noff nks)].map Nv.nd), _) := hw.trans (by rw [← hn]; rfl)
        clear HF p5 t5 F5 hl hl5 hK hn
        have u0 := cell_of F6.nod 0
        have u1 := cell_of F6.nod 1
        have u2 := cell_of F6.nod 2
        have u3 := cell_of F6.nod 3
        have l0 := frozen_of F6.nod 0
        have l1 := frozen_of F6.nod 1
        have l2 := frozen_of F6.nod 2
        have l3 := frozen_of F6.nod 3
        have y0 := cell_of F6.res 0
        have y1 := cell_of F6.res 1
        have y2 := cell_of F6.res 2
        have y3 := cell_of F6.res 3
        have g0 := frozen_of F6.res 0
        have g1 := frozen_of F6.res 1
        have g2 := frozen_of F6.res 2
        have g3 := frozen_of F6.res 3
        simp only [List.getElem?_toArray, List.getElem?_cons_zero, List.getElem?_cons_succ] at u0 u1 u2 u3 y0 y1 y2 y3
        have n0 := cell_of F7.nod 0
        have n1 := cell_of F7.nod 1
        have n2 := cell_of F7.nod 2
        have n3 := cell_of F7.nod 3
        have m0 := frozen_of F7.nod 0
        have m1 := frozen_of F7.nod 1
        have m2 := frozen_of F7.nod 2
        have m3 := frozen_of F7.nod 3
        have z0 := cell_of F7.res 0
        have z1 := cell_of F7.res 1
        have z2 := cell_of F7.res 2
        have z3 := cell_of F7.res 3
        have f0 := frozen_of F7.res 0
        have f1 := frozen_of F7.res 1
        have f2 := frozen_of F7.res 2
        have f3 := frozen_of F7.res 3
        simp only [List.getElem?_toArray, List.getElem?_cons_zero, List.getElem?_cons_succ] at n0 n1 n2 n3 z0 z1 z2 z3
        obtain ⟨r0, r1, r2, r3⟩ := res4 F7.res (.int .i64 7) (.string (bs (numS ts (adv s)).1)) (.int .i64 (nextT ts s).a) (.slice (some ⟨W5.heap.size, 0, none⟩) 1 1)
        have HFin := hidW (F7.fin (k := 7) (t := (numS ts (adv s)).1) (a := (nextT ts s).a) (w := typF ts v) hK7 hw2)
        clear F7
        go_wp2
        refine bodyPost_ret (v := .agg #[.int .i64 7, .string (bs (numS ts (adv s)).1), .int .i64 (nextT ts s).a, .slice (some ⟨W5.heap.size, 0, none⟩) 1 1]) (by simp [results, Try.results74, go_sem, r0, r1, r2, r3]) rfl ?_
        exact HFin.out
      | false =>
        cases q4 : isW ts [40] s with
        | true =>
          have hw : typF ts v s = (.mk 8 [] ((nextT ts s).a : Int) (someS ts v.t [41] (adv s)).1, (someS ts v.t [41] (adv s)).2) := by unfold typF; rw [if_neg (by simp [q1]), if_neg (by simp [q2]), if_neg (by simp [q3]), if_pos q4]
          go_enter Try.func74, Try.ntmps74
          go_wp2_with fail
          refine hN.mono ?_; rintro e W1 ⟨rfl, hb1⟩
          have F1 := HS.out W1 hb1
          clear HS hN hb1
          have HT := hidW (take_no F1.par q1)
          have HF := hidW F1
          clear F1
          go_wp2_with fail
          refine HT.out.mono ?_; clear HT; rintro e W2 ⟨rfl, p3, t3⟩
          have F2 := HF.out.step p3 t3
          clear HF p3 t3
          have HT := hidW (take_no F2.par q2)
          have HF := hidW F2
          clear F2
          go_wp2_with fail
          refine HT.out.mono ?_; clear HT; rintro e W2b ⟨rfl, p3, t3⟩
          have F2b := HF.out.step p3 t3
          clear HF p3 t3
          have HT := hidW (take_no F2b.par q3)
          have HF := hidW F2b
          clear F2b
          go_wp2_with fail
          refine HT.out.mono ?_; clear HT; rintro e W3 ⟨rfl, p3, t3⟩
          have F3 := HF.out.step p3 t3
          clear HF p3 t3
          have HT := hidW (take_yes F3.par q4)
          have HF := hidW F3
          clear F3
          go_wp2_with fail
          refine HT.out.mono ?_; clear HT; rintro e W3b ⟨rfl, p3, t3⟩
          have F3b := HF.out.step p3 t3
          clear HF p3 t3
          have n0 := cell_of F3b.nod 0
          have m0 := frozen_of F3b.nod 0
          simp only [List.getElem?_toArray, List.getElem?_cons_zero] at n0
          have F4 := F3b.set0 (.int .i64 8)
          clear F3b
          have HF := hidW F4
          have hP4 := lt_of F4.par.box
          have hPn := F4.ne
          clear F4
          go_wp2_with fail
          refine (inner_is _ P 74 #[.pointer (some ⟨P, 0, none⟩)] #[]).mono ?_; rintro e W5 ⟨rfl, hbx, hb5⟩
          have hsz : (W3b.setCell ⟨W1.heap.size, 0, none⟩ (.int .i64 8)).heap.size = W3b.heap.size := by simp [World.setCell]
          rw [hsz] at hP4 hbx ⊢
          have F5 := HF.out.below hb5
          have hS := hidW (some_is F5.par (inner_fn (by omega) (by omega) hg.t hv.t) hbx [41])
          have HF5 := hidW F5
          have hsz5 := lt_of F5.nod
          clear HF F5 hbx hb5
          go_wp2_with fail
          refine hS.out.mono ?_; clear hS; rintro e W6 ⟨ks, kv, rfl, hk, hm, p6, t6⟩
          have F6 := HF5.out.step p6 t6
          obtain ⟨kav, kcap, kblk, koff, rfl, k1, k2, kc⟩ := hk.ex
          have hK : Kids (W1.heap.size + 1) W6 (.slice kav ks.length kcap) ks := ⟨kav, kcap, kblk, koff, rfl, RowD.mono k1 (fun b hb _ => Nat.le_trans hsz5 hb), fun n hn => Lies.mono (k2 n hn) hsz5, kc⟩
          have hK7 := hK.turns (turns_p W1.heap.size 3 (.slice kav ks.length kcap) _) (fun b hb _ => by omega)
          have F7 := F6.set3 (.slice kav ks.length kcap)
          have hw2 : typF ts v s = (Nd.mk 8 [] (nextT ts s).a (ks.map Nv.nd), _) := hw.trans (by rw [← hm])
          clear hk k1 k2 hK hm HF5 p6 t6
          have u0 := cell_of F6.nod 0
          have u1 := cell_of F6.nod 1
          have u2 := cell_of F6.nod 2
          have u3 := cell_of F6.nod 3
          have l0 := frozen_of F6.nod 0
          have l1 := frozen_of F6.nod 1
          have l2 := frozen_of F6.nod 2
          have l3 := frozen_of F6.nod 3
          have y0 := cell_of F6.res 0
          have y1 := cell_of F6.res 1
          have y2 := cell_of F6.res 2
          have y3 := cell_of F6.res 3
          have g0 := frozen_of F6.res 0
          have g1 := frozen_of F6.res 1
          have g2 := frozen_of F6.res 2
          have g3 := frozen_of F6.res 3
          simp only [List.getElem?_toArray, List.getElem?_cons_zero, List.getElem?_cons_succ] at u0 u1 u2 u3 y0 y1 y2 y3
          have n0 := cell_of F7.nod 0
          have n1 := cell_of F7.nod 1
          have n2 := cell_of F7.nod 2
          have n3 := cell_of F7.nod 3
          have m0 := frozen_of F7.nod 0
          have m1 := frozen_of F7.nod 1
          have m2 := frozen_of F7.nod 2
          have m3 := frozen_of F7.nod 3
          have z0 := cell_of F7.res 0
          have z1 := cell_of F7.res 1
          have z2 := cell_of F7.res 2
          have z3 := cell_of F7.res 3
          have f0 := frozen_of F7.res 0
          have f1 := frozen_of F7.res 1
          have f2 := frozen_of F7.res 2
          have f3 := frozen_of F7.res 3
          simp only [List.getElem?_toArray, List.getElem?_cons_zero, List.getElem?_cons_succ] at n0 n1 n2 n3 z0 z1 z2 z3
          obtain ⟨r0, r1, r2, r3⟩ := res4 F7.res (.int .i64 8) (.string ⟨#[]⟩) (.int .i64 (nextT ts s).a) (.slice kav ks.length kcap)
          have HFin := hidW (F7.fin (k := 8) (t := []) (a := (nextT ts s).a) (w := typF ts v) hK7 hw2)
          clear F7
          go_wp2
          refine bodyPost_ret (v := .agg #[.int .i64 8, .string ⟨#[]⟩, .int .i64 (nextT ts s).a, .slice kav ks.length kcap]) (by simp [results, Try.results74, go_sem, r0, r1, r2, r3]) rfl ?_
          exact HFin.out
        | false =>
          have hw : typF ts v s = (.mk 5 [] ((nextT ts s).a : Int) (([] : List Nv).map Nv.nd), failS 2 s) := by unfold typF; rw [if_neg (by simp [q1]), if_neg (by simp [q2]), if_neg (by simp [q3]), if_neg (by simp [q4])]; rfl
          go_enter Try.func74, Try.ntmps74
          go_wp2_with fail
          refine hN.mono ?_; rintro e W1 ⟨rfl, hb1⟩
          have F1 := HS.out W1 hb1
          clear HS hN hb1
          have HT := hidW (take_no F1.par q1)
          have HF := hidW F1
          clear F1
          go_wp2_with fail
          refine HT.out.mono ?_; clear HT; rintro e W2 ⟨rfl, p3, t3⟩
          have F2 := HF.out.step p3 t3
          clear HF p3 t3
          have HT := hidW (take_no F2.par q2)
          have HF := hidW F2
          clear F2
          go_wp2_with fail
          refine HT.out.mono ?_; clear HT; rintro e W2b ⟨rfl, p3, t3⟩
          have F2b := HF.out.step p3 t3
          clear HF p3 t3
          have HT := hidW (take_no F2b.par q3)
          have HF := hidW F2b
          clear F2b
          go_wp2_with fail
          refine HT.out.mono ?_; clear HT; rintro e W3 ⟨rfl, p3, t3⟩
          have F3 := HF.out.step p3 t3
          clear HF p3 t3
          have HT := hidW (take_no F3.par q4)
          have HF := hidW F3
          clear F3
          go_wp2_with fail
          refine HT.out.mono ?_; clear HT; rintro e W3b ⟨rfl, p3, t3⟩
          have F3b := HF.out.step p3 t3
          clear HF p3 t3
          have HT := hidW (fail_is F3b.par 2 (by decide))
          have HF := hidW F3b
          clear F3b
          go_wp2_with fail
          refine HT.out.mono ?_; clear HT; rintro e W4 ⟨rfl, p3, t3⟩
          have F4 := HF.out.step p3 t3
          clear HF p3 t3
          have n0 := cell_of F4.nod 0
          have n1 := cell_of F4.nod 1
          have n2 := cell_of F4.nod 2
          have n3 := cell_of F4.nod 3
          have m0 := frozen_of F4.nod 0
          have m1 := frozen_of F4.nod 1
          have m2 := frozen_of F4.nod 2
          have m3 := frozen_of F4.nod 3
          have z0 := cell_of F4.res 0
          have z1 := cell_of F4.res 1
          have z2 := cell_of F4.res 2
          have z3 := cell_of F4.res 3
          have f0 := frozen_of F4.res 0
          have f1 := frozen_of F4.res 1
          have f2 := frozen_of F4.res 2
          have f3 := frozen_of F4.res 3
          simp only [List.getElem?_toArray, List.getElem?_cons_zero, List.getElem?_cons_succ] at n0 n1 n2 n3 z0 z1 z2 z3
          obtain ⟨r0, r1, r2, r3⟩ := res4 F4.res (.int .i64 5) (.string ⟨#[]⟩) (.int .i64 (nextT ts s).a) (.slice none 0 0)
          have HFin := hidW (F4.fin (k := 5) (t := []) (a := (nextT ts s).a) (w := typF ts v) (kids_none _ _) hw)
          clear F4
          go_wp2
          refine bodyPost_ret (v := .agg #[.int .i64 5, .string ⟨#[]⟩, .int .i64 (nextT ts s).a, .slice none 0 0]) (by simp [results, Try.results74, go_sem, r0, r1, r2, r3]) rfl ?_
          exact HFin.out

end Go.Proofs.Ytgndnodahlabiaa
