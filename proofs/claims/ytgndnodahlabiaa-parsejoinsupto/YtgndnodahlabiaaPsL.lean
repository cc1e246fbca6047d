/-
  The parser's primaries (layer 10): the contract.
-/
import Derived.Test.YtgndnodahlabiaaMgE
namespace Go.Proofs.Ytgndnodahlabiaa
open Go.ChangeShapes Go.WideShapes Go.ChangeAt Go.RowKit

theorem Fr.set4 {W0 W : World} {P : Nat} {av : Option Addr} {cap blk off : Nat} {ts : List Tok} {s : St} {r b1 : Nat} {x0 x1 x2 x3 : Value} (h : Fr W0 P av cap blk off ts s r b1 x0 x1 x2 x3 W) (v0 v1 v2 v3 : Value) :
    Fr W0 P av cap blk off ts s r b1 v0 v1 v2 v3 ((((W.setCell ⟨b1, 0, none⟩ v0).setCell ⟨b1, 1, none⟩ v1).setCell ⟨b1, 2, none⟩ v2).setCell ⟨b1, 3, none⟩ v3) :=
  have h2 := (h.set0 v0).set1 v1
  have h3 : Fr W0 P av cap blk off ts s r b1 v0 v1 v2 x3 (((W.setCell ⟨b1, 0, none⟩ v0).setCell ⟨b1, 1, none⟩ v1).setCell ⟨b1, 2, none⟩ v2) := ⟨(h2.set 2 v2).1, (h2.set 2 v2).2.1, heap_set_same' h2.nod 2 v2, (h2.set 2 v2).2.2, h2.lt, h2.ne, h2.bk⟩
  h3.set3 v3

set_option maxRecDepth 100000 in
set_option maxHeartbeats 4000000 in
theorem prim_is {W : World} {P : Nat} {av : Option Addr} {cap blk off : Nat} {ts : List Tok} {s : St} {r : Nat} {v : Lv} (hv : Deep P av cap blk off ts r v) (hg : GoodV ts v) (h : ParAt W P av cap blk off ts s r) :
    Calls Try.prog 92 #[.pointer (some ⟨P, 0, none⟩)] W (PaAns P av cap blk off ts r (primF ts v) s W) := by
  have hN := node_is (h.below (bel_new W (.cells #[.int .i64 0, .string ⟨#[]⟩, .int .i64 0, .slice none 0 0] 24))) 27
  have hS : ∀ W1, _ → _ := fun W1 hb => Fr.start (W1 := W1) h hb 27 (nextT ts s).a
  have HS := hidW hS
  clear h hS
  cases q1 : isNr ts s with
  | true =>
    have hw : primF ts v s = (.mk 17 (nextT ts s).t ((nextT ts s).a : Int) (([] : List Nv).map Nv.nd), adv s) := by unfold primF; rw [if_pos q1]; rfl
    go_enter Try.func92, Try.ntmps92
    go_wp2_with fail
    refine hN.mono ?_; rintro e W1 ⟨rfl, hb1⟩
    have F1 := HS.out W1 hb1
    clear HS hN hb1
    have HT := isNumber_is F1.par
    rw [q1] at HT
    have HF := hidW F1
    clear F1
    go_wp2_with fail
    refine HT.mono ?_; clear HT; rintro e W2 ⟨rfl, hb3⟩
    have F2 := HF.out.below hb3
    clear HF hb3
    have HT := hidW (text_is F2.par (isNr_at q1))
    have HF := hidW F2
    clear F2
    go_wp2_with fail
    refine HT.out.mono ?_; clear HT; rintro e W3 ⟨rfl, p3, t3⟩
    have F3 := HF.out.step p3 t3
    clear HF p3 t3
    have n0 := cell_of F3.nod 0
    have m0 := frozen_of F3.nod 0
    have n1 := cell_of F3.nod 1
    have m1 := frozen_of F3.nod 1
    simp only [List.getElem?_toArray, List.getElem?_cons_zero, List.getElem?_cons_succ] at n0 n1
    have Fx := F3.set0 (.int .i64 17)
    have o1 := cell_of Fx.nod 1
    have p1 := frozen_of Fx.nod 1
    simp only [List.getElem?_toArray, List.getElem?_cons_zero, List.getElem?_cons_succ] at o1
    have F4 := Fx.set1 (.string (bs (nextT ts s).t))
    clear F3 Fx
    have n0 := cell_of F4.nod 0
    have n1 := cell_of F4.nod 1
    have n2 := cell_of F4.nod 2
    have n3 := cell_of F4.nod 3
    have m0 := frozen_of F4.nod 0
    have m1 := frozen_of F4.nod 1
    have m2 := frozen_of F4.nod 2
    have m3 := frozen_of F4.nod 3
    have z0 := cell_of F4.res 0
    have z1 := cell_of F4.res 1
    have z2 := cell_of F4.res 2
    have z3 := cell_of F4.res 3
    have f0 := frozen_of F4.res 0
    have f1 := frozen_of F4.res 1
    have f2 := frozen_of F4.res 2
    have f3 := frozen_of F4.res 3
    simp only [List.getElem?_toArray, List.getElem?_cons_zero, List.getElem?_cons_succ] at n0 n1 n2 n3 z0 z1 z2 z3
    obtain ⟨r0, r1, r2, r3⟩ := res4 F4.res (.int .i64 17) (.string (bs (nextT ts s).t)) (.int .i64 (nextT ts s).a) (.slice none 0 0)
    have HFin := hidW (F4.fin (k := 17) (t := (nextT ts s).t) (a := (nextT ts s).a) (w := primF ts v) (kids_none _ _) hw)
    clear F4
    go_wp2
    refine bodyPost_ret (v := .agg #[.int .i64 17, .string (bs (nextT ts s).t), .int .i64 (nextT ts s).a, .slice none 0 0]) (by simp [results, Try.results92, go_sem, r0, r1, r2, r3]) rfl ?_
    exact HFin.out
  | false =>
    cases q2 : isNm ts s with
    | true =>
      cases q3 : isW ts [40] (adv s) with
      | false =>
        have hw : primF ts v s = (.mk 18 (nextT ts s).t ((nextT ts s).a : Int) (([] : List Nv).map Nv.nd), adv s) := by unfold primF; rw [if_neg (by simp [q1]), if_pos q2, if_neg (by simp [q3])]; rfl
        go_enter Try.func92, Try.ntmps92
        go_wp2_with fail
        refine hN.mono ?_; rintro e W1 ⟨rfl, hb1⟩
        have F1 := HS.out W1 hb1
        clear HS hN hb1
        have HT := isNumber_is F1.par
        rw [q1] at HT
        have HF := hidW F1
        clear F1
        go_wp2_with fail
        refine HT.mono ?_; clear HT; rintro e W2 ⟨rfl, hb3⟩
        have F2 := HF.out.below hb3
        clear HF hb3
        have HT := isName_is F2.par
        rw [q2] at HT
        have HF := hidW F2
        clear F2
        go_wp2_with fail
        refine HT.mono ?_; clear HT; rintro e W2b ⟨rfl, hb3⟩
        have F2b := HF.out.below hb3
        clear HF hb3
        have HT := hidW (text_is F2b.par (isNm_at q2))
        have HF := hidW F2b
        clear F2b
        go_wp2_with fail
        refine HT.out.mono ?_; clear HT; rintro e W3 ⟨rfl, p3, t3⟩
        have F3 := HF.out.step p3 t3
        clear HF p3 t3
        have n0 := cell_of F3.nod 0
        have m0 := frozen_of F3.nod 0
        have n1 := cell_of F3.nod 1
        have m1 := frozen_of F3.nod 1
        simp only [List.getElem?_toArray, List.getElem?_cons_zero, List.getElem?_cons_succ] at n0 n1
        have Fx := F3.set0 (.int .i64 18)
        have o1 := cell_of Fx.nod 1
        have p1 := frozen_of Fx.nod 1
        simp only [List.getElem?_toArray, List.getElem?_cons_zero, List.getElem?_cons_succ] at o1
        have F4 := Fx.set1 (.string (bs (nextT ts s).t))
        clear F3 Fx
        have HT := hidW (take_no F4.par q3)
        have HF := hidW F4
        clear F4
        go_wp2_with fail
        refine HT.out.mono ?_; clear HT; rintro e W5 ⟨rfl, p3, t3⟩
        have F5 := HF.out.step p3 t3
        clear HF p3 t3
        have n0 := cell_of F5.nod 0
        have n1 := cell_of F5.nod 1
        have n2 := cell_of F5.nod 2
        have n3 := cell_of F5.nod 3
        have m0 := frozen_of F5.nod 0
        have m1 := frozen_of F5.nod 1
        have m2 := frozen_of F5.nod 2
        have m3 := frozen_of F5.nod 3
        have z0 := cell_of F5.res 0
        have z1 := cell_of F5.res 1
        have z2 := cell_of F5.res 2
        have z3 := cell_of F5.res 3
        have f0 := frozen_of F5.res 0
        have f1 := frozen_of F5.res 1
        have f2 := frozen_of F5.res 2
        have f3 := frozen_of F5.res 3
        simp only [List.getElem?_toArray, List.getElem?_cons_zero, List.getElem?_cons_succ] at n0 n1 n2 n3 z0 z1 z2 z3
        obtain ⟨r0, r1, r2, r3⟩ := res4 F5.res (.int .i64 18) (.string (bs (nextT ts s).t)) (.int .i64 (nextT ts s).a) (.slice none 0 0)
        have HFin := hidW (F5.fin (k := 18) (t := (nextT ts s).t) (a := (nextT ts s).a) (w := primF ts v) (kids_none _ _) hw)
        clear F5
        go_wp2
        refine bodyPost_ret (v := .agg #[.int .i64 18, .string (bs (nextT ts s).t), .int .i64 (nextT ts s).a, .slice none 0 0]) (by simp [results, Try.results92, go_sem, r0, r1, r2, r3]) rfl ?_
        exact HFin.out
      | true =>
        have hw : primF ts v s = (.mk 25 (nextT ts s).t ((nextT ts s).a : Int) (listS ts v.e [41] (adv (adv s))).1, (listS ts v.e [41] (adv (adv s))).2) := by unfold primF; rw [if_neg (by simp [q1]), if_pos q2, if_pos q3]
        go_enter Try.func92, Try.ntmps92
        go_wp2_with fail
        refine hN.mono ?_; rintro e W1 ⟨rfl, hb1⟩
        have F1 := HS.out W1 hb1
        clear HS hN hb1
        have HT := isNumber_is F1.par
        rw [q1] at HT
        have HF := hidW F1
        clear F1
        go_wp2_with fail
        refine HT.mono ?_; clear HT; rintro e W2 ⟨rfl, hb3⟩
        have F2 := HF.out.below hb3
        clear HF hb3
        have HT := isName_is F2.par
        rw [q2] at HT
        have HF := hidW F2
        clear F2
        go_wp2_with fail
        refine HT.mono ?_; clear HT; rintro e W2b ⟨rfl, hb3⟩
        have F2b := HF.out.below hb3
        clear HF hb3
        have HT := hidW (text_is F2b.par (isNm_at q2))
        have HF := hidW F2b
        clear F2b
        go_wp2_with fail
        refine HT.out.mono ?_; clear HT; rintro e W3 ⟨rfl, p3, t3⟩
        have F3 := HF.out.step p3 t3
        clear HF p3 t3
        have n0 := cell_of F3.nod 0
        have m0 := frozen_of F3.nod 0
        have n1 := cell_of F3.nod 1
        have m1 := frozen_of F3.nod 1
        simp only [List.getElem?_toArray, List.getElem?_cons_zero, List.getElem?_cons_succ] at n0 n1
        have Fx := F3.set0 (.int .i64 18)
        have o1 := cell_of Fx.nod 1
        have p1 := frozen_of Fx.nod 1
        simp only [List.getElem?_toArray, List.getElem?_cons_zero, List.getElem?_cons_succ] at o1
        have F3c := Fx.set1 (.string (bs (nextT ts s).t))
        clear F3 Fx
        have HT := hidW (take_yes F3c.par q3)
        have HF := hidW F3c
        clear F3c
        go_wp2_with fail
        refine HT.out.mono ?_; clear HT; rintro e W4 ⟨rfl, p3, t3⟩
        have F3d := HF.out.step p3 t3
        clear HF p3 t3
        have n0 := cell_of F3d.nod 0
        have m0 := frozen_of F3d.nod 0
        simp only [List.getElem?_toArray, List.getElem?_cons_zero] at n0
        have F4 := F3d.set0 (.int .i64 25)
        clear F3d
        have HF := hidW F4
        have hP4 := lt_of F4.par.box
        have hPn := F4.ne
        clear F4
        go_wp2_with fail
        refine (inner_is _ P 80 #[.pointer (some ⟨P, 0, none⟩)] #[]).mono ?_; rintro e W5 ⟨rfl, hbx, hb5⟩
        have hsz : (W4.setCell ⟨W1.heap.size, 0, none⟩ (.int .i64 25)).heap.size = W4.heap.size := by simp [World.setCell]
        rw [hsz] at hP4 hbx ⊢
        have F5 := HF.out.below hb5
        have hS := hidW (list_is F5.par (inner_fn (by omega) (by omega) hg.e hv.e) hbx [41])
        have HF5 := hidW F5
        have hsz5 := lt_of F5.nod
        clear HF F5 hbx hb5
        go_wp2_with fail
        refine hS.out.mono ?_; clear hS; rintro e W6 ⟨ks, kv, rfl, hk, hm, p6, t6⟩
        have F6 := HF5.out.step p6 t6
        obtain ⟨kav, kcap, kblk, koff, rfl, k1, k2, kc⟩ := hk.ex
        have hK : Kids (W1.heap.size + 1) W6 (.slice kav ks.length kcap) ks := ⟨kav, kcap, kblk, koff, rfl, RowD.mono k1 (fun b hb _ => Nat.le_trans hsz5 hb), fun n hn => Lies.mono (k2 n hn) hsz5, kc⟩
        have hK7 := hK.turns (turns_p W1.heap.size 3 (.slice kav ks.length kcap) _) (fun b hb _ => by omega)
        have F7 := F6.set3 (.slice kav ks.length kcap)
        have hw2 : primF ts v s = (Nd.mk 25 (nextT ts s).t (nextT ts s).a (ks.map Nv.nd), _) := hw.trans (by rw [← hm])
        clear hk k1 k2 hK hm HF5 p6 t6
        have u0 := cell_of F6.nod 0
        have u1 := cell_of F6.nod 1
        have u2 := cell_of F6.nod 2
        have u3 := cell_of F6.nod 3
        have l0 := frozen_of F6.nod 0
        have l1 := frozen_of F6.nod 1
        have l2 := frozen_of F6.nod 2
        have l3 := frozen_of F6.nod 3
        have y0 := cell_of F6.res 0
        have y1 := cell_of F6.res 1
        have y2 := cell_of F6.res 2
        have y3 := cell_of F6.res 3
        have g0 := frozen_of F6.res 0
        have g1 := frozen_of F6.res 1
        have g2 := frozen_of F6.res 2
        have g3 := frozen_of F6.res 3
        simp only [List.getElem?_toArray, List.getElem?_cons_zero, List.getElem?_cons_succ] at u0 u1 u2 u3 y0 y1 y2 y3
        have n0 := cell_of F7.nod 0
        have n1 := cell_of F7.nod 1
        have n2 := cell_of F7.nod 2
        have n3 := cell_of F7.nod 3
        have m0 := frozen_of F7.nod 0
        have m1 := frozen_of F7.nod 1
        have m2 := frozen_of F7.nod 2
        have m3 := frozen_of F7.nod 3
        have z0 := cell_of F7.res 0
        have z1 := cell_of F7.res 1
        have z2 := cell_of F7.res 2
        have z3 := cell_of F7.res 3
        have f0 := frozen_of F7.res 0
        have f1 := frozen_of F7.res 1
        have f2 := frozen_of F7.res 2
        have f3 := frozen_of F7.res 3
        simp only [List.getElem?_toArray, List.getElem?_cons_zero, List.getElem?_cons_succ] at n0 n1 n2 n3 z0 z1 z2 z3
        obtain ⟨r0, r1, r2, r3⟩ := res4 F7.res (.int .i64 25) (.string (bs (nextT ts s).t)) (.int .i64 (nextT ts s).a) (.slice kav ks.length kcap)
        have HFin := hidW (F7.fin (k := 25) (t := (nextT ts s).t) (a := (nextT ts s).a) (w := primF ts v) hK7 hw2)
        clear F7
        go_wp2
        refine bodyPost_ret (v := .agg #[.int .i64 25, .string (bs (nextT ts s).t), .int .i64 (nextT ts s).a, .slice kav ks.length kcap]) (by simp [results, Try.results92, go_sem, r0, r1, r2, r3]) rfl ?_
        exact HFin.out
    | false =>
      cases q4 : isW ts [110, 101, 119] s with
      | true =>
        have hw : primF ts v s = (.mk 26 [] ((nextT ts s).a : Int) [(v.t (wantS ts [40] (adv s))).1], wantS ts [41] (v.t (wantS ts [40] (adv s))).2) := by unfold primF; rw [if_neg (by simp [q1]), if_neg (by simp [q2]), if_pos q4]
        go_enter Try.func92, Try.ntmps92
        go_wp2_with fail
        refine hN.mono ?_; rintro e W1 ⟨rfl, hb1⟩
        have F1 := HS.out W1 hb1
        clear HS hN hb1
        have HT := isNumber_is F1.par
        rw [q1] at HT
        have HF := hidW F1
        clear F1
        go_wp2_with fail
        refine HT.mono ?_; clear HT; rintro e W2 ⟨rfl, hb3⟩
        have F2 := HF.out.below hb3
        clear HF hb3
        have HT := isName_is F2.par
        rw [q2] at HT
        have HF := hidW F2
        clear F2
        go_wp2_with fail
        refine HT.mono ?_; clear HT; rintro e W2b ⟨rfl, hb3⟩
        have F2b := HF.out.below hb3
        clear HF hb3
        have HT := hidW (take_yes F2b.par q4)
        have HF := hidW F2b
        clear F2b
        go_wp2_with fail
        refine HT.out.mono ?_; clear HT; rintro e W3 ⟨rfl, p3, t3⟩
        have F3 := HF.out.step p3 t3
        clear HF p3 t3
        have n0 := cell_of F3.nod 0
        have m0 := frozen_of F3.nod 0
        simp only [List.getElem?_toArray, List.getElem?_cons_zero] at n0
        have F3b := F3.set0 (.int .i64 26)
        clear F3
        have HT := hidW (want_is F3b.par [40])
        have HF := hidW F3b
        clear F3b
        go_wp2_with fail
        refine HT.out.mono ?_; clear HT; rintro e W4 ⟨rfl, p3, t3⟩
        have F4 := HF.out.step p3 t3
        clear HF p3 t3
        have HD := hidW (hv.t _ _ F4.par)
        have HF := hidW F4
        clear F4
        go_wp2_with fail
        refine HD.out.mono ?_; clear HD; rintro e W5 ⟨⟨nk, nt, na, nav, ncap, nblk, noff, nks⟩, rfl, hl, hn, p5, t5⟩
        have F5 := HF.out.step p5 t5
        have hl5 := Lies.mono (base' := W1.heap.size + 1) hl (lt_of HF.out.nod)
        have hK := kids_one (base := W1.heap.size + 1) hl5 (lt_of F5.nod)
        have F6 := F5.below (bel_new W5 (.cells #[.int .i64 nk, .string (bs nt), .int .i64 na, .slice nav nks.length ncap] 24))
        have hK7 := hK.turns (turns_p W1.heap.size 3 (.slice (some ⟨W5.heap.size, 0, none⟩) 1 1) _) (fun b hb _ => by omega)
        have F7 := F6.set3 (.slice (some ⟨W5.heap.size, 0, none⟩) 1 1)
        have u3 := cell_of F6.nod 3
        have l3 := frozen_of F6.nod 3
        simp only [List.getElem?_toArray, List.getElem?_cons_zero, List.getElem?_cons_succ] at u3
        have HX := hidW (And.intro F7 hK7)
        have hWn := hidW (want_is F7.par [41])
        have hPlt := F7.ne
        have hblt := F7.lt
        have hw2 : primF ts v s = (Nd.mk 26 [] (nextT ts s).a ([(Nv.mk nk nt na nav ncap nblk noff nks)].map Nv.nd), _) := hw.trans (by rw [← hn]; rfl)
        clear HF p5 t5 F5 hl hl5 hK hn F6 F7 hK7
        go_wp2_with fail
        refine hWn.out.mono ?_; clear hWn; rintro e W8 ⟨rfl, p8, t8⟩
        have F8 := HX.out.1.step p8 t8
        have hK8 := HX.out.2.turns t8 (fun b hb _ => by omega)
        clear HX p8 t8 u3 l3
        have n0 := cell_of F8.nod 0
        have n1 := cell_of F8.nod 1
        have n2 := cell_of F8.nod 2
        have n3 := cell_of F8.nod 3
        have m0 := frozen_of F8.nod 0
        have m1 := frozen_of F8.nod 1
        have m2 := frozen_of F8.nod 2
        have m3 := frozen_of F8.nod 3
        have z0 := cell_of F8.res 0
        have z1 := cell_of F8.res 1
        have z2 := cell_of F8.res 2
        have z3 := cell_of F8.res 3
        have f0 := frozen_of F8.res 0
        have f1 := frozen_of F8.res 1
        have f2 := frozen_of F8.res 2
        have f3 := frozen_of F8.res 3
        simp only [List.getElem?_toArray, List.getElem?_cons_zero, List.getElem?_cons_succ] at n0 n1 n2 n3 z0 z1 z2 z3
        obtain ⟨r0, r1, r2, r3⟩ := res4 F8.res (.int .i64 26) (.string ⟨#[]⟩) (.int .i64 (nextT ts s).a) (.slice (some ⟨W5.heap.size, 0, none⟩) 1 1)
        have HFin := hidW (F8.fin (k := 26) (t := []) (a := (nextT ts s).a) (w := primF ts v) hK8 hw2)
        clear F8
        go_wp2
        refine bodyPost_ret (v := .agg #[.int .i64 26, .string ⟨#[]⟩, .int .i64 (nextT ts s).a, .slice (some ⟨W5.heap.size, 0, none⟩) 1 1]) (by simp [results, Try.results92, go_sem, r0, r1, r2, r3]) rfl ?_
        exact HFin.out
      | false =>
        cases q5 : isW ts [114, 101, 97, 100] s with
        | true =>
          have hw : primF ts v s = (.mk 27 [] ((nextT ts s).a : Int) (([] : List Nv).map Nv.nd), adv s) := by unfold primF; rw [if_neg (by simp [q1]), if_neg (by simp [q2]), if_neg (by simp [q4]), if_pos q5]; rfl
          go_enter Try.func92, Try.ntmps92
          go_wp2_with fail
          refine hN.mono ?_; rintro e W1 ⟨rfl, hb1⟩
          have F1 := HS.out W1 hb1
          clear HS hN hb1
          have HT := isNumber_is F1.par
          rw [q1] at HT
          have HF := hidW F1
          clear F1
          go_wp2_with fail
          refine HT.mono ?_; clear HT; rintro e W2 ⟨rfl, hb3⟩
          have F2 := HF.out.below hb3
          clear HF hb3
          have HT := isName_is F2.par
          rw [q2] at HT
          have HF := hidW F2
          clear F2
          go_wp2_with fail
          refine HT.mono ?_; clear HT; rintro e W2b ⟨rfl, hb3⟩
          have F2b := HF.out.below hb3
          clear HF hb3
          have HT := hidW (take_no F2b.par q4)
          have HF := hidW F2b
          clear F2b
          go_wp2_with fail
          refine HT.out.mono ?_; clear HT; rintro e W3 ⟨rfl, p3, t3⟩
          have F3 := HF.out.step p3 t3
          clear HF p3 t3
          have HT := hidW (take_yes F3.par q5)
          have HF := hidW F3
          clear F3
          go_wp2_with fail
          refine HT.out.mono ?_; clear HT; rintro e W4 ⟨rfl, p3, t3⟩
          have F4 := HF.out.step p3 t3
          clear HF p3 t3
          have n0 := cell_of F4.nod 0
          have n1 := cell_of F4.nod 1
          have n2 := cell_of F4.nod 2
          have n3 := cell_of F4.nod 3
          have m0 := frozen_of F4.nod 0
          have m1 := frozen_of F4.nod 1
          have m2 := frozen_of F4.nod 2
          have m3 := frozen_of F4.nod 3
          have z0 := cell_of F4.res 0
          have z1 := cell_of F4.res 1
          have z2 := cell_of F4.res 2
          have z3 := cell_of F4.res 3
          have f0 := frozen_of F4.res 0
          have f1 := frozen_of F4.res 1
          have f2 := frozen_of F4.res 2
          have f3 := frozen_of F4.res 3
          simp only [List.getElem?_toArray, List.getElem?_cons_zero, List.getElem?_cons_succ] at n0 n1 n2 n3 z0 z1 z2 z3
          obtain ⟨r0, r1, r2, r3⟩ := res4 F4.res (.int .i64 27) (.string ⟨#[]⟩) (.int .i64 (nextT ts s).a) (.slice none 0 0)
          have HFin := hidW (F4.fin (k := 27) (t := []) (a := (nextT ts s).a) (w := primF ts v) (kids_none _ _) hw)
          clear F4
          go_wp2
          refine bodyPost_ret (v := .agg #[.int .i64 27, .string ⟨#[]⟩, .int .i64 (nextT ts s).a, .slice none 0 0]) (by simp [results, Try.results92, go_sem, r0, r1, r2, r3]) rfl ?_
          exact HFin.out
        | false =>
          cases q6 : isW ts [40] s with
          | true =>
            have hw : primF ts v s = ((v.e (adv s)).1, wantS ts [41] (v.e (adv s)).2) := by unfold primF; rw [if_neg (by simp [q1]), if_neg (by simp [q2]), if_neg (by simp [q4]), if_neg (by simp [q5]), if_pos q6]
            go_enter Try.func92, Try.ntmps92
            go_wp2_with fail
            refine hN.mono ?_; rintro e W1 ⟨rfl, hb1⟩
            have F1 := HS.out W1 hb1
            clear HS hN hb1
            have HT := isNumber_is F1.par
            rw [q1] at HT
            have HF := hidW F1
            clear F1
            go_wp2_with fail
            refine HT.mono ?_; clear HT; rintro e W2 ⟨rfl, hb3⟩
            have F2 := HF.out.below hb3
            clear HF hb3
            have HT := isName_is F2.par
            rw [q2] at HT
            have HF := hidW F2
            clear F2
            go_wp2_with fail
            refine HT.mono ?_; clear HT; rintro e W2b ⟨rfl, hb3⟩
            have F2b := HF.out.below hb3
            clear HF hb3
            have HT := hidW (take_no F2b.par q4)
            have HF := hidW F2b
            clear F2b
            go_wp2_with fail
            refine HT.out.mono ?_; clear HT; rintro e W3 ⟨rfl, p3, t3⟩
            have F3 := HF.out.step p3 t3
            clear HF p3 t3
            have HT := hidW (take_no F3.par q5)
            have HF := hidW F3
            clear F3
            go_wp2_with fail
            refine HT.out.mono ?_; clear HT; rintro e W3b ⟨rfl, p3, t3⟩
            have F3b := HF.out.step p3 t3
            clear HF p3 t3
            have HT := hidW (take_yes F3b.par q6)
            have HF := hidW F3b
            clear F3b
            go_wp2_with fail
            refine HT.out.mono ?_; clear HT; rintro e W4 ⟨rfl, p3, t3⟩
            have F4 := HF.out.step p3 t3
            clear HF p3 t3
            have HD := hidW (hv.e _ _ F4.par)
            have HF := hidW F4
            clear F4
            go_wp2_with fail
            refine HD.out.mono ?_; clear HD; rintro e W5 ⟨⟨nk, nt, na, nav, ncap, nblk, noff, nks⟩, rfl, hl, hn, p5, t5⟩
            have F5 := HF.out.step p5 t5
            have hl5 := Lies.mono (base' := W1.heap.size + 1) hl (lt_of HF.out.nod)
            have hK5 : Kids (W1.heap.size + 1) W5 (.slice nav nks.length ncap) nks := by cases hl5 with | mk k1 k2 kc => exact ⟨nav, ncap, nblk, noff, rfl, k1, k2, kc⟩
            have F6 := F5.set4 (.int .i64 nk) (.string (bs nt)) (.int .i64 na) (.slice nav nks.length ncap)
            have hK6 := hK5.turns ((((turns_p W1.heap.size 0 (.int .i64 nk) W5).trans (turns_p W1.heap.size 1 (.string (bs nt)) _)).trans (turns_p W1.heap.size 2 (.int .i64 na) _)).trans (turns_p W1.heap.size 3 (.slice nav nks.length ncap) _)) (fun b hb _ => by omega)
            have n0 := cell_of F5.nod 0
            have n1 := cell_of F5.nod 1
            have n2 := cell_of F5.nod 2
            have n3 := cell_of F5.nod 3
            have m0 := frozen_of F5.nod 0
            have m1 := frozen_of F5.nod 1
            have m2 := frozen_of F5.nod 2
            have m3 := frozen_of F5.nod 3
            simp only [List.getElem?_toArray, List.getElem?_cons_zero, List.getElem?_cons_succ] at n0 n1 n2 n3
            have HX := hidW (And.intro F6 hK6)
            have hWn := hidW (want_is F6.par [41])
            have hPlt := F6.ne
            have hblt := F6.lt
            have hw2 : primF ts v s = (Nd.mk nk nt na (nks.map Nv.nd), _) := hw.trans (by rw [← hn, nd_mk])
            clear HF p5 t5 F5 hl hl5 hK5 hn F6 hK6
            go_wp2_with fail
            refine hWn.out.mono ?_; clear hWn; rintro e W8 ⟨rfl, p8, t8⟩
            have F8 := HX.out.1.step p8 t8
            have hK8 := HX.out.2.turns t8 (fun b hb _ => by omega)
            clear HX p8 t8 n0 n1 n2 n3 m0 m1 m2 m3
            have n0 := cell_of F8.nod 0
            have n1 := cell_of F8.nod 1
            have n2 := cell_of F8.nod 2
            have n3 := cell_of F8.nod 3
            have m0 := frozen_of F8.nod 0
            have m1 := frozen_of F8.nod 1
            have m2 := frozen_of F8.nod 2
            have m3 := frozen_of F8.nod 3
            have z0 := cell_of F8.res 0
            have z1 := cell_of F8.res 1
            have z2 := cell_of F8.res 2
            have z3 := cell_of F8.res 3
            have f0 := frozen_of F8.res 0
            have f1 := frozen_of F8.res 1
            have f2 := frozen_of F8.res 2
            have f3 := frozen_of F8.res 3
            simp only [List.getElem?_toArray, List.getElem?_cons_zero, List.getElem?_cons_succ] at n0 n1 n2 n3 z0 z1 z2 z3
            obtain ⟨r0, r1, r2, r3⟩ := res4 F8.res (.int .i64 nk) (.string (bs nt)) (.int .i64 na) (.slice nav nks.length ncap)
            have HFin := hidW (F8.fin (k := nk) (t := nt) (a := na) (w := primF ts v) hK8 hw2)
            clear F8
            go_wp2
            refine bodyPost_ret (v := .agg #[.int .i64 nk, .string (bs nt), .int .i64 na, .slice nav nks.length ncap]) (by simp [results, Try.results92, go_sem, r0, r1, r2, r3]) rfl ?_
            exact HFin.out
          | false =>
            have hw : primF ts v s = (.mk 27 [] ((nextT ts s).a : Int) (([] : List Nv).map Nv.nd), failS 2 s) := by unfold primF; rw [if_neg (by simp [q1]), if_neg (by simp [q2]), if_neg (by simp [q4]), if_neg (by simp [q5]), if_neg (by simp [q6])]; rfl
            go_enter Try.func92, Try.ntmps92
            go_wp2_with fail
            refine hN.mono ?_; rintro e W1 ⟨rfl, hb1⟩
            have F1 := HS.out W1 hb1
            clear HS hN hb1
            have HT := isNumber_is F1.par
            rw [q1] at HT
            have HF := hidW F1
            clear F1
            go_wp2_with fail
            refine HT.mono ?_; clear HT; rintro e W2 ⟨rfl, hb3⟩
            have F2 := HF.out.below hb3
            clear HF hb3
            have HT := isName_is F2.par
            rw [q2] at HT
            have HF := hidW F2
            clear F2
            go_wp2_with fail
            refine HT.mono ?_; clear HT; rintro e W2b ⟨rfl, hb3⟩
            have F2b := HF.out.below hb3
            clear HF hb3
            have HT := hidW (take_no F2b.par q4)
            have HF := hidW F2b
            clear F2b
            go_wp2_with fail
            refine HT.out.mono ?_; clear HT; rintro e W3 ⟨rfl, p3, t3⟩
            have F3 := HF.out.step p3 t3
            clear HF p3 t3
            have HT := hidW (take_no F3.par q5)
            have HF := hidW F3
            clear F3
            go_wp2_with fail
            refine HT.out.mono ?_; clear HT; rintro e W3b ⟨rfl, p3, t3⟩
            have F3b := HF.out.step p3 t3
            clear HF p3 t3
            have HT := hidW (take_no F3b.par q6)
            have HF := hidW F3b
            clear F3b
            go_wp2_with fail
            refine HT.out.mono ?_; clear HT; rintro e W3c ⟨rfl, p3, t3⟩
            have F3c := HF.out.step p3 t3
            clear HF p3 t3
            have HT := hidW (fail_is F3c.par 2 (by decide))
            have HF := hidW F3c
            clear F3c
            go_wp2_with fail
            refine HT.out.mono ?_; clear HT; rintro e W4 ⟨rfl, p3, t3⟩
            have F4 := HF.out.step p3 t3
            clear HF p3 t3
            have n0 := cell_of F4.nod 0
            have n1 := cell_of F4.nod 1
            have n2 := cell_of F4.nod 2
            have n3 := cell_of F4.nod 3
            have m0 := frozen_of F4.nod 0
            have m1 := frozen_of F4.nod 1
            have m2 := frozen_of F4.nod 2
            have m3 := frozen_of F4.nod 3
            have z0 := cell_of F4.res 0
            have z1 := cell_of F4.res 1
            have z2 := cell_of F4.res 2
            have z3 := cell_of F4.res 3
            have f0 := frozen_of F4.res 0
            have f1 := frozen_of F4.res 1
            have f2 := frozen_of F4.res 2
            have f3 := frozen_of F4.res 3
            simp only [List.getElem?_toArray, List.getElem?_cons_zero, List.getElem?_cons_succ] at n0 n1 n2 n3 z0 z1 z2 z3
            obtain ⟨r0, r1, r2, r3⟩ := res4 F4.res (.int .i64 27) (.string ⟨#[]⟩) (.int .i64 (nextT ts s).a) (.slice none 0 0)
            have HFin := hidW (F4.fin (k := 27) (t := []) (a := (nextT ts s).a) (w := primF ts v) (kids_none _ _) hw)
            clear F4
            go_wp2
            refine bodyPost_ret (v := .agg #[.int .i64 27, .string ⟨#[]⟩, .int .i64 (nextT ts s).a, .slice none 0 0]) (by simp [results, Try.results92, go_sem, r0, r1, r2, r3]) rfl ?_
            exact HFin.out

end Go.Proofs.Ytgndnodahlabiaa
