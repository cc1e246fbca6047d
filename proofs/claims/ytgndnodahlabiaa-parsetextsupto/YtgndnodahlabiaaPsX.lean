/-
  Statements (layer 10): the contract of the parser's statement.
-/
import Derived.Test.YtgndnodahlabiaaMgH
namespace Go.Proofs.Ytgndnodahlabiaa
open Go.ChangeShapes Go.WideShapes Go.ChangeAt Go.RowKit

theorem Fr.app {W0 W W' : World} {P : Nat} {av : Option Addr} {cap blk off : Nat} {ts : List Tok} {s : St} {r b1 : Nat} {x0 x1 x2 x3 : Value} {Q : Nat → Prop} (h : Fr W0 P av cap blk off ts s r b1 x0 x1 x2 x3 W) (t : Turns Q W W') (hq : ∀ b, Q b → W0.heap.size < b ∧ b ≠ b1) : Fr W0 P av cap blk off ts s r b1 x0 x1 x2 x3 W' := by
  have hl := h.lt
  have hn := h.ne
  exact ⟨h.par.turns2 t (fun e => by have := (hq _ e).1; omega) (fun h0 e => by have := h.bk h0; have := (hq _ e).1; omega), (t.block _ (lt_of h.res) (fun e => by have := (hq _ e).1; omega)).trans h.res, (t.block _ (lt_of h.nod) (fun e => (hq _ e).2 rfl)).trans h.nod,
    ⟨t.os.trans h.tur.os, t.tape.trans h.tur.tape, t.output.trans h.tur.output, Nat.le_trans h.tur.size t.size, fun b hb hp => (t.block b (Nat.lt_of_lt_of_le hb h.tur.size) (fun e => by have := (hq _ e).1; omega)).trans (h.tur.block b hb hp)⟩, h.lt, h.ne, h.bk⟩
/-- A third tree is put into the row, and the row into the node. -/
theorem third_in {W0 W6 : World} {P : Nat} {av : Option Addr} {cap blk off : Nat} {ts : List Tok} {s' : St} {r b1 g cp : Nat} {x0 x1 x2 kv : Value} {n m z : Nv} {dk : Int} {dt : List UInt8} {da : Int} {dav : Option Addr} {dcap dblk doff : Nat} {dks : List Nv} (F6 : Fr W0 P av cap blk off ts s' r b1 x0 x1 x2 kv W6) (ok : OwnK (b1 + 1) W6 (.slice (some ⟨g, 0, none⟩) 3 cp) [n, m, z]) (hd : LiesD (fun b => b1 + 1 ≤ b ∧ b ≠ g) W6 (.mk dk dt da dav dcap dblk doff dks)) :
    (Fr W0 P av cap blk off ts s' r b1 x0 x1 x2 (.slice (some ⟨g, 0, none⟩) 3 cp) (((((W6.setCell ⟨g, 8, none⟩ (.int .i64 dk)).setCell ⟨g, 9, none⟩ (.string (bs dt))).setCell ⟨g, 10, none⟩ (.int .i64 da)).setCell ⟨g, 11, none⟩ (.slice dav dks.length dcap)).setCell ⟨b1, 3, none⟩ (.slice (some ⟨g, 0, none⟩) 3 cp)) ∧
      Kids (b1 + 1) (((((W6.setCell ⟨g, 8, none⟩ (.int .i64 dk)).setCell ⟨g, 9, none⟩ (.string (bs dt))).setCell ⟨g, 10, none⟩ (.int .i64 da)).setCell ⟨g, 11, none⟩ (.slice dav dks.length dcap)).setCell ⟨b1, 3, none⟩ (.slice (some ⟨g, 0, none⟩) 3 cp)) (.slice (some ⟨g, 0, none⟩) 3 cp) [n, m, .mk dk dt da dav dcap dblk doff dks]) ∧
    (Fr W0 P av cap blk off ts s' r b1 x0 x1 x2 (.slice (some ⟨g, 0, none⟩) 3 cp) (((((W6.setCell ⟨b1, 3, none⟩ (.slice (some ⟨g, 0, none⟩) 3 cp)).setCell ⟨g, 8, none⟩ (.int .i64 dk)).setCell ⟨g, 9, none⟩ (.string (bs dt))).setCell ⟨g, 10, none⟩ (.int .i64 da)).setCell ⟨g, 11, none⟩ (.slice dav dks.length dcap)) ∧
      Kids (b1 + 1) (((((W6.setCell ⟨b1, 3, none⟩ (.slice (some ⟨g, 0, none⟩) 3 cp)).setCell ⟨g, 8, none⟩ (.int .i64 dk)).setCell ⟨g, 9, none⟩ (.string (bs dt))).setCell ⟨g, 10, none⟩ (.int .i64 da)).setCell ⟨g, 11, none⟩ (.slice dav dks.length dcap)) (.slice (some ⟨g, 0, none⟩) 3 cp) [n, m, .mk dk dt da dav dcap dblk doff dks]) := by
  have hg : b1 < g := (ok.own.lt g rfl).1
  refine ⟨⟨(F6.other4 g 8 9 10 11 _ _ _ _ hg).set3 _, ?_⟩, (F6.set3 _).other4 g 8 9 10 11 _ _ _ _ hg, ?_⟩
  · exact (put_third ok hd).turns (turns_p b1 3 _ _) (fun b hb _ => by omega)
  · exact put_third (ok.turns (turns_p b1 3 _ W6) (fun b hb _ => by omega)) (hd.turns (turns_p b1 3 _ W6) (fun b hb _ => by have := hb.1; omega))

set_option maxRecDepth 100000 in
set_option maxHeartbeats 16000000 in
theorem stmt_is {W : World} {P : Nat} {av : Option Addr} {cap blk off : Nat} {ts : List Tok} {s : St} {r : Nat} {v : Lv} (hv : Deep P av cap blk off ts r v) (hg : GoodV ts v) (hk : AdvV v) (h : ParAt W P av cap blk off ts s r) :
    Calls Try.prog 76 #[.pointer (some ⟨P, 0, none⟩)] W (PaAns P av cap blk off ts r (stmtF ts v) s W) := by
  have hN := node_is (h.below (bel_new W (.cells #[.int .i64 0, .string ⟨#[]⟩, .int .i64 0, .slice none 0 0] 24))) 0
  have hS : ∀ W1, _ → _ := fun W1 hb => Fr.start (W1 := W1) h hb 0 (nextT ts s).a
  have HS := hidW hS
  have HV := hidW hv
  have HBL := hidW (fun (s' : St) (V : World) (hp : ParAt V P av cap blk off ts s' r) => block_is hv hg hk hp)
  clear h hS hv hg hk
  cases q1 : isW ts [105, 102] s with
  | true =>
    cases q2 : isW ts [101, 108, 115, 101] (blockF ts v (v.e (adv s)).2).2 with
    | false =>
      have hw : stmtF ts v s = (.mk 12 [] ((nextT ts s).a : Int) [(v.e (adv s)).1, (blockF ts v (v.e (adv s)).2).1], (blockF ts v (v.e (adv s)).2).2) := by unfold stmtF; rw [if_pos q1]; simp only; rw [if_neg (by simp [q2])]
      go_enter Try.func76, Try.ntmps76
      go_wp2_with fail
      refine hN.mono ?_; rintro e W1 ⟨rfl, hb1⟩
      have F1 := HS.out W1 hb1
      clear HS hN hb1
      have HT := hidW (take_yes F1.par q1)
      have HF := hidW F1
      clear F1
      go_wp2_with fail
      refine HT.out.mono ?_; clear HT; rintro e W2 ⟨rfl, p3, t3⟩
      have F2 := HF.out.step p3 t3
      clear HF p3 t3
      have n0 := cell_of F2.nod 0
      have m0 := frozen_of F2.nod 0
      simp only [List.getElem?_toArray, List.getElem?_cons_zero] at n0
      have F3 := F2.set0 (.int .i64 12)
      clear F2
      have hD := hidW (HV.out.e (adv s) _ F3.par)
      have HF := hidW F3
      clear F3
      go_wp2_with fail
      refine hD.out.mono ?_; clear hD; rintro e W4 ⟨⟨ck, ct, ca, cav, ccap, cblk, coff, cks⟩, rfl, hlc, hnc, p4, t4⟩
      have F4 := HF.out.step p4 t4
      have hc4 := Lies.mono (base' := W1.heap.size + 1) hlc (lt_of HF.out.nod)
      have hD := hidW (HBL.out _ _ F4.par)
      have HF4 := hidW (And.intro F4 (And.intro hc4 hnc))
      clear HF F4 hc4 hlc hnc p4 t4
      go_wp2_with fail
      refine hD.out.mono ?_; clear hD; rintro e W5 ⟨⟨bk, bt, ba, bav, bcap, bblk, boff, bks⟩, rfl, hlb, hnb, p5, t5⟩
      have F5 := HF4.out.1.step p5 t5
      have hbl1 := F5.ne
      have hbl2 := F5.lt
      have hc5 : Lies (W1.heap.size + 1) W5 (.mk ck ct ca cav ccap cblk coff cks) := HF4.out.2.1.turns t5 (fun b hb _ => by omega)
      have hb5 : Lies (W1.heap.size + 1) W5 (.mk bk bt ba bav bcap bblk boff bks) := Lies.mono hlb (lt_of HF4.out.1.nod)
      have ok6 := own_two hc5 hb5 (lt_of F5.nod)
      have F6 := F5.below (bel_new W5 (.cells #[.int .i64 ck, .string (bs ct), .int .i64 ca, .slice cav cks.length ccap, .int .i64 bk, .string (bs bt), .int .i64 ba, .slice bav bks.length bcap] 24))
      have u3 := cell_of F6.nod 3
      have l3 := frozen_of F6.nod 3
      simp only [List.getElem?_toArray, List.getElem?_cons_zero, List.getElem?_cons_succ] at u3
      have F7 := F6.set3 (.slice (some ⟨W5.heap.size, 0, none⟩) 2 2)
      have ok7 := ok6.turns (turns_p W1.heap.size 3 (.slice (some ⟨W5.heap.size, 0, none⟩) 2 2) _) (fun b hb _ => by omega)
      have HT := hidW (take_no F7.par q2)
      have HK := hidW (And.intro ok7 (And.intro HF4.out.2.2 hnb))
      have HF := hidW F7
      clear F7 F6 F5 ok6 ok7 hc5 hb5 HF4 hnb hlb p5 t5
      go_wp2_with fail
      refine HT.out.mono ?_; clear HT; rintro e W8 ⟨rfl, p8, t8⟩
      have F8 := HF.out.step p8 t8
      have ok8 := HK.out.1.turns t8 (fun b hb _ => by omega)
      clear HF p8 t8 u3 l3
      have hw2 : stmtF ts v s = (Nd.mk 12 [] (nextT ts s).a ([.mk ck ct ca cav ccap cblk coff cks, .mk bk bt ba bav bcap bblk boff bks].map Nv.nd), _) := hw.trans (by rw [List.map_cons, List.map_cons, List.map_nil, HK.out.2.1, HK.out.2.2])
      have hK8 := ok8.kids
      clear ok8 HK hw
      have n0 := cell_of F8.nod 0
      have n1 := cell_of F8.nod 1
      have n2 := cell_of F8.nod 2
      have n3 := cell_of F8.nod 3
      have m0 := frozen_of F8.nod 0
      have m1 := frozen_of F8.nod 1
      have m2 := frozen_of F8.nod 2
      have m3 := frozen_of F8.nod 3
      have z0 := cell_of F8.res 0
      have z1 := cell_of F8.res 1
      have z2 := cell_of F8.res 2
      have z3 := cell_of F8.res 3
      have f0 := frozen_of F8.res 0
      have f1 := frozen_of F8.res 1
      have f2 := frozen_of F8.res 2
      have f3 := frozen_of F8.res 3
      simp only [List.getElem?_toArray, List.getElem?_cons_zero, List.getElem?_cons_succ] at n0 n1 n2 n3 z0 z1 z2 z3
      obtain ⟨r0, r1, r2, r3⟩ := res4 F8.res (.int .i64 12) (.string ⟨#[]⟩) (.int .i64 (nextT ts s).a) (.slice (some ⟨W5.heap.size, 0, none⟩) 2 2)
      have HFin := hidW (F8.fin (k := 12) (t := []) (a := (nextT ts s).a) (w := stmtF ts v) hK8 hw2)
      clear F8 hK8
      go_wp2
      refine bodyPost_ret (v := .agg #[.int .i64 12, .string ⟨#[]⟩, .int .i64 (nextT ts s).a, .slice (some ⟨W5.heap.size, 0, none⟩) 2 2]) (by simp [results, Try.results76, go_sem, r0, r1, r2, r3]) rfl ?_
      exact HFin.out
    | true =>
      have hw : stmtF ts v s = (.mk 12 [] ((nextT ts s).a : Int) [(v.e (adv s)).1, (blockF ts v (v.e (adv s)).2).1, (blockF ts v (adv (blockF ts v (v.e (adv s)).2).2)).1], (blockF ts v (adv (blockF ts v (v.e (adv s)).2).2)).2) := by unfold stmtF; rw [if_pos q1]; simp only; rw [if_pos q2]
      go_enter Try.func76, Try.ntmps76
      go_wp2_with fail
      refine hN.mono ?_; rintro e W1 ⟨rfl, hb1⟩
      have F1 := HS.out W1 hb1
      clear HS hN hb1
      have HT := hidW (take_yes F1.par q1)
      have HF := hidW F1
      clear F1
      go_wp2_with fail
      refine HT.out.mono ?_; clear HT; rintro e W2 ⟨rfl, p3, t3⟩
      have F2 := HF.out.step p3 t3
      clear HF p3 t3
      have n0 := cell_of F2.nod 0
      have m0 := frozen_of F2.nod 0
      simp only [List.getElem?_toArray, List.getElem?_cons_zero] at n0
      have F3 := F2.set0 (.int .i64 12)
      clear F2
      have hD := hidW (HV.out.e (adv s) _ F3.par)
      have HF := hidW F3
      clear F3
      go_wp2_with fail
      refine hD.out.mono ?_; clear hD; rintro e W4 ⟨⟨ck, ct, ca, cav, ccap, cblk, coff, cks⟩, rfl, hlc, hnc, p4, t4⟩
      have F4 := HF.out.step p4 t4
      have hc4 := Lies.mono (base' := W1.heap.size + 1) hlc (lt_of HF.out.nod)
      have hD := hidW (HBL.out _ _ F4.par)
      have HF4 := hidW (And.intro F4 (And.intro hc4 hnc))
      clear HF F4 hc4 hlc hnc p4 t4
      go_wp2_with fail
      refine hD.out.mono ?_; clear hD; rintro e W5 ⟨⟨bk, bt, ba, bav, bcap, bblk, boff, bks⟩, rfl, hlb, hnb, p5, t5⟩
      have F5 := HF4.out.1.step p5 t5
      have hbl1 := F5.ne
      have hbl2 := F5.lt
      have hc5 : Lies (W1.heap.size + 1) W5 (.mk ck ct ca cav ccap cblk coff cks) := HF4.out.2.1.turns t5 (fun b hb _ => by omega)
      have hb5 : Lies (W1.heap.size + 1) W5 (.mk bk bt ba bav bcap bblk boff bks) := Lies.mono hlb (lt_of HF4.out.1.nod)
      have ok6 := own_two hc5 hb5 (lt_of F5.nod)
      have F6 := F5.below (bel_new W5 (.cells #[.int .i64 ck, .string (bs ct), .int .i64 ca, .slice cav cks.length ccap, .int .i64 bk, .string (bs bt), .int .i64 ba, .slice bav bks.length bcap] 24))
      have u3 := cell_of F6.nod 3
      have l3 := frozen_of F6.nod 3
      simp only [List.getElem?_toArray, List.getElem?_cons_zero, List.getElem?_cons_succ] at u3
      have F7 := F6.set3 (.slice (some ⟨W5.heap.size, 0, none⟩) 2 2)
      have ok7 := ok6.turns (turns_p W1.heap.size 3 (.slice (some ⟨W5.heap.size, 0, none⟩) 2 2) _) (fun b hb _ => by omega)
      have HT := hidW (take_yes F7.par q2)
      have HK := hidW (And.intro ok7 (And.intro HF4.out.2.2 hnb))
      have HF := hidW F7
      clear F7 F6 F5 ok6 ok7 hc5 hb5 HF4 hnb hlb p5 t5
      go_wp2_with fail
      refine HT.out.mono ?_; clear HT; rintro e W8 ⟨rfl, p8, t8⟩
      have F8 := HF.out.step p8 t8
      have ok8 := HK.out.1.turns t8 (fun b hb _ => by omega)
      clear HF p8 t8 u3 l3
      have Fd := F8.below (bel_d W8)
      have okd := ok8.turns (turns_b (Q := fun _ => False) (bel_d W8)) (fun _ _ _ h => h)
      clear F8 ok8
      have n3 := cell_of Fd.nod 3
      simp only [List.getElem?_toArray, List.getElem?_cons_zero, List.getElem?_cons_succ] at n3
      go_wp2_with fail
      refine region_late (fun V => V.cell? ⟨W1.heap.size, 3, none⟩ = some (.slice (some ⟨W5.heap.size, 0, none⟩) 2 2)) 10 (by kernel_rfl) ?_
      have hs5 : W5.heap.size < W8.drew.heap.size := (okd.own.lt _ rfl).2
      have hs1 : W1.heap.size < W5.heap.size := (okd.own.lt W5.heap.size rfl).1
      generalize W8.drew = V3 at *
      have hHeld : V3.cell? ⟨W1.heap.size, 3, none⟩ = some (.slice (some ⟨W5.heap.size, 0, none⟩) 2 2) := n3
      have hD := hidW (HBL.out _ _ Fd.par)
      have FZ := Fd.below (bel_new V3 (.cells #[.int .i64 0, .string ⟨#[]⟩, .int .i64 0, .slice none 0 0] 24))
      have hD2 := hidW (HBL.out _ _ FZ.par)
      have z3 := cell_of FZ.nod 3
      simp only [List.getElem?_toArray, List.getElem?_cons_zero, List.getElem?_cons_succ] at z3
      clear FZ
      have HFd := hidW (And.intro Fd okd)
      clear Fd okd
      refine anyL_take (i := 0) (v := ?_) rfl (by kernel_rfl) (by kernel_rfl) (by kernel_rfl) (by kernel_rfl) (fun _ _ _ h => h) (Or.inl ⟨by rfl, ?_⟩) hHeld ?_
      rotate_left 1
      · intro w hSw; (try dsimp only at hSw); go_simp; try with_reducible rfl
      refine anyL_take (i := 1) (v := ?_) rfl (by kernel_rfl) (by kernel_rfl) (by kernel_rfl) (by kernel_rfl) (fun _ _ _ h => h) (Or.inl ⟨by rfl, ?_⟩) hHeld ?_
      rotate_left 1
      · intro w hSw; (try dsimp only at hSw); go_simp; try with_reducible rfl
      refine anyL_take (i := 2) (v := ?_) rfl (by kernel_rfl) (by kernel_rfl) (by kernel_rfl) (by kernel_rfl) (fun _ _ _ h => h) (Or.inl ⟨by rfl, ?_⟩) hHeld ?_
      rotate_left 1
      · intro w hSw; (try dsimp only at hSw); go_simp; try with_reducible rfl
      refine anyL_take (i := 4) (v := ?_) rfl (by kernel_rfl) (by kernel_rfl) (by kernel_rfl) (by kernel_rfl) (fun _ _ _ h => h) (Or.inl ⟨by rfl, ?_⟩) hHeld ?_
      rotate_left 1
      · intro w hSw; (try dsimp only at hSw); go_simp; try with_reducible rfl
      refine anyL_ready (rs := [3, 5]) (by kernel_rfl) (by simp) (ReadyL.cons rfl (fun K hK => ?_) (ReadyL.cons rfl (fun K hK => ?_) (ReadyL.nil)))
      · go_simp
        refine hD.out.mono ?_; rintro e W9 ⟨⟨dk, dt, da, dav, dcap, dblk, doff, dks⟩, rfl, hld, hnd, p9, t9⟩
        have FA := HFd.out.1.step p9 t9
        have hsz9 := t9.size
        have okA := HFd.out.2.turns t9 (fun b hb _ => by omega)
        have x3 := cell_of FA.nod 3
        have F9 := FA.below (bel_new W9 (.cells #[.int .i64 0, .string ⟨#[]⟩, .int .i64 0, .slice none 0 0] 24))
        have ok9 := okA.turns (turns_b (Q := fun _ => False) (bel_new W9 (.cells #[.int .i64 0, .string ⟨#[]⟩, .int .i64 0, .slice none 0 0] 24))) (fun _ _ _ h => h)
        have y3 := cell_of F9.nod 3
        have hZ : (W9.alloc (.cells #[.int .i64 0, .string ⟨#[]⟩, .int .i64 0, .slice none 0 0] 24)).heap[W9.heap.size]? = some (.cells (leafV 0 [] 0).cs.toArray 24 (0, 0)) := World.alloc_heap_new W9 _
        have hd9 : LiesD (fun b => V3.heap.size ≤ b ∧ b < W9.heap.size) (W9.alloc (.cells #[.int .i64 0, .string ⟨#[]⟩, .int .i64 0, .slice none 0 0] 24)) (.mk dk dt da dav dcap dblk doff dks) := lies_new (LiesD.mono hld (fun b hb h2 => ⟨hb, h2⟩)) _
        obtain ⟨g, cp, W6, hap, ok6, t6, hg6⟩ := own_app ok9 (W9.heap.size) 1 [leafV 0 [] 0] (fun j u hu => by rw [cell_of hZ, List.getElem?_toArray]; simpa using hu) (by simp) (by simp) (lt_of F9.nod) (lies_all_one (.mk ⟨fun h => absurd h (by simp), fun h => absurd h (by simp), fun i f h => absurd h (by simp)⟩ (fun n hn => by cases hn) (Nat.le_refl _)))
        rw [World.size_alloc] at hg6
        have hg1 : W1.heap.size < g := (ok6.own.lt g rfl).1
        have hF6 : Fr W P av cap blk off ts _ r W1.heap.size _ _ _ _ W6 := F9.app t6 (fun b e => by have e3 : W5.heap.size = b := Option.some.inj e; exact ⟨by omega, by omega⟩)
        have hd6 : LiesD (fun b => W1.heap.size + 1 ≤ b ∧ b ≠ g) W6 (.mk dk dt da dav dcap dblk doff dks) := (hd9.turns t6 (fun b hb _ e => by have e3 : W5.heap.size = b := Option.some.inj e; omega)).mono (fun b hb hb2 => ⟨by omega, fun e2 => hg6.elim (fun e => by have e3 : W5.heap.size = g := Option.some.inj e; omega) (fun e => by omega)⟩)
        obtain ⟨⟨FA1, KA1⟩, FB1, KB1⟩ := third_in hF6 ok6 hd6
        obtain ⟨⟨v8, v9, v10, v11⟩, w8, w9, w10, w11⟩ := third_cells ok6
        have okS := ok6.turns (turns_p W1.heap.size 3 (.slice (some ⟨g, 0, none⟩) 3 cp) W6) (fun b hb _ => by omega)
        obtain ⟨⟨i8, i9, i10, i11⟩, j8, j9, j10, j11⟩ := third_cells okS
        have k3 := cell_of hF6.nod 3
        have k4 := frozen_of hF6.nod 3
        have F6o := hF6.other4 g 8 9 10 11 (.int .i64 dk) (.string (bs dt)) (.int .i64 da) (.slice dav dks.length dcap) hg1
        have o3 := cell_of F6o.nod 3
        have o4 := frozen_of F6o.nod 3
        simp only [List.getElem?_toArray, List.getElem?_cons_zero, List.getElem?_cons_succ] at x3 y3 k3 o3
        have HAP := hidW hap
        have HA := hidW (And.intro FA1 (And.intro KA1 hnd))
        have HB := hidW (And.intro FB1 (And.intro KB1 hnd))
        clear hap ok6 t6 hg6 hF6 hd6 FA1 KA1 FB1 KB1 okS F6o F9 ok9 hZ hd9 hld hnd p9 t9 FA okA
        go_wp2_with fail
        refine hK.out _ _ (x3) (fun hHeld => ?_)
        clear hK K
        refine anyL_ready (rs := [5]) (by kernel_rfl) (by simp) (ReadyL.cons rfl (fun K hK => ?_) (ReadyL.nil))
        · go_simp
          refine hK.out _ _ (y3) (fun hHeld => ?_)
          clear hK K
          refine anyL_ready (rs := [6]) (by kernel_rfl) (by simp) (ReadyL.cons rfl (fun K hK => ?_) (ReadyL.nil))
          · refine step_append rfl (.tmp 25) (.tmp 29) 22 rfl rfl rfl HAP.out ?_
            refine hK.out _ _ (k3) (fun hHeld => ?_)
            clear hK K
            refine anyL_take (i := 9) (v := ?_) rfl (by kernel_rfl) (by kernel_rfl) (by kernel_rfl) (by kernel_rfl) (fun _ _ _ h => h) (Or.inl ⟨by rfl, ?_⟩) hHeld ?_
            rotate_left 1
            · intro w hSw; (try dsimp only at hSw); go_simp; try with_reducible rfl
            refine anyL_ready (rs := [7, 10]) (by kernel_rfl) (by simp) (ReadyL.cons rfl (fun K hK => ?_) (ReadyL.late rfl (by kernel_rfl) (fun K hK => ?_) (ReadyL.nil)))
            · go_simp
              refine hK.out _ _ (hHeld) (fun hHeld => ?_)
              clear hK K
              refine anyL_ready (rs := [8, 10]) (by kernel_rfl) (by simp) (ReadyL.cons rfl (fun K hK => ?_) (ReadyL.late rfl (by kernel_rfl) (fun K hK => ?_) (ReadyL.nil)))
              · go_simp
                refine hK.out _ _ (o3) (fun hHeld => ?_)
                clear hK K
                refine anyL_ready (rs := [10]) (by kernel_rfl) (by simp) (ReadyL.late rfl (by kernel_rfl) (fun K hK => ?_) (ReadyL.nil))
                · go_simp
                  refine hK.out _ _ ?_
                  clear hK K
                  refine anyL_done (by kernel_rfl) ?_ _
                  have F9 := HA.out.1
                  have hK9 := HA.out.2.1
                  have hw2 : stmtF ts v s = (Nd.mk 12 [] (nextT ts s).a ([.mk ck ct ca cav ccap cblk coff cks, .mk bk bt ba bav bcap bblk boff bks, .mk dk dt da dav dcap dblk doff dks].map Nv.nd), _) := hw.trans (by rw [List.map_cons, List.map_cons, List.map_cons, List.map_nil, HK.out.2.1, HK.out.2.2, HA.out.2.2])
                  have n0 := cell_of F9.nod 0
                  have n1 := cell_of F9.nod 1
                  have n2 := cell_of F9.nod 2
                  have n3 := cell_of F9.nod 3
                  have m0 := frozen_of F9.nod 0
                  have m1 := frozen_of F9.nod 1
                  have m2 := frozen_of F9.nod 2
                  have m3 := frozen_of F9.nod 3
                  have z0 := cell_of F9.res 0
                  have z1 := cell_of F9.res 1
                  have z2 := cell_of F9.res 2
                  have z3 := cell_of F9.res 3
                  have f0 := frozen_of F9.res 0
                  have f1 := frozen_of F9.res 1
                  have f2 := frozen_of F9.res 2
                  have f3 := frozen_of F9.res 3
                  simp only [List.getElem?_toArray, List.getElem?_cons_zero, List.getElem?_cons_succ] at n0 n1 n2 n3 z0 z1 z2 z3
                  obtain ⟨r0, r1, r2, r3⟩ := res4 F9.res (.int .i64 12) (.string ⟨#[]⟩) (.int .i64 (nextT ts s).a) (.slice (some ⟨g, 0, none⟩) 3 cp)
                  have HFin := hidW (F9.fin (k := 12) (t := []) (a := (nextT ts s).a) (w := stmtF ts v) hK9 hw2)
                  clear F9 hK9
                  go_wp2
                  refine bodyPost_ret (v := .agg #[.int .i64 12, .string ⟨#[]⟩, .int .i64 (nextT ts s).a, .slice (some ⟨g, 0, none⟩) 3 cp]) (by simp [results, Try.results76, go_sem, r0, r1, r2, r3]) rfl ?_
                  exact HFin.out
              · go_simp
                refine hK.out _ _ ?_
                clear hK K
                generalize W6.setCell ⟨W1.heap.size, 3, none⟩ (.slice (some ⟨g, 0, none⟩) 3 cp) = V6 at *
                refine anyL_ready (rs := [8]) (by kernel_rfl) (by simp) (ReadyL.late rfl (by kernel_rfl) (fun K hK => ?_) (ReadyL.nil))
                · go_simp
                  refine hK.out _ _ ?_
                  clear hK K
                  refine anyL_done (by kernel_rfl) ?_ _
                  have F9 := HB.out.1
                  have hK9 := HB.out.2.1
                  have hw2 : stmtF ts v s = (Nd.mk 12 [] (nextT ts s).a ([.mk ck ct ca cav ccap cblk coff cks, .mk bk bt ba bav bcap bblk boff bks, .mk dk dt da dav dcap dblk doff dks].map Nv.nd), _) := hw.trans (by rw [List.map_cons, List.map_cons, List.map_cons, List.map_nil, HK.out.2.1, HK.out.2.2, HB.out.2.2])
                  have n0 := cell_of F9.nod 0
                  have n1 := cell_of F9.nod 1
                  have n2 := cell_of F9.nod 2
                  have n3 := cell_of F9.nod 3
                  have m0 := frozen_of F9.nod 0
                  have m1 := frozen_of F9.nod 1
                  have m2 := frozen_of F9.nod 2
                  have m3 := frozen_of F9.nod 3
                  have z0 := cell_of F9.res 0
                  have z1 := cell_of F9.res 1
                  have z2 := cell_of F9.res 2
                  have z3 := cell_of F9.res 3
                  have f0 := frozen_of F9.res 0
                  have f1 := frozen_of F9.res 1
                  have f2 := frozen_of F9.res 2
                  have f3 := frozen_of F9.res 3
                  simp only [List.getElem?_toArray, List.getElem?_cons_zero, List.getElem?_cons_succ] at n0 n1 n2 n3 z0 z1 z2 z3
                  obtain ⟨r0, r1, r2, r3⟩ := res4 F9.res (.int .i64 12) (.string ⟨#[]⟩) (.int .i64 (nextT ts s).a) (.slice (some ⟨g, 0, none⟩) 3 cp)
                  have HFin := hidW (F9.fin (k := 12) (t := []) (a := (nextT ts s).a) (w := stmtF ts v) hK9 hw2)
                  clear F9 hK9
                  go_wp2
                  refine bodyPost_ret (v := .agg #[.int .i64 12, .string ⟨#[]⟩, .int .i64 (nextT ts s).a, .slice (some ⟨g, 0, none⟩) 3 cp]) (by simp [results, Try.results76, go_sem, r0, r1, r2, r3]) rfl ?_
                  exact HFin.out
            · go_simp
              refine hK.out _ _ ?_
              clear hK K
              generalize W6.setCell ⟨W1.heap.size, 3, none⟩ (.slice (some ⟨g, 0, none⟩) 3 cp) = V6 at *
              refine anyL_ready (rs := [7]) (by kernel_rfl) (by simp) (ReadyL.late rfl (by kernel_rfl) (fun K hK => ?_) (ReadyL.nil))
              · go_simp
                refine hK.out _ _ ?_
                clear hK K
                refine anyL_ready (rs := [8]) (by kernel_rfl) (by simp) (ReadyL.late rfl (by kernel_rfl) (fun K hK => ?_) (ReadyL.nil))
                · go_simp
                  refine hK.out _ _ ?_
                  clear hK K
                  refine anyL_done (by kernel_rfl) ?_ _
                  have F9 := HB.out.1
                  have hK9 := HB.out.2.1
                  have hw2 : stmtF ts v s = (Nd.mk 12 [] (nextT ts s).a ([.mk ck ct ca cav ccap cblk coff cks, .mk bk bt ba bav bcap bblk boff bks, .mk dk dt da dav dcap dblk doff dks].map Nv.nd), _) := hw.trans (by rw [List.map_cons, List.map_cons, List.map_cons, List.map_nil, HK.out.2.1, HK.out.2.2, HB.out.2.2])
                  have n0 := cell_of F9.nod 0
                  have n1 := cell_of F9.nod 1
                  have n2 := cell_of F9.nod 2
                  have n3 := cell_of F9.nod 3
                  have m0 := frozen_of F9.nod 0
                  have m1 := frozen_of F9.nod 1
                  have m2 := frozen_of F9.nod 2
                  have m3 := frozen_of F9.nod 3
                  have z0 := cell_of F9.res 0
                  have z1 := cell_of F9.res 1
                  have z2 := cell_of F9.res 2
                  have z3 := cell_of F9.res 3
                  have f0 := frozen_of F9.res 0
                  have f1 := frozen_of F9.res 1
                  have f2 := frozen_of F9.res 2
                  have f3 := frozen_of F9.res 3
                  simp only [List.getElem?_toArray, List.getElem?_cons_zero, List.getElem?_cons_succ] at n0 n1 n2 n3 z0 z1 z2 z3
                  obtain ⟨r0, r1, r2, r3⟩ := res4 F9.res (.int .i64 12) (.string ⟨#[]⟩) (.int .i64 (nextT ts s).a) (.slice (some ⟨g, 0, none⟩) 3 cp)
                  have HFin := hidW (F9.fin (k := 12) (t := []) (a := (nextT ts s).a) (w := stmtF ts v) hK9 hw2)
                  clear F9 hK9
                  go_wp2
                  refine bodyPost_ret (v := .agg #[.int .i64 12, .string ⟨#[]⟩, .int .i64 (nextT ts s).a, .slice (some ⟨g, 0, none⟩) 3 cp]) (by simp [results, Try.results76, go_sem, r0, r1, r2, r3]) rfl ?_
                  exact HFin.out
      · go_simp
        refine hK.out _ _ (z3) (fun hHeld => ?_)
        clear hK K
        refine anyL_ready (rs := [3]) (by kernel_rfl) (by simp) (ReadyL.cons rfl (fun K hK => ?_) (ReadyL.nil))
        · go_simp
          refine hD2.out.mono ?_; rintro e W9 ⟨⟨dk, dt, da, dav, dcap, dblk, doff, dks⟩, rfl, hld, hnd, p9, t9⟩
          have hsz9 := t9.size
          rw [World.size_alloc] at hsz9
          have F9 := (HFd.out.1.below (bel_new V3 (.cells #[.int .i64 0, .string ⟨#[]⟩, .int .i64 0, .slice none 0 0] 24))).step p9 t9
          have ok9 := (HFd.out.2.turns (turns_b (Q := fun _ => False) (bel_new V3 (.cells #[.int .i64 0, .string ⟨#[]⟩, .int .i64 0, .slice none 0 0] 24))) (fun _ _ _ h => h)).turns t9 (fun b hb _ => by omega)
          have x3 := cell_of F9.nod 3
          have y3 := cell_of F9.nod 3
          have hP3 := lt_of HFd.out.1.par.box
          have hZ : W9.heap[V3.heap.size]? = some (.cells (leafV 0 [] 0).cs.toArray 24 (0, 0)) := (t9.block _ (by simp) (by omega)).trans (World.alloc_heap_new V3 _)
          have hd9 : LiesD (fun b => V3.heap.size ≤ b ∧ b < W9.heap.size) W9 (.mk dk dt da dav dcap dblk doff dks) := LiesD.mono hld (fun b hb h2 => ⟨Nat.le_trans (by simp) hb, h2⟩)
          obtain ⟨g, cp, W6, hap, ok6, t6, hg6⟩ := own_app ok9 (V3.heap.size) 1 [leafV 0 [] 0] (fun j u hu => by rw [cell_of hZ, List.getElem?_toArray]; simpa using hu) (by simp) (by simp) (lt_of F9.nod) (lies_all_one (.mk ⟨fun h => absurd h (by simp), fun h => absurd h (by simp), fun i f h => absurd h (by simp)⟩ (fun n hn => by cases hn) (Nat.le_refl _)))
          have hg1 : W1.heap.size < g := (ok6.own.lt g rfl).1
          have hF6 : Fr W P av cap blk off ts _ r W1.heap.size _ _ _ _ W6 := F9.app t6 (fun b e => by have e3 : W5.heap.size = b := Option.some.inj e; exact ⟨by omega, by omega⟩)
          have hd6 : LiesD (fun b => W1.heap.size + 1 ≤ b ∧ b ≠ g) W6 (.mk dk dt da dav dcap dblk doff dks) := (hd9.turns t6 (fun b hb _ e => by have e3 : W5.heap.size = b := Option.some.inj e; omega)).mono (fun b hb hb2 => ⟨by omega, fun e2 => hg6.elim (fun e => by have e3 : W5.heap.size = g := Option.some.inj e; omega) (fun e => by omega)⟩)
          obtain ⟨⟨FA1, KA1⟩, FB1, KB1⟩ := third_in hF6 ok6 hd6
          obtain ⟨⟨v8, v9, v10, v11⟩, w8, w9, w10, w11⟩ := third_cells ok6
          have okS := ok6.turns (turns_p W1.heap.size 3 (.slice (some ⟨g, 0, none⟩) 3 cp) W6) (fun b hb _ => by omega)
          obtain ⟨⟨i8, i9, i10, i11⟩, j8, j9, j10, j11⟩ := third_cells okS
          have k3 := cell_of hF6.nod 3
          have k4 := frozen_of hF6.nod 3
          have F6o := hF6.other4 g 8 9 10 11 (.int .i64 dk) (.string (bs dt)) (.int .i64 da) (.slice dav dks.length dcap) hg1
          have o3 := cell_of F6o.nod 3
          have o4 := frozen_of F6o.nod 3
          simp only [List.getElem?_toArray, List.getElem?_cons_zero, List.getElem?_cons_succ] at x3 y3 k3 o3
          have HAP := hidW hap
          have HA := hidW (And.intro FA1 (And.intro KA1 hnd))
          have HB := hidW (And.intro FB1 (And.intro KB1 hnd))
          clear hap ok6 t6 hg6 hF6 hd6 FA1 KA1 FB1 KB1 okS F6o F9 ok9 hZ hd9 hld hnd p9 t9 hP3
          go_wp2_with fail
          refine hK.out _ _ (x3) (fun hHeld => ?_)
          clear hK K
          refine anyL_ready (rs := [6]) (by kernel_rfl) (by simp) (ReadyL.cons rfl (fun K hK => ?_) (ReadyL.nil))
          · refine step_append rfl (.tmp 25) (.tmp 29) 22 rfl rfl rfl HAP.out ?_
            refine hK.out _ _ (k3) (fun hHeld => ?_)
            clear hK K
            refine anyL_take (i := 9) (v := ?_) rfl (by kernel_rfl) (by kernel_rfl) (by kernel_rfl) (by kernel_rfl) (fun _ _ _ h => h) (Or.inl ⟨by rfl, ?_⟩) hHeld ?_
            rotate_left 1
            · intro w hSw; (try dsimp only at hSw); go_simp; try with_reducible rfl
            refine anyL_ready (rs := [7, 10]) (by kernel_rfl) (by simp) (ReadyL.cons rfl (fun K hK => ?_) (ReadyL.late rfl (by kernel_rfl) (fun K hK => ?_) (ReadyL.nil)))
            · go_simp
              refine hK.out _ _ (hHeld) (fun hHeld => ?_)
              clear hK K
              refine anyL_ready (rs := [8, 10]) (by kernel_rfl) (by simp) (ReadyL.cons rfl (fun K hK => ?_) (ReadyL.late rfl (by kernel_rfl) (fun K hK => ?_) (ReadyL.nil)))
              · go_simp
                refine hK.out _ _ (o3) (fun hHeld => ?_)
                clear hK K
                refine anyL_ready (rs := [10]) (by kernel_rfl) (by simp) (ReadyL.late rfl (by kernel_rfl) (fun K hK => ?_) (ReadyL.nil))
                · go_simp
                  refine hK.out _ _ ?_
                  clear hK K
                  refine anyL_done (by kernel_rfl) ?_ _
                  have F9 := HA.out.1
                  have hK9 := HA.out.2.1
                  have hw2 : stmtF ts v s = (Nd.mk 12 [] (nextT ts s).a ([.mk ck ct ca cav ccap cblk coff cks, .mk bk bt ba bav bcap bblk boff bks, .mk dk dt da dav dcap dblk doff dks].map Nv.nd), _) := hw.trans (by rw [List.map_cons, List.map_cons, List.map_cons, List.map_nil, HK.out.2.1, HK.out.2.2, HA.out.2.2])
                  have n0 := cell_of F9.nod 0
                  have n1 := cell_of F9.nod 1
                  have n2 := cell_of F9.nod 2
                  have n3 := cell_of F9.nod 3
                  have m0 := frozen_of F9.nod 0
                  have m1 := frozen_of F9.nod 1
                  have m2 := frozen_of F9.nod 2
                  have m3 := frozen_of F9.nod 3
                  have z0 := cell_of F9.res 0
                  have z1 := cell_of F9.res 1
                  have z2 := cell_of F9.res 2
                  have z3 := cell_of F9.res 3
                  have f0 := frozen_of F9.res 0
                  have f1 := frozen_of F9.res 1
                  have f2 := frozen_of F9.res 2
                  have f3 := frozen_of F9.res 3
                  simp only [List.getElem?_toArray, List.getElem?_cons_zero, List.getElem?_cons_succ] at n0 n1 n2 n3 z0 z1 z2 z3
                  obtain ⟨r0, r1, r2, r3⟩ := res4 F9.res (.int .i64 12) (.string ⟨#[]⟩) (.int .i64 (nextT ts s).a) (.slice (some ⟨g, 0, none⟩) 3 cp)
                  have HFin := hidW (F9.fin (k := 12) (t := []) (a := (nextT ts s).a) (w := stmtF ts v) hK9 hw2)
                  clear F9 hK9
                  go_wp2
                  refine bodyPost_ret (v := .agg #[.int .i64 12, .string ⟨#[]⟩, .int .i64 (nextT ts s).a, .slice (some ⟨g, 0, none⟩) 3 cp]) (by simp [results, Try.results76, go_sem, r0, r1, r2, r3]) rfl ?_
                  exact HFin.out
              · go_simp
                refine hK.out _ _ ?_
                clear hK K
                generalize W6.setCell ⟨W1.heap.size, 3, none⟩ (.slice (some ⟨g, 0, none⟩) 3 cp) = V6 at *
                refine anyL_ready (rs := [8]) (by kernel_rfl) (by simp) (ReadyL.late rfl (by kernel_rfl) (fun K hK => ?_) (ReadyL.nil))
                · go_simp
                  refine hK.out _ _ ?_
                  clear hK K
                  refine anyL_done (by kernel_rfl) ?_ _
                  have F9 := HB.out.1
                  have hK9 := HB.out.2.1
                  have hw2 : stmtF ts v s = (Nd.mk 12 [] (nextT ts s).a ([.mk ck ct ca cav ccap cblk coff cks, .mk bk bt ba bav bcap bblk boff bks, .mk dk dt da dav dcap dblk doff dks].map Nv.nd), _) := hw.trans (by rw [List.map_cons, List.map_cons, List.map_cons, List.map_nil, HK.out.2.1, HK.out.2.2, HB.out.2.2])
                  have n0 := cell_of F9.nod 0
                  have n1 := cell_of F9.nod 1
                  have n2 := cell_of F9.nod 2
                  have n3 := cell_of F9.nod 3
                  have m0 := frozen_of F9.nod 0
                  have m1 := frozen_of F9.nod 1
                  have m2 := frozen_of F9.nod 2
                  have m3 := frozen_of F9.nod 3
                  have z0 := cell_of F9.res 0
                  have z1 := cell_of F9.res 1
                  have z2 := cell_of F9.res 2
                  have z3 := cell_of F9.res 3
                  have f0 := frozen_of F9.res 0
                  have f1 := frozen_of F9.res 1
                  have f2 := frozen_of F9.res 2
                  have f3 := frozen_of F9.res 3
                  simp only [List.getElem?_toArray, List.getElem?_cons_zero, List.getElem?_cons_succ] at n0 n1 n2 n3 z0 z1 z2 z3
                  obtain ⟨r0, r1, r2, r3⟩ := res4 F9.res (.int .i64 12) (.string ⟨#[]⟩) (.int .i64 (nextT ts s).a) (.slice (some ⟨g, 0, none⟩) 3 cp)
                  have HFin := hidW (F9.fin (k := 12) (t := []) (a := (nextT ts s).a) (w := stmtF ts v) hK9 hw2)
                  clear F9 hK9
                  go_wp2
                  refine bodyPost_ret (v := .agg #[.int .i64 12, .string ⟨#[]⟩, .int .i64 (nextT ts s).a, .slice (some ⟨g, 0, none⟩) 3 cp]) (by simp [results, Try.results76, go_sem, r0, r1, r2, r3]) rfl ?_
                  exact HFin.out
            · go_simp
              refine hK.out _ _ ?_
              clear hK K
              generalize W6.setCell ⟨W1.heap.size, 3, none⟩ (.slice (some ⟨g, 0, none⟩) 3 cp) = V6 at *
              refine anyL_ready (rs := [7]) (by kernel_rfl) (by simp) (ReadyL.late rfl (by kernel_rfl) (fun K hK => ?_) (ReadyL.nil))
              · go_simp
                refine hK.out _ _ ?_
                clear hK K
                refine anyL_ready (rs := [8]) (by kernel_rfl) (by simp) (ReadyL.late rfl (by kernel_rfl) (fun K hK => ?_) (ReadyL.nil))
                · go_simp
                  refine hK.out _ _ ?_
                  clear hK K
                  refine anyL_done (by kernel_rfl) ?_ _
                  have F9 := HB.out.1
                  have hK9 := HB.out.2.1
                  have hw2 : stmtF ts v s = (Nd.mk 12 [] (nextT ts s).a ([.mk ck ct ca cav ccap cblk coff cks, .mk bk bt ba bav bcap bblk boff bks, .mk dk dt da dav dcap dblk doff dks].map Nv.nd), _) := hw.trans (by rw [List.map_cons, List.map_cons, List.map_cons, List.map_nil, HK.out.2.1, HK.out.2.2, HB.out.2.2])
                  have n0 := cell_of F9.nod 0
                  have n1 := cell_of F9.nod 1
                  have n2 := cell_of F9.nod 2
                  have n3 := cell_of F9.nod 3
                  have m0 := frozen_of F9.nod 0
                  have m1 := frozen_of F9.nod 1
                  have m2 := frozen_of F9.nod 2
                  have m3 := frozen_of F9.nod 3
                  have z0 := cell_of F9.res 0
                  have z1 := cell_of F9.res 1
                  have z2 := cell_of F9.res 2
                  have z3 := cell_of F9.res 3
                  have f0 := frozen_of F9.res 0
                  have f1 := frozen_of F9.res 1
                  have f2 := frozen_of F9.res 2
                  have f3 := frozen_of F9.res 3
                  simp only [List.getElem?_toArray, List.getElem?_cons_zero, List.getElem?_cons_succ] at n0 n1 n2 n3 z0 z1 z2 z3
                  obtain ⟨r0, r1, r2, r3⟩ := res4 F9.res (.int .i64 12) (.string ⟨#[]⟩) (.int .i64 (nextT ts s).a) (.slice (some ⟨g, 0, none⟩) 3 cp)
                  have HFin := hidW (F9.fin (k := 12) (t := []) (a := (nextT ts s).a) (w := stmtF ts v) hK9 hw2)
                  clear F9 hK9
                  go_wp2
                  refine bodyPost_ret (v := .agg #[.int .i64 12, .string ⟨#[]⟩, .int .i64 (nextT ts s).a, .slice (some ⟨g, 0, none⟩) 3 cp]) (by simp [results, Try.results76, go_sem, r0, r1, r2, r3]) rfl ?_
                  exact HFin.out
  | false =>
    cases q2 : isW ts [102, 111, 114] s with
    | true =>
      have hw : stmtF ts v s = (.mk 13 [] ((nextT ts s).a : Int) [(v.e (adv s)).1, (blockF ts v (v.e (adv s)).2).1], (blockF ts v (v.e (adv s)).2).2) := by unfold stmtF; rw [if_neg (by simp [q1]), if_pos q2]
      go_enter Try.func76, Try.ntmps76
      go_wp2_with fail
      refine hN.mono ?_; rintro e W1 ⟨rfl, hb1⟩
      have F1 := HS.out W1 hb1
      clear HS hN hb1
      have HT := hidW (take_no F1.par q1)
      have HF := hidW F1
      clear F1
      go_wp2_with fail
      refine HT.out.mono ?_; clear HT; rintro e W2 ⟨rfl, p3, t3⟩
      have F2 := HF.out.step p3 t3
      clear HF p3 t3
      have HT := hidW (take_yes F2.par q2)
      have HF := hidW F2
      clear F2
      go_wp2_with fail
      refine HT.out.mono ?_; clear HT; rintro e W2b ⟨rfl, p3, t3⟩
      have F2b := HF.out.step p3 t3
      clear HF p3 t3
      have n0 := cell_of F2b.nod 0
      have m0 := frozen_of F2b.nod 0
      simp only [List.getElem?_toArray, List.getElem?_cons_zero] at n0
      have F3 := F2b.set0 (.int .i64 13)
      clear F2b
      have hD := hidW (HV.out.e (adv s) _ F3.par)
      have HF := hidW F3
      clear F3
      go_wp2_with fail
      refine hD.out.mono ?_; clear hD; rintro e W4 ⟨⟨ck, ct, ca, cav, ccap, cblk, coff, cks⟩, rfl, hlc, hnc, p4, t4⟩
      have F4 := HF.out.step p4 t4
      have hc4 := Lies.mono (base' := W1.heap.size + 1) hlc (lt_of HF.out.nod)
      have hD := hidW (HBL.out _ _ F4.par)
      have HF4 := hidW (And.intro F4 (And.intro hc4 hnc))
      clear HF F4 hc4 hlc hnc p4 t4
      go_wp2_with fail
      refine hD.out.mono ?_; clear hD; rintro e W5 ⟨⟨bk, bt, ba, bav, bcap, bblk, boff, bks⟩, rfl, hlb, hnb, p5, t5⟩
      have F5 := HF4.out.1.step p5 t5
      have hbl1 := F5.ne
      have hbl2 := F5.lt
      have hc5 : Lies (W1.heap.size + 1) W5 (.mk ck ct ca cav ccap cblk coff cks) := HF4.out.2.1.turns t5 (fun b hb _ => by omega)
      have hb5 : Lies (W1.heap.size + 1) W5 (.mk bk bt ba bav bcap bblk boff bks) := Lies.mono hlb (lt_of HF4.out.1.nod)
      have ok6 := own_two hc5 hb5 (lt_of F5.nod)
      have F6 := F5.below (bel_new W5 (.cells #[.int .i64 ck, .string (bs ct), .int .i64 ca, .slice cav cks.length ccap, .int .i64 bk, .string (bs bt), .int .i64 ba, .slice bav bks.length bcap] 24))
      have u3 := cell_of F6.nod 3
      have l3 := frozen_of F6.nod 3
      simp only [List.getElem?_toArray, List.getElem?_cons_zero, List.getElem?_cons_succ] at u3
      have F7 := F6.set3 (.slice (some ⟨W5.heap.size, 0, none⟩) 2 2)
      have ok7 := ok6.turns (turns_p W1.heap.size 3 (.slice (some ⟨W5.heap.size, 0, none⟩) 2 2) _) (fun b hb _ => by omega)
      have hw2 : stmtF ts v s = (Nd.mk 13 [] (nextT ts s).a ([.mk ck ct ca cav ccap cblk coff cks, .mk bk bt ba bav bcap bblk boff bks].map Nv.nd), _) := hw.trans (by rw [List.map_cons, List.map_cons, List.map_nil, HF4.out.2.2, hnb])
      have hK8 := ok7.kids
      clear ok7 ok6 hw F5 hc5 hb5 HF4 hnb hlb p5 t5
      have n0 := cell_of F7.nod 0
      have n1 := cell_of F7.nod 1
      have n2 := cell_of F7.nod 2
      have e3 := cell_of F7.nod 3
      have m0 := frozen_of F7.nod 0
      have m1 := frozen_of F7.nod 1
      have m2 := frozen_of F7.nod 2
      have m3 := frozen_of F7.nod 3
      have z0 := cell_of F7.res 0
      have z1 := cell_of F7.res 1
      have z2 := cell_of F7.res 2
      have z3 := cell_of F7.res 3
      have f0 := frozen_of F7.res 0
      have f1 := frozen_of F7.res 1
      have f2 := frozen_of F7.res 2
      have f3 := frozen_of F7.res 3
      simp only [List.getElem?_toArray, List.getElem?_cons_zero, List.getElem?_cons_succ] at n0 n1 n2 e3 z0 z1 z2 z3
      obtain ⟨r0, r1, r2, r3⟩ := res4 F7.res (.int .i64 13) (.string ⟨#[]⟩) (.int .i64 (nextT ts s).a) (.slice (some ⟨W5.heap.size, 0, none⟩) 2 2)
      have HFin := hidW (F7.fin (k := 13) (t := []) (a := (nextT ts s).a) (w := stmtF ts v) hK8 hw2)
      clear F7 F6 hK8
      go_wp2
      refine bodyPost_ret (v := .agg #[.int .i64 13, .string ⟨#[]⟩, .int .i64 (nextT ts s).a, .slice (some ⟨W5.heap.size, 0, none⟩) 2 2]) (by simp [results, Try.results76, go_sem, r0, r1, r2, r3]) rfl ?_
      exact HFin.out
    | false =>
      have hw : stmtF ts v s = ((lineF ts v s).1, wantS ts [59] (lineF ts v s).2) := by unfold stmtF; rw [if_neg (by simp [q1]), if_neg (by simp [q2])]
      go_enter Try.func76, Try.ntmps76
      go_wp2_with fail
      refine hN.mono ?_; rintro e W1 ⟨rfl, hb1⟩
      have F1 := HS.out W1 hb1
      clear HS hN hb1
      have HT := hidW (take_no F1.par q1)
      have HF := hidW F1
      clear F1
      go_wp2_with fail
      refine HT.out.mono ?_; clear HT; rintro e W2 ⟨rfl, p3, t3⟩
      have F2 := HF.out.step p3 t3
      clear HF p3 t3
      have HT := hidW (take_no F2.par q2)
      have HF := hidW F2
      clear F2
      go_wp2_with fail
      refine HT.out.mono ?_; clear HT; rintro e W3 ⟨rfl, p3, t3⟩
      have F3 := HF.out.step p3 t3
      clear HF p3 t3
      have hne := F3.ne
      have hlt := F3.lt
      have hD := hidW (line_is HV.out (⟨F3.par, F3.nod, Turns.refl _ _, by omega, fun h0 => by have := F3.bk h0; omega, lt_of F3.nod⟩ : Nx W3 P av cap blk off ts s r W1.heap.size _ _ _ _ W3))
      have HF := hidW F3
      clear F3
      go_wp2_with fail
      refine hD.out.mono ?_; clear hD; rintro e W4 ⟨rfl, k, t, a, nav, ncap, nblk, noff, ks, N4, hl4, hn4⟩
      have F4 : Fr W P av cap blk off ts (lineF ts v s).2 r W1.heap.size (.int .i64 k) (.string (bs t)) (.int .i64 a) (.slice nav ks.length ncap) W4 := ⟨N4.par, (N4.tur.block _ (lt_of HF.out.res) (by omega)).trans HF.out.res, N4.nod, ⟨N4.tur.os.trans HF.out.tur.os, N4.tur.tape.trans HF.out.tur.tape, N4.tur.output.trans HF.out.tur.output, Nat.le_trans HF.out.tur.size N4.tur.size, fun b hb hq => (N4.tur.block b (Nat.lt_of_lt_of_le hb HF.out.tur.size) (by omega)).trans (HF.out.tur.block b hb hq)⟩, HF.out.lt, HF.out.ne, HF.out.bk⟩
      have hl5 : LiesD (DK W W1.heap.size) W4 (.mk k t a nav ncap nblk noff ks) := hl4.mono (fun b hb _ => by have := lt_of HF.out.nod; exact ⟨by omega, by omega⟩)
      have hT := hidW (want_is F4.par [59])
      have HF4 := hidW (And.intro F4 (And.intro hl5 hn4))
      clear F4 hl5 hl4 hn4 N4 HF
      go_wp2_with fail
      refine hT.out.mono ?_; clear hT; rintro e W5 ⟨rfl, p5, t5⟩
      have F5 := HF4.out.1.step p5 t5
      have hl6 := HF4.out.2.1.turns t5 (fun b hb _ => by have := hb.1; omega)
      have hw2 : stmtF ts v s = ((Nv.mk k t a nav ncap nblk noff ks).nd, wantS ts [59] (lineF ts v s).2) := hw.trans (by rw [HF4.out.2.2])
      have n0 := cell_of F5.nod 0
      have n1 := cell_of F5.nod 1
      have n2 := cell_of F5.nod 2
      have n3 := cell_of F5.nod 3
      have m0 := frozen_of F5.nod 0
      have m1 := frozen_of F5.nod 1
      have m2 := frozen_of F5.nod 2
      have m3 := frozen_of F5.nod 3
      have z0 := cell_of F5.res 0
      have z1 := cell_of F5.res 1
      have z2 := cell_of F5.res 2
      have z3 := cell_of F5.res 3
      have f0 := frozen_of F5.res 0
      have f1 := frozen_of F5.res 1
      have f2 := frozen_of F5.res 2
      have f3 := frozen_of F5.res 3
      simp only [List.getElem?_toArray, List.getElem?_cons_zero, List.getElem?_cons_succ] at n0 n1 n2 n3 z0 z1 z2 z3
      obtain ⟨r0, r1, r2, r3⟩ := res4 F5.res (.int .i64 k) (.string (bs t)) (.int .i64 a) (.slice nav ks.length ncap)
      have HFin := hidW (F5.finD hl6 hw2)
      clear F5 hl6 p5 t5 HF4
      go_wp2
      refine bodyPost_ret (v := .agg #[.int .i64 k, .string (bs t), .int .i64 a, .slice nav ks.length ncap]) (by simp [results, Try.results76, go_sem, r0, r1, r2, r3]) rfl ?_
      exact HFin.out

end Go.Proofs.Ytgndnodahlabiaa
