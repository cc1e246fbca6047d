/-
  Blocks (layer 10): the contract of the parser's block.
-/
import Derived.Test.YtgndnodahlabiaaMgG
import Derived.Test.YtgndnodahlabiaaMgA
namespace Go.Proofs.Ytgndnodahlabiaa
open Go.ChangeShapes Go.WideShapes Go.ChangeAt Go.RowKit

/-- How much is left, by the parser's own cells. -/
def muOf (P n : Nat) (W : World) : Nat := leftOf P n W + (match W.cell? ⟨P, 3, none⟩ with
  | some (.int _ z) => if z = 0 then 1 else 0
  | _ => 0)
theorem muOf_is {W : World} {P : Nat} {av : Option Addr} {cap blk off : Nat} {ts : List Tok} {s : St} {r : Nat} (h : ParAt W P av cap blk off ts s r) : muOf P ts.length W = mu ts s := by
  unfold muOf mu
  rw [leftOf_is h, h.cell.2.2.2]
  have : (((s.er : Int)) = 0) = (s.er = 0) := by rw [eq_iff_iff]; omega
  simp only [this]
theorem FrOwn {W0 W W5 : World} {P : Nat} {av : Option Addr} {cap blk off : Nat} {ts : List Tok} {s s5 : St} {r b1 : Nat} {x0 x1 x2 kv : Value} {ks : List Nv} (F : Fr W0 P av cap blk off ts s r b1 x0 x1 x2 kv W) (ok : OwnK (b1 + 1) W kv ks) (hks : ks.length ≤ 10000000)
    (p5 : ParAt W5 P av cap blk off ts s5 r) (t5 : Turns (fun b => b = P) W W5) (n : Nv) (hl : Lies W.heap.size W5 n) :
    ∃ g cp W6, (Builtin.append_ #[22, 22] 22 #[kv, .slice (some ⟨W5.heap.size, 0, none⟩) 1 1]).run Try.prog (W5.alloc (.cells n.cs.toArray 24)) = .ok (.slice (some ⟨g, 0, none⟩) (ks.length + 1) cp) W6 ∧ Fr W0 P av cap blk off ts s5 r b1 x0 x1 x2 kv W6 ∧
      Fr W0 P av cap blk off ts s5 r b1 x0 x1 x2 (.slice (some ⟨g, 0, none⟩) (ks.length + 1) cp) (W6.setCell ⟨b1, 3, none⟩ (.slice (some ⟨g, 0, none⟩) (ks.length + 1) cp)) ∧
      OwnK (b1 + 1) (W6.setCell ⟨b1, 3, none⟩ (.slice (some ⟨g, 0, none⟩) (ks.length + 1) cp)) (.slice (some ⟨g, 0, none⟩) (ks.length + 1) cp) (ks ++ [n]) := by
  have hb := F.lt
  have hn := F.ne
  have hlt := lt_of F.nod
  have F5 := F.step p5 t5
  have ok5 := ok.turns t5 (fun b hb _ e => by omega)
  obtain ⟨g, cp, W6, hap, ok6, t6⟩ := own_more ok5 n hl (fun c hc => (ok.own.lt c hc).2) hlt hks (by have := t5.size; omega)
  have hkv := fun c hc => ok5.own.lt c hc
  have p6 := p5.turns2 t6 (fun e => by have := (hkv P e).1; omega) (fun h0 e => by have := (hkv blk e).1; have := F.bk h0; omega)
  have r6 := (t6.block _ (lt_of F5.res) (fun e => by have := (hkv _ e).1; omega)).trans F5.res
  have n6 := (t6.block _ (lt_of F5.nod) (fun e => by have := (hkv _ e).1; omega)).trans F5.nod
  have tt : Turns (fun b => b = P) W0 W6 := ⟨t6.os.trans F5.tur.os, t6.tape.trans F5.tur.tape, t6.output.trans F5.tur.output, Nat.le_trans F5.tur.size t6.size, fun b hb hq => (t6.block b (Nat.lt_of_lt_of_le hb F5.tur.size) (fun e => by have := (hkv b e).1; omega)).trans (F5.tur.block b hb hq)⟩
  have F6 : Fr W0 P av cap blk off ts s5 r b1 x0 x1 x2 kv W6 := ⟨p6, r6, n6, tt, hb, hn, F.bk⟩
  exact ⟨g, cp, W6, hap, F6, F6.set3 _, ok6.turns (turns_p b1 3 _ _) (fun b hb _ => by omega)⟩

set_option maxRecDepth 100000 in
set_option maxHeartbeats 8000000 in
theorem block_is {W : World} {P : Nat} {av : Option Addr} {cap blk off : Nat} {ts : List Tok} {s : St} {r : Nat} {v : Lv} (hv : Deep P av cap blk off ts r v) (hg : GoodV ts v) (hk : AdvV v) (h : ParAt W P av cap blk off ts s r) :
    Calls Try.prog 62 #[.pointer (some ⟨P, 0, none⟩)] W (PaAns P av cap blk off ts r (blockF ts v) s W) := by
  have hN := node_is (h.below (bel_new W (.cells #[.int .i64 0, .string ⟨#[]⟩, .int .i64 0, .slice none 0 0] 24))) 9
  have hS : ∀ W1, _ → _ := fun W1 hb => Fr.start (W1 := W1) h hb 9 (nextT ts s).a
  have HS := hidW hS
  have HV := hidW hv
  have HG := hidW hg
  have HK := hidW hk
  have hlen0 := h.len
  clear h hS hv hg hk
  generalize hMM : loopB ts v (left ts (wantS ts [123] s) + 2) [] (wantS ts [123] s) = MM
  have HMM := hidW hMM
  clear hMM
  go_enter Try.func62, Try.ntmps62
  go_wp2_with fail
  refine hN.mono ?_; rintro e W1 ⟨rfl, hb1⟩
  have F1 := HS.out W1 hb1
  clear HS hN hb1
  have HT := hidW (want_is F1.par [123])
  have HF := hidW F1
  clear F1
  go_wp2_with fail
  refine HT.out.mono ?_; clear HT; rintro e W3 ⟨rfl, p3, t3⟩
  have F3 := HF.out.step p3 t3
  have hML : Hid (∃ (ks : List Nv) (s1 : St) (m : Nat) (kv : Value), Fr W P av cap blk off ts s1 r W1.heap.size (.int .i64 9) (.string ⟨#[]⟩) (.int .i64 (nextT ts s).a) kv W3 ∧ OwnK (W1.heap.size + 1) W3 kv ks ∧ loopB ts v m (ks.map Nv.nd) s1 = MM ∧ mu ts s1 < m ∧ ks.length + mu ts s1 ≤ ts.length + 1) :=
    ⟨[], _, _, _, F3, own_nil _ _, HMM.out, by have := mu_le ts (wantS ts [123] s); omega, by have := mu_le ts (wantS ts [123] s); unfold left at this; simp; omega⟩
  clear HF p3 t3 F3
  go_wp2_with fail
  go_loopw [] (fun wr => ∃ (ks : List Nv) (s1 : St) (m : Nat) (kv : Value), Fr W P av cap blk off ts s1 r W1.heap.size (.int .i64 9) (.string ⟨#[]⟩) (.int .i64 (nextT ts s).a) kv wr ∧ OwnK (W1.heap.size + 1) wr kv ks ∧ loopB ts v m (ks.map Nv.nd) s1 = MM ∧ mu ts s1 < m ∧ ks.length + mu ts s1 ≤ ts.length + 1) (fun wr => muOf P ts.length wr)
  case atStart => exact hML.out
  case round =>
    clear hML
    obtain ⟨ks, s1, m, kv, F, ok, hmm, hfu, hlen⟩ := hrel
    have hmu := muOf_is F.par
    have hbl := F.lt
    have hbn := F.ne
    have hpl := F.par.pl
    obtain ⟨c0, c1, c2, c3⟩ := F.par.cell
    obtain ⟨m', rfl⟩ : ∃ m', m = m' + 1 := ⟨m - 1, by omega⟩
    by_cases he : s1.er = 0
    · have e1 : ((s1.er : Int) == 0) = true := by simp [he]
      cases q1 : isW ts [125] s1 with
      | true =>
        have hMM : MM = (ks.map Nv.nd, adv s1) := by rw [← hmm, loopB, if_pos he, if_pos q1]
        have hw : blockF ts v s = (.mk 9 [] ((nextT ts s).a : Int) (ks.map Nv.nd), adv s1) := by
          show (Nd.mk 9 [] _ (loopB ts v (left ts (wantS ts [123] s) + 2) [] (wantS ts [123] s)).1, (loopB ts v (left ts (wantS ts [123] s) + 2) [] (wantS ts [123] s)).2) = _
          rw [HMM.out, hMM]
        have hT := hidW (take_yes F.par q1)
        have HF := hidW F
        have HO := hidW ok
        clear F ok hmm hfu hlen he hmu q1 hMM hpl
        go_wp2_with fail
        refine hT.out.mono ?_; clear hT; rintro e W4 ⟨rfl, p4, t4⟩
        have F4 := HF.out.step p4 t4
        have hK := (HO.out.turns t4 (fun b hb _ e => by omega)).kids
        obtain ⟨kav, kcap, kblk, koff, rfl, k1, k2, kc⟩ := hK.ex
        have n0 := cell_of F4.nod 0
        have n1 := cell_of F4.nod 1
        have n2 := cell_of F4.nod 2
        have n3 := cell_of F4.nod 3
        have m0 := frozen_of F4.nod 0
        have m1 := frozen_of F4.nod 1
        have m2 := frozen_of F4.nod 2
        have m3 := frozen_of F4.nod 3
        have z0 := cell_of F4.res 0
        have z1 := cell_of F4.res 1
        have z2 := cell_of F4.res 2
        have z3 := cell_of F4.res 3
        have f0 := frozen_of F4.res 0
        have f1 := frozen_of F4.res 1
        have f2 := frozen_of F4.res 2
        have f3 := frozen_of F4.res 3
        simp only [List.getElem?_toArray, List.getElem?_cons_zero, List.getElem?_cons_succ] at n0 n1 n2 n3 z0 z1 z2 z3
        obtain ⟨r0, r1, r2, r3⟩ := res4 F4.res (.int .i64 9) (.string ⟨#[]⟩) (.int .i64 (nextT ts s).a) (.slice kav ks.length kcap)
        have HFin := hidW (F4.fin (k := 9) (t := []) (a := (nextT ts s).a) (w := blockF ts v) ⟨kav, kcap, kblk, koff, rfl, k1, k2, kc⟩ hw)
        clear F4 p4 t4 HF HO k1 k2
        go_wp2
        refine bodyPost_ret (v := .agg #[.int .i64 9, .string ⟨#[]⟩, .int .i64 (nextT ts s).a, .slice kav ks.length kcap]) (by simp [results, Try.results62, go_sem, r0, r1, r2, r3]) rfl ?_
        exact HFin.out
      | false =>
        have hmm2 : loopB ts v m' (ks.map Nv.nd ++ [(v.s s1).1]) (v.s s1).2 = MM := by
          rw [loopB, if_pos he, if_neg (by simp [q1])] at hmm
          exact hmm
        have hml := mu_lt (HG.out.s s1) (HK.out.s s1) he hpl
        have hT := hidW (take_no F.par q1)
        have HF := hidW F
        have HH := hidW (And.intro ok (And.intro hmm2 (And.intro hfu (And.intro hlen (And.intro hml hmu)))))
        clear F ok hmm hmm2 hfu hlen he q1 hpl hml hmu
        go_wp2_with fail
        refine hT.out.mono ?_; clear hT; rintro e W3 ⟨rfl, p3, t3⟩
        have ok3 := HH.out.1.turns t3 (fun b hb _ e => by omega)
        have F3 := HF.out.step p3 t3
        have Fd := F3.step (p3.below (bel_d W3)) (turns_b (bel_d W3))
        have okd := ok3.turns (turns_b (Q := fun _ => False) (bel_d W3)) (fun _ _ _ h => h)
        have n3 := cell_of Fd.nod 3
        simp only [List.getElem?_toArray, List.getElem?_cons_zero, List.getElem?_cons_succ] at n3
        have hD := hidW (HV.out.s s1 _ Fd.par)
        have HFd := hidW (And.intro Fd okd)
        clear F3 ok3 Fd okd p3 t3 HF c0 c1 c2 c3 e1
        go_wp2_with fail
        refine region_late (fun V => V.cell? ⟨W1.heap.size, 3, none⟩ = some kv) 9 (by kernel_rfl) ?_
        have hHeld : W3.drew.cell? ⟨W1.heap.size, 3, none⟩ = some kv := n3
        refine anyL_take (i := 0) (v := ?_) rfl (by kernel_rfl) (by kernel_rfl) (by kernel_rfl) (by kernel_rfl) (fun _ _ _ h => h) (Or.inl ⟨by rfl, ?_⟩) hHeld ?_
        rotate_left 1
        · intro w hSw; (try dsimp only at hSw); go_simp; try with_reducible rfl
        refine anyL_take (i := 1) (v := ?_) rfl (by kernel_rfl) (by kernel_rfl) (by kernel_rfl) (by kernel_rfl) (fun _ _ _ h => h) (Or.inl ⟨by rfl, ?_⟩) hHeld ?_
        rotate_left 1
        · intro w hSw; (try dsimp only at hSw); go_simp; try with_reducible rfl
        refine anyL_take (i := 2) (v := ?_) rfl (by kernel_rfl) (by kernel_rfl) (by kernel_rfl) (by kernel_rfl) (fun _ _ _ h => h) (Or.inl ⟨by rfl, ?_⟩) hHeld ?_
        rotate_left 1
        · intro w hSw; (try dsimp only at hSw); go_simp; try with_reducible rfl
        refine anyL_take (i := 3) (v := ?_) rfl (by kernel_rfl) (by kernel_rfl) (by kernel_rfl) (by kernel_rfl) (fun _ _ _ h => h) (Or.inl ⟨by rfl, ?_⟩) hHeld ?_
        rotate_left 1
        · intro w hSw; (try dsimp only at hSw); go_simp; try with_reducible rfl
        refine anyL_take (i := 4) (v := ?_) rfl (by kernel_rfl) (by kernel_rfl) (by kernel_rfl) (by kernel_rfl) (fun _ _ _ h => h) (Or.inl ⟨by rfl, ?_⟩) hHeld ?_
        rotate_left 1
        · intro w hSw; (try dsimp only at hSw); go_simp; try with_reducible rfl
        refine anyL_ready (rs := [5]) (by kernel_rfl) (by simp) (ReadyL.cons rfl (fun K hK => ?_) (ReadyL.nil))
        · go_simp
          refine hD.out.mono ?_
          rintro e W5 ⟨⟨mk, mt, ma, mav, mcap, mblk, moff, mks⟩, rfl, hl5, hn5, p5, t5⟩
          have F5 := HFd.out.1.step p5 t5
          obtain ⟨gg, gc, W6, hap, F6, F7, ok7⟩ := FrOwn HFd.out.1 HFd.out.2 (by have := HH.out.2.2.2.1; omega) p5 t5 _ hl5
          have FA := F5.below (bel_new W5 (.cells #[.int .i64 mk, .string (bs mt), .int .i64 ma, .slice mav mks.length mcap] 24))
          have c3 := cell_of F5.nod 3
          have u3 := cell_of FA.nod 3
          have w3 := cell_of F6.nod 3
          have l3 := frozen_of F6.nod 3
          simp only [List.getElem?_toArray, List.getElem?_cons_zero, List.getElem?_cons_succ] at c3 u3 w3
          have HAP := hidW hap
          have HF7 := hidW (And.intro F7 (And.intro ok7 hn5))
          clear F5 F6 F7 FA hl5 hn5 p5 t5 hap ok7
          go_wp2_with fail
          refine hK.out _ _ (c3) (fun hHeld => ?_)
          clear hK K
          refine anyL_ready (rs := [6]) (by kernel_rfl) (by simp) (ReadyL.cons rfl (fun K hK => ?_) (ReadyL.nil))
          · go_simp
            refine hK.out _ _ (u3) (fun hHeld => ?_)
            clear hK K
            refine anyL_ready (rs := [7]) (by kernel_rfl) (by simp) (ReadyL.cons rfl (fun K hK => ?_) (ReadyL.nil))
            · refine step_append rfl (.tmp 19) (.tmp 24) 22 rfl rfl rfl HAP.out ?_
              refine hK.out _ _ (w3) (fun hHeld => ?_)
              clear hK K
              refine anyL_take (i := 8) (v := ?_) rfl (by kernel_rfl) (by kernel_rfl) (by kernel_rfl) (by kernel_rfl) (fun _ _ _ h => h) (Or.inl ⟨by rfl, ?_⟩) hHeld ?_
              rotate_left 1
              · intro w hSw; (try dsimp only at hSw); go_simp; try with_reducible rfl
              refine anyL_ready (rs := [9]) (by kernel_rfl) (by simp) (ReadyL.late rfl (by kernel_rfl) (fun K hK => ?_) (ReadyL.nil))
              · go_simp
                refine hK.out _ _ ?_
                clear hK K
                refine anyL_done (by kernel_rfl) ?_ _
                have hlo7 := hidW (muOf_is HF7.out.1.par)
                go_wp2_with fail
                go_roundw
                case rel =>
                  refine ⟨_, _, m', _, HF7.out.1, HF7.out.2.1, ?_, ?_, ?_⟩
                  · rw [List.map_append, List.map_cons, List.map_nil, HF7.out.2.2]; exact HH.out.2.1
                  · have := HH.out.2.2.1; have := HH.out.2.2.2.2.1; omega
                  · have := HH.out.2.2.2.1; have := HH.out.2.2.2.2.1; rw [List.length_append]; simp; omega
                case measure => exact Nat.lt_of_le_of_lt (Nat.le_of_eq hlo7.out) (by rw [HH.out.2.2.2.2.2]; exact HH.out.2.2.2.2.1)
    · have e1 : ((s1.er : Int) == 0) = false := by simp [he]
      have hMM : MM = (ks.map Nv.nd, s1) := by rw [← hmm, loopB, if_neg he]
      have hw : blockF ts v s = (.mk 9 [] ((nextT ts s).a : Int) (ks.map Nv.nd), s1) := by
        show (Nd.mk 9 [] _ (loopB ts v (left ts (wantS ts [123] s) + 2) [] (wantS ts [123] s)).1, (loopB ts v (left ts (wantS ts [123] s) + 2) [] (wantS ts [123] s)).2) = _
        rw [HMM.out, hMM]
      have hK := ok.kids
      obtain ⟨kav, kcap, kblk, koff, rfl, k1, k2, kc⟩ := hK.ex
      have n0 := cell_of F.nod 0
      have n1 := cell_of F.nod 1
      have n2 := cell_of F.nod 2
      have n3 := cell_of F.nod 3
      have m0 := frozen_of F.nod 0
      have m1 := frozen_of F.nod 1
      have m2 := frozen_of F.nod 2
      have m3 := frozen_of F.nod 3
      have z0 := cell_of F.res 0
      have z1 := cell_of F.res 1
      have z2 := cell_of F.res 2
      have z3 := cell_of F.res 3
      have f0 := frozen_of F.res 0
      have f1 := frozen_of F.res 1
      have f2 := frozen_of F.res 2
      have f3 := frozen_of F.res 3
      simp only [List.getElem?_toArray, List.getElem?_cons_zero, List.getElem?_cons_succ] at n0 n1 n2 n3 z0 z1 z2 z3
      obtain ⟨r0, r1, r2, r3⟩ := res4 F.res (.int .i64 9) (.string ⟨#[]⟩) (.int .i64 (nextT ts s).a) (.slice kav ks.length kcap)
      have HFin := hidW (F.fin (k := 9) (t := []) (a := (nextT ts s).a) (w := blockF ts v) ⟨kav, kcap, kblk, koff, rfl, k1, k2, kc⟩ hw)
      clear F ok k1 k2
      go_wp2
      refine bodyPost_ret (v := .agg #[.int .i64 9, .string ⟨#[]⟩, .int .i64 (nextT ts s).a, .slice kav ks.length kcap]) (by simp [results, Try.results62, go_sem, r0, r1, r2, r3]) rfl ?_
      exact HFin.out

end Go.Proofs.Ytgndnodahlabiaa
