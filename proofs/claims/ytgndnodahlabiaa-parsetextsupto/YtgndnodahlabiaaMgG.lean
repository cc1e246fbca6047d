/-
  What stands with signs between (layer 10): the contracts of the parser's joined, product, sum, expression.
  Products, sums, expressions (layer 10): the contracts.
-/
import Derived.Test.YtgndnodahlabiaaPsN

/- What stands with signs between (layer 10): the contracts of the parser's joined, product, sum, expression. -/
namespace Go.Proofs.Ytgndnodahlabiaa
open Go.ChangeShapes Go.WideShapes Go.ChangeAt Go.RowKit

set_option maxRecDepth 100000 in
set_option maxHeartbeats 8000000 in
theorem joined_is {W : World} {P : Nat} {av : Option Addr} {cap blk off : Nat} {ts : List Tok} {s : St} {r : Nat} {g : Value} {w : Pa} (h : ParAt W P av cap blk off ts s r) (hf : FnV P av cap blk off ts r g w (fun _ => True)) (sav : Option Addr) (scap b : Nat) (sg : List (List UInt8)) (hs : StrRow W sav b sg) (hsb : b ≠ P) (hsl : sg.length ≤ 100) :
    Calls Try.prog 84 #[.pointer (some ⟨P, 0, none⟩), g, .slice sav sg.length scap] W (PaAns P av cap blk off ts r (joinS ts w sg) s W) := by
  obtain ⟨K0, ma0, cl0, rfl, hcf, hcall⟩ := hf.ex
  have HCALL := hidW hcall
  have HG := hidW hf.good
  have B0 := Bx0.start h
  have H1 := hidW (hcall s _ B0.par trivial)
  have HB0 := hidW B0
  have HS := hidW hs
  have HCON := hidW (fun (V : World) (s' : St) (hp : ParAt V P av cap blk off ts s' r) (hv : StrRow V sav b sg) => contains_is hp sav scap b sg hv hsl)
  clear h B0 hf hcall hs
  generalize hMM : loopJ ts w sg (left ts (w s).2) (w s).1 (w s).2 = MM
  have HMM := hidW hMM
  clear hMM
  generalize hsn : sg.length = sn at *
  clear hsn hsl
  go_enter Try.func84, Try.ntmps84
  go_wp2_with fail
  refine H1.out.mono ?_; clear H1; rintro e W1 ⟨⟨nk, nt, na, nav, ncap, nblk, noff, nks⟩, rfl, hl, hn, p1, t1⟩
  have B1 := HB0.out.step p1 t1
  have F1 := B1.fr (.int .i64 nk) (.string (bs nt)) (.int .i64 na) (.slice nav nks.length ncap)
  have hML : Hid (∃ (n : Nv) (s1 : St) (m : Nat), FrN W P av cap blk off ts s1 r W1.heap.size n (W1.alloc (.cells #[.int .i64 nk, .string (bs nt), .int .i64 na, .slice nav nks.length ncap] 24)) ∧ loopJ ts w sg m n.nd s1 = MM ∧ left ts s1 ≤ m) := by
    refine ⟨.mk nk nt na nav ncap nblk noff nks, (w s).2, _, ⟨fun k' t' a' nav' ncap' nblk' noff' ks' e => ?_, ?_⟩, ?_, Nat.le_refl _⟩
    · cases e; exact F1
    · refine LiesD.turns (LiesD.mono hl (fun b hb hb2 => ?_)) (Turns.alloc (fun _ => False) _ _) (fun _ _ _ h => h)
      have h1 : (W.alloc (.cells #[.int .i64 0, .string ⟨#[]⟩, .int .i64 0, .slice none 0 0] 24)).heap.size ≤ b := hb
      rw [World.size_alloc] at h1
      exact ⟨by omega, by omega⟩
    · rw [hn]; exact HMM.out
  clear hl hn p1 t1 B1 F1 HB0
  go_wp2_with fail
  go_loopw [] (fun wr => ∃ (n : Nv) (s1 : St) (m : Nat), FrN W P av cap blk off ts s1 r W1.heap.size n wr ∧ loopJ ts w sg m n.nd s1 = MM ∧ left ts s1 ≤ m) (fun wr => leftOf P ts.length wr)
  case atStart => exact hML.out
  case round =>
    clear hML
    obtain ⟨⟨k, t, a, nav, ncap, nblk, noff, ks⟩, s1, m, FN, hmm, hfu⟩ := hrel
    have F := FN.fr _ _ _ _ _ _ _ _ rfl
    have hlo := leftOf_is F.par
    have hbl := F.lt
    have hbn := F.ne
    have hpl := F.par.pl
    have hC := HCON.out wr s1 F.par (HS.out.turns F.tur (fun _ => hsb))
    cases q1 : anyW ts sg s1 with
    | true =>
      rw [q1] at hC
      have HC := hidW hC
      have hat := anyW_at q1
      obtain ⟨_, hp1⟩ := anyW_at q1
      have hla := left_adv (ts := ts) (a := s1) (by omega)
      obtain ⟨m', rfl⟩ : ∃ m', m = m' + 1 := ⟨m - 1, by omega⟩
      have hmm2 : loopJ ts w sg m' (.mk 19 (nextT ts s1).t a [(Nv.mk k t a nav ncap nblk noff ks).nd, (w (adv s1)).1]) (w (adv s1)).2 = MM := by
        rw [loopJ, if_pos q1, show (Nv.mk k t a nav ncap nblk noff ks).nd.a = a by rw [nd_mk]; rfl] at hmm
        exact hmm
      have hfu2 : left ts (w (adv s1)).2 ≤ m' ∧ left ts (w (adv s1)).2 < left ts s1 := by
        have := left_le (HG.out (adv s1))
        omega
      have HH := hidW (And.intro FN (And.intro hmm2 (And.intro hfu2 hlo)))
      have HAT := hidW hat
      clear FN F hmm hfu hmm2 hfu2 hpl hp1 q1 hla hlo hC hat
      go_wp2_with fail
      refine HC.out.mono ?_; clear HC; rintro e W2 ⟨rfl, hb2⟩
      have FN2 := HH.out.1.step ((HH.out.1.fr _ _ _ _ _ _ _ _ rfl).par.below hb2) (turns_b hb2)
      have hT := hidW (text_is (FN2.fr _ _ _ _ _ _ _ _ rfl).par HAT.out)
      have HFN2 := hidW FN2
      clear FN2 hb2 HAT
      go_wp2_with fail
      refine hT.out.mono ?_; clear hT; rintro e W3 ⟨rfl, p3, t3⟩
      have FN3 := HFN2.out.step p3 t3
      have FNd := FN3.step (p3.below (bel_d W3)) (turns_b (bel_d W3))
      have Fd := FNd.fr _ _ _ _ _ _ _ _ rfl
      have hD := hidW (HCALL.out (adv s1) _ Fd.par trivial)
      have n0 := cell_of Fd.nod 0
      have n1 := cell_of Fd.nod 1
      have n2 := cell_of Fd.nod 2
      have n3 := cell_of Fd.nod 3
      have m0 := frozen_of Fd.nod 0
      have m1 := frozen_of Fd.nod 1
      have m2 := frozen_of Fd.nod 2
      have m3 := frozen_of Fd.nod 3
      simp only [List.getElem?_toArray, List.getElem?_cons_zero, List.getElem?_cons_succ] at n0 n1 n2 n3
      have HFd := hidW FNd
      clear FN3 FNd Fd p3 t3 HFN2
      generalize hTX : (nextT ts s1).t = TX at *
      clear hTX
      go_wp2_with fail
      refine region_late (fun V => V.cell? ⟨W1.heap.size, 0, none⟩ = some (.int .i64 k) ∧ V.cell? ⟨W1.heap.size, 1, none⟩ = some (.string (bs t)) ∧ V.cell? ⟨W1.heap.size, 2, none⟩ = some (.int .i64 a) ∧ V.cell? ⟨W1.heap.size, 3, none⟩ = some (.slice nav ks.length ncap)) 8 (by kernel_rfl) ?_
      have hHeld : W3.drew.cell? ⟨W1.heap.size, 0, none⟩ = some (.int .i64 k) ∧ W3.drew.cell? ⟨W1.heap.size, 1, none⟩ = some (.string (bs t)) ∧ W3.drew.cell? ⟨W1.heap.size, 2, none⟩ = some (.int .i64 a) ∧ W3.drew.cell? ⟨W1.heap.size, 3, none⟩ = some (.slice nav ks.length ncap) := ⟨n0, n1, n2, n3⟩
      refine anyL_take (i := 0) (v := ?_) rfl (by kernel_rfl) (by kernel_rfl) (by kernel_rfl) (by kernel_rfl) (fun _ _ _ h => h) (Or.inl ⟨by rfl, ?_⟩) hHeld ?_
      rotate_left 1
      · intro w hSw; (try dsimp only at hSw); go_simp; try with_reducible rfl
      refine anyL_take (i := 1) (v := ?_) rfl (by kernel_rfl) (by kernel_rfl) (by kernel_rfl) (by kernel_rfl) (fun _ _ _ h => h) (Or.inl ⟨by rfl, ?_⟩) hHeld ?_
      rotate_left 1
      · intro w hSw; (try dsimp only at hSw); go_simp; try with_reducible rfl
      refine anyL_take (i := 2) (v := ?_) rfl (by kernel_rfl) (by kernel_rfl) (by kernel_rfl) (by kernel_rfl) (fun _ _ _ h => h) (Or.inl ⟨by rfl, ?_⟩) hHeld ?_
      rotate_left 1
      · intro w hSw; (try dsimp only at hSw); go_simp; try with_reducible rfl
      refine anyL_take (i := 3) (v := ?_) rfl (by kernel_rfl) (by kernel_rfl) (by kernel_rfl) (by kernel_rfl) (fun _ _ _ h => h) (Or.inl ⟨by rfl, ?_⟩) hHeld ?_
      rotate_left 1
      · intro w hSw; (try dsimp only at hSw); go_simp; try with_reducible rfl
      refine anyL_take (i := 4) (v := ?_) rfl (by kernel_rfl) (by kernel_rfl) (by kernel_rfl) (by kernel_rfl) (fun _ _ _ h => h) (Or.inl ⟨by rfl, ?_⟩) hHeld ?_
      rotate_left 1
      · intro w hSw; (try dsimp only at hSw); go_simp; try with_reducible rfl
      refine anyL_ready (rs := [5]) (by kernel_rfl) (by simp) (ReadyL.cons rfl (fun K hK => ?_) (ReadyL.nil))
      · go_simp
        refine hD.out.mono ?_
        rintro e W5 ⟨⟨mk, mt, ma, mav, mcap, mblk, moff, mks⟩, rfl, hl5, hn5, p5, t5⟩
        have FN7 := FrN.bin HFd.out p5 t5 hl5 19 TX
        have F5 := (HFd.out.fr _ _ _ _ _ _ _ _ rfl).step p5 t5
        have F6 := F5.below (bel_new W5 (.cells #[.int .i64 k, .string (bs t), .int .i64 a, .slice nav ks.length ncap, .int .i64 mk, .string (bs mt), .int .i64 ma, .slice mav mks.length mcap] 24))
        have c0 := cell_of F5.nod 0
        have c1 := cell_of F5.nod 1
        have c2 := cell_of F5.nod 2
        have c3 := cell_of F5.nod 3
        have u0 := cell_of F6.nod 0
        have u1 := cell_of F6.nod 1
        have u2 := cell_of F6.nod 2
        have u3 := cell_of F6.nod 3
        have l0 := frozen_of F6.nod 0
        have l1 := frozen_of F6.nod 1
        have l2 := frozen_of F6.nod 2
        have l3 := frozen_of F6.nod 3
        simp only [List.getElem?_toArray, List.getElem?_cons_zero, List.getElem?_cons_succ] at c0 c1 c2 c3 u0 u1 u2 u3
        have HFN7 := hidW FN7
        have HN5 := hidW hn5
        clear FN7 F5 F6 hl5 hn5 p5 t5
        go_wp2_with fail
        refine hK.out _ _ (⟨c0, c1, c2, c3⟩) (fun hHeld => ?_)
        clear hK K
        refine anyL_ready (rs := [6]) (by kernel_rfl) (by simp) (ReadyL.cons rfl (fun K hK => ?_) (ReadyL.nil))
        · go_simp
          refine hK.out _ _ (⟨u0, u1, u2, u3⟩) (fun hHeld => ?_)
          clear hK K
          refine anyL_take (i := 7) (v := ?_) rfl (by kernel_rfl) (by kernel_rfl) (by kernel_rfl) (by kernel_rfl) (fun _ _ _ h => h) (Or.inl ⟨by rfl, ?_⟩) hHeld ?_
          rotate_left 1
          · intro w hSw; (try dsimp only at hSw); go_simp; try with_reducible rfl
          refine anyL_ready (rs := [8]) (by kernel_rfl) (by simp) (ReadyL.late rfl (by kernel_rfl) (fun K hK => ?_) (ReadyL.nil))
          · go_simp
            refine hK.out _ _ ?_
            clear hK K
            refine anyL_done (by kernel_rfl) ?_ _
            have hlo7 := hidW (leftOf_is (HFN7.out.fr _ _ _ _ _ _ _ _ rfl).par)
            go_wp2_with fail
            go_roundw
            case rel => exact ⟨_, _, m', HFN7.out, by rw [nd_mk]; simp only [List.map_cons, List.map_nil]; rw [HN5.out]; exact HH.out.2.1, HH.out.2.2.1.1⟩
            case measure => exact Nat.lt_of_le_of_lt (Nat.le_of_eq hlo7.out) (by rw [HH.out.2.2.2]; exact HH.out.2.2.1.2)
    | false =>
      rw [q1] at hC
      have HC := hidW hC
      have hMM : MM = ((Nv.mk k t a nav ncap nblk noff ks).nd, s1) := by
        rw [← hmm]
        cases m with
        | zero => rfl
        | succ m => rw [loopJ, if_neg (by simp [q1])]
      have hw : joinS ts w sg s = ((Nv.mk k t a nav ncap nblk noff ks).nd, s1) := HMM.out.trans hMM
      have HFN := hidW FN
      clear FN F hmm hfu hpl q1 hlo hMM hC
      go_wp2_with fail
      refine HC.out.mono ?_; clear HC; rintro e W3 ⟨rfl, hb2⟩
      have FN3 := HFN.out.step ((HFN.out.fr _ _ _ _ _ _ _ _ rfl).par.below hb2) (turns_b hb2)
      have F3 := FN3.fr _ _ _ _ _ _ _ _ rfl
      have n0 := cell_of F3.nod 0
      have n1 := cell_of F3.nod 1
      have n2 := cell_of F3.nod 2
      have n3 := cell_of F3.nod 3
      have m0 := frozen_of F3.nod 0
      have m1 := frozen_of F3.nod 1
      have m2 := frozen_of F3.nod 2
      have m3 := frozen_of F3.nod 3
      have z0 := cell_of F3.res 0
      have z1 := cell_of F3.res 1
      have z2 := cell_of F3.res 2
      have z3 := cell_of F3.res 3
      have f0 := frozen_of F3.res 0
      have f1 := frozen_of F3.res 1
      have f2 := frozen_of F3.res 2
      have f3 := frozen_of F3.res 3
      simp only [List.getElem?_toArray, List.getElem?_cons_zero, List.getElem?_cons_succ] at n0 n1 n2 n3 z0 z1 z2 z3
      obtain ⟨r0, r1, r2, r3⟩ := res4 F3.res (.int .i64 k) (.string (bs t)) (.int .i64 a) (.slice nav ks.length ncap)
      have HFin := hidW (F3.finD FN3.li hw)
      clear F3 FN3 hb2 HFN
      go_wp2
      refine bodyPost_ret (v := .agg #[.int .i64 k, .string (bs t), .int .i64 a, .slice nav ks.length ncap]) (by simp [results, Try.results84, go_sem, r0, r1, r2, r3]) rfl ?_
      exact HFin.out

end Go.Proofs.Ytgndnodahlabiaa

/- Products, sums, expressions (layer 10): the contracts. -/
namespace Go.Proofs.Ytgndnodahlabiaa
open Go.ChangeShapes Go.WideShapes Go.ChangeAt Go.RowKit

theorem enter88 (p : Value) (V : World) : (callFunc 88 (#[p] ++ #[])).run Try.prog V = .ok (.enter 88 (#[p] ++ #[])) V := by go_simp
theorem enter85 (p : Value) (V : World) : (callFunc 85 (#[p] ++ #[])).run Try.prog V = .ok (.enter 85 (#[p] ++ #[])) V := by go_simp
theorem strRow_new (W : World) (sg : List (List UInt8)) (T : TypeId) : StrRow (W.alloc (.cells (sg.map fun q => Value.string (bs q)).toArray T)) (some ⟨W.heap.size, 0, none⟩) W.heap.size sg :=
  ⟨fun _ => rfl, fun _ => by rw [World.size_alloc]; omega, fun i hi => by
    rw [cell_of (World.alloc_heap_new W _)]
    simp [hi]⟩
theorem joinF_is {W : World} {P : Nat} {av : Option Addr} {cap blk off : Nat} {ts : List Tok} {s : St} {r : Nat} {g : Value} {w : Pa} (h : ParAt W P av cap blk off ts s r) (hf : FnV P av cap blk off ts r g w (fun _ => True)) (sg : List (List UInt8)) (hsl : sg.length ≤ 100) (T : TypeId) :
    Calls Try.prog 84 #[.pointer (some ⟨P, 0, none⟩), g, .slice (some ⟨W.heap.size, 0, none⟩) sg.length sg.length] (W.alloc (.cells (sg.map fun q => Value.string (bs q)).toArray T)) (PaAns P av cap blk off ts r (joinS ts w sg) s (W.alloc (.cells (sg.map fun q => Value.string (bs q)).toArray T))) :=
  joined_is (h.below (bel_new _ _)) hf _ _ _ sg (strRow_new W sg T) (by have := lt_of h.box; omega) hsl

set_option maxRecDepth 100000 in
set_option maxHeartbeats 4000000 in
theorem prod_is {W : World} {P : Nat} {av : Option Addr} {cap blk off : Nat} {ts : List Tok} {s : St} {r : Nat} {v : Lv} (hv : Deep P av cap blk off ts r v) (hg : GoodV ts v) (h : ParAt W P av cap blk off ts s r) :
    Calls Try.prog 88 #[.pointer (some ⟨P, 0, none⟩)] W (PaAns P av cap blk off ts r (prodF ts v) s W) := by
  have B0 := Bx0.start h
  have hf : FnV P av cap blk off ts r (.func (.func 90) #[.pointer (some ⟨P, 0, none⟩)] #[]) (operF ts v) (fun _ => True) := ⟨⟨90, _, _, rfl, enter90 _, fun s' V hV _ => operand_is hv (fun s2 V2 h2 => part_is hv hg h2) hV⟩, fun _ _ _ _ => trivial, good_oper hg⟩
  have hJ0 : Calls Try.prog 84 #[.pointer (some ⟨P, 0, none⟩), .func (.func 90) #[.pointer (some ⟨P, 0, none⟩)] #[], .slice (some ⟨(W.alloc (.cells #[.int .i64 0, .string ⟨#[]⟩, .int .i64 0, .slice none 0 0] 24)).heap.size, 0, none⟩) 6 6] ((W.alloc (.cells #[.int .i64 0, .string ⟨#[]⟩, .int .i64 0, .slice none 0 0] 24)).alloc (.cells #[.string ⟨#[42]⟩, .string ⟨#[47]⟩, .string ⟨#[37]⟩, .string ⟨#[38]⟩, .string ⟨#[60, 60]⟩, .string ⟨#[62, 62]⟩] 9)) (PaAns P av cap blk off ts r (prodF ts v) s ((W.alloc (.cells #[.int .i64 0, .string ⟨#[]⟩, .int .i64 0, .slice none 0 0] 24)).alloc (.cells #[.string ⟨#[42]⟩, .string ⟨#[47]⟩, .string ⟨#[37]⟩, .string ⟨#[38]⟩, .string ⟨#[60, 60]⟩, .string ⟨#[62, 62]⟩] 9))) := joinF_is B0.par hf [[42], [47], [37], [38], [60, 60], [62, 62]] (by decide) 9
  rw [World.size_alloc] at hJ0
  have hJ := hidW hJ0
  clear hJ0
  have HB := hidW (B0.step (B0.par.below (bel_new _ (.cells #[.string ⟨#[42]⟩, .string ⟨#[47]⟩, .string ⟨#[37]⟩, .string ⟨#[38]⟩, .string ⟨#[60, 60]⟩, .string ⟨#[62, 62]⟩] 9))) (turns_b (bel_new _ (.cells #[.string ⟨#[42]⟩, .string ⟨#[47]⟩, .string ⟨#[37]⟩, .string ⟨#[38]⟩, .string ⟨#[60, 60]⟩, .string ⟨#[62, 62]⟩] 9))))
  clear h hf B0 hv hg
  go_enter Try.func88, Try.ntmps88
  go_wp2_with fail
  refine hJ.out.mono ?_; clear hJ; rintro e W2 ⟨⟨k, t, a, nav, ncap, nblk, noff, ks⟩, rfl, hl2, hn2, p2, t2⟩
  have B2 := HB.out.step p2 t2
  have hl3 : Lies (W.heap.size + 1) W2 (.mk k t a nav ncap nblk noff ks) := Lies.mono hl2 (lt_of HB.out.res)
  have z0 := cell_of B2.res 0
  have z1 := cell_of B2.res 1
  have z2 := cell_of B2.res 2
  have z3 := cell_of B2.res 3
  have f0 := frozen_of B2.res 0
  have f1 := frozen_of B2.res 1
  have f2 := frozen_of B2.res 2
  have f3 := frozen_of B2.res 3
  simp only [List.getElem?_toArray, List.getElem?_cons_zero, List.getElem?_cons_succ] at z0 z1 z2 z3
  obtain ⟨r0, r1, r2, r3⟩ := res4 B2.res (.int .i64 k) (.string (bs t)) (.int .i64 a) (.slice nav ks.length ncap)
  have HFin := hidW (B2.fin (s0 := s) (w := prodF ts v) k t a nav ncap nblk noff ks hl3 (by rw [hn2]))
  clear B2 HB hl2 hl3 hn2 p2 t2
  go_wp2
  refine bodyPost_ret (v := .agg #[.int .i64 k, .string (bs t), .int .i64 a, .slice nav ks.length ncap]) (by simp [results, Try.results88, go_sem, r0, r1, r2, r3]) rfl ?_
  exact HFin.out

set_option maxRecDepth 100000 in
set_option maxHeartbeats 4000000 in
theorem sum_is {W : World} {P : Nat} {av : Option Addr} {cap blk off : Nat} {ts : List Tok} {s : St} {r : Nat} {v : Lv} (hv : Deep P av cap blk off ts r v) (hg : GoodV ts v) (h : ParAt W P av cap blk off ts s r) :
    Calls Try.prog 85 #[.pointer (some ⟨P, 0, none⟩)] W (PaAns P av cap blk off ts r (sumF ts v) s W) := by
  have B0 := Bx0.start h
  have hf : FnV P av cap blk off ts r (.func (.func 88) #[.pointer (some ⟨P, 0, none⟩)] #[]) (prodF ts v) (fun _ => True) := ⟨⟨88, _, _, rfl, enter88 _, fun s' V hV _ => prod_is hv hg hV⟩, fun _ _ _ _ => trivial, good_prod hg⟩
  have hJ0 : Calls Try.prog 84 #[.pointer (some ⟨P, 0, none⟩), .func (.func 88) #[.pointer (some ⟨P, 0, none⟩)] #[], .slice (some ⟨(W.alloc (.cells #[.int .i64 0, .string ⟨#[]⟩, .int .i64 0, .slice none 0 0] 24)).heap.size, 0, none⟩) 4 4] ((W.alloc (.cells #[.int .i64 0, .string ⟨#[]⟩, .int .i64 0, .slice none 0 0] 24)).alloc (.cells #[.string ⟨#[43]⟩, .string ⟨#[45]⟩, .string ⟨#[94]⟩, .string ⟨#[124]⟩] 9)) (PaAns P av cap blk off ts r (sumF ts v) s ((W.alloc (.cells #[.int .i64 0, .string ⟨#[]⟩, .int .i64 0, .slice none 0 0] 24)).alloc (.cells #[.string ⟨#[43]⟩, .string ⟨#[45]⟩, .string ⟨#[94]⟩, .string ⟨#[124]⟩] 9))) := joinF_is B0.par hf [[43], [45], [94], [124]] (by decide) 9
  rw [World.size_alloc] at hJ0
  have hJ := hidW hJ0
  clear hJ0
  have HB := hidW (B0.step (B0.par.below (bel_new _ (.cells #[.string ⟨#[43]⟩, .string ⟨#[45]⟩, .string ⟨#[94]⟩, .string ⟨#[124]⟩] 9))) (turns_b (bel_new _ (.cells #[.string ⟨#[43]⟩, .string ⟨#[45]⟩, .string ⟨#[94]⟩, .string ⟨#[124]⟩] 9))))
  clear h hf B0 hv hg
  go_enter Try.func85, Try.ntmps85
  go_wp2_with fail
  refine hJ.out.mono ?_; clear hJ; rintro e W2 ⟨⟨k, t, a, nav, ncap, nblk, noff, ks⟩, rfl, hl2, hn2, p2, t2⟩
  have B2 := HB.out.step p2 t2
  have hl3 : Lies (W.heap.size + 1) W2 (.mk k t a nav ncap nblk noff ks) := Lies.mono hl2 (lt_of HB.out.res)
  have z0 := cell_of B2.res 0
  have z1 := cell_of B2.res 1
  have z2 := cell_of B2.res 2
  have z3 := cell_of B2.res 3
  have f0 := frozen_of B2.res 0
  have f1 := frozen_of B2.res 1
  have f2 := frozen_of B2.res 2
  have f3 := frozen_of B2.res 3
  simp only [List.getElem?_toArray, List.getElem?_cons_zero, List.getElem?_cons_succ] at z0 z1 z2 z3
  obtain ⟨r0, r1, r2, r3⟩ := res4 B2.res (.int .i64 k) (.string (bs t)) (.int .i64 a) (.slice nav ks.length ncap)
  have HFin := hidW (B2.fin (s0 := s) (w := sumF ts v) k t a nav ncap nblk noff ks hl3 (by rw [hn2]))
  clear B2 HB hl2 hl3 hn2 p2 t2
  go_wp2
  refine bodyPost_ret (v := .agg #[.int .i64 k, .string (bs t), .int .i64 a, .slice nav ks.length ncap]) (by simp [results, Try.results85, go_sem, r0, r1, r2, r3]) rfl ?_
  exact HFin.out

set_option maxRecDepth 100000 in
set_option maxHeartbeats 4000000 in
theorem expr_is {W : World} {P : Nat} {av : Option Addr} {cap blk off : Nat} {ts : List Tok} {s : St} {r : Nat} {v : Lv} (hv : Deep P av cap blk off ts r v) (hg : GoodV ts v) (h : ParAt W P av cap blk off ts s r) :
    Calls Try.prog 80 #[.pointer (some ⟨P, 0, none⟩)] W (PaAns P av cap blk off ts r (exprF ts v) s W) := by
  have B0 := Bx0.start h
  have hf : FnV P av cap blk off ts r (.func (.func 85) #[.pointer (some ⟨P, 0, none⟩)] #[]) (sumF ts v) (fun _ => True) := ⟨⟨85, _, _, rfl, enter85 _, fun s' V hV _ => sum_is hv hg hV⟩, fun _ _ _ _ => trivial, good_sum hg⟩
  have hJ0 : Calls Try.prog 84 #[.pointer (some ⟨P, 0, none⟩), .func (.func 85) #[.pointer (some ⟨P, 0, none⟩)] #[], .slice (some ⟨(W.alloc (.cells #[.int .i64 0, .string ⟨#[]⟩, .int .i64 0, .slice none 0 0] 24)).heap.size, 0, none⟩) 4 4] ((W.alloc (.cells #[.int .i64 0, .string ⟨#[]⟩, .int .i64 0, .slice none 0 0] 24)).alloc (.cells #[.string ⟨#[61, 61]⟩, .string ⟨#[33, 61]⟩, .string ⟨#[60]⟩, .string ⟨#[60, 61]⟩] 9)) (PaAns P av cap blk off ts r (exprF ts v) s ((W.alloc (.cells #[.int .i64 0, .string ⟨#[]⟩, .int .i64 0, .slice none 0 0] 24)).alloc (.cells #[.string ⟨#[61, 61]⟩, .string ⟨#[33, 61]⟩, .string ⟨#[60]⟩, .string ⟨#[60, 61]⟩] 9))) := joinF_is B0.par hf [[61, 61], [33, 61], [60], [60, 61]] (by decide) 9
  rw [World.size_alloc] at hJ0
  have hJ := hidW hJ0
  clear hJ0
  have HB := hidW (B0.step (B0.par.below (bel_new _ (.cells #[.string ⟨#[61, 61]⟩, .string ⟨#[33, 61]⟩, .string ⟨#[60]⟩, .string ⟨#[60, 61]⟩] 9))) (turns_b (bel_new _ (.cells #[.string ⟨#[61, 61]⟩, .string ⟨#[33, 61]⟩, .string ⟨#[60]⟩, .string ⟨#[60, 61]⟩] 9))))
  clear h hf B0 hv hg
  go_enter Try.func80, Try.ntmps80
  go_wp2_with fail
  refine hJ.out.mono ?_; clear hJ; rintro e W2 ⟨⟨k, t, a, nav, ncap, nblk, noff, ks⟩, rfl, hl2, hn2, p2, t2⟩
  have B2 := HB.out.step p2 t2
  have hl3 : Lies (W.heap.size + 1) W2 (.mk k t a nav ncap nblk noff ks) := Lies.mono hl2 (lt_of HB.out.res)
  have z0 := cell_of B2.res 0
  have z1 := cell_of B2.res 1
  have z2 := cell_of B2.res 2
  have z3 := cell_of B2.res 3
  have f0 := frozen_of B2.res 0
  have f1 := frozen_of B2.res 1
  have f2 := frozen_of B2.res 2
  have f3 := frozen_of B2.res 3
  simp only [List.getElem?_toArray, List.getElem?_cons_zero, List.getElem?_cons_succ] at z0 z1 z2 z3
  obtain ⟨r0, r1, r2, r3⟩ := res4 B2.res (.int .i64 k) (.string (bs t)) (.int .i64 a) (.slice nav ks.length ncap)
  have HFin := hidW (B2.fin (s0 := s) (w := exprF ts v) k t a nav ncap nblk noff ks hl3 (by rw [hn2]))
  clear B2 HB hl2 hl3 hn2 p2 t2
  go_wp2
  refine bodyPost_ret (v := .agg #[.int .i64 k, .string (bs t), .int .i64 a, .slice nav ks.length ncap]) (by simp [results, Try.results80, go_sem, r0, r1, r2, r3]) rfl ?_
  exact HFin.out

end Go.Proofs.Ytgndnodahlabiaa
