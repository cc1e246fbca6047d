/-
  Functions (layer 10): the contract of the parser's function; all methods, from depth to depth.
  Programs (layer 10): the contract of Parse.
  Parse (layer 10): the contract.
-/
import Derived.Test.YtgndnodahlabiaaPsX

/- Functions (layer 10): the contract of the parser's function; all methods, from depth to depth. -/
namespace Go.Proofs.Ytgndnodahlabiaa
open Go.ChangeShapes Go.WideShapes Go.ChangeAt Go.RowKit

theorem more_len (ts : List Tok) (w : Pa) : ∀ n l s, (moreS ts w n l s).1.length ≤ l.length + n
  | 0, l, s => by unfold moreS; simp
  | n + 1, l, s => by
    unfold moreS
    split
    · have := more_len ts w n (l ++ [(w (adv s)).1]) (w (adv s)).2
      simp at this ⊢
      omega
    · simp
theorem list_len (ts : List Tok) (w : Pa) (q : List UInt8) (s : St) : (listS ts w q s).1.length ≤ ts.length + 1 := by
  unfold listS
  split
  · simp
  · unfold someS
    have := more_len ts w (left ts (w s).2) [(w s).1] (w s).2
    simp only [List.length_cons, List.length_nil] at this
    unfold left at this ⊢
    simp only
    omega
theorem enter60 (p : Value) (V : World) : (callFunc 60 (#[p] ++ #[])).run Try.prog V = .ok (.enter 60 (#[p] ++ #[])) V := by go_simp

set_option maxRecDepth 100000 in
set_option maxHeartbeats 8000000 in
theorem func_is {W : World} {P : Nat} {av : Option Addr} {cap blk off : Nat} {ts : List Tok} {s : St} {r : Nat} {v : Lv} (hv : Deep P av cap blk off ts r v) (hg : GoodV ts v) (hk : AdvV v) (h : ParAt W P av cap blk off ts s r) :
    Calls Try.prog 40 #[.pointer (some ⟨P, 0, none⟩)] W (PaAns P av cap blk off ts r (funcF ts v) s W) := by
  have hN := node_is (h.below (bel_new W (.cells #[.int .i64 0, .string ⟨#[]⟩, .int .i64 0, .slice none 0 0] 24))) 2
  have hS : ∀ W1, _ → _ := fun W1 hb => Fr.start (W1 := W1) h hb 2 (nextT ts s).a
  have HS := hidW hS
  have HRS := hidW (fun (s' : St) (V : World) (hp : ParAt V P av cap blk off ts s' r) => result_is hv hp)
  have HBL := hidW (fun (s' : St) (V : World) (hp : ParAt V P av cap blk off ts s' r) => block_is hv hg hk hp)
  have hf : FnV P av cap blk off ts r (.func (.func 60) #[.pointer (some ⟨P, 0, none⟩)] #[]) (paramF ts v) (fun _ => True) := ⟨⟨60, _, _, rfl, enter60 _, fun s' V hV _ => param_is hv hV⟩, fun _ _ _ _ => trivial, good_param hg⟩
  have HF60 := hidW hf
  have htl := h.len
  clear h hS hv hg hk hf
  have hw : funcF ts v s = (.mk 2 (nameS ts (wantS ts [102, 117, 110, 99] s)).1 ((nextT ts s).a : Int) ((listS ts (paramF ts v) [41] (wantS ts [40] (nameS ts (wantS ts [102, 117, 110, 99] s)).2)).1 ++ [(resultF ts v (listS ts (paramF ts v) [41] (wantS ts [40] (nameS ts (wantS ts [102, 117, 110, 99] s)).2)).2).1, (blockF ts v (resultF ts v (listS ts (paramF ts v) [41] (wantS ts [40] (nameS ts (wantS ts [102, 117, 110, 99] s)).2)).2).2).1]), (blockF ts v (resultF ts v (listS ts (paramF ts v) [41] (wantS ts [40] (nameS ts (wantS ts [102, 117, 110, 99] s)).2)).2).2).2) := rfl
  go_enter Try.func40, Try.ntmps40
  go_wp2_with fail
  refine hN.mono ?_; rintro e W1 ⟨rfl, hb1⟩
  have F1 := HS.out W1 hb1
  clear HS hN hb1
  have HT := hidW (want_is F1.par [102, 117, 110, 99])
  have HF := hidW F1
  clear F1
  go_wp2_with fail
  refine HT.out.mono ?_; clear HT; rintro e W2 ⟨rfl, p3, t3⟩
  have F2 := HF.out.step p3 t3
  clear HF p3 t3
  have HT := hidW (name_is F2.par)
  have HF := hidW F2
  clear F2
  go_wp2_with fail
  refine HT.out.mono ?_; clear HT; rintro e W3 ⟨rfl, p3, t3⟩
  have F3 := HF.out.step p3 t3
  clear HF p3 t3
  generalize hx : nameS ts (wantS ts [102, 117, 110, 99] s) = nm at *
  have n1 := cell_of F3.nod 1
  have m1 := frozen_of F3.nod 1
  simp only [List.getElem?_toArray, List.getElem?_cons_zero, List.getElem?_cons_succ] at n1
  have F4 := F3.set1 (.string (bs nm.1))
  clear F3
  have HT := hidW (want_is F4.par [40])
  have HF := hidW F4
  clear F4
  go_wp2_with fail
  refine HT.out.mono ?_; clear HT; rintro e W5 ⟨rfl, p3, t3⟩
  have F5 := HF.out.step p3 t3
  clear HF p3 t3
  generalize hy : wantS ts [40] nm.2 = s5 at *
  have hL := hidW (list_own F5.par HF60.out trivial [41])
  have HF5 := hidW F5
  clear F5
  go_wp2_with fail
  refine hL.out.mono ?_; clear hL; rintro e W6 ⟨ks, kv, rfl, ok6, hm, p6, t6⟩
  obtain ⟨kav, kcap, rfl, -⟩ := own_shape ok6.own
  have hks : ks.length ≤ ts.length + 1 := by have h1 := list_len ts (paramF ts v) [41] s5; rw [← hm, List.length_map] at h1; exact h1
  generalize hz : listS ts (paramF ts v) [41] s5 = lr at *
  have F6 := HF5.out.step p6 t6
  have hne := F6.ne
  have hlt := F6.lt
  have n3 := cell_of F6.nod 3
  have m3 := frozen_of F6.nod 3
  simp only [List.getElem?_toArray, List.getElem?_cons_zero, List.getElem?_cons_succ] at n3
  have F7 := F6.set3 (.slice kav ks.length kcap)
  have ok7 := (ok6.mono (base' := W1.heap.size + 1) (lt_of HF5.out.nod)).turns (turns_p W1.heap.size 3 (.slice kav ks.length kcap) W6) (fun b hb _ => by omega)
  have HM := hidW (And.intro hm hks)
  clear F6 p6 t6 ok6 hm HF5 hks
  go_wp2_with fail
  refine region_late (fun V => V.cell? ⟨W1.heap.size, 3, none⟩ = some (.slice kav ks.length kcap)) 9 (by kernel_rfl) ?_
  have Fd := F7.below (bel_d _)
  have okd := ok7.turns (turns_b (Q := fun _ => False) (bel_d _)) (fun _ _ _ h => h)
  clear F7 ok7 n3 m3
  generalize (W6.setCell ⟨W1.heap.size, 3, none⟩ (.slice kav ks.length kcap)).drew = V3 at *
  have hHeld := cell_of Fd.nod 3
  simp only [List.getElem?_toArray, List.getElem?_cons_zero, List.getElem?_cons_succ] at hHeld
  have hD := hidW (HRS.out _ _ Fd.par)
  have HFd := hidW (And.intro Fd okd)
  clear Fd okd
  refine anyL_take (i := 0) (v := ?_) rfl (by kernel_rfl) (by kernel_rfl) (by kernel_rfl) (by kernel_rfl) (fun _ _ _ h => h) (Or.inl ⟨by rfl, ?_⟩) hHeld ?_
  rotate_left 1
  · intro w hSw; (try dsimp only at hSw); go_simp; try with_reducible rfl
  refine anyL_take (i := 1) (v := ?_) rfl (by kernel_rfl) (by kernel_rfl) (by kernel_rfl) (by kernel_rfl) (fun _ _ _ h => h) (Or.inl ⟨by rfl, ?_⟩) hHeld ?_
  rotate_left 1
  · intro w hSw; (try dsimp only at hSw); go_simp; try with_reducible rfl
  refine anyL_take (i := 2) (v := ?_) rfl (by kernel_rfl) (by kernel_rfl) (by kernel_rfl) (by kernel_rfl) (fun _ _ _ h => h) (Or.inl ⟨by rfl, ?_⟩) hHeld ?_
  rotate_left 1
  · intro w hSw; (try dsimp only at hSw); go_simp; try with_reducible rfl
  refine anyL_take (i := 4) (v := ?_) rfl (by kernel_rfl) (by kernel_rfl) (by kernel_rfl) (by kernel_rfl) (fun _ _ _ h => h) (Or.inl ⟨by rfl, ?_⟩) hHeld ?_
  rotate_left 1
  · intro w hSw; (try dsimp only at hSw); go_simp; try with_reducible rfl
  refine anyL_ready (rs := [3]) (by kernel_rfl) (by simp) (ReadyL.cons rfl (fun K hK => ?_) (ReadyL.nil))
  · go_simp
    refine hD.out.mono ?_; rintro e W8 ⟨⟨rk, rt, ra, rav, rcap, rblk, roff, rks⟩, rfl, hlr, hnr, p8, t8⟩
    have F8 := HFd.out.1.step p8 t8
    have ok8 := HFd.out.2.turns t8 (fun b hb _ => by omega)
    have hr8 : LiesD (fun b => W1.heap.size + 1 ≤ b ∧ (Value.slice kav ks.length kcap).ownBlock ≠ some b) W8 (.mk rk rt ra rav rcap rblk roff rks) := LiesD.mono hlr (fun b hb _ => ⟨by have := lt_of HFd.out.1.nod; omega, fun e => by have := (HFd.out.2.own.lt b e).2; omega⟩)
    have x3 := cell_of F8.nod 3
    simp only [List.getElem?_toArray, List.getElem?_cons_zero, List.getElem?_cons_succ] at x3
    have hD2 := hidW (HBL.out _ _ F8.par)
    have H8 := hidW (And.intro F8 (And.intro ok8 (And.intro hr8 hnr)))
    clear F8 ok8 hr8 hlr hnr p8 t8 hD
    go_wp2_with fail
    refine hK.out _ _ (x3) (fun hHeld => ?_)
    clear hK K
    refine anyL_ready (rs := [5]) (by kernel_rfl) (by simp) (ReadyL.cons rfl (fun K hK => ?_) (ReadyL.nil))
    · go_simp
      refine hD2.out.mono ?_; rintro e W9 ⟨⟨bk, bt, ba, bav, bcap, bblk, boff, bks⟩, rfl, hlb, hnb, p9, t9⟩
      have F9 := H8.out.1.step p9 t9
      have ok9 := H8.out.2.1.turns t9 (fun b hb _ => by omega)
      have hr9 := H8.out.2.2.1.turns t9 (fun b hb _ => by have := hb.1; omega)
      have hb9 : LiesD (fun b => W1.heap.size + 1 ≤ b ∧ (Value.slice kav ks.length kcap).ownBlock ≠ some b) W9 (.mk bk bt ba bav bcap bblk boff bks) := LiesD.mono hlb (fun b hb _ => ⟨by have := lt_of H8.out.1.nod; omega, fun e => by have := (H8.out.2.1.own.lt b e).2; omega⟩)
      have FA := F9.below (bel_new W9 (.cells #[.int .i64 rk, .string (bs rt), .int .i64 ra, .slice rav rks.length rcap, .int .i64 bk, .string (bs bt), .int .i64 ba, .slice bav bks.length bcap] 24))
      have okA := ok9.turns (turns_b (Q := fun _ => False) (bel_new W9 (.cells #[.int .i64 rk, .string (bs rt), .int .i64 ra, .slice rav rks.length rcap, .int .i64 bk, .string (bs bt), .int .i64 ba, .slice bav bks.length bcap] 24))) (fun _ _ _ h => h)
      have hZ : (W9.alloc (.cells #[.int .i64 rk, .string (bs rt), .int .i64 ra, .slice rav rks.length rcap, .int .i64 bk, .string (bs bt), .int .i64 ba, .slice bav bks.length bcap] 24)).heap[W9.heap.size]? = some (.cells ([Nv.mk rk rt ra rav rcap rblk roff rks, Nv.mk bk bt ba bav bcap bblk boff bks].flatMap Nv.cs).toArray 24 (0, 0)) := World.alloc_heap_new W9 _
      obtain ⟨g, cp, WB, hap, okB, tB, hgB⟩ := own_app okA W9.heap.size 2 [.mk rk rt ra rav rcap rblk roff rks, .mk bk bt ba bav bcap bblk boff bks] (fun j u hu => by rw [cell_of hZ, List.getElem?_toArray]; exact hu) (by simp) (by have := HM.out.2; simp; omega) (lt_of FA.nod) (lies_all_two (lies_new hr9 _) (lies_new hb9 _))
      have FB := FA.app tB (fun b e => by have := (ok9.own.lt b e).1; exact ⟨by omega, by omega⟩)
      have y3 := cell_of F9.nod 3
      have u3 := cell_of FA.nod 3
      have w3 := cell_of FB.nod 3
      have l3 := frozen_of FB.nod 3
      simp only [List.getElem?_toArray, List.getElem?_cons_zero, List.getElem?_cons_succ] at y3 u3 w3
      have FC := FB.set3 (.slice (some ⟨g, 0, none⟩) (ks.length + 2) cp)
      have okC := okB.turns (turns_p W1.heap.size 3 (.slice (some ⟨g, 0, none⟩) (ks.length + 2) cp) WB) (fun b hb _ => by omega)
      have HAP := hidW hap
      have HC := hidW (And.intro FC (And.intro okC hnb))
      clear F9 ok9 hr9 hb9 FA okA hZ hap okB tB hgB FB FC okC hlb hnb p9 t9
      go_wp2_with fail
      refine hK.out _ _ (y3) (fun hHeld => ?_)
      clear hK K
      refine anyL_ready (rs := [6]) (by kernel_rfl) (by simp) (ReadyL.cons rfl (fun K hK => ?_) (ReadyL.nil))
      · go_simp
        refine hK.out _ _ (u3) (fun hHeld => ?_)
        clear hK K
        refine anyL_ready (rs := [7]) (by kernel_rfl) (by simp) (ReadyL.cons rfl (fun K hK => ?_) (ReadyL.nil))
        · refine step_append rfl (.tmp 19) (.tmp 24) 22 rfl rfl rfl HAP.out ?_
          refine hK.out _ _ (w3) (fun hHeld => ?_)
          clear hK K
          refine anyL_take (i := 8) (v := ?_) rfl (by kernel_rfl) (by kernel_rfl) (by kernel_rfl) (by kernel_rfl) (fun _ _ _ h => h) (Or.inl ⟨by rfl, ?_⟩) hHeld ?_
          rotate_left 1
          · intro w hSw; (try dsimp only at hSw); go_simp; try with_reducible rfl
          refine anyL_ready (rs := [9]) (by kernel_rfl) (by simp) (ReadyL.late rfl (by kernel_rfl) (fun K hK => ?_) (ReadyL.nil))
          · go_simp
            refine hK.out _ _ ?_
            clear hK K
            refine anyL_done (by kernel_rfl) ?_ _
            obtain ⟨FC, okC, hnb⟩ := HC.out
            obtain ⟨cav, ccap, cblk, coff, hce, k1, k2, kc⟩ := okC.kids.ex
            have hw2 : funcF ts v s = (Nd.mk 2 nm.1 (nextT ts s).a ((ks ++ [Nv.mk rk rt ra rav rcap rblk roff rks, Nv.mk bk bt ba bav bcap bblk boff bks]).map Nv.nd), _) := hw.trans (by rw [List.map_append, List.map_cons, List.map_cons, List.map_nil, HM.out.1, H8.out.2.2.2, hnb])
            have hK9 := okC.kids
            have n0 := cell_of FC.nod 0
            have n1 := cell_of FC.nod 1
            have n2 := cell_of FC.nod 2
            have n3 := cell_of FC.nod 3
            have m0 := frozen_of FC.nod 0
            have m1 := frozen_of FC.nod 1
            have m2 := frozen_of FC.nod 2
            have m3 := frozen_of FC.nod 3
            have z0 := cell_of FC.res 0
            have z1 := cell_of FC.res 1
            have z2 := cell_of FC.res 2
            have z3 := cell_of FC.res 3
            have f0 := frozen_of FC.res 0
            have f1 := frozen_of FC.res 1
            have f2 := frozen_of FC.res 2
            have f3 := frozen_of FC.res 3
            simp only [List.getElem?_toArray, List.getElem?_cons_zero, List.getElem?_cons_succ] at n0 n1 n2 n3 z0 z1 z2 z3
            obtain ⟨r0, r1, r2, r3⟩ := res4 FC.res (.int .i64 2) (.string (bs nm.1)) (.int .i64 (nextT ts s).a) (.slice (some ⟨g, 0, none⟩) (ks.length + 2) cp)
            have HFin := hidW (FC.fin (k := 2) (t := nm.1) (a := (nextT ts s).a) (w := funcF ts v) hK9 hw2)
            clear FC hK9 okC k1 k2 hce hnb
            go_wp2
            refine bodyPost_ret (v := .agg #[.int .i64 2, .string (bs nm.1), .int .i64 (nextT ts s).a, .slice (some ⟨g, 0, none⟩) (ks.length + 2) cp]) (by simp [results, Try.results40, go_sem, r0, r1, r2, r3]) rfl ?_
            exact HFin.out

theorem bodies_all (P : Nat) (av : Option Addr) (cap blk off : Nat) (ts : List Tok) : ∀ r, r ≤ 100 → Deep P av cap blk off ts r (lv ts r) :=
  deep_all (fun r _ hd => ⟨fun _ _ h => type_is hd (good_lv ts r) h, fun _ _ h => expr_is hd (good_lv ts r) h, fun _ _ h => operand_is hd (fun _ _ h2 => part_is hd (good_lv ts r) h2) h, fun _ _ h => stmt_is hd (good_lv ts r) (adv_lv ts r) h⟩)

end Go.Proofs.Ytgndnodahlabiaa

/- Programs (layer 10): the contract of Parse. -/
namespace Go.Proofs.Ytgndnodahlabiaa
open Go.ChangeShapes Go.WideShapes Go.ChangeAt Go.RowKit

/-- What the parser's program answers. -/
def progA (ts : List Tok) : Pa := fun _ => (.mk 1 [] (nextT ts ⟨0, 0⟩).a (progS ts).1, (progS ts).2)

set_option maxRecDepth 100000 in
set_option maxHeartbeats 8000000 in
theorem prog_is {W : World} {P : Nat} {av : Option Addr} {cap blk off : Nat} {ts : List Tok} (h : ParAt W P av cap blk off ts ⟨0, 0⟩ 100) :
    Calls Try.prog 29 #[.pointer (some ⟨P, 0, none⟩)] W (PaAns P av cap blk off ts 100 (progA ts) ⟨0, 0⟩ W) := by
  have hv := bodies_all P av cap blk off ts 100 (Nat.le_refl _)
  have hN := node_is (h.below (bel_new W (.cells #[.int .i64 0, .string ⟨#[]⟩, .int .i64 0, .slice none 0 0] 24))) 1
  have hS : ∀ W1, _ → _ := fun W1 hb => Fr.start (W1 := W1) h hb 1 (nextT ts ⟨0, 0⟩).a
  have HS := hidW hS
  have HFN := hidW (fun (s' : St) (V : World) (hp : ParAt V P av cap blk off ts s' 100) => func_is hv (good_lv ts 100) (adv_lv ts 100) hp)
  have hlen0 := h.len
  clear h hS hv
  have hgood := hidW (good_func (good_lv ts 100))
  have hadv := hidW (advP_func (good_lv ts 100))
  generalize hMM : progS ts = MM
  have HMM2 := hidW hMM
  have HMM := hidW hMM
  clear hMM
  unfold progS at HMM
  generalize hv100 : lv ts 100 = v at *
  clear hv100
  go_enter Try.func29, Try.ntmps29
  go_wp2_with fail
  refine hN.mono ?_; rintro e W1 ⟨rfl, hb1⟩
  have F1 := HS.out W1 hb1
  clear HS hN hb1
  have hML : Hid (∃ (ks : List Nv) (s1 : St) (m : Nat) (kv : Value), Fr W P av cap blk off ts s1 100 W1.heap.size (.int .i64 1) (.string ⟨#[]⟩) (.int .i64 (nextT ts ⟨0, 0⟩).a) kv (W1.alloc (.cells #[.int .i64 1, .string ⟨#[]⟩, .int .i64 (nextT ts ⟨0, 0⟩).a, .slice none 0 0] 24)) ∧ OwnK (W1.heap.size + 1) (W1.alloc (.cells #[.int .i64 1, .string ⟨#[]⟩, .int .i64 (nextT ts ⟨0, 0⟩).a, .slice none 0 0] 24)) kv ks ∧ loopG ts v m (ks.map Nv.nd) s1 = MM ∧ mu ts s1 ≤ m ∧ ks.length + mu ts s1 ≤ ts.length + 1) :=
    ⟨[], ⟨0, 0⟩, _, _, F1, own_nil _ _, HMM.out, by have := mu_le ts ⟨0, 0⟩; unfold left at this; simp at this; omega, by have := mu_le ts ⟨0, 0⟩; unfold left at this; simp at this ⊢; omega⟩
  clear F1
  go_wp2_with fail
  go_loopw [] (fun wr => ∃ (ks : List Nv) (s1 : St) (m : Nat) (kv : Value), Fr W P av cap blk off ts s1 100 W1.heap.size (.int .i64 1) (.string ⟨#[]⟩) (.int .i64 (nextT ts ⟨0, 0⟩).a) kv wr ∧ OwnK (W1.heap.size + 1) wr kv ks ∧ loopG ts v m (ks.map Nv.nd) s1 = MM ∧ mu ts s1 ≤ m ∧ ks.length + mu ts s1 ≤ ts.length + 1) (fun wr => muOf P ts.length wr)
  case atStart => exact hML.out
  case round =>
    clear hML
    obtain ⟨ks, s1, m, kv, F, ok, hmm, hfu, hlen⟩ := hrel
    have hmu := muOf_is F.par
    have hbl := F.lt
    have hbn := F.ne
    have hpl := F.par.pl
    obtain ⟨kav, kcap, rfl, -⟩ := own_shape ok.own
    by_cases he : s1.er = 0 ∧ s1.pl < ts.length
    · have hmp : 0 < mu ts s1 := by unfold mu; rw [if_pos he.1]; omega
      obtain ⟨m', rfl⟩ : ∃ m', m = m' + 1 := ⟨m - 1, by omega⟩
      have hmm2 : loopG ts v m' (ks.map Nv.nd ++ [(funcF ts v s1).1]) (funcF ts v s1).2 = MM := by
        rw [loopG, if_pos he] at hmm
        exact hmm
      have hml := mu_lt (hgood.out s1) (hadv.out s1) he.1 hpl
      have e1 : ((s1.er : Int) == 0) = true := by simp [he.1]
      have e2 : ((s1.pl : Int) < (ts.length : Int)) = True := eq_true (by omega)
      obtain ⟨c0, c1, c2, c3⟩ := F.par.cell
      have H1 := hidW (And.intro F (And.intro ok (And.intro hmm2 (And.intro hfu (And.intro hlen (And.intro hml hmu))))))
      clear F ok hmm hmm2 hfu hlen he hpl hml hmu hmp
      go_wp2_with fail
      go_quiet (fail)
      have FW := H1.out.1.below (bel_drewN (Below.refl _ wr) nq)
      have okW := H1.out.2.1.turns (turns_b (Q := fun _ => False) (bel_drewN (Below.refl _ wr) nq)) (fun _ _ _ h => h)
      clear c0 c1 c2 c3
      generalize hVW : wr.drewN nq = V0 at *
      clear hVW
      have HW := hidW (And.intro FW okW)
      clear FW okW
      go_wp2_with fail
      have Fd := HW.out.1.below (bel_d V0)
      have okd := HW.out.2.turns (turns_b (Q := fun _ => False) (bel_d V0)) (fun _ _ _ h => h)
      refine region_late (fun V => V.cell? ⟨W1.heap.size, 3, none⟩ = some (.slice kav ks.length kcap)) 7 (by kernel_rfl) ?_
      generalize V0.drew = V3 at *
      have hHeld := cell_of Fd.nod 3
      simp only [List.getElem?_toArray, List.getElem?_cons_zero, List.getElem?_cons_succ] at hHeld
      have hD := hidW (HFN.out s1 _ Fd.par)
      have HFd := hidW (And.intro Fd okd)
      clear Fd okd HW
      refine anyL_take (i := 0) (v := ?_) rfl (by kernel_rfl) (by kernel_rfl) (by kernel_rfl) (by kernel_rfl) (fun _ _ _ h => h) (Or.inl ⟨by rfl, ?_⟩) hHeld ?_
      rotate_left 1
      · intro w hSw; (try dsimp only at hSw); go_simp; try with_reducible rfl
      refine anyL_take (i := 1) (v := ?_) rfl (by kernel_rfl) (by kernel_rfl) (by kernel_rfl) (by kernel_rfl) (fun _ _ _ h => h) (Or.inl ⟨by rfl, ?_⟩) hHeld ?_
      rotate_left 1
      · intro w hSw; (try dsimp only at hSw); go_simp; try with_reducible rfl
      refine anyL_take (i := 2) (v := ?_) rfl (by kernel_rfl) (by kernel_rfl) (by kernel_rfl) (by kernel_rfl) (fun _ _ _ h => h) (Or.inl ⟨by rfl, ?_⟩) hHeld ?_
      rotate_left 1
      · intro w hSw; (try dsimp only at hSw); go_simp; try with_reducible rfl
      refine anyL_ready (rs := [3]) (by kernel_rfl) (by simp) (ReadyL.cons rfl (fun K hK => ?_) (ReadyL.nil))
      · go_simp
        refine hD.out.mono ?_
        rintro e W5 ⟨⟨mk, mt, ma, mav, mcap, mblk, moff, mks⟩, rfl, hl5, hn5, p5, t5⟩
        have F5 := HFd.out.1.step p5 t5
        obtain ⟨gg, gc, W6, hap, F6, F7, ok7⟩ := FrOwn HFd.out.1 HFd.out.2 (by have := H1.out.2.2.2.2.1; omega) p5 t5 _ hl5
        have FA := F5.below (bel_new W5 (.cells #[.int .i64 mk, .string (bs mt), .int .i64 ma, .slice mav mks.length mcap] 24))
        have c3 := cell_of F5.nod 3
        have u3 := cell_of FA.nod 3
        have w3 := cell_of F6.nod 3
        have l3 := frozen_of F6.nod 3
        simp only [List.getElem?_toArray, List.getElem?_cons_zero, List.getElem?_cons_succ] at c3 u3 w3
        have HAP := hidW hap
        have HF7 := hidW (And.intro F7 (And.intro ok7 hn5))
        clear F5 F6 F7 FA hl5 hn5 p5 t5 hap ok7
        go_wp2_with fail
        refine hK.out _ _ (c3) (fun hHeld => ?_)
        clear hK K
        refine anyL_ready (rs := [4]) (by kernel_rfl) (by simp) (ReadyL.cons rfl (fun K hK => ?_) (ReadyL.nil))
        · go_simp
          refine hK.out _ _ (u3) (fun hHeld => ?_)
          clear hK K
          refine anyL_ready (rs := [5]) (by kernel_rfl) (by simp) (ReadyL.cons rfl (fun K hK => ?_) (ReadyL.nil))
          · refine step_append rfl (.tmp 24) (.tmp 27) 22 rfl rfl rfl HAP.out ?_
            refine hK.out _ _ (w3) (fun hHeld => ?_)
            clear hK K
            refine anyL_take (i := 6) (v := ?_) rfl (by kernel_rfl) (by kernel_rfl) (by kernel_rfl) (by kernel_rfl) (fun _ _ _ h => h) (Or.inl ⟨by rfl, ?_⟩) hHeld ?_
            rotate_left 1
            · intro w hSw; (try dsimp only at hSw); go_simp; try with_reducible rfl
            refine anyL_ready (rs := [7]) (by kernel_rfl) (by simp) (ReadyL.late rfl (by kernel_rfl) (fun K hK => ?_) (ReadyL.nil))
            · go_simp
              refine hK.out _ _ ?_
              clear hK K
              refine anyL_done (by kernel_rfl) ?_ _
              have hlo7 := hidW (muOf_is HF7.out.1.par)
              go_wp2_with fail
              go_roundw
              case rel =>
                refine ⟨_, _, m', _, HF7.out.1, HF7.out.2.1, ?_, ?_, ?_⟩
                · rw [List.map_append, List.map_cons, List.map_nil, HF7.out.2.2]; exact H1.out.2.2.1
                · have := H1.out.2.2.2.1; have := H1.out.2.2.2.2.2.1; omega
                · have := H1.out.2.2.2.2.1; have := H1.out.2.2.2.2.2.1; rw [List.length_append]; simp; omega
              case measure => exact Nat.lt_of_le_of_lt (Nat.le_of_eq hlo7.out) (by rw [H1.out.2.2.2.2.2.2]; exact H1.out.2.2.2.2.2.1)
    · have hMM : MM = (ks.map Nv.nd, s1) := by
        rw [← hmm]
        cases m with
        | zero => rfl
        | succ m => rw [loopG, if_neg he]
      have hw : progA ts ⟨0, 0⟩ = (.mk 1 [] ((nextT ts ⟨0, 0⟩).a : Int) (ks.map Nv.nd), s1) := by
        have h1 : progS ts = (ks.map Nv.nd, s1) := HMM2.out.trans hMM
        unfold progA
        rw [h1]
      have e3 : (decide (s1.er = 0) && decide (s1.pl < ts.length)) = false := by
        by_cases h1 : s1.er = 0
        · have : ¬ s1.pl < ts.length := fun h2 => he ⟨h1, h2⟩
          simp [h1, this]
        · simp [h1]
      obtain ⟨c0, c1, c2, c3⟩ := F.par.cell
      have H1 := hidW (And.intro F ok)
      by_cases h1 : s1.er = 0
      · have h2 : ¬ s1.pl < ts.length := fun h2 => he ⟨h1, h2⟩
        have e1 : ((s1.er : Int) == 0) = true := by simp [h1]
        have e2 : ((s1.pl : Int) < (ts.length : Int)) = False := by simp; omega
        clear F ok hmm hfu hlen he hpl hmu hMM h1 h2 e3
        go_wp2_with fail
        go_quiet (fail)
        have FW := H1.out.1.below (bel_drewN (Below.refl _ wr) nq)
        have okW := H1.out.2.turns (turns_b (Q := fun _ => False) (bel_drewN (Below.refl _ wr) nq)) (fun _ _ _ h => h)
        clear c0 c1 c2 c3
        generalize hVW : wr.drewN nq = V0 at *
        clear hVW
        have F3 := FW
        have hK := okW.kids
        clear FW okW
        have n0 := cell_of F3.nod 0
        have n1 := cell_of F3.nod 1
        have n2 := cell_of F3.nod 2
        have n3 := cell_of F3.nod 3
        have m0 := frozen_of F3.nod 0
        have m1 := frozen_of F3.nod 1
        have m2 := frozen_of F3.nod 2
        have m3 := frozen_of F3.nod 3
        have z0 := cell_of F3.res 0
        have z1 := cell_of F3.res 1
        have z2 := cell_of F3.res 2
        have z3 := cell_of F3.res 3
        have f0 := frozen_of F3.res 0
        have f1 := frozen_of F3.res 1
        have f2 := frozen_of F3.res 2
        have f3 := frozen_of F3.res 3
        simp only [List.getElem?_toArray, List.getElem?_cons_zero, List.getElem?_cons_succ] at n0 n1 n2 n3 z0 z1 z2 z3
        obtain ⟨r0, r1, r2, r3⟩ := res4 F3.res (.int .i64 1) (.string ⟨#[]⟩) (.int .i64 (nextT ts ⟨0, 0⟩).a) (.slice kav ks.length kcap)
        have HFin := hidW (F3.fin (k := 1) (t := []) (a := (nextT ts ⟨0, 0⟩).a) (w := progA ts) hK hw)
        clear F3 hK
        go_wp2
        refine bodyPost_ret (v := .agg #[.int .i64 1, .string ⟨#[]⟩, .int .i64 (nextT ts ⟨0, 0⟩).a, .slice kav ks.length kcap]) (by simp [results, Try.results29, go_sem, r0, r1, r2, r3]) rfl ?_
        exact HFin.out
      · have e1 : ((s1.er : Int) == 0) = false := by simp [h1]
        clear F ok hmm hfu hlen he hpl hmu hMM h1 e3
        go_wp2_with fail
        go_quiet (fail)
        have FW := H1.out.1.below (bel_drewN (Below.refl _ wr) nq)
        have okW := H1.out.2.turns (turns_b (Q := fun _ => False) (bel_drewN (Below.refl _ wr) nq)) (fun _ _ _ h => h)
        clear c0 c1 c2 c3
        generalize hVW : wr.drewN nq = V0 at *
        clear hVW
        have F3 := FW
        have hK := okW.kids
        clear FW okW
        have n0 := cell_of F3.nod 0
        have n1 := cell_of F3.nod 1
        have n2 := cell_of F3.nod 2
        have n3 := cell_of F3.nod 3
        have m0 := frozen_of F3.nod 0
        have m1 := frozen_of F3.nod 1
        have m2 := frozen_of F3.nod 2
        have m3 := frozen_of F3.nod 3
        have z0 := cell_of F3.res 0
        have z1 := cell_of F3.res 1
        have z2 := cell_of F3.res 2
        have z3 := cell_of F3.res 3
        have f0 := frozen_of F3.res 0
        have f1 := frozen_of F3.res 1
        have f2 := frozen_of F3.res 2
        have f3 := frozen_of F3.res 3
        simp only [List.getElem?_toArray, List.getElem?_cons_zero, List.getElem?_cons_succ] at n0 n1 n2 n3 z0 z1 z2 z3
        obtain ⟨r0, r1, r2, r3⟩ := res4 F3.res (.int .i64 1) (.string ⟨#[]⟩) (.int .i64 (nextT ts ⟨0, 0⟩).a) (.slice kav ks.length kcap)
        have HFin := hidW (F3.fin (k := 1) (t := []) (a := (nextT ts ⟨0, 0⟩).a) (w := progA ts) hK hw)
        clear F3 hK
        go_wp2
        refine bodyPost_ret (v := .agg #[.int .i64 1, .string ⟨#[]⟩, .int .i64 (nextT ts ⟨0, 0⟩).a, .slice kav ks.length kcap]) (by simp [results, Try.results29, go_sem, r0, r1, r2, r3]) rfl ?_
        exact HFin.out

end Go.Proofs.Ytgndnodahlabiaa

/- Parse (layer 10): the contract. -/
namespace Go.Proofs.Ytgndnodahlabiaa
open Go.ChangeShapes Go.WideShapes Go.ChangeAt Go.RowKit

/-- Tokens in a row, as they may be handed to the parser. -/
structure Toks (W : World) (av : Option Addr) (blk off : Nat) (ts : List Tok) : Prop where
  at_ : 0 < ts.length → av = some ⟨blk, off, none⟩
  lt : 0 < ts.length → blk < W.heap.size
  has : ∀ i f, i < ts.length → f < 3 → W.cell? ⟨blk, off + i * 3 + f, none⟩ = (tcells (ts.getD i tk0))[f]?
  len : ts.length ≤ 100000
  sh : ∀ x, x ∈ ts → x.t.length ≤ 100000000
theorem Toks.below {W W' : World} {av : Option Addr} {blk off : Nat} {ts : List Tok} (h : Toks W av blk off ts) (hb : Below W.heap.size W W') : Toks W' av blk off ts :=
  ⟨h.at_, fun h0 => Nat.lt_of_lt_of_le (h.lt h0) hb.size, fun i f hi hf => (hb.cell (p := ⟨blk, off + i * 3 + f, none⟩) (h.lt (by omega))).trans (h.has i f hi hf), h.len, h.sh⟩
/-- What Parse answers. -/
def PrAns (ts : List Tok) (W : World) (e : Ending) (W' : World) : Prop :=
  ∃ n : Nv, e = .returned (.tuple #[n.val, .int .i64 ((parseS ts).2.1 : Int), .int .i64 ((parseS ts).2.2 : Int)]) ∧ Lies W.heap.size W' n ∧ n.nd = (parseS ts).1 ∧ Below W.heap.size W W'
theorem par_new {W : World} {av : Option Addr} {cap blk off : Nat} {ts : List Tok} (h : Toks W av blk off ts) :
    ParAt (W.alloc (.cells #[.slice av ts.length cap, .int .i64 0, .int .i64 0, .int .i64 0] 63)) W.heap.size av cap blk off ts ⟨0, 0⟩ 100 := by
  have hb := bel_new W (.cells #[.slice av ts.length cap, .int .i64 0, .int .i64 0, .int .i64 0] 63)
  have h2 := h.below hb
  exact ⟨World.alloc_heap_new W _, h.at_, fun h0 => ⟨h2.lt h0, by have := h.lt h0; omega⟩, h2.has, Nat.zero_le _, h.len, Nat.zero_le _, Nat.le_refl _, h.sh⟩

set_option maxRecDepth 100000 in
set_option maxHeartbeats 8000000 in
theorem parse_is {W : World} {av : Option Addr} {cap blk off : Nat} {ts : List Tok} (h : Toks W av blk off ts) : Calls Try.prog 18 #[.slice av ts.length cap] W (PrAns ts W) := by
  have hb0 := bel_new W (.cells #[.int .i64 0, .string ⟨#[]⟩, .int .i64 0, .slice none 0 0] 24)
  have p0 := par_new (cap := cap) (h.below hb0)
  have hk0 : ((W.alloc (.cells #[.int .i64 0, .string ⟨#[]⟩, .int .i64 0, .slice none 0 0] 24)).alloc (.cells #[.slice av ts.length cap, .int .i64 0, .int .i64 0, .int .i64 0] 63)).heap[W.heap.size]? = some (.cells #[.int .i64 0, .string ⟨#[]⟩, .int .i64 0, .slice none 0 0] 24 (0, 0)) := ((bel_new _ _).block _ (by simp)).trans (World.alloc_heap_new W _)
  have hb1 := bel_two hb0 (bel_new (W.alloc (.cells #[.int .i64 0, .string ⟨#[]⟩, .int .i64 0, .slice none 0 0] 24)) (.cells #[.slice av ts.length cap, .int .i64 0, .int .i64 0, .int .i64 0] 63))
  rw [World.size_alloc] at p0
  have hG := hidW (prog_is p0)
  have H0 := hidW (And.intro hk0 hb1)
  clear h hb0 p0 hk0 hb1
  generalize hn0 : ts.length = n0 at *
  have HN0 := hidW hn0
  clear hn0
  go_enter Try.func18, Try.ntmps18
  go_wp2_with fail
  refine hG.out.mono ?_; clear hG
  generalize hW2 : (W.alloc (.cells #[.int .i64 0, .string ⟨#[]⟩, .int .i64 0, .slice none 0 0] 24)).alloc (.cells #[.slice av n0 cap, .int .i64 0, .int .i64 0, .int .i64 0] 63) = W2 at *
  have hsz2 : W2.heap.size = W.heap.size + 2 := by rw [← hW2]; simp
  clear hW2
  rintro e W3 ⟨⟨k, t, a, nav, ncap, nblk, noff, ks⟩, rfl, hl, hn, p3, t3⟩
  have hB4 : Below W3.heap.size W3 (W3.alloc (.cells #[.int .i64 k, .string (bs t), .int .i64 a, .slice nav ks.length ncap] 24)) := bel_new _ _
  have p4 := p3.below hB4
  have hR4 := (hB4.block W.heap.size (by have := t3.size; omega)).trans ((t3.block W.heap.size (by omega) (by omega)).trans H0.out.1)
  have hk4 : (W3.alloc (.cells #[.int .i64 k, .string (bs t), .int .i64 a, .slice nav ks.length ncap] 24)).heap[W3.heap.size]? = some (.cells #[.int .i64 k, .string (bs t), .int .i64 a, .slice nav ks.length ncap] 24 (0, 0)) := World.alloc_heap_new W3 _
  have hb4 : Below W.heap.size W (W3.alloc (.cells #[.int .i64 k, .string (bs t), .int .i64 a, .slice nav ks.length ncap] 24)) := (Turns.below H0.out.2 (by omega) t3 (fun b hb e => by omega)).trans (hB4.mono (by have := t3.size; omega))
  have hl4 : Lies (W.heap.size + 1) (W3.alloc (.cells #[.int .i64 k, .string (bs t), .int .i64 a, .slice nav ks.length ncap] 24)) (.mk k t a nav ncap nblk noff ks) := Lies.mono (lies_new hl _) (by omega)
  have hs34 : W.heap.size + 2 ≤ W3.heap.size := by have := t3.size; omega
  have HN := hidW hn
  clear hB4 p3 t3 hl hn
  generalize hX : progA ts ⟨0, 0⟩ = X at *
  have HX := hidW hX
  clear hX
  obtain ⟨c0, c1, c2, c3⟩ := p4.cell
  have H4 := hidW (And.intro p4 (And.intro hR4 (And.intro hk4 (And.intro hb4 hl4))))
  clear p4 hR4 hk4 hb4 hl4
  have hpr : parseS ts = if X.2.er = 0 then (X.1, X.2.pl, 0) else (nd0, X.2.pl, X.2.er) := by rw [← HX.out]; rfl
  by_cases he : X.2.er = 0
  · have e1 : ((X.2.er : Int) != 0) = false := by simp [he]
    rw [if_pos he] at hpr
    have HPR := hidW hpr
    clear hpr he
    go_wp2_with fail
    refine region_late (fun V => (V.cell? ⟨W.heap.size + 1, 1, none⟩ = some (.int .i64 (X.2.pl : Int))) ∧ V.cell? ⟨W3.heap.size, 0, none⟩ = some (.int .i64 k) ∧ V.cell? ⟨W3.heap.size, 1, none⟩ = some (.string (bs t)) ∧ V.cell? ⟨W3.heap.size, 2, none⟩ = some (.int .i64 a) ∧ V.cell? ⟨W3.heap.size, 3, none⟩ = some (.slice nav ks.length ncap)) 99 (by kernel_rfl) ?_
    have hP4 := H4.out.1.box
    have hbd := bel_d (W3.alloc (.cells #[.int .i64 k, .string (bs t), .int .i64 a, .slice nav ks.length ncap] 24))
    have hsd : (W3.alloc (.cells #[.int .i64 k, .string (bs t), .int .i64 a, .slice nav ks.length ncap] 24)).drew.heap.size = W3.heap.size + 1 := by rw [← World.size_alloc]; rfl
    have hP5 := (hbd.block _ (lt_of hP4)).trans hP4
    have hR5 := (hbd.block _ (lt_of H4.out.2.1)).trans H4.out.2.1
    have hk5 := (hbd.block _ (lt_of H4.out.2.2.1)).trans H4.out.2.2.1
    have hb5 := H4.out.2.2.2.1.trans (hbd.mono (by have := H4.out.2.2.2.1.size; omega))
    have hl5 := H4.out.2.2.2.2.turns (turns_b (Q := fun _ => False) hbd) (fun _ _ _ h => h)
    clear hbd hP4 c0 c1 c2 c3
    generalize (W3.alloc (.cells #[.int .i64 k, .string (bs t), .int .i64 a, .slice nav ks.length ncap] 24)).drew = V5 at *
    have T5 := turns_set4 W.heap.size V5 (.int .i64 k) (.string (bs t)) (.int .i64 a) (.slice nav ks.length ncap)
    have hP6 := (T5.block _ (lt_of hP5) (by omega)).trans hP5
    have hk6 := (T5.block _ (lt_of hk5) (by omega)).trans hk5
    have hb6 := Turns.below hb5 hb5.size T5 (fun b hb e => by omega)
    have hl6 := hl5.turns T5 (fun b hb _ => by omega)
    have y0 := cell_of hP5 0
    have y1 := cell_of hP5 1
    have y2 := cell_of hP5 2
    have y3 := cell_of hP5 3
    have x0 := cell_of hk5 0
    have x1 := cell_of hk5 1
    have x2 := cell_of hk5 2
    have x3 := cell_of hk5 3
    have z0 := cell_of hR5 0
    have z1 := cell_of hR5 1
    have z2 := cell_of hR5 2
    have z3 := cell_of hR5 3
    have f0 := frozen_of hR5 0
    have f1 := frozen_of hR5 1
    have f2 := frozen_of hR5 2
    have f3 := frozen_of hR5 3
    have v0 := cell_of hP6 0
    have v1 := cell_of hP6 1
    have v2 := cell_of hP6 2
    have v3 := cell_of hP6 3
    have u0 := cell_of hk6 0
    have u1 := cell_of hk6 1
    have u2 := cell_of hk6 2
    have u3 := cell_of hk6 3
    simp only [List.getElem?_toArray, List.getElem?_cons_zero, List.getElem?_cons_succ] at y0 y1 y2 y3 x0 x1 x2 x3 z0 z1 z2 z3 v0 v1 v2 v3 u0 u1 u2 u3
    obtain ⟨r0, r1, r2, r3⟩ := res4 hR5 (.int .i64 k) (.string (bs t)) (.int .i64 a) (.slice nav ks.length ncap)
    have H6 := hidW (And.intro hb6 hl6)
    clear hP5 hR5 hk5 hb5 hl5 T5 hP6 hk6 hb6 hl6
    have hHeld : (V5.cell? ⟨W.heap.size + 1, 1, none⟩ = some (.int .i64 (X.2.pl : Int))) ∧ V5.cell? ⟨W3.heap.size, 0, none⟩ = some (.int .i64 k) ∧ V5.cell? ⟨W3.heap.size, 1, none⟩ = some (.string (bs t)) ∧ V5.cell? ⟨W3.heap.size, 2, none⟩ = some (.int .i64 a) ∧ V5.cell? ⟨W3.heap.size, 3, none⟩ = some (.slice nav ks.length ncap) := ⟨y1, x0, x1, x2, x3⟩
    refine anyL_take (i := 0) (v := ?_) rfl (by kernel_rfl) (by kernel_rfl) (by kernel_rfl) (by kernel_rfl) (fun _ _ _ h => h) (Or.inl ⟨by rfl, ?_⟩) hHeld ?_
    rotate_left 1
    · intro w hSw; (try dsimp only at hSw); go_simp; try with_reducible rfl
    refine anyL_take (i := 1) (v := ?_) rfl (by kernel_rfl) (by kernel_rfl) (by kernel_rfl) (by kernel_rfl) (fun _ _ _ h => h) (Or.inl ⟨by rfl, ?_⟩) hHeld ?_
    rotate_left 1
    · intro w hSw; (try dsimp only at hSw); go_simp; try with_reducible rfl
    refine anyL_take (i := 2) (v := ?_) rfl (by kernel_rfl) (by kernel_rfl) (by kernel_rfl) (by kernel_rfl) (fun _ _ _ h => h) (Or.inl ⟨by rfl, ?_⟩) hHeld ?_
    rotate_left 1
    · intro w hSw; (try dsimp only at hSw); go_simp; try with_reducible rfl
    refine anyL_ready (rs := [3]) (by kernel_rfl) (by simp) (ReadyL.cons rfl (fun K hK => ?_) (ReadyL.nil))
    · go_simp
      refine hK.out _ _ (⟨v1, u0, u1, u2, u3⟩) (fun hHeld => ?_)
      clear hK K
      refine anyL_take (i := 4) (v := ?_) rfl (by kernel_rfl) (by kernel_rfl) (by kernel_rfl) (by kernel_rfl) (fun _ _ _ h => h) (Or.inl ⟨by rfl, ?_⟩) hHeld ?_
      rotate_left 1
      · intro w hSw; (try dsimp only at hSw); go_simp; try with_reducible rfl
      refine anyL_take (i := 5) (v := ?_) rfl (by kernel_rfl) (by kernel_rfl) (by kernel_rfl) (by kernel_rfl) (fun _ _ _ h => h) (Or.inl ⟨by rfl, ?_⟩) hHeld ?_
      rotate_left 1
      · intro w hSw; (try dsimp only at hSw); go_simp; try with_reducible rfl
      refine anyL_done (by kernel_rfl) ?_ _
      go_wp2
      refine bodyPost_ret (v := .tuple #[.agg #[.int .i64 k, .string (bs t), .int .i64 a, .slice nav ks.length ncap], .int .i64 (X.2.pl : Int), .int .i64 0]) (by simp [results, Try.results18, go_sem, r0, r1, r2, r3]) rfl ?_
      refine ⟨.mk k t a nav ncap nblk noff ks, by rw [HPR.out]; rfl, Lies.mono H6.out.2 (by omega), by rw [HPR.out, HN.out], H6.out.1⟩
  · have e1 : ((X.2.er : Int) != 0) = true := by simp [he]
    rw [if_neg he] at hpr
    have HPR := hidW hpr
    clear hpr he
    go_wp2_with fail
    refine region_late (fun V => (V.cell? ⟨W.heap.size + 1, 1, none⟩ = some (.int .i64 (X.2.pl : Int))) ∧ (V.cell? ⟨W.heap.size + 1, 3, none⟩ = some (.int .i64 (X.2.er : Int)))) 99 (by kernel_rfl) ?_
    have hP4 := H4.out.1.box
    have hbd := bel_d (W3.alloc (.cells #[.int .i64 k, .string (bs t), .int .i64 a, .slice nav ks.length ncap] 24))
    have hsd : (W3.alloc (.cells #[.int .i64 k, .string (bs t), .int .i64 a, .slice nav ks.length ncap] 24)).drew.heap.size = W3.heap.size + 1 := by rw [← World.size_alloc]; rfl
    have hP5 := (hbd.block _ (lt_of hP4)).trans hP4
    have hR5 := (hbd.block _ (lt_of H4.out.2.1)).trans H4.out.2.1
    have hk5 := (hbd.block _ (lt_of H4.out.2.2.1)).trans H4.out.2.2.1
    have hb5 := H4.out.2.2.2.1.trans (hbd.mono (by have := H4.out.2.2.2.1.size; omega))
    have hl5 := H4.out.2.2.2.2.turns (turns_b (Q := fun _ => False) hbd) (fun _ _ _ h => h)
    clear hbd hP4 c0 c1 c2 c3
    generalize (W3.alloc (.cells #[.int .i64 k, .string (bs t), .int .i64 a, .slice nav ks.length ncap] 24)).drew = V5 at *
    have T5 := turns_set4 W.heap.size V5 (.int .i64 0) (.string ⟨#[]⟩) (.int .i64 0) (.slice none 0 0)
    have hP6 := (T5.block _ (lt_of hP5) (by omega)).trans hP5
    have hk6 := (T5.block _ (lt_of hk5) (by omega)).trans hk5
    have hb6 := Turns.below hb5 hb5.size T5 (fun b hb e => by omega)
    have hl6 := hl5.turns T5 (fun b hb _ => by omega)
    have y0 := cell_of hP5 0
    have y1 := cell_of hP5 1
    have y2 := cell_of hP5 2
    have y3 := cell_of hP5 3
    have x0 := cell_of hk5 0
    have x1 := cell_of hk5 1
    have x2 := cell_of hk5 2
    have x3 := cell_of hk5 3
    have z0 := cell_of hR5 0
    have z1 := cell_of hR5 1
    have z2 := cell_of hR5 2
    have z3 := cell_of hR5 3
    have f0 := frozen_of hR5 0
    have f1 := frozen_of hR5 1
    have f2 := frozen_of hR5 2
    have f3 := frozen_of hR5 3
    have v0 := cell_of hP6 0
    have v1 := cell_of hP6 1
    have v2 := cell_of hP6 2
    have v3 := cell_of hP6 3
    have u0 := cell_of hk6 0
    have u1 := cell_of hk6 1
    have u2 := cell_of hk6 2
    have u3 := cell_of hk6 3
    simp only [List.getElem?_toArray, List.getElem?_cons_zero, List.getElem?_cons_succ] at y0 y1 y2 y3 x0 x1 x2 x3 z0 z1 z2 z3 v0 v1 v2 v3 u0 u1 u2 u3
    obtain ⟨r0, r1, r2, r3⟩ := res4 hR5 (.int .i64 0) (.string ⟨#[]⟩) (.int .i64 0) (.slice none 0 0)
    have H6 := hidW (And.intro hb6 hl6)
    clear hP5 hR5 hk5 hb5 hl5 T5 hP6 hk6 hb6 hl6
    have hHeld : (V5.cell? ⟨W.heap.size + 1, 1, none⟩ = some (.int .i64 (X.2.pl : Int))) ∧ (V5.cell? ⟨W.heap.size + 1, 3, none⟩ = some (.int .i64 (X.2.er : Int))) := ⟨y1, y3⟩
    refine anyL_take (i := 0) (v := ?_) rfl (by kernel_rfl) (by kernel_rfl) (by kernel_rfl) (by kernel_rfl) (fun _ _ _ h => h) (Or.inl ⟨by rfl, ?_⟩) hHeld ?_
    rotate_left 1
    · intro w hSw; (try dsimp only at hSw); go_simp; try with_reducible rfl
    refine anyL_take (i := 1) (v := ?_) rfl (by kernel_rfl) (by kernel_rfl) (by kernel_rfl) (by kernel_rfl) (fun _ _ _ h => h) (Or.inl ⟨by rfl, ?_⟩) hHeld ?_
    rotate_left 1
    · intro w hSw; (try dsimp only at hSw); go_simp; try with_reducible rfl
    refine anyL_take (i := 2) (v := ?_) rfl (by kernel_rfl) (by kernel_rfl) (by kernel_rfl) (by kernel_rfl) (fun _ _ _ h => h) (Or.inl ⟨by rfl, ?_⟩) hHeld ?_
    rotate_left 1
    · intro w hSw; (try dsimp only at hSw); go_simp; try with_reducible rfl
    refine anyL_take (i := 3) (v := ?_) rfl (by kernel_rfl) (by kernel_rfl) (by kernel_rfl) (by kernel_rfl) (fun _ _ _ h => h) (Or.inl ⟨by rfl, ?_⟩) hHeld ?_
    rotate_left 1
    · intro w hSw; (try dsimp only at hSw); go_simp; try with_reducible rfl
    refine anyL_take (i := 4) (v := ?_) rfl (by kernel_rfl) (by kernel_rfl) (by kernel_rfl) (by kernel_rfl) (fun _ _ _ h => h) (Or.inl ⟨by rfl, ?_⟩) hHeld ?_
    rotate_left 1
    · intro w hSw; (try dsimp only at hSw); go_simp; try with_reducible rfl
    refine anyL_ready (rs := [5]) (by kernel_rfl) (by simp) (ReadyL.cons rfl (fun K hK => ?_) (ReadyL.nil))
    · go_simp
      refine hK.out _ _ (⟨v1, v3⟩) (fun hHeld => ?_)
      clear hK K
      refine anyL_take (i := 6) (v := ?_) rfl (by kernel_rfl) (by kernel_rfl) (by kernel_rfl) (by kernel_rfl) (fun _ _ _ h => h) (Or.inl ⟨by rfl, ?_⟩) hHeld ?_
      rotate_left 1
      · intro w hSw; (try dsimp only at hSw); go_simp; try with_reducible rfl
      refine anyL_take (i := 7) (v := ?_) rfl (by kernel_rfl) (by kernel_rfl) (by kernel_rfl) (by kernel_rfl) (fun _ _ _ h => h) (Or.inl ⟨by rfl, ?_⟩) hHeld ?_
      rotate_left 1
      · intro w hSw; (try dsimp only at hSw); go_simp; try with_reducible rfl
      refine anyL_done (by kernel_rfl) ?_ _
      go_wp2
      refine bodyPost_ret (v := .tuple #[.agg #[.int .i64 0, .string ⟨#[]⟩, .int .i64 0, .slice none 0 0], .int .i64 (X.2.pl : Int), .int .i64 (X.2.er : Int)]) (by simp [results, Try.results18, go_sem, r0, r1, r2, r3]) rfl ?_
      refine ⟨leafV 0 [] 0, by rw [HPR.out]; rfl, lies_leaf _ _ _ _ _, by rw [HPR.out]; rfl, H6.out.1⟩
end Go.Proofs.Ytgndnodahlabiaa
