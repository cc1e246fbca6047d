/-
  A writer (layer 10): two operands and a sign.
-/
import Derived.Test.YtgndnodahlabiaaMgL
namespace Go.Proofs.Ytgndnodahlabiaa
open Go.ChangeShapes Go.WideShapes Go.ChangeAt Go.RowKit

set_option maxRecDepth 100000 in
set_option maxHeartbeats 16000000 in
theorem wr_19 {B b z : Nat} (IH : NodeTo B b z) {x : Ws} {W : World} (h : WrAt B b x W) {t : List UInt8} {a : Int} {av : Option Addr} {cap blk off : Nat} {ks : List Nv} (hr : RowB B W av blk off ks) (hz : szL (ndL ks) ≤ z) (hlen : x.l.length + (t.length + 60 + nedL (ndL ks)) ≤ 140737488355328) (hk : 2 ≤ ks.length) (_hcap : ks.length ≤ cap) :
    Calls Try.prog 34 #[.pointer (some ⟨b, 0, none⟩), .agg #[.int .i64 19, .string (bs t), .int .i64 a, .slice av ks.length cap]] W fun e W' => e = .returned (.tuple #[]) ∧ WrAt B b (appL (rowP 19 t (txtL (ndL ks))) x) W' ∧ Wrt B b W W' := by
  have hi0 : 0 < ks.length := by omega
  obtain ⟨n0, he0⟩ : ∃ n, ks[0]'hi0 = n := ⟨_, rfl⟩
  have hi1 : 1 < ks.length := by omega
  obtain ⟨n1, he1⟩ : ∃ n, ks[1]'hi1 = n := ⟨_, rfl⟩
  have hj1 : ((1 : Int) < (ks.length : Int)) = True := eq_true (by omega)
  have hned := ned_at2 hi1 he0 he1
  have hg0 := txt_at hi0 he0
  have hg1 := txt_at hi1 he1
  obtain ⟨k0, t0, a0, v0, c0, b0, o0, s0⟩ := n0
  obtain ⟨k1, t1, a1, v1, c1, b1, o1, s1⟩ := n1
  obtain rfl := hr.row.at_ (by omega)
  have HFIN := hidW (show appL (rowP 19 t (txtL (ndL ks))) x = (appL [[41]] (app1 (txt (Nv.mk k1 t1 a1 v1 c1 b1 o1 s1).nd) (appL [t] (app1 (txt (Nv.mk k0 t0 a0 v0 c0 b0 o0 s0).nd) (appL [[40]] x))))) from by rw [rowP_19, hg0, hg1] <;> rfl)
  have L0 : x.l.length + (room [[40]] + (ned (Nv.mk k0 t0 a0 v0 c0 b0 o0 s0).nd + 4 + (room [t] + (ned (Nv.mk k1 t1 a1 v1 c1 b1 o1 s1).nd + 4 + (room [[41]] + (0)))))) ≤ 140737488355328 := by simp only [room_cons, room_nil, List.length_cons, List.length_nil]; omega
  have L1 := put_room _ _ _ L0
  have L2 := node_room _ _ _ L1
  have L3 := put_room _ _ _ L2
  have L4 := node_room _ _ _ L3
  have C0 := hidW (fun (V : World) (g : Nat) (h : Qs B b W 19 t a (some ⟨blk, off, none⟩) cap blk off ks x V) (hg : Rw b g [[40]] V) => h.put [[40]] (by omega) (by simp) hg)
  have C1 := hidW (fun (V : World) (h : Qs B b W 19 t a (some ⟨blk, off, none⟩) cap blk off ks (appL [[40]] x) V) => h.node IH hz hi0 he0 (by omega))
  have C2 := hidW (fun (V : World) (g : Nat) (h : Qs B b W 19 t a (some ⟨blk, off, none⟩) cap blk off ks (app1 (txt (Nv.mk k0 t0 a0 v0 c0 b0 o0 s0).nd) (appL [[40]] x)) V) (hg : Rw b g [t] V) => h.put [t] (by omega) (by simp) hg)
  have C3 := hidW (fun (V : World) (h : Qs B b W 19 t a (some ⟨blk, off, none⟩) cap blk off ks (appL [t] (app1 (txt (Nv.mk k0 t0 a0 v0 c0 b0 o0 s0).nd) (appL [[40]] x))) V) => h.node IH hz hi1 he1 (by omega))
  have C4 := hidW (fun (V : World) (g : Nat) (h : Qs B b W 19 t a (some ⟨blk, off, none⟩) cap blk off ks (app1 (txt (Nv.mk k1 t1 a1 v1 c1 b1 o1 s1).nd) (appL [t] (app1 (txt (Nv.mk k0 t0 a0 v0 c0 b0 o0 s0).nd) (appL [[40]] x)))) V) (hg : Rw b g [[41]] V) => h.put [[41]] (by omega) (by simp) hg)
  have HQ := hidW (Qs.start (k := 19) (t := t) (a := a) (cap := cap) h hr)
  have HS := hidW (fun (V : World) (y : Ws) (hN : Qs B b W 19 t a (some ⟨blk, off, none⟩) cap blk off ks y V) => (show (V.cell? ⟨W.heap.size, 1, none⟩ = some (.string (bs t))) ∧ (V.cell? ⟨blk, off, none⟩ = some (.int .i64 k0)) ∧ (V.cell? ⟨blk, off + 1, none⟩ = some (.string (bs t0))) ∧ (V.cell? ⟨blk, off + 2, none⟩ = some (.int .i64 a0)) ∧ (V.cell? ⟨blk, off + 3, none⟩ = some (.slice v0 s0.length c0)) ∧ (V.cell? ⟨blk, off + 4, none⟩ = some (.int .i64 k1)) ∧ (V.cell? ⟨blk, off + 5, none⟩ = some (.string (bs t1))) ∧ (V.cell? ⟨blk, off + 6, none⟩ = some (.int .i64 a1)) ∧ (V.cell? ⟨blk, off + 7, none⟩ = some (.slice v1 s1.length c1)) from ⟨hN.n.text.2.1, (hN.n.kid0 hi0 he0).1, (hN.n.kid0 hi0 he0).2.1, (hN.n.kid0 hi0 he0).2.2.1, (hN.n.kid0 hi0 he0).2.2.2, (hN.n.kid1 hi1 he1).1, (hN.n.kid1 hi1 he1).2.1, (hN.n.kid1 hi1 he1).2.2.1, (hN.n.kid1 hi1 he1).2.2.2⟩))
  obtain ⟨q0, -, q3⟩ := HQ.out.n.text
  clear h hr hlen L0 L1 L2 L3 L4 he0 hg0 he1 hg1 hned
  go_enter Try.func34, Try.ntmps34
  go_wp2_with fail
  refine region_late (fun V => (V.cell? ⟨W.heap.size, 1, none⟩ = some (.string (bs t))) ∧ (V.cell? ⟨blk, off, none⟩ = some (.int .i64 k0)) ∧ (V.cell? ⟨blk, off + 1, none⟩ = some (.string (bs t0))) ∧ (V.cell? ⟨blk, off + 2, none⟩ = some (.int .i64 a0)) ∧ (V.cell? ⟨blk, off + 3, none⟩ = some (.slice v0 s0.length c0)) ∧ (V.cell? ⟨blk, off + 4, none⟩ = some (.int .i64 k1)) ∧ (V.cell? ⟨blk, off + 5, none⟩ = some (.string (bs t1))) ∧ (V.cell? ⟨blk, off + 6, none⟩ = some (.int .i64 a1)) ∧ (V.cell? ⟨blk, off + 7, none⟩ = some (.slice v1 s1.length c1))) 99 (by kernel_rfl) ?_
  replace HQ := hidW HQ.out.drew
  clear q0 q3
  generalize (W.alloc (.cells #[.int .i64 19, .string (bs t), .int .i64 a, .slice (some ⟨blk, off, none⟩) ks.length cap] 24)).drew = V0 at *
  have hHeld := HS.out _ _ HQ.out
  refine anyL_tk 0 (v := ?_) rfl (by kernel_rfl) (fun _ _ _ h => h) hHeld (by rfl) ?_ ?_
  rotate_left 1
  · intro w hSw; (try dsimp only at hSw); go_simp; try with_reducible rfl
  refine anyL_tk 3 (v := ?_) rfl (by kernel_rfl) (fun _ _ _ h => h) hHeld (by rfl) ?_ ?_
  rotate_left 1
  · intro w hSw; (try dsimp only at hSw); go_simp; try with_reducible rfl
  refine anyL_tk 4 (v := ?_) rfl (by kernel_rfl) (fun _ _ _ h => h) hHeld (by rfl) ?_ ?_
  rotate_left 1
  · intro w hSw; (try dsimp only at hSw); go_simp; try with_reducible rfl
  refine anyL_tk 5 (v := ?_) rfl (by kernel_rfl) (fun _ _ _ h => h) hHeld (by rfl) ?_ ?_
  rotate_left 1
  · intro w hSw; (try dsimp only at hSw); go_simp; try with_reducible rfl
  refine anyL_tk 7 (v := ?_) rfl (by kernel_rfl) (fun _ _ _ h => h) hHeld (by rfl) ?_ ?_
  rotate_left 1
  · intro w hSw; (try dsimp only at hSw); go_simp; try with_reducible rfl
  refine anyL_tk 8 (v := ?_) rfl (by kernel_rfl) (fun _ _ _ h => h) hHeld (by rfl) ?_ ?_
  rotate_left 1
  · intro w hSw; (try dsimp only at hSw); go_simp; try with_reducible rfl
  refine anyL_tk 11 (v := ?_) rfl (by kernel_rfl) (fun _ _ _ h => h) hHeld (by rfl) ?_ ?_
  rotate_left 1
  · intro w hSw; (try dsimp only at hSw); go_simp; try with_reducible rfl
  refine anyL_tk 12 (v := ?_) rfl (by kernel_rfl) (fun _ _ _ h => h) hHeld (by rfl) ?_ ?_
  rotate_left 1
  · intro w hSw; (try dsimp only at hSw); go_simp; try with_reducible rfl
  refine anyL_tk 13 (v := ?_) rfl (by kernel_rfl) (fun _ _ _ h => h) hHeld (by rfl) ?_ ?_
  rotate_left 1
  · intro w hSw; (try dsimp only at hSw); go_simp; try with_reducible rfl
  refine anyL_ready (rs := [1, 9, 15]) (by kernel_rfl) (by simp) (ReadyL.cons rfl (fun K hK => ?_) (ReadyL.cons rfl (fun K hK => ?_) (ReadyL.cons rfl (fun K hK => ?_) (ReadyL.nil))))
  · dsimp only [List.getElem_toArray, List.getElem_cons_succ, List.getElem_cons_zero]
    go_simp
    have hq : Qs B b W 19 t a (some ⟨blk, off, none⟩) cap blk off ks _ (V0.alloc (.cells #[.string ⟨#[40]⟩] 9)) ∧ Rw b V0.heap.size [[40]] (V0.alloc (.cells #[.string ⟨#[40]⟩] 9)) ∧ Wrt B b V0 (V0.alloc (.cells #[.string ⟨#[40]⟩] 9)) := HQ.out.row [[40]]
    generalize V0.alloc (.cells #[.string ⟨#[40]⟩] 9) = V1 at *
    generalize V0.heap.size = g1 at *
    replace HQ := hidW hq.1
    have HG1 := hidW hq.2.1
    clear hq
    refine hK.out _ _ (HS.out _ _ HQ.out) (fun hNew => ?_)
    clear hK K hHeld
    have hHeld := hNew
    clear hNew
    refine anyL_ready (rs := [2, 9, 15]) (by kernel_rfl) (by simp) (ReadyL.cons rfl (fun K hK => ?_) (ReadyL.cons rfl (fun K hK => ?_) (ReadyL.cons rfl (fun K hK => ?_) (ReadyL.nil))))
    · dsimp only [List.getElem_toArray, List.getElem_cons_succ, List.getElem_cons_zero]
      go_simp
      refine (C0.out _ _ HQ.out HG1.out).mono ?_
      rintro e V2 ⟨rfl, hq, hw⟩
      replace HQ := hidW hq
      clear hq hw HG1
      go_wp2_with fail
      refine hK.out _ _ (HS.out _ _ HQ.out) (fun hNew => ?_)
      clear hK K hHeld
      have hHeld := hNew
      clear hNew
      refine anyL_ready (rs := [6, 9, 15]) (by kernel_rfl) (by simp) (ReadyL.cons rfl (fun K hK => ?_) (ReadyL.cons rfl (fun K hK => ?_) (ReadyL.cons rfl (fun K hK => ?_) (ReadyL.nil))))
      · dsimp only [List.getElem_toArray, List.getElem_cons_succ, List.getElem_cons_zero]
        go_simp
        refine (C1.out _ HQ.out).mono ?_
        rintro e V3 ⟨rfl, hq, hw⟩
        replace HQ := hidW hq
        clear hq hw
        go_wp2_with fail
        refine hK.out _ _ (HS.out _ _ HQ.out) (fun hNew => ?_)
        clear hK K hHeld
        have hHeld := hNew
        clear hNew
        refine anyL_ready (rs := [9, 15]) (by kernel_rfl) (by simp) (ReadyL.cons rfl (fun K hK => ?_) (ReadyL.cons rfl (fun K hK => ?_) (ReadyL.nil)))
        · dsimp only [List.getElem_toArray, List.getElem_cons_succ, List.getElem_cons_zero]
          go_simp
          have hq : Qs B b W 19 t a (some ⟨blk, off, none⟩) cap blk off ks _ (V3.alloc (.cells #[.string (bs t)] 9)) ∧ Rw b V3.heap.size [t] (V3.alloc (.cells #[.string (bs t)] 9)) ∧ Wrt B b V3 (V3.alloc (.cells #[.string (bs t)] 9)) := HQ.out.row [t]
          generalize V3.alloc (.cells #[.string (bs t)] 9) = V4 at *
          generalize V3.heap.size = g9 at *
          replace HQ := hidW hq.1
          have HG9 := hidW hq.2.1
          clear hq
          refine hK.out _ _ (HS.out _ _ HQ.out) (fun hNew => ?_)
          clear hK K hHeld
          have hHeld := hNew
          clear hNew
          refine anyL_ready (rs := [10, 15]) (by kernel_rfl) (by simp) (ReadyL.cons rfl (fun K hK => ?_) (ReadyL.cons rfl (fun K hK => ?_) (ReadyL.nil)))
          · dsimp only [List.getElem_toArray, List.getElem_cons_succ, List.getElem_cons_zero]
            go_simp
            refine (C2.out _ _ HQ.out HG9.out).mono ?_
            rintro e V5 ⟨rfl, hq, hw⟩
            replace HQ := hidW hq
            clear hq hw HG9
            go_wp2_with fail
            refine hK.out _ _ (HS.out _ _ HQ.out) (fun hNew => ?_)
            clear hK K hHeld
            have hHeld := hNew
            clear hNew
            refine anyL_ready (rs := [14, 15]) (by kernel_rfl) (by simp) (ReadyL.cons rfl (fun K hK => ?_) (ReadyL.cons rfl (fun K hK => ?_) (ReadyL.nil)))
            · dsimp only [List.getElem_toArray, List.getElem_cons_succ, List.getElem_cons_zero]
              go_simp
              refine (C3.out _ HQ.out).mono ?_
              rintro e V6 ⟨rfl, hq, hw⟩
              replace HQ := hidW hq
              clear hq hw
              go_wp2_with fail
              refine hK.out _ _ (HS.out _ _ HQ.out) (fun hNew => ?_)
              clear hK K hHeld
              have hHeld := hNew
              clear hNew
              refine anyL_ready (rs := [15]) (by kernel_rfl) (by simp) (ReadyL.cons rfl (fun K hK => ?_) (ReadyL.nil))
              · dsimp only [List.getElem_toArray, List.getElem_cons_succ, List.getElem_cons_zero]
                go_simp
                have hq : Qs B b W 19 t a (some ⟨blk, off, none⟩) cap blk off ks _ (V6.alloc (.cells #[.string ⟨#[41]⟩] 9)) ∧ Rw b V6.heap.size [[41]] (V6.alloc (.cells #[.string ⟨#[41]⟩] 9)) ∧ Wrt B b V6 (V6.alloc (.cells #[.string ⟨#[41]⟩] 9)) := HQ.out.row [[41]]
                generalize V6.alloc (.cells #[.string ⟨#[41]⟩] 9) = V7 at *
                generalize V6.heap.size = g15 at *
                replace HQ := hidW hq.1
                have HG15 := hidW hq.2.1
                clear hq
                refine hK.out _ _ (HS.out _ _ HQ.out) (fun hNew => ?_)
                clear hK K hHeld
                have hHeld := hNew
                clear hNew
                refine anyL_ready (rs := [16]) (by kernel_rfl) (by simp) (ReadyL.cons rfl (fun K hK => ?_) (ReadyL.nil))
                · dsimp only [List.getElem_toArray, List.getElem_cons_succ, List.getElem_cons_zero]
                  go_simp
                  refine (C4.out _ _ HQ.out HG15.out).mono ?_
                  rintro e V8 ⟨rfl, hq, hw⟩
                  replace HQ := hidW hq
                  clear hq hw HG15
                  go_wp2_with fail
                  refine hK.out _ _ (HS.out _ _ HQ.out) (fun hNew => ?_)
                  clear hK K hHeld
                  have hHeld := hNew
                  clear hNew
                  refine anyL_done (by kernel_rfl) ?_ _
                  go_wp2
                  refine bodyPost_end (v := .tuple #[]) (by simp [results, Try.results34, go_sem]) rfl ?_
                  exact ⟨rfl, by rw [HFIN.out]; exact HQ.out.w, HQ.out.r⟩
            · dsimp only [List.getElem_toArray, List.getElem_cons_succ, List.getElem_cons_zero]
              go_simp
              have hq : Qs B b W 19 t a (some ⟨blk, off, none⟩) cap blk off ks _ (V5.alloc (.cells #[.string ⟨#[41]⟩] 9)) ∧ Rw b V5.heap.size [[41]] (V5.alloc (.cells #[.string ⟨#[41]⟩] 9)) ∧ Wrt B b V5 (V5.alloc (.cells #[.string ⟨#[41]⟩] 9)) := HQ.out.row [[41]]
              generalize V5.alloc (.cells #[.string ⟨#[41]⟩] 9) = V6 at *
              generalize V5.heap.size = g15 at *
              replace HQ := hidW hq.1
              have HG15 := hidW hq.2.1
              clear hq
              refine hK.out _ _ (HS.out _ _ HQ.out) (fun hNew => ?_)
              clear hK K hHeld
              have hHeld := hNew
              clear hNew
              refine anyL_ready (rs := [14]) (by kernel_rfl) (by simp) (ReadyL.cons rfl (fun K hK => ?_) (ReadyL.nil))
              · dsimp only [List.getElem_toArray, List.getElem_cons_succ, List.getElem_cons_zero]
                go_simp
                refine (C3.out _ HQ.out).mono ?_
                rintro e V7 ⟨rfl, hq, hw⟩
                replace HG15 := hidW (HG15.out.kept hw)
                replace HQ := hidW hq
                clear hq hw
                go_wp2_with fail
                refine hK.out _ _ (HS.out _ _ HQ.out) (fun hNew => ?_)
                clear hK K hHeld
                have hHeld := hNew
                clear hNew
                refine anyL_ready (rs := [16]) (by kernel_rfl) (by simp) (ReadyL.cons rfl (fun K hK => ?_) (ReadyL.nil))
                · dsimp only [List.getElem_toArray, List.getElem_cons_succ, List.getElem_cons_zero]
                  go_simp
                  refine (C4.out _ _ HQ.out HG15.out).mono ?_
                  rintro e V8 ⟨rfl, hq, hw⟩
                  replace HQ := hidW hq
                  clear hq hw HG15
                  go_wp2_with fail
                  refine hK.out _ _ (HS.out _ _ HQ.out) (fun hNew => ?_)
                  clear hK K hHeld
                  have hHeld := hNew
                  clear hNew
                  refine anyL_done (by kernel_rfl) ?_ _
                  go_wp2
                  refine bodyPost_end (v := .tuple #[]) (by simp [results, Try.results34, go_sem]) rfl ?_
                  exact ⟨rfl, by rw [HFIN.out]; exact HQ.out.w, HQ.out.r⟩
          · dsimp only [List.getElem_toArray, List.getElem_cons_succ, List.getElem_cons_zero]
            go_simp
            have hq : Qs B b W 19 t a (some ⟨blk, off, none⟩) cap blk off ks _ (V4.alloc (.cells #[.string ⟨#[41]⟩] 9)) ∧ Rw b V4.heap.size [[41]] (V4.alloc (.cells #[.string ⟨#[41]⟩] 9)) ∧ Wrt B b V4 (V4.alloc (.cells #[.string ⟨#[41]⟩] 9)) := HQ.out.row [[41]]
            generalize V4.alloc (.cells #[.string ⟨#[41]⟩] 9) = V5 at *
            generalize V4.heap.size = g15 at *
            replace HG9 := hidW (HG9.out.kept hq.2.2)
            replace HQ := hidW hq.1
            have HG15 := hidW hq.2.1
            clear hq
            refine hK.out _ _ (HS.out _ _ HQ.out) (fun hNew => ?_)
            clear hK K hHeld
            have hHeld := hNew
            clear hNew
            refine anyL_ready (rs := [10]) (by kernel_rfl) (by simp) (ReadyL.cons rfl (fun K hK => ?_) (ReadyL.nil))
            · dsimp only [List.getElem_toArray, List.getElem_cons_succ, List.getElem_cons_zero]
              go_simp
              refine (C2.out _ _ HQ.out HG9.out).mono ?_
              rintro e V6 ⟨rfl, hq, hw⟩
              replace HG15 := hidW (HG15.out.kept hw)
              replace HQ := hidW hq
              clear hq hw HG9
              go_wp2_with fail
              refine hK.out _ _ (HS.out _ _ HQ.out) (fun hNew => ?_)
              clear hK K hHeld
              have hHeld := hNew
              clear hNew
              refine anyL_ready (rs := [14]) (by kernel_rfl) (by simp) (ReadyL.cons rfl (fun K hK => ?_) (ReadyL.nil))
              · dsimp only [List.getElem_toArray, List.getElem_cons_succ, List.getElem_cons_zero]
                go_simp
                refine (C3.out _ HQ.out).mono ?_
                rintro e V7 ⟨rfl, hq, hw⟩
                replace HG15 := hidW (HG15.out.kept hw)
                replace HQ := hidW hq
                clear hq hw
                go_wp2_with fail
                refine hK.out _ _ (HS.out _ _ HQ.out) (fun hNew => ?_)
                clear hK K hHeld
                have hHeld := hNew
                clear hNew
                refine anyL_ready (rs := [16]) (by kernel_rfl) (by simp) (ReadyL.cons rfl (fun K hK => ?_) (ReadyL.nil))
                · dsimp only [List.getElem_toArray, List.getElem_cons_succ, List.getElem_cons_zero]
                  go_simp
                  refine (C4.out _ _ HQ.out HG15.out).mono ?_
                  rintro e V8 ⟨rfl, hq, hw⟩
                  replace HQ := hidW hq
                  clear hq hw HG15
                  go_wp2_with fail
                  refine hK.out _ _ (HS.out _ _ HQ.out) (fun hNew => ?_)
                  clear hK K hHeld
                  have hHeld := hNew
                  clear hNew
                  refine anyL_done (by kernel_rfl) ?_ _
                  go_wp2
                  refine bodyPost_end (v := .tuple #[]) (by simp [results, Try.results34, go_sem]) rfl ?_
                  exact ⟨rfl, by rw [HFIN.out]; exact HQ.out.w, HQ.out.r⟩
        · dsimp only [List.getElem_toArray, List.getElem_cons_succ, List.getElem_cons_zero]
          go_simp
          have hq : Qs B b W 19 t a (some ⟨blk, off, none⟩) cap blk off ks _ (V3.alloc (.cells #[.string ⟨#[41]⟩] 9)) ∧ Rw b V3.heap.size [[41]] (V3.alloc (.cells #[.string ⟨#[41]⟩] 9)) ∧ Wrt B b V3 (V3.alloc (.cells #[.string ⟨#[41]⟩] 9)) := HQ.out.row [[41]]
          generalize V3.alloc (.cells #[.string ⟨#[41]⟩] 9) = V4 at *
          generalize V3.heap.size = g15 at *
          replace HQ := hidW hq.1
          have HG15 := hidW hq.2.1
          clear hq
          refine hK.out _ _ (HS.out _ _ HQ.out) (fun hNew => ?_)
          clear hK K hHeld
          have hHeld := hNew
          clear hNew
          refine anyL_ready (rs := [9]) (by kernel_rfl) (by simp) (ReadyL.cons rfl (fun K hK => ?_) (ReadyL.nil))
          · dsimp only [List.getElem_toArray, List.getElem_cons_succ, List.getElem_cons_zero]
            go_simp
            have hq : Qs B b W 19 t a (some ⟨blk, off, none⟩) cap blk off ks _ (V4.alloc (.cells #[.string (bs t)] 9)) ∧ Rw b V4.heap.size [t] (V4.alloc (.cells #[.string (bs t)] 9)) ∧ Wrt B b V4 (V4.alloc (.cells #[.string (bs t)] 9)) := HQ.out.row [t]
            generalize V4.alloc (.cells #[.string (bs t)] 9) = V5 at *
            generalize V4.heap.size = g9 at *
            replace HG15 := hidW (HG15.out.kept hq.2.2)
            replace HQ := hidW hq.1
            have HG9 := hidW hq.2.1
            clear hq
            refine hK.out _ _ (HS.out _ _ HQ.out) (fun hNew => ?_)
            clear hK K hHeld
            have hHeld := hNew
            clear hNew
            refine anyL_ready (rs := [10]) (by kernel_rfl) (by simp) (ReadyL.cons rfl (fun K hK => ?_) (ReadyL.nil))
            · dsimp only [List.getElem_toArray, List.getElem_cons_succ, List.getElem_cons_zero]
              go_simp
              refine (C2.out _ _ HQ.out HG9.out).mono ?_
              rintro e V6 ⟨rfl, hq, hw⟩
              replace HG15 := hidW (HG15.out.kept hw)
              replace HQ := hidW hq
              clear hq hw HG9
              go_wp2_with fail
              refine hK.out _ _ (HS.out _ _ HQ.out) (fun hNew => ?_)
              clear hK K hHeld
              have hHeld := hNew
              clear hNew
              refine anyL_ready (rs := [14]) (by kernel_rfl) (by simp) (ReadyL.cons rfl (fun K hK => ?_) (ReadyL.nil))
              · dsimp only [List.getElem_toArray, List.getElem_cons_succ, List.getElem_cons_zero]
                go_simp
                refine (C3.out _ HQ.out).mono ?_
                rintro e V7 ⟨rfl, hq, hw⟩
                replace HG15 := hidW (HG15.out.kept hw)
                replace HQ := hidW hq
                clear hq hw
                go_wp2_with fail
                refine hK.out _ _ (HS.out _ _ HQ.out) (fun hNew => ?_)
                clear hK K hHeld
                have hHeld := hNew
                clear hNew
                refine anyL_ready (rs := [16]) (by kernel_rfl) (by simp) (ReadyL.cons rfl (fun K hK => ?_) (ReadyL.nil))
                · dsimp only [List.getElem_toArray, List.getElem_cons_succ, List.getElem_cons_zero]
                  go_simp
                  refine (C4.out _ _ HQ.out HG15.out).mono ?_
                  rintro e V8 ⟨rfl, hq, hw⟩
                  replace HQ := hidW hq
                  clear hq hw HG15
                  go_wp2_with fail
                  refine hK.out _ _ (HS.out _ _ HQ.out) (fun hNew => ?_)
                  clear hK K hHeld
                  have hHeld := hNew
                  clear hNew
                  refine anyL_done (by kernel_rfl) ?_ _
                  go_wp2
                  refine bodyPost_end (v := .tuple #[]) (by simp [results, Try.results34, go_sem]) rfl ?_
                  exact ⟨rfl, by rw [HFIN.out]; exact HQ.out.w, HQ.out.r⟩
      · dsimp only [List.getElem_toArray, List.getElem_cons_succ, List.getElem_cons_zero]
        go_simp
        have hq : Qs B b W 19 t a (some ⟨blk, off, none⟩) cap blk off ks _ (V2.alloc (.cells #[.string (bs t)] 9)) ∧ Rw b V2.heap.size [t] (V2.alloc (.cells #[.string (bs t)] 9)) ∧ Wrt B b V2 (V2.alloc (.cells #[.string (bs t)] 9)) := HQ.out.row [t]
        generalize V2.alloc (.cells #[.string (bs t)] 9) = V3 at *
        generalize V2.heap.size = g9 at *
        replace HQ := hidW hq.1
        have HG9 := hidW hq.2.1
        clear hq
        refine hK.out _ _ (HS.out _ _ HQ.out) (fun hNew => ?_)
        clear hK K hHeld
        have hHeld := hNew
        clear hNew
        refine anyL_ready (rs := [6, 15]) (by kernel_rfl) (by simp) (ReadyL.cons rfl (fun K hK => ?_) (ReadyL.cons rfl (fun K hK => ?_) (ReadyL.nil)))
        · dsimp only [List.getElem_toArray, List.getElem_cons_succ, List.getElem_cons_zero]
          go_simp
          refine (C1.out _ HQ.out).mono ?_
          rintro e V4 ⟨rfl, hq, hw⟩
          replace HG9 := hidW (HG9.out.kept hw)
          replace HQ := hidW hq
          clear hq hw
          go_wp2_with fail
          refine hK.out _ _ (HS.out _ _ HQ.out) (fun hNew => ?_)
          clear hK K hHeld
          have hHeld := hNew
          clear hNew
          refine anyL_ready (rs := [10, 15]) (by kernel_rfl) (by simp) (ReadyL.cons rfl (fun K hK => ?_) (ReadyL.cons rfl (fun K hK => ?_) (ReadyL.nil)))
          · dsimp only [List.getElem_toArray, List.getElem_cons_succ, List.getElem_cons_zero]
            go_simp
            refine (C2.out _ _ HQ.out HG9.out).mono ?_
            rintro e V5 ⟨rfl, hq, hw⟩
            replace HQ := hidW hq
            clear hq hw HG9
            go_wp2_with fail
            refine hK.out _ _ (HS.out _ _ HQ.out) (fun hNew => ?_)
            clear hK K hHeld
            have hHeld := hNew
            clear hNew
            refine anyL_ready (rs := [14, 15]) (by kernel_rfl) (by simp) (ReadyL.cons rfl (fun K hK => ?_) (ReadyL.cons rfl (fun K hK => ?_) (ReadyL.nil)))
            · dsimp only [List.getElem_toArray, List.getElem_cons_succ, List.getElem_cons_zero]
              go_simp
              refine (C3.out _ HQ.out).mono ?_
              rintro e V6 ⟨rfl, hq, hw⟩
              replace HQ := hidW hq
              clear hq hw
              go_wp2_with fail
              refine hK.out _ _ (HS.out _ _ HQ.out) (fun hNew => ?_)
              clear hK K hHeld
              have hHeld := hNew
              clear hNew
              refine anyL_ready (rs := [15]) (by kernel_rfl) (by simp) (ReadyL.cons rfl (fun K hK => ?_) (ReadyL.nil))
              · dsimp only [List.getElem_toArray, List.getElem_cons_succ, List.getElem_cons_zero]
                go_simp
                have hq : Qs B b W 19 t a (some ⟨blk, off, none⟩) cap blk off ks _ (V6.alloc (.cells #[.string ⟨#[41]⟩] 9)) ∧ Rw b V6.heap.size [[41]] (V6.alloc (.cells #[.string ⟨#[41]⟩] 9)) ∧ Wrt B b V6 (V6.alloc (.cells #[.string ⟨#[41]⟩] 9)) := HQ.out.row [[41]]
                generalize V6.alloc (.cells #[.string ⟨#[41]⟩] 9) = V7 at *
                generalize V6.heap.size = g15 at *
                replace HQ := hidW hq.1
                have HG15 := hidW hq.2.1
                clear hq
                refine hK.out _ _ (HS.out _ _ HQ.out) (fun hNew => ?_)
                clear hK K hHeld
                have hHeld := hNew
                clear hNew
                refine anyL_ready (rs := [16]) (by kernel_rfl) (by simp) (ReadyL.cons rfl (fun K hK => ?_) (ReadyL.nil))
                · dsimp only [List.getElem_toArray, List.getElem_cons_succ, List.getElem_cons_zero]
                  go_simp
                  refine (C4.out _ _ HQ.out HG15.out).mono ?_
                  rintro e V8 ⟨rfl, hq, hw⟩
                  replace HQ := hidW hq
                  clear hq hw HG15
                  go_wp2_with fail
                  refine hK.out _ _ (HS.out _ _ HQ.out) (fun hNew => ?_)
                  clear hK K hHeld
                  have hHeld := hNew
                  clear hNew
                  refine anyL_done (by kernel_rfl) ?_ _
                  go_wp2
                  refine bodyPost_end (v := .tuple #[]) (by simp [results, Try.results34, go_sem]) rfl ?_
                  exact ⟨rfl, by rw [HFIN.out]; exact HQ.out.w, HQ.out.r⟩
            · dsimp only [List.getElem_toArray, List.getElem_cons_succ, List.getElem_cons_zero]
              go_simp
              have hq : Qs B b W 19 t a (some ⟨blk, off, none⟩) cap blk off ks _ (V5.alloc (.cells #[.string ⟨#[41]⟩] 9)) ∧ Rw b V5.heap.size [[41]] (V5.alloc (.cells #[.string ⟨#[41]⟩] 9)) ∧ Wrt B b V5 (V5.alloc (.cells #[.string ⟨#[41]⟩] 9)) := HQ.out.row [[41]]
              generalize V5.alloc (.cells #[.string ⟨#[41]⟩] 9) = V6 at *
              generalize V5.heap.size = g15 at *
              replace HQ := hidW hq.1
              have HG15 := hidW hq.2.1
              clear hq
              refine hK.out _ _ (HS.out _ _ HQ.out) (fun hNew => ?_)
              clear hK K hHeld
              have hHeld := hNew
              clear hNew
              refine anyL_ready (rs := [14]) (by kernel_rfl) (by simp) (ReadyL.cons rfl (fun K hK => ?_) (ReadyL.nil))
              · dsimp only [List.getElem_toArray, List.getElem_cons_succ, List.getElem_cons_zero]
                go_simp
                refine (C3.out _ HQ.out).mono ?_
                rintro e V7 ⟨rfl, hq, hw⟩
                replace HG15 := hidW (HG15.out.kept hw)
                replace HQ := hidW hq
                clear hq hw
                go_wp2_with fail
                refine hK.out _ _ (HS.out _ _ HQ.out) (fun hNew => ?_)
                clear hK K hHeld
                have hHeld := hNew
                clear hNew
                refine anyL_ready (rs := [16]) (by kernel_rfl) (by simp) (ReadyL.cons rfl (fun K hK => ?_) (ReadyL.nil))
                · dsimp only [List.getElem_toArray, List.getElem_cons_succ, List.getElem_cons_zero]
                  go_simp
                  refine (C4.out _ _ HQ.out HG15.out).mono ?_
                  rintro e V8 ⟨rfl, hq, hw⟩
                  replace HQ := hidW hq
                  clear hq hw HG15
                  go_wp2_with fail
                  refine hK.out _ _ (HS.out _ _ HQ.out) (fun hNew => ?_)
                  clear hK K hHeld
                  have hHeld := hNew
                  clear hNew
                  refine anyL_done (by kernel_rfl) ?_ _
                  go_wp2
                  refine bodyPost_end (v := .tuple #[]) (by simp [results, Try.results34, go_sem]) rfl ?_
                  exact ⟨rfl, by rw [HFIN.out]; exact HQ.out.w, HQ.out.r⟩
          · dsimp only [List.getElem_toArray, List.getElem_cons_succ, List.getElem_cons_zero]
            go_simp
            have hq : Qs B b W 19 t a (some ⟨blk, off, none⟩) cap blk off ks _ (V4.alloc (.cells #[.string ⟨#[41]⟩] 9)) ∧ Rw b V4.heap.size [[41]] (V4.alloc (.cells #[.string ⟨#[41]⟩] 9)) ∧ Wrt B b V4 (V4.alloc (.cells #[.string ⟨#[41]⟩] 9)) := HQ.out.row [[41]]
            generalize V4.alloc (.cells #[.string ⟨#[41]⟩] 9) = V5 at *
            generalize V4.heap.size = g15 at *
            replace HG9 := hidW (HG9.out.kept hq.2.2)
            replace HQ := hidW hq.1
            have HG15 := hidW hq.2.1
            clear hq
            refine hK.out _ _ (HS.out _ _ HQ.out) (fun hNew => ?_)
            clear hK K hHeld
            have hHeld := hNew
            clear hNew
            refine anyL_ready (rs := [10]) (by kernel_rfl) (by simp) (ReadyL.cons rfl (fun K hK => ?_) (ReadyL.nil))
            · dsimp only [List.getElem_toArray, List.getElem_cons_succ, List.getElem_cons_zero]
              go_simp
              refine (C2.out _ _ HQ.out HG9.out).mono ?_
              rintro e V6 ⟨rfl, hq, hw⟩
              replace HG15 := hidW (HG15.out.kept hw)
              replace HQ := hidW hq
              clear hq hw HG9
              go_wp2_with fail
              refine hK.out _ _ (HS.out _ _ HQ.out) (fun hNew => ?_)
              clear hK K hHeld
              have hHeld := hNew
              clear hNew
              refine anyL_ready (rs := [14]) (by kernel_rfl) (by simp) (ReadyL.cons rfl (fun K hK => ?_) (ReadyL.nil))
              · dsimp only [List.getElem_toArray, List.getElem_cons_succ, List.getElem_cons_zero]
                go_simp
                refine (C3.out _ HQ.out).mono ?_
                rintro e V7 ⟨rfl, hq, hw⟩
                replace HG15 := hidW (HG15.out.kept hw)
                replace HQ := hidW hq
                clear hq hw
                go_wp2_with fail
                refine hK.out _ _ (HS.out _ _ HQ.out) (fun hNew => ?_)
                clear hK K hHeld
                have hHeld := hNew
                clear hNew
                refine anyL_ready (rs := [16]) (by kernel_rfl) (by simp) (ReadyL.cons rfl (fun K hK => ?_) (ReadyL.nil))
                · dsimp only [List.getElem_toArray, List.getElem_cons_succ, List.getElem_cons_zero]
                  go_simp
                  refine (C4.out _ _ HQ.out HG15.out).mono ?_
                  rintro e V8 ⟨rfl, hq, hw⟩
                  replace HQ := hidW hq
                  clear hq hw HG15
                  go_wp2_with fail
                  refine hK.out _ _ (HS.out _ _ HQ.out) (fun hNew => ?_)
                  clear hK K hHeld
                  have hHeld := hNew
                  clear hNew
                  refine anyL_done (by kernel_rfl) ?_ _
                  go_wp2
                  refine bodyPost_end (v := .tuple #[]) (by simp [results, Try.results34, go_sem]) rfl ?_
                  exact ⟨rfl, by rw [HFIN.out]; exact HQ.out.w, HQ.out.r⟩
        · dsimp only [List.getElem_toArray, List.getElem_cons_succ, List.getElem_cons_zero]
          go_simp
          have hq : Qs B b W 19 t a (some ⟨blk, off, none⟩) cap blk off ks _ (V3.alloc (.cells #[.string ⟨#[41]⟩] 9)) ∧ Rw b V3.heap.size [[41]] (V3.alloc (.cells #[.string ⟨#[41]⟩] 9)) ∧ Wrt B b V3 (V3.alloc (.cells #[.string ⟨#[41]⟩] 9)) := HQ.out.row [[41]]
          generalize V3.alloc (.cells #[.string ⟨#[41]⟩] 9) = V4 at *
          generalize V3.heap.size = g15 at *
          replace HG9 := hidW (HG9.out.kept hq.2.2)
          replace HQ := hidW hq.1
          have HG15 := hidW hq.2.1
          clear hq
          refine hK.out _ _ (HS.out _ _ HQ.out) (fun hNew => ?_)
          clear hK K hHeld
          have hHeld := hNew
          clear hNew
          refine anyL_ready (rs := [6]) (by kernel_rfl) (by simp) (ReadyL.cons rfl (fun K hK => ?_) (ReadyL.nil))
          · dsimp only [List.getElem_toArray, List.getElem_cons_succ, List.getElem_cons_zero]
            go_simp
            refine (C1.out _ HQ.out).mono ?_
            rintro e V5 ⟨rfl, hq, hw⟩
            replace HG9 := hidW (HG9.out.kept hw)
            replace HG15 := hidW (HG15.out.kept hw)
            replace HQ := hidW hq
            clear hq hw
            go_wp2_with fail
            refine hK.out _ _ (HS.out _ _ HQ.out) (fun hNew => ?_)
            clear hK K hHeld
            have hHeld := hNew
            clear hNew
            refine anyL_ready (rs := [10]) (by kernel_rfl) (by simp) (ReadyL.cons rfl (fun K hK => ?_) (ReadyL.nil))
            · dsimp only [List.getElem_toArray, List.getElem_cons_succ, List.getElem_cons_zero]
              go_simp
              refine (C2.out _ _ HQ.out HG9.out).mono ?_
              rintro e V6 ⟨rfl, hq, hw⟩
              replace HG15 := hidW (HG15.out.kept hw)
              replace HQ := hidW hq
              clear hq hw HG9
              go_wp2_with fail
              refine hK.out _ _ (HS.out _ _ HQ.out) (fun hNew => ?_)
              clear hK K hHeld
              have hHeld := hNew
              clear hNew
              refine anyL_ready (rs := [14]) (by kernel_rfl) (by simp) (ReadyL.cons rfl (fun K hK => ?_) (ReadyL.nil))
              · dsimp only [List.getElem_toArray, List.getElem_cons_succ, List.getElem_cons_zero]
                go_simp
                refine (C3.out _ HQ.out).mono ?_
                rintro e V7 ⟨rfl, hq, hw⟩
                replace HG15 := hidW (HG15.out.kept hw)
                replace HQ := hidW hq
                clear hq hw
                go_wp2_with fail
                refine hK.out _ _ (HS.out _ _ HQ.out) (fun hNew => ?_)
                clear hK K hHeld
                have hHeld := hNew
                clear hNew
                refine anyL_ready (rs := [16]) (by kernel_rfl) (by simp) (ReadyL.cons rfl (fun K hK => ?_) (ReadyL.nil))
                · dsimp only [List.getElem_toArray, List.getElem_cons_succ, List.getElem_cons_zero]
                  go_simp
                  refine (C4.out _ _ HQ.out HG15.out).mono ?_
                  rintro e V8 ⟨rfl, hq, hw⟩
                  replace HQ := hidW hq
                  clear hq hw HG15
                  go_wp2_with fail
                  refine hK.out _ _ (HS.out _ _ HQ.out) (fun hNew => ?_)
                  clear hK K hHeld
                  have hHeld := hNew
                  clear hNew
                  refine anyL_done (by kernel_rfl) ?_ _
                  go_wp2
                  refine bodyPost_end (v := .tuple #[]) (by simp [results, Try.results34, go_sem]) rfl ?_
                  exact ⟨rfl, by rw [HFIN.out]; exact HQ.out.w, HQ.out.r⟩
      · dsimp only [List.getElem_toArray, List.getElem_cons_succ, List.getElem_cons_zero]
        go_simp
        have hq : Qs B b W 19 t a (some ⟨blk, off, none⟩) cap blk off ks _ (V2.alloc (.cells #[.string ⟨#[41]⟩] 9)) ∧ Rw b V2.heap.size [[41]] (V2.alloc (.cells #[.string ⟨#[41]⟩] 9)) ∧ Wrt B b V2 (V2.alloc (.cells #[.string ⟨#[41]⟩] 9)) := HQ.out.row [[41]]
        generalize V2.alloc (.cells #[.string ⟨#[41]⟩] 9) = V3 at *
        generalize V2.heap.size = g15 at *
        replace HQ := hidW hq.1
        have HG15 := hidW hq.2.1
        clear hq
        refine hK.out _ _ (HS.out _ _ HQ.out) (fun hNew => ?_)
        clear hK K hHeld
        have hHeld := hNew
        clear hNew
        refine anyL_ready (rs := [6, 9]) (by kernel_rfl) (by simp) (ReadyL.cons rfl (fun K hK => ?_) (ReadyL.cons rfl (fun K hK => ?_) (ReadyL.nil)))
        · dsimp only [List.getElem_toArray, List.getElem_cons_succ, List.getElem_cons_zero]
          go_simp
          refine (C1.out _ HQ.out).mono ?_
          rintro e V4 ⟨rfl, hq, hw⟩
          replace HG15 := hidW (HG15.out.kept hw)
          replace HQ := hidW hq
          clear hq hw
          go_wp2_with fail
          refine hK.out _ _ (HS.out _ _ HQ.out) (fun hNew => ?_)
          clear hK K hHeld
          have hHeld := hNew
          clear hNew
          refine anyL_ready (rs := [9]) (by kernel_rfl) (by simp) (ReadyL.cons rfl (fun K hK => ?_) (ReadyL.nil))
          · dsimp only [List.getElem_toArray, List.getElem_cons_succ, List.getElem_cons_zero]
            go_simp
            have hq : Qs B b W 19 t a (some ⟨blk, off, none⟩) cap blk off ks _ (V4.alloc (.cells #[.string (bs t)] 9)) ∧ Rw b V4.heap.size [t] (V4.alloc (.cells #[.string (bs t)] 9)) ∧ Wrt B b V4 (V4.alloc (.cells #[.string (bs t)] 9)) := HQ.out.row [t]
            generalize V4.alloc (.cells #[.string (bs t)] 9) = V5 at *
            generalize V4.heap.size = g9 at *
            replace HG15 := hidW (HG15.out.kept hq.2.2)
            replace HQ := hidW hq.1
            have HG9 := hidW hq.2.1
            clear hq
            refine hK.out _ _ (HS.out _ _ HQ.out) (fun hNew => ?_)
            clear hK K hHeld
            have hHeld := hNew
            clear hNew
            refine anyL_ready (rs := [10]) (by kernel_rfl) (by simp) (ReadyL.cons rfl (fun K hK => ?_) (ReadyL.nil))
            · dsimp only [List.getElem_toArray, List.getElem_cons_succ, List.getElem_cons_zero]
              go_simp
              refine (C2.out _ _ HQ.out HG9.out).mono ?_
              rintro e V6 ⟨rfl, hq, hw⟩
              replace HG15 := hidW (HG15.out.kept hw)
              replace HQ := hidW hq
              clear hq hw HG9
              go_wp2_with fail
              refine hK.out _ _ (HS.out _ _ HQ.out) (fun hNew => ?_)
              clear hK K hHeld
              have hHeld := hNew
              clear hNew
              refine anyL_ready (rs := [14]) (by kernel_rfl) (by simp) (ReadyL.cons rfl (fun K hK => ?_) (ReadyL.nil))
              · dsimp only [List.getElem_toArray, List.getElem_cons_succ, List.getElem_cons_zero]
                go_simp
                refine (C3.out _ HQ.out).mono ?_
                rintro e V7 ⟨rfl, hq, hw⟩
                replace HG15 := hidW (HG15.out.kept hw)
                replace HQ := hidW hq
                clear hq hw
                go_wp2_with fail
                refine hK.out _ _ (HS.out _ _ HQ.out) (fun hNew => ?_)
                clear hK K hHeld
                have hHeld := hNew
                clear hNew
                refine anyL_ready (rs := [16]) (by kernel_rfl) (by simp) (ReadyL.cons rfl (fun K hK => ?_) (ReadyL.nil))
                · dsimp only [List.getElem_toArray, List.getElem_cons_succ, List.getElem_cons_zero]
                  go_simp
                  refine (C4.out _ _ HQ.out HG15.out).mono ?_
                  rintro e V8 ⟨rfl, hq, hw⟩
                  replace HQ := hidW hq
                  clear hq hw HG15
                  go_wp2_with fail
                  refine hK.out _ _ (HS.out _ _ HQ.out) (fun hNew => ?_)
                  clear hK K hHeld
                  have hHeld := hNew
                  clear hNew
                  refine anyL_done (by kernel_rfl) ?_ _
                  go_wp2
                  refine bodyPost_end (v := .tuple #[]) (by simp [results, Try.results34, go_sem]) rfl ?_
                  exact ⟨rfl, by rw [HFIN.out]; exact HQ.out.w, HQ.out.r⟩
        · dsimp only [List.getElem_toArray, List.getElem_cons_succ, List.getElem_cons_zero]
          go_simp
          have hq : Qs B b W 19 t a (some ⟨blk, off, none⟩) cap blk off ks _ (V3.alloc (.cells #[.string (bs t)] 9)) ∧ Rw b V3.heap.size [t] (V3.alloc (.cells #[.string (bs t)] 9)) ∧ Wrt B b V3 (V3.alloc (.cells #[.string (bs t)] 9)) := HQ.out.row [t]
          generalize V3.alloc (.cells #[.string (bs t)] 9) = V4 at *
          generalize V3.heap.size = g9 at *
          replace HG15 := hidW (HG15.out.kept hq.2.2)
          replace HQ := hidW hq.1
          have HG9 := hidW hq.2.1
          clear hq
          refine hK.out _ _ (HS.out _ _ HQ.out) (fun hNew => ?_)
          clear hK K hHeld
          have hHeld := hNew
          clear hNew
          refine anyL_ready (rs := [6]) (by kernel_rfl) (by simp) (ReadyL.cons rfl (fun K hK => ?_) (ReadyL.nil))
          · dsimp only [List.getElem_toArray, List.getElem_cons_succ, List.getElem_cons_zero]
            go_simp
            refine (C1.out _ HQ.out).mono ?_
            rintro e V5 ⟨rfl, hq, hw⟩
            replace HG9 := hidW (HG9.out.kept hw)
            replace HG15 := hidW (HG15.out.kept hw)
            replace HQ := hidW hq
            clear hq hw
            go_wp2_with fail
            refine hK.out _ _ (HS.out _ _ HQ.out) (fun hNew => ?_)
            clear hK K hHeld
            have hHeld := hNew
            clear hNew
            refine anyL_ready (rs := [10]) (by kernel_rfl) (by simp) (ReadyL.cons rfl (fun K hK => ?_) (ReadyL.nil))
            · dsimp only [List.getElem_toArray, List.getElem_cons_succ, List.getElem_cons_zero]
              go_simp
              refine (C2.out _ _ HQ.out HG9.out).mono ?_
              rintro e V6 ⟨rfl, hq, hw⟩
              replace HG15 := hidW (HG15.out.kept hw)
              replace HQ := hidW hq
              clear hq hw HG9
              go_wp2_with fail
              refine hK.out _ _ (HS.out _ _ HQ.out) (fun hNew => ?_)
              clear hK K hHeld
              have hHeld := hNew
              clear hNew
              refine anyL_ready (rs := [14]) (by kernel_rfl) (by simp) (ReadyL.cons rfl (fun K hK => ?_) (ReadyL.nil))
              · dsimp only [List.getElem_toArray, List.getElem_cons_succ, List.getElem_cons_zero]
                go_simp
                refine (C3.out _ HQ.out).mono ?_
                rintro e V7 ⟨rfl, hq, hw⟩
                replace HG15 := hidW (HG15.out.kept hw)
                replace HQ := hidW hq
                clear hq hw
                go_wp2_with fail
                refine hK.out _ _ (HS.out _ _ HQ.out) (fun hNew => ?_)
                clear hK K hHeld
                have hHeld := hNew
                clear hNew
                refine anyL_ready (rs := [16]) (by kernel_rfl) (by simp) (ReadyL.cons rfl (fun K hK => ?_) (ReadyL.nil))
                · dsimp only [List.getElem_toArray, List.getElem_cons_succ, List.getElem_cons_zero]
                  go_simp
                  refine (C4.out _ _ HQ.out HG15.out).mono ?_
                  rintro e V8 ⟨rfl, hq, hw⟩
                  replace HQ := hidW hq
                  clear hq hw HG15
                  go_wp2_with fail
                  refine hK.out _ _ (HS.out _ _ HQ.out) (fun hNew => ?_)
                  clear hK K hHeld
                  have hHeld := hNew
                  clear hNew
                  refine anyL_done (by kernel_rfl) ?_ _
                  go_wp2
                  refine bodyPost_end (v := .tuple #[]) (by simp [results, Try.results34, go_sem]) rfl ?_
                  exact ⟨rfl, by rw [HFIN.out]; exact HQ.out.w, HQ.out.r⟩
    · dsimp only [List.getElem_toArray, List.getElem_cons_succ, List.getElem_cons_zero]
      go_simp
      have hq : Qs B b W 19 t a (some ⟨blk, off, none⟩) cap blk off ks _ (V1.alloc (.cells #[.string (bs t)] 9)) ∧ Rw b V1.heap.size [t] (V1.alloc (.cells #[.string (bs t)] 9)) ∧ Wrt B b V1 (V1.alloc (.cells #[.string (bs t)] 9)) := HQ.out.row [t]
      generalize V1.alloc (.cells #[.string (bs t)] 9) = V2 at *
      generalize V1.heap.size = g9 at *
      replace HG1 := hidW (HG1.out.kept hq.2.2)
      replace HQ := hidW hq.1
      have HG9 := hidW hq.2.1
      clear hq
      refine hK.out _ _ (HS.out _ _ HQ.out) (fun hNew => ?_)
      clear hK K hHeld
      have hHeld := hNew
      clear hNew
      refine anyL_ready (rs := [2, 15]) (by kernel_rfl) (by simp) (ReadyL.cons rfl (fun K hK => ?_) (ReadyL.cons rfl (fun K hK => ?_) (ReadyL.nil)))
      · dsimp only [List.getElem_toArray, List.getElem_cons_succ, List.getElem_cons_zero]
        go_simp
        refine (C0.out _ _ HQ.out HG1.out).mono ?_
        rintro e V3 ⟨rfl, hq, hw⟩
        replace HG9 := hidW (HG9.out.kept hw)
        replace HQ := hidW hq
        clear hq hw HG1
        go_wp2_with fail
        refine hK.out _ _ (HS.out _ _ HQ.out) (fun hNew => ?_)
        clear hK K hHeld
        have hHeld := hNew
        clear hNew
        refine anyL_ready (rs := [6, 15]) (by kernel_rfl) (by simp) (ReadyL.cons rfl (fun K hK => ?_) (ReadyL.cons rfl (fun K hK => ?_) (ReadyL.nil)))
        · dsimp only [List.getElem_toArray, List.getElem_cons_succ, List.getElem_cons_zero]
          go_simp
          refine (C1.out _ HQ.out).mono ?_
          rintro e V4 ⟨rfl, hq, hw⟩
          replace HG9 := hidW (HG9.out.kept hw)
          replace HQ := hidW hq
          clear hq hw
          go_wp2_with fail
          refine hK.out _ _ (HS.out _ _ HQ.out) (fun hNew => ?_)
          clear hK K hHeld
          have hHeld := hNew
          clear hNew
          refine anyL_ready (rs := [10, 15]) (by kernel_rfl) (by simp) (ReadyL.cons rfl (fun K hK => ?_) (ReadyL.cons rfl (fun K hK => ?_) (ReadyL.nil)))
          · dsimp only [List.getElem_toArray, List.getElem_cons_succ, List.getElem_cons_zero]
            go_simp
            refine (C2.out _ _ HQ.out HG9.out).mono ?_
            rintro e V5 ⟨rfl, hq, hw⟩
            replace HQ := hidW hq
            clear hq hw HG9
            go_wp2_with fail
            refine hK.out _ _ (HS.out _ _ HQ.out) (fun hNew => ?_)
            clear hK K hHeld
            have hHeld := hNew
            clear hNew
            refine anyL_ready (rs := [14, 15]) (by kernel_rfl) (by simp) (ReadyL.cons rfl (fun K hK => ?_) (ReadyL.cons rfl (fun K hK => ?_) (ReadyL.nil)))
            · dsimp only [List.getElem_toArray, List.getElem_cons_succ, List.getElem_cons_zero]
              go_simp
              refine (C3.out _ HQ.out).mono ?_
              rintro e V6 ⟨rfl, hq, hw⟩
              replace HQ := hidW hq
              clear hq hw
              go_wp2_with fail
              refine hK.out _ _ (HS.out _ _ HQ.out) (fun hNew => ?_)
              clear hK K hHeld
              have hHeld := hNew
              clear hNew
              refine anyL_ready (rs := [15]) (by kernel_rfl) (by simp) (ReadyL.cons rfl (fun K hK => ?_) (ReadyL.nil))
              · dsimp only [List.getElem_toArray, List.getElem_cons_succ, List.getElem_cons_zero]
                go_simp
                have hq : Qs B b W 19 t a (some ⟨blk, off, none⟩) cap blk off ks _ (V6.alloc (.cells #[.string ⟨#[41]⟩] 9)) ∧ Rw b V6.heap.size [[41]] (V6.alloc (.cells #[.string ⟨#[41]⟩] 9)) ∧ Wrt B b V6 (V6.alloc (.cells #[.string ⟨#[41]⟩] 9)) := HQ.out.row [[41]]
                generalize V6.alloc (.cells #[.string ⟨#[41]⟩] 9) = V7 at *
                generalize V6.heap.size = g15 at *
                replace HQ := hidW hq.1
                have HG15 := hidW hq.2.1
                clear hq
                refine hK.out _ _ (HS.out _ _ HQ.out) (fun hNew => ?_)
                clear hK K hHeld
                have hHeld := hNew
                clear hNew
                refine anyL_ready (rs := [16]) (by kernel_rfl) (by simp) (ReadyL.cons rfl (fun K hK => ?_) (ReadyL.nil))
                · dsimp only [List.getElem_toArray, List.getElem_cons_succ, List.getElem_cons_zero]
                  go_simp
                  refine (C4.out _ _ HQ.out HG15.out).mono ?_
                  rintro e V8 ⟨rfl, hq, hw⟩
                  replace HQ := hidW hq
                  clear hq hw HG15
                  go_wp2_with fail
                  refine hK.out _ _ (HS.out _ _ HQ.out) (fun hNew => ?_)
                  clear hK K hHeld
                  have hHeld := hNew
                  clear hNew
                  refine anyL_done (by kernel_rfl) ?_ _
                  go_wp2
                  refine bodyPost_end (v := .tuple #[]) (by simp [results, Try.results34, go_sem]) rfl ?_
                  exact ⟨rfl, by rw [HFIN.out]; exact HQ.out.w, HQ.out.r⟩
            · dsimp only [List.getElem_toArray, List.getElem_cons_succ, List.getElem_cons_zero]
              go_simp
              have hq : Qs B b W 19 t a (some ⟨blk, off, none⟩) cap blk off ks _ (V5.alloc (.cells #[.string ⟨#[41]⟩] 9)) ∧ Rw b V5.heap.size [[41]] (V5.alloc (.cells #[.string ⟨#[41]⟩] 9)) ∧ Wrt B b V5 (V5.alloc (.cells #[.string ⟨#[41]⟩] 9)) := HQ.out.row [[41]]
              generalize V5.alloc (.cells #[.string ⟨#[41]⟩] 9) = V6 at *
              generalize V5.heap.size = g15 at *
              replace HQ := hidW hq.1
              have HG15 := hidW hq.2.1
              clear hq
              refine hK.out _ _ (HS.out _ _ HQ.out) (fun hNew => ?_)
              clear hK K hHeld
              have hHeld := hNew
              clear hNew
              refine anyL_ready (rs := [14]) (by kernel_rfl) (by simp) (ReadyL.cons rfl (fun K hK => ?_) (ReadyL.nil))
              · dsimp only [List.getElem_toArray, List.getElem_cons_succ, List.getElem_cons_zero]
                go_simp
                refine (C3.out _ HQ.out).mono ?_
                rintro e V7 ⟨rfl, hq, hw⟩
                replace HG15 := hidW (HG15.out.kept hw)
                replace HQ := hidW hq
                clear hq hw
                go_wp2_with fail
                refine hK.out _ _ (HS.out _ _ HQ.out) (fun hNew => ?_)
                clear hK K hHeld
                have hHeld := hNew
                clear hNew
                refine anyL_ready (rs := [16]) (by kernel_rfl) (by simp) (ReadyL.cons rfl (fun K hK => ?_) (ReadyL.nil))
                · dsimp only [List.getElem_toArray, List.getElem_cons_succ, List.getElem_cons_zero]
                  go_simp
                  refine (C4.out _ _ HQ.out HG15.out).mono ?_
                  rintro e V8 ⟨rfl, hq, hw⟩
                  replace HQ := hidW hq
                  clear hq hw HG15
                  go_wp2_with fail
                  refine hK.out _ _ (HS.out _ _ HQ.out) (fun hNew => ?_)
                  clear hK K hHeld
                  have hHeld := hNew
                  clear hNew
                  refine anyL_done (by kernel_rfl) ?_ _
                  go_wp2
                  refine bodyPost_end (v := .tuple #[]) (by simp [results, Try.results34, go_sem]) rfl ?_
                  exact ⟨rfl, by rw [HFIN.out]; exact HQ.out.w, HQ.out.r⟩
          · dsimp only [List.getElem_toArray, List.getElem_cons_succ, List.getElem_cons_zero]
            go_simp
            have hq : Qs B b W 19 t a (some ⟨blk, off, none⟩) cap blk off ks _ (V4.alloc (.cells #[.string ⟨#[41]⟩] 9)) ∧ Rw b V4.heap.size [[41]] (V4.alloc (.cells #[.string ⟨#[41]⟩] 9)) ∧ Wrt B b V4 (V4.alloc (.cells #[.string ⟨#[41]⟩] 9)) := HQ.out.row [[41]]
            generalize V4.alloc (.cells #[.string ⟨#[41]⟩] 9) = V5 at *
            generalize V4.heap.size = g15 at *
            replace HG9 := hidW (HG9.out.kept hq.2.2)
            replace HQ := hidW hq.1
            have HG15 := hidW hq.2.1
            clear hq
            refine hK.out _ _ (HS.out _ _ HQ.out) (fun hNew => ?_)
            clear hK K hHeld
            have hHeld := hNew
            clear hNew
            refine anyL_ready (rs := [10]) (by kernel_rfl) (by simp) (ReadyL.cons rfl (fun K hK => ?_) (ReadyL.nil))
            · dsimp only [List.getElem_toArray, List.getElem_cons_succ, List.getElem_cons_zero]
              go_simp
              refine (C2.out _ _ HQ.out HG9.out).mono ?_
              rintro e V6 ⟨rfl, hq, hw⟩
              replace HG15 := hidW (HG15.out.kept hw)
              replace HQ := hidW hq
              clear hq hw HG9
              go_wp2_with fail
              refine hK.out _ _ (HS.out _ _ HQ.out) (fun hNew => ?_)
              clear hK K hHeld
              have hHeld := hNew
              clear hNew
              refine anyL_ready (rs := [14]) (by kernel_rfl) (by simp) (ReadyL.cons rfl (fun K hK => ?_) (ReadyL.nil))
              · dsimp only [List.getElem_toArray, List.getElem_cons_succ, List.getElem_cons_zero]
                go_simp
                refine (C3.out _ HQ.out).mono ?_
                rintro e V7 ⟨rfl, hq, hw⟩
                replace HG15 := hidW (HG15.out.kept hw)
                replace HQ := hidW hq
                clear hq hw
                go_wp2_with fail
                refine hK.out _ _ (HS.out _ _ HQ.out) (fun hNew => ?_)
                clear hK K hHeld
                have hHeld := hNew
                clear hNew
                refine anyL_ready (rs := [16]) (by kernel_rfl) (by simp) (ReadyL.cons rfl (fun K hK => ?_) (ReadyL.nil))
                · dsimp only [List.getElem_toArray, List.getElem_cons_succ, List.getElem_cons_zero]
                  go_simp
                  refine (C4.out _ _ HQ.out HG15.out).mono ?_
                  rintro e V8 ⟨rfl, hq, hw⟩
                  replace HQ := hidW hq
                  clear hq hw HG15
                  go_wp2_with fail
                  refine hK.out _ _ (HS.out _ _ HQ.out) (fun hNew => ?_)
                  clear hK K hHeld
                  have hHeld := hNew
                  clear hNew
                  refine anyL_done (by kernel_rfl) ?_ _
                  go_wp2
                  refine bodyPost_end (v := .tuple #[]) (by simp [results, Try.results34, go_sem]) rfl ?_
                  exact ⟨rfl, by rw [HFIN.out]; exact HQ.out.w, HQ.out.r⟩
        · dsimp only [List.getElem_toArray, List.getElem_cons_succ, List.getElem_cons_zero]
          go_simp
          have hq : Qs B b W 19 t a (some ⟨blk, off, none⟩) cap blk off ks _ (V3.alloc (.cells #[.string ⟨#[41]⟩] 9)) ∧ Rw b V3.heap.size [[41]] (V3.alloc (.cells #[.string ⟨#[41]⟩] 9)) ∧ Wrt B b V3 (V3.alloc (.cells #[.string ⟨#[41]⟩] 9)) := HQ.out.row [[41]]
          generalize V3.alloc (.cells #[.string ⟨#[41]⟩] 9) = V4 at *
          generalize V3.heap.size = g15 at *
          replace HG9 := hidW (HG9.out.kept hq.2.2)
          replace HQ := hidW hq.1
          have HG15 := hidW hq.2.1
          clear hq
          refine hK.out _ _ (HS.out _ _ HQ.out) (fun hNew => ?_)
          clear hK K hHeld
          have hHeld := hNew
          clear hNew
          refine anyL_ready (rs := [6]) (by kernel_rfl) (by simp) (ReadyL.cons rfl (fun K hK => ?_) (ReadyL.nil))
          · dsimp only [List.getElem_toArray, List.getElem_cons_succ, List.getElem_cons_zero]
            go_simp
            refine (C1.out _ HQ.out).mono ?_
            rintro e V5 ⟨rfl, hq, hw⟩
            replace HG9 := hidW (HG9.out.kept hw)
            replace HG15 := hidW (HG15.out.kept hw)
            replace HQ := hidW hq
            clear hq hw
            go_wp2_with fail
            refine hK.out _ _ (HS.out _ _ HQ.out) (fun hNew => ?_)
            clear hK K hHeld
            have hHeld := hNew
            clear hNew
            refine anyL_ready (rs := [10]) (by kernel_rfl) (by simp) (ReadyL.cons rfl (fun K hK => ?_) (ReadyL.nil))
            · dsimp only [List.getElem_toArray, List.getElem_cons_succ, List.getElem_cons_zero]
              go_simp
              refine (C2.out _ _ HQ.out HG9.out).mono ?_
              rintro e V6 ⟨rfl, hq, hw⟩
              replace HG15 := hidW (HG15.out.kept hw)
              replace HQ := hidW hq
              clear hq hw HG9
              go_wp2_with fail
              refine hK.out _ _ (HS.out _ _ HQ.out) (fun hNew => ?_)
              clear hK K hHeld
              have hHeld := hNew
              clear hNew
              refine anyL_ready (rs := [14]) (by kernel_rfl) (by simp) (ReadyL.cons rfl (fun K hK => ?_) (ReadyL.nil))
              · dsimp only [List.getElem_toArray, List.getElem_cons_succ, List.getElem_cons_zero]
                go_simp
                refine (C3.out _ HQ.out).mono ?_
                rintro e V7 ⟨rfl, hq, hw⟩
                replace HG15 := hidW (HG15.out.kept hw)
                replace HQ := hidW hq
                clear hq hw
                go_wp2_with fail
                refine hK.out _ _ (HS.out _ _ HQ.out) (fun hNew => ?_)
                clear hK K hHeld
                have hHeld := hNew
                clear hNew
                refine anyL_ready (rs := [16]) (by kernel_rfl) (by simp) (ReadyL.cons rfl (fun K hK => ?_) (ReadyL.nil))
                · dsimp only [List.getElem_toArray, List.getElem_cons_succ, List.getElem_cons_zero]
                  go_simp
                  refine (C4.out _ _ HQ.out HG15.out).mono ?_
                  rintro e V8 ⟨rfl, hq, hw⟩
                  replace HQ := hidW hq
                  clear hq hw HG15
                  go_wp2_with fail
                  refine hK.out _ _ (HS.out _ _ HQ.out) (fun hNew => ?_)
                  clear hK K hHeld
                  have hHeld := hNew
                  clear hNew
                  refine anyL_done (by kernel_rfl) ?_ _
                  go_wp2
                  refine bodyPost_end (v := .tuple #[]) (by simp [results, Try.results34, go_sem]) rfl ?_
                  exact ⟨rfl, by rw [HFIN.out]; exact HQ.out.w, HQ.out.r⟩
      · dsimp only [List.getElem_toArray, List.getElem_cons_succ, List.getElem_cons_zero]
        go_simp
        have hq : Qs B b W 19 t a (some ⟨blk, off, none⟩) cap blk off ks _ (V2.alloc (.cells #[.string ⟨#[41]⟩] 9)) ∧ Rw b V2.heap.size [[41]] (V2.alloc (.cells #[.string ⟨#[41]⟩] 9)) ∧ Wrt B b V2 (V2.alloc (.cells #[.string ⟨#[41]⟩] 9)) := HQ.out.row [[41]]
        generalize V2.alloc (.cells #[.string ⟨#[41]⟩] 9) = V3 at *
        generalize V2.heap.size = g15 at *
        replace HG1 := hidW (HG1.out.kept hq.2.2)
        replace HG9 := hidW (HG9.out.kept hq.2.2)
        replace HQ := hidW hq.1
        have HG15 := hidW hq.2.1
        clear hq
        refine hK.out _ _ (HS.out _ _ HQ.out) (fun hNew => ?_)
        clear hK K hHeld
        have hHeld := hNew
        clear hNew
        refine anyL_ready (rs := [2]) (by kernel_rfl) (by simp) (ReadyL.cons rfl (fun K hK => ?_) (ReadyL.nil))
        · dsimp only [List.getElem_toArray, List.getElem_cons_succ, List.getElem_cons_zero]
          go_simp
          refine (C0.out _ _ HQ.out HG1.out).mono ?_
          rintro e V4 ⟨rfl, hq, hw⟩
          replace HG9 := hidW (HG9.out.kept hw)
          replace HG15 := hidW (HG15.out.kept hw)
          replace HQ := hidW hq
          clear hq hw HG1
          go_wp2_with fail
          refine hK.out _ _ (HS.out _ _ HQ.out) (fun hNew => ?_)
          clear hK K hHeld
          have hHeld := hNew
          clear hNew
          refine anyL_ready (rs := [6]) (by kernel_rfl) (by simp) (ReadyL.cons rfl (fun K hK => ?_) (ReadyL.nil))
          · dsimp only [List.getElem_toArray, List.getElem_cons_succ, List.getElem_cons_zero]
            go_simp
            refine (C1.out _ HQ.out).mono ?_
            rintro e V5 ⟨rfl, hq, hw⟩
            replace HG9 := hidW (HG9.out.kept hw)
            replace HG15 := hidW (HG15.out.kept hw)
            replace HQ := hidW hq
            clear hq hw
            go_wp2_with fail
            refine hK.out _ _ (HS.out _ _ HQ.out) (fun hNew => ?_)
            clear hK K hHeld
            have hHeld := hNew
            clear hNew
            refine anyL_ready (rs := [10]) (by kernel_rfl) (by simp) (ReadyL.cons rfl (fun K hK => ?_) (ReadyL.nil))
            · dsimp only [List.getElem_toArray, List.getElem_cons_succ, List.getElem_cons_zero]
              go_simp
              refine (C2.out _ _ HQ.out HG9.out).mono ?_
              rintro e V6 ⟨rfl, hq, hw⟩
              replace HG15 := hidW (HG15.out.kept hw)
              replace HQ := hidW hq
              clear hq hw HG9
              go_wp2_with fail
              refine hK.out _ _ (HS.out _ _ HQ.out) (fun hNew => ?_)
              clear hK K hHeld
              have hHeld := hNew
              clear hNew
              refine anyL_ready (rs := [14]) (by kernel_rfl) (by simp) (ReadyL.cons rfl (fun K hK => ?_) (ReadyL.nil))
              · dsimp only [List.getElem_toArray, List.getElem_cons_succ, List.getElem_cons_zero]
                go_simp
                refine (C3.out _ HQ.out).mono ?_
                rintro e V7 ⟨rfl, hq, hw⟩
                replace HG15 := hidW (HG15.out.kept hw)
                replace HQ := hidW hq
                clear hq hw
                go_wp2_with fail
                refine hK.out _ _ (HS.out _ _ HQ.out) (fun hNew => ?_)
                clear hK K hHeld
                have hHeld := hNew
                clear hNew
                refine anyL_ready (rs := [16]) (by kernel_rfl) (by simp) (ReadyL.cons rfl (fun K hK => ?_) (ReadyL.nil))
                · dsimp only [List.getElem_toArray, List.getElem_cons_succ, List.getElem_cons_zero]
                  go_simp
                  refine (C4.out _ _ HQ.out HG15.out).mono ?_
                  rintro e V8 ⟨rfl, hq, hw⟩
                  replace HQ := hidW hq
                  clear hq hw HG15
                  go_wp2_with fail
                  refine hK.out _ _ (HS.out _ _ HQ.out) (fun hNew => ?_)
                  clear hK K hHeld
                  have hHeld := hNew
                  clear hNew
                  refine anyL_done (by kernel_rfl) ?_ _
                  go_wp2
                  refine bodyPost_end (v := .tuple #[]) (by simp [results, Try.results34, go_sem]) rfl ?_
                  exact ⟨rfl, by rw [HFIN.out]; exact HQ.out.w, HQ.out.r⟩
    · dsimp only [List.getElem_toArray, List.getElem_cons_succ, List.getElem_cons_zero]
      go_simp
      have hq : Qs B b W 19 t a (some ⟨blk, off, none⟩) cap blk off ks _ (V1.alloc (.cells #[.string ⟨#[41]⟩] 9)) ∧ Rw b V1.heap.size [[41]] (V1.alloc (.cells #[.string ⟨#[41]⟩] 9)) ∧ Wrt B b V1 (V1.alloc (.cells #[.string ⟨#[41]⟩] 9)) := HQ.out.row [[41]]
      generalize V1.alloc (.cells #[.string ⟨#[41]⟩] 9) = V2 at *
      generalize V1.heap.size = g15 at *
      replace HG1 := hidW (HG1.out.kept hq.2.2)
      replace HQ := hidW hq.1
      have HG15 := hidW hq.2.1
      clear hq
      refine hK.out _ _ (HS.out _ _ HQ.out) (fun hNew => ?_)
      clear hK K hHeld
      have hHeld := hNew
      clear hNew
      refine anyL_ready (rs := [2, 9]) (by kernel_rfl) (by simp) (ReadyL.cons rfl (fun K hK => ?_) (ReadyL.cons rfl (fun K hK => ?_) (ReadyL.nil)))
      · dsimp only [List.getElem_toArray, List.getElem_cons_succ, List.getElem_cons_zero]
        go_simp
        refine (C0.out _ _ HQ.out HG1.out).mono ?_
        rintro e V3 ⟨rfl, hq, hw⟩
        replace HG15 := hidW (HG15.out.kept hw)
        replace HQ := hidW hq
        clear hq hw HG1
        go_wp2_with fail
        refine hK.out _ _ (HS.out _ _ HQ.out) (fun hNew => ?_)
        clear hK K hHeld
        have hHeld := hNew
        clear hNew
        refine anyL_ready (rs := [6, 9]) (by kernel_rfl) (by simp) (ReadyL.cons rfl (fun K hK => ?_) (ReadyL.cons rfl (fun K hK => ?_) (ReadyL.nil)))
        · dsimp only [List.getElem_toArray, List.getElem_cons_succ, List.getElem_cons_zero]
          go_simp
          refine (C1.out _ HQ.out).mono ?_
          rintro e V4 ⟨rfl, hq, hw⟩
          replace HG15 := hidW (HG15.out.kept hw)
          replace HQ := hidW hq
          clear hq hw
          go_wp2_with fail
          refine hK.out _ _ (HS.out _ _ HQ.out) (fun hNew => ?_)
          clear hK K hHeld
          have hHeld := hNew
          clear hNew
          refine anyL_ready (rs := [9]) (by kernel_rfl) (by simp) (ReadyL.cons rfl (fun K hK => ?_) (ReadyL.nil))
          · dsimp only [List.getElem_toArray, List.getElem_cons_succ, List.getElem_cons_zero]
            go_simp
            have hq : Qs B b W 19 t a (some ⟨blk, off, none⟩) cap blk off ks _ (V4.alloc (.cells #[.string (bs t)] 9)) ∧ Rw b V4.heap.size [t] (V4.alloc (.cells #[.string (bs t)] 9)) ∧ Wrt B b V4 (V4.alloc (.cells #[.string (bs t)] 9)) := HQ.out.row [t]
            generalize V4.alloc (.cells #[.string (bs t)] 9) = V5 at *
            generalize V4.heap.size = g9 at *
            replace HG15 := hidW (HG15.out.kept hq.2.2)
            replace HQ := hidW hq.1
            have HG9 := hidW hq.2.1
            clear hq
            refine hK.out _ _ (HS.out _ _ HQ.out) (fun hNew => ?_)
            clear hK K hHeld
            have hHeld := hNew
            clear hNew
            refine anyL_ready (rs := [10]) (by kernel_rfl) (by simp) (ReadyL.cons rfl (fun K hK => ?_) (ReadyL.nil))
            · dsimp only [List.getElem_toArray, List.getElem_cons_succ, List.getElem_cons_zero]
              go_simp
              refine (C2.out _ _ HQ.out HG9.out).mono ?_
              rintro e V6 ⟨rfl, hq, hw⟩
              replace HG15 := hidW (HG15.out.kept hw)
              replace HQ := hidW hq
              clear hq hw HG9
              go_wp2_with fail
              refine hK.out _ _ (HS.out _ _ HQ.out) (fun hNew => ?_)
              clear hK K hHeld
              have hHeld := hNew
              clear hNew
              refine anyL_ready (rs := [14]) (by kernel_rfl) (by simp) (ReadyL.cons rfl (fun K hK => ?_) (ReadyL.nil))
              · dsimp only [List.getElem_toArray, List.getElem_cons_succ, List.getElem_cons_zero]
                go_simp
                refine (C3.out _ HQ.out).mono ?_
                rintro e V7 ⟨rfl, hq, hw⟩
                replace HG15 := hidW (HG15.out.kept hw)
                replace HQ := hidW hq
                clear hq hw
                go_wp2_with fail
                refine hK.out _ _ (HS.out _ _ HQ.out) (fun hNew => ?_)
                clear hK K hHeld
                have hHeld := hNew
                clear hNew
                refine anyL_ready (rs := [16]) (by kernel_rfl) (by simp) (ReadyL.cons rfl (fun K hK => ?_) (ReadyL.nil))
                · dsimp only [List.getElem_toArray, List.getElem_cons_succ, List.getElem_cons_zero]
                  go_simp
                  refine (C4.out _ _ HQ.out HG15.out).mono ?_
                  rintro e V8 ⟨rfl, hq, hw⟩
                  replace HQ := hidW hq
                  clear hq hw HG15
                  go_wp2_with fail
                  refine hK.out _ _ (HS.out _ _ HQ.out) (fun hNew => ?_)
                  clear hK K hHeld
                  have hHeld := hNew
                  clear hNew
                  refine anyL_done (by kernel_rfl) ?_ _
                  go_wp2
                  refine bodyPost_end (v := .tuple #[]) (by simp [results, Try.results34, go_sem]) rfl ?_
                  exact ⟨rfl, by rw [HFIN.out]; exact HQ.out.w, HQ.out.r⟩
        · dsimp only [List.getElem_toArray, List.getElem_cons_succ, List.getElem_cons_zero]
          go_simp
          have hq : Qs B b W 19 t a (some ⟨blk, off, none⟩) cap blk off ks _ (V3.alloc (.cells #[.string (bs t)] 9)) ∧ Rw b V3.heap.size [t] (V3.alloc (.cells #[.string (bs t)] 9)) ∧ Wrt B b V3 (V3.alloc (.cells #[.string (bs t)] 9)) := HQ.out.row [t]
          generalize V3.alloc (.cells #[.string (bs t)] 9) = V4 at *
          generalize V3.heap.size = g9 at *
          replace HG15 := hidW (HG15.out.kept hq.2.2)
          replace HQ := hidW hq.1
          have HG9 := hidW hq.2.1
          clear hq
          refine hK.out _ _ (HS.out _ _ HQ.out) (fun hNew => ?_)
          clear hK K hHeld
          have hHeld := hNew
          clear hNew
          refine anyL_ready (rs := [6]) (by kernel_rfl) (by simp) (ReadyL.cons rfl (fun K hK => ?_) (ReadyL.nil))
          · dsimp only [List.getElem_toArray, List.getElem_cons_succ, List.getElem_cons_zero]
            go_simp
            refine (C1.out _ HQ.out).mono ?_
            rintro e V5 ⟨rfl, hq, hw⟩
            replace HG9 := hidW (HG9.out.kept hw)
            replace HG15 := hidW (HG15.out.kept hw)
            replace HQ := hidW hq
            clear hq hw
            go_wp2_with fail
            refine hK.out _ _ (HS.out _ _ HQ.out) (fun hNew => ?_)
            clear hK K hHeld
            have hHeld := hNew
            clear hNew
            refine anyL_ready (rs := [10]) (by kernel_rfl) (by simp) (ReadyL.cons rfl (fun K hK => ?_) (ReadyL.nil))
            · dsimp only [List.getElem_toArray, List.getElem_cons_succ, List.getElem_cons_zero]
              go_simp
              refine (C2.out _ _ HQ.out HG9.out).mono ?_
              rintro e V6 ⟨rfl, hq, hw⟩
              replace HG15 := hidW (HG15.out.kept hw)
              replace HQ := hidW hq
              clear hq hw HG9
              go_wp2_with fail
              refine hK.out _ _ (HS.out _ _ HQ.out) (fun hNew => ?_)
              clear hK K hHeld
              have hHeld := hNew
              clear hNew
              refine anyL_ready (rs := [14]) (by kernel_rfl) (by simp) (ReadyL.cons rfl (fun K hK => ?_) (ReadyL.nil))
              · dsimp only [List.getElem_toArray, List.getElem_cons_succ, List.getElem_cons_zero]
                go_simp
                refine (C3.out _ HQ.out).mono ?_
                rintro e V7 ⟨rfl, hq, hw⟩
                replace HG15 := hidW (HG15.out.kept hw)
                replace HQ := hidW hq
                clear hq hw
                go_wp2_with fail
                refine hK.out _ _ (HS.out _ _ HQ.out) (fun hNew => ?_)
                clear hK K hHeld
                have hHeld := hNew
                clear hNew
                refine anyL_ready (rs := [16]) (by kernel_rfl) (by simp) (ReadyL.cons rfl (fun K hK => ?_) (ReadyL.nil))
                · dsimp only [List.getElem_toArray, List.getElem_cons_succ, List.getElem_cons_zero]
                  go_simp
                  refine (C4.out _ _ HQ.out HG15.out).mono ?_
                  rintro e V8 ⟨rfl, hq, hw⟩
                  replace HQ := hidW hq
                  clear hq hw HG15
                  go_wp2_with fail
                  refine hK.out _ _ (HS.out _ _ HQ.out) (fun hNew => ?_)
                  clear hK K hHeld
                  have hHeld := hNew
                  clear hNew
                  refine anyL_done (by kernel_rfl) ?_ _
                  go_wp2
                  refine bodyPost_end (v := .tuple #[]) (by simp [results, Try.results34, go_sem]) rfl ?_
                  exact ⟨rfl, by rw [HFIN.out]; exact HQ.out.w, HQ.out.r⟩
      · dsimp only [List.getElem_toArray, List.getElem_cons_succ, List.getElem_cons_zero]
        go_simp
        have hq : Qs B b W 19 t a (some ⟨blk, off, none⟩) cap blk off ks _ (V2.alloc (.cells #[.string (bs t)] 9)) ∧ Rw b V2.heap.size [t] (V2.alloc (.cells #[.string (bs t)] 9)) ∧ Wrt B b V2 (V2.alloc (.cells #[.string (bs t)] 9)) := HQ.out.row [t]
        generalize V2.alloc (.cells #[.string (bs t)] 9) = V3 at *
        generalize V2.heap.size = g9 at *
        replace HG1 := hidW (HG1.out.kept hq.2.2)
        replace HG15 := hidW (HG15.out.kept hq.2.2)
        replace HQ := hidW hq.1
        have HG9 := hidW hq.2.1
        clear hq
        refine hK.out _ _ (HS.out _ _ HQ.out) (fun hNew => ?_)
        clear hK K hHeld
        have hHeld := hNew
        clear hNew
        refine anyL_ready (rs := [2]) (by kernel_rfl) (by simp) (ReadyL.cons rfl (fun K hK => ?_) (ReadyL.nil))
        · dsimp only [List.getElem_toArray, List.getElem_cons_succ, List.getElem_cons_zero]
          go_simp
          refine (C0.out _ _ HQ.out HG1.out).mono ?_
          rintro e V4 ⟨rfl, hq, hw⟩
          replace HG9 := hidW (HG9.out.kept hw)
          replace HG15 := hidW (HG15.out.kept hw)
          replace HQ := hidW hq
          clear hq hw HG1
          go_wp2_with fail
          refine hK.out _ _ (HS.out _ _ HQ.out) (fun hNew => ?_)
          clear hK K hHeld
          have hHeld := hNew
          clear hNew
          refine anyL_ready (rs := [6]) (by kernel_rfl) (by simp) (ReadyL.cons rfl (fun K hK => ?_) (ReadyL.nil))
          · dsimp only [List.getElem_toArray, List.getElem_cons_succ, List.getElem_cons_zero]
            go_simp
            refine (C1.out _ HQ.out).mono ?_
            rintro e V5 ⟨rfl, hq, hw⟩
            replace HG9 := hidW (HG9.out.kept hw)
            replace HG15 := hidW (HG15.out.kept hw)
            replace HQ := hidW hq
            clear hq hw
            go_wp2_with fail
            refine hK.out _ _ (HS.out _ _ HQ.out) (fun hNew => ?_)
            clear hK K hHeld
            have hHeld := hNew
            clear hNew
            refine anyL_ready (rs := [10]) (by kernel_rfl) (by simp) (ReadyL.cons rfl (fun K hK => ?_) (ReadyL.nil))
            · dsimp only [List.getElem_toArray, List.getElem_cons_succ, List.getElem_cons_zero]
              go_simp
              refine (C2.out _ _ HQ.out HG9.out).mono ?_
              rintro e V6 ⟨rfl, hq, hw⟩
              replace HG15 := hidW (HG15.out.kept hw)
              replace HQ := hidW hq
              clear hq hw HG9
              go_wp2_with fail
              refine hK.out _ _ (HS.out _ _ HQ.out) (fun hNew => ?_)
              clear hK K hHeld
              have hHeld := hNew
              clear hNew
              refine anyL_ready (rs := [14]) (by kernel_rfl) (by simp) (ReadyL.cons rfl (fun K hK => ?_) (ReadyL.nil))
              · dsimp only [List.getElem_toArray, List.getElem_cons_succ, List.getElem_cons_zero]
                go_simp
                refine (C3.out _ HQ.out).mono ?_
                rintro e V7 ⟨rfl, hq, hw⟩
                replace HG15 := hidW (HG15.out.kept hw)
                replace HQ := hidW hq
                clear hq hw
                go_wp2_with fail
                refine hK.out _ _ (HS.out _ _ HQ.out) (fun hNew => ?_)
                clear hK K hHeld
                have hHeld := hNew
                clear hNew
                refine anyL_ready (rs := [16]) (by kernel_rfl) (by simp) (ReadyL.cons rfl (fun K hK => ?_) (ReadyL.nil))
                · dsimp only [List.getElem_toArray, List.getElem_cons_succ, List.getElem_cons_zero]
                  go_simp
                  refine (C4.out _ _ HQ.out HG15.out).mono ?_
                  rintro e V8 ⟨rfl, hq, hw⟩
                  replace HQ := hidW hq
                  clear hq hw HG15
                  go_wp2_with fail
                  refine hK.out _ _ (HS.out _ _ HQ.out) (fun hNew => ?_)
                  clear hK K hHeld
                  have hHeld := hNew
                  clear hNew
                  refine anyL_done (by kernel_rfl) ?_ _
                  go_wp2
                  refine bodyPost_end (v := .tuple #[]) (by simp [results, Try.results34, go_sem]) rfl ?_
                  exact ⟨rfl, by rw [HFIN.out]; exact HQ.out.w, HQ.out.r⟩
  · dsimp only [List.getElem_toArray, List.getElem_cons_succ, List.getElem_cons_zero]
    go_simp
    have hq : Qs B b W 19 t a (some ⟨blk, off, none⟩) cap blk off ks _ (V0.alloc (.cells #[.string (bs t)] 9)) ∧ Rw b V0.heap.size [t] (V0.alloc (.cells #[.string (bs t)] 9)) ∧ Wrt B b V0 (V0.alloc (.cells #[.string (bs t)] 9)) := HQ.out.row [t]
    generalize V0.alloc (.cells #[.string (bs t)] 9) = V1 at *
    generalize V0.heap.size = g9 at *
    replace HQ := hidW hq.1
    have HG9 := hidW hq.2.1
    clear hq
    refine hK.out _ _ (HS.out _ _ HQ.out) (fun hNew => ?_)
    clear hK K hHeld
    have hHeld := hNew
    clear hNew
    refine anyL_ready (rs := [1, 15]) (by kernel_rfl) (by simp) (ReadyL.cons rfl (fun K hK => ?_) (ReadyL.cons rfl (fun K hK => ?_) (ReadyL.nil)))
    · dsimp only [List.getElem_toArray, List.getElem_cons_succ, List.getElem_cons_zero]
      go_simp
      have hq : Qs B b W 19 t a (some ⟨blk, off, none⟩) cap blk off ks _ (V1.alloc (.cells #[.string ⟨#[40]⟩] 9)) ∧ Rw b V1.heap.size [[40]] (V1.alloc (.cells #[.string ⟨#[40]⟩] 9)) ∧ Wrt B b V1 (V1.alloc (.cells #[.string ⟨#[40]⟩] 9)) := HQ.out.row [[40]]
      generalize V1.alloc (.cells #[.string ⟨#[40]⟩] 9) = V2 at *
      generalize V1.heap.size = g1 at *
      replace HG9 := hidW (HG9.out.kept hq.2.2)
      replace HQ := hidW hq.1
      have HG1 := hidW hq.2.1
      clear hq
      refine hK.out _ _ (HS.out _ _ HQ.out) (fun hNew => ?_)
      clear hK K hHeld
      have hHeld := hNew
      clear hNew
      refine anyL_ready (rs := [2, 15]) (by kernel_rfl) (by simp) (ReadyL.cons rfl (fun K hK => ?_) (ReadyL.cons rfl (fun K hK => ?_) (ReadyL.nil)))
      · dsimp only [List.getElem_toArray, List.getElem_cons_succ, List.getElem_cons_zero]
        go_simp
        refine (C0.out _ _ HQ.out HG1.out).mono ?_
        rintro e V3 ⟨rfl, hq, hw⟩
        replace HG9 := hidW (HG9.out.kept hw)
        replace HQ := hidW hq
        clear hq hw HG1
        go_wp2_with fail
        refine hK.out _ _ (HS.out _ _ HQ.out) (fun hNew => ?_)
        clear hK K hHeld
        have hHeld := hNew
        clear hNew
        refine anyL_ready (rs := [6, 15]) (by kernel_rfl) (by simp) (ReadyL.cons rfl (fun K hK => ?_) (ReadyL.cons rfl (fun K hK => ?_) (ReadyL.nil)))
        · dsimp only [List.getElem_toArray, List.getElem_cons_succ, List.getElem_cons_zero]
          go_simp
          refine (C1.out _ HQ.out).mono ?_
          rintro e V4 ⟨rfl, hq, hw⟩
          replace HG9 := hidW (HG9.out.kept hw)
          replace HQ := hidW hq
          clear hq hw
          go_wp2_with fail
          refine hK.out _ _ (HS.out _ _ HQ.out) (fun hNew => ?_)
          clear hK K hHeld
          have hHeld := hNew
          clear hNew
          refine anyL_ready (rs := [10, 15]) (by kernel_rfl) (by simp) (ReadyL.cons rfl (fun K hK => ?_) (ReadyL.cons rfl (fun K hK => ?_) (ReadyL.nil)))
          · dsimp only [List.getElem_toArray, List.getElem_cons_succ, List.getElem_cons_zero]
            go_simp
            refine (C2.out _ _ HQ.out HG9.out).mono ?_
            rintro e V5 ⟨rfl, hq, hw⟩
            replace HQ := hidW hq
            clear hq hw HG9
            go_wp2_with fail
            refine hK.out _ _ (HS.out _ _ HQ.out) (fun hNew => ?_)
            clear hK K hHeld
            have hHeld := hNew
            clear hNew
            refine anyL_ready (rs := [14, 15]) (by kernel_rfl) (by simp) (ReadyL.cons rfl (fun K hK => ?_) (ReadyL.cons rfl (fun K hK => ?_) (ReadyL.nil)))
            · dsimp only [List.getElem_toArray, List.getElem_cons_succ, List.getElem_cons_zero]
              go_simp
              refine (C3.out _ HQ.out).mono ?_
              rintro e V6 ⟨rfl, hq, hw⟩
              replace HQ := hidW hq
              clear hq hw
              go_wp2_with fail
              refine hK.out _ _ (HS.out _ _ HQ.out) (fun hNew => ?_)
              clear hK K hHeld
              have hHeld := hNew
              clear hNew
              refine anyL_ready (rs := [15]) (by kernel_rfl) (by simp) (ReadyL.cons rfl (fun K hK => ?_) (ReadyL.nil))
              · dsimp only [List.getElem_toArray, List.getElem_cons_succ, List.getElem_cons_zero]
                go_simp
                have hq : Qs B b W 19 t a (some ⟨blk, off, none⟩) cap blk off ks _ (V6.alloc (.cells #[.string ⟨#[41]⟩] 9)) ∧ Rw b V6.heap.size [[41]] (V6.alloc (.cells #[.string ⟨#[41]⟩] 9)) ∧ Wrt B b V6 (V6.alloc (.cells #[.string ⟨#[41]⟩] 9)) := HQ.out.row [[41]]
                generalize V6.alloc (.cells #[.string ⟨#[41]⟩] 9) = V7 at *
                generalize V6.heap.size = g15 at *
                replace HQ := hidW hq.1
                have HG15 := hidW hq.2.1
                clear hq
                refine hK.out _ _ (HS.out _ _ HQ.out) (fun hNew => ?_)
                clear hK K hHeld
                have hHeld := hNew
                clear hNew
                refine anyL_ready (rs := [16]) (by kernel_rfl) (by simp) (ReadyL.cons rfl (fun K hK => ?_) (ReadyL.nil))
                · dsimp only [List.getElem_toArray, List.getElem_cons_succ, List.getElem_cons_zero]
                  go_simp
                  refine (C4.out _ _ HQ.out HG15.out).mono ?_
                  rintro e V8 ⟨rfl, hq, hw⟩
                  replace HQ := hidW hq
                  clear hq hw HG15
                  go_wp2_with fail
                  refine hK.out _ _ (HS.out _ _ HQ.out) (fun hNew => ?_)
                  clear hK K hHeld
                  have hHeld := hNew
                  clear hNew
                  refine anyL_done (by kernel_rfl) ?_ _
                  go_wp2
                  refine bodyPost_end (v := .tuple #[]) (by simp [results, Try.results34, go_sem]) rfl ?_
                  exact ⟨rfl, by rw [HFIN.out]; exact HQ.out.w, HQ.out.r⟩
            · dsimp only [List.getElem_toArray, List.getElem_cons_succ, List.getElem_cons_zero]
              go_simp
              have hq : Qs B b W 19 t a (some ⟨blk, off, none⟩) cap blk off ks _ (V5.alloc (.cells #[.string ⟨#[41]⟩] 9)) ∧ Rw b V5.heap.size [[41]] (V5.alloc (.cells #[.string ⟨#[41]⟩] 9)) ∧ Wrt B b V5 (V5.alloc (.cells #[.string ⟨#[41]⟩] 9)) := HQ.out.row [[41]]
              generalize V5.alloc (.cells #[.string ⟨#[41]⟩] 9) = V6 at *
              generalize V5.heap.size = g15 at *
              replace HQ := hidW hq.1
              have HG15 := hidW hq.2.1
              clear hq
              refine hK.out _ _ (HS.out _ _ HQ.out) (fun hNew => ?_)
              clear hK K hHeld
              have hHeld := hNew
              clear hNew
              refine anyL_ready (rs := [14]) (by kernel_rfl) (by simp) (ReadyL.cons rfl (fun K hK => ?_) (ReadyL.nil))
              · dsimp only [List.getElem_toArray, List.getElem_cons_succ, List.getElem_cons_zero]
                go_simp
                refine (C3.out _ HQ.out).mono ?_
                rintro e V7 ⟨rfl, hq, hw⟩
                replace HG15 := hidW (HG15.out.kept hw)
                replace HQ := hidW hq
                clear hq hw
                go_wp2_with fail
                refine hK.out _ _ (HS.out _ _ HQ.out) (fun hNew => ?_)
                clear hK K hHeld
                have hHeld := hNew
                clear hNew
                refine anyL_ready (rs := [16]) (by kernel_rfl) (by simp) (ReadyL.cons rfl (fun K hK => ?_) (ReadyL.nil))
                · dsimp only [List.getElem_toArray, List.getElem_cons_succ, List.getElem_cons_zero]
                  go_simp
                  refine (C4.out _ _ HQ.out HG15.out).mono ?_
                  rintro e V8 ⟨rfl, hq, hw⟩
                  replace HQ := hidW hq
                  clear hq hw HG15
                  go_wp2_with fail
                  refine hK.out _ _ (HS.out _ _ HQ.out) (fun hNew => ?_)
                  clear hK K hHeld
                  have hHeld := hNew
                  clear hNew
                  refine anyL_done (by kernel_rfl) ?_ _
                  go_wp2
                  refine bodyPost_end (v := .tuple #[]) (by simp [results, Try.results34, go_sem]) rfl ?_
                  exact ⟨rfl, by rw [HFIN.out]; exact HQ.out.w, HQ.out.r⟩
          · dsimp only [List.getElem_toArray, List.getElem_cons_succ, List.getElem_cons_zero]
            go_simp
            have hq : Qs B b W 19 t a (some ⟨blk, off, none⟩) cap blk off ks _ (V4.alloc (.cells #[.string ⟨#[41]⟩] 9)) ∧ Rw b V4.heap.size [[41]] (V4.alloc (.cells #[.string ⟨#[41]⟩] 9)) ∧ Wrt B b V4 (V4.alloc (.cells #[.string ⟨#[41]⟩] 9)) := HQ.out.row [[41]]
            generalize V4.alloc (.cells #[.string ⟨#[41]⟩] 9) = V5 at *
            generalize V4.heap.size = g15 at *
            replace HG9 := hidW (HG9.out.kept hq.2.2)
            replace HQ := hidW hq.1
            have HG15 := hidW hq.2.1
            clear hq
            refine hK.out _ _ (HS.out _ _ HQ.out) (fun hNew => ?_)
            clear hK K hHeld
            have hHeld := hNew
            clear hNew
            refine anyL_ready (rs := [10]) (by kernel_rfl) (by simp) (ReadyL.cons rfl (fun K hK => ?_) (ReadyL.nil))
            · dsimp only [List.getElem_toArray, List.getElem_cons_succ, List.getElem_cons_zero]
              go_simp
              refine (C2.out _ _ HQ.out HG9.out).mono ?_
              rintro e V6 ⟨rfl, hq, hw⟩
              replace HG15 := hidW (HG15.out.kept hw)
              replace HQ := hidW hq
              clear hq hw HG9
              go_wp2_with fail
              refine hK.out _ _ (HS.out _ _ HQ.out) (fun hNew => ?_)
              clear hK K hHeld
              have hHeld := hNew
              clear hNew
              refine anyL_ready (rs := [14]) (by kernel_rfl) (by simp) (ReadyL.cons rfl (fun K hK => ?_) (ReadyL.nil))
              · dsimp only [List.getElem_toArray, List.getElem_cons_succ, List.getElem_cons_zero]
                go_simp
                refine (C3.out _ HQ.out).mono ?_
                rintro e V7 ⟨rfl, hq, hw⟩
                replace HG15 := hidW (HG15.out.kept hw)
                replace HQ := hidW hq
                clear hq hw
                go_wp2_with fail
                refine hK.out _ _ (HS.out _ _ HQ.out) (fun hNew => ?_)
                clear hK K hHeld
                have hHeld := hNew
                clear hNew
                refine anyL_ready (rs := [16]) (by kernel_rfl) (by simp) (ReadyL.cons rfl (fun K hK => ?_) (ReadyL.nil))
                · dsimp only [List.getElem_toArray, List.getElem_cons_succ, List.getElem_cons_zero]
                  go_simp
                  refine (C4.out _ _ HQ.out HG15.out).mono ?_
                  rintro e V8 ⟨rfl, hq, hw⟩
                  replace HQ := hidW hq
                  clear hq hw HG15
                  go_wp2_with fail
                  refine hK.out _ _ (HS.out _ _ HQ.out) (fun hNew => ?_)
                  clear hK K hHeld
                  have hHeld := hNew
                  clear hNew
                  refine anyL_done (by kernel_rfl) ?_ _
                  go_wp2
                  refine bodyPost_end (v := .tuple #[]) (by simp [results, Try.results34, go_sem]) rfl ?_
                  exact ⟨rfl, by rw [HFIN.out]; exact HQ.out.w, HQ.out.r⟩
        · dsimp only [List.getElem_toArray, List.getElem_cons_succ, List.getElem_cons_zero]
          go_simp
          have hq : Qs B b W 19 t a (some ⟨blk, off, none⟩) cap blk off ks _ (V3.alloc (.cells #[.string ⟨#[41]⟩] 9)) ∧ Rw b V3.heap.size [[41]] (V3.alloc (.cells #[.string ⟨#[41]⟩] 9)) ∧ Wrt B b V3 (V3.alloc (.cells #[.string ⟨#[41]⟩] 9)) := HQ.out.row [[41]]
          generalize V3.alloc (.cells #[.string ⟨#[41]⟩] 9) = V4 at *
          generalize V3.heap.size = g15 at *
          replace HG9 := hidW (HG9.out.kept hq.2.2)
          replace HQ := hidW hq.1
          have HG15 := hidW hq.2.1
          clear hq
          refine hK.out _ _ (HS.out _ _ HQ.out) (fun hNew => ?_)
          clear hK K hHeld
          have hHeld := hNew
          clear hNew
          refine anyL_ready (rs := [6]) (by kernel_rfl) (by simp) (ReadyL.cons rfl (fun K hK => ?_) (ReadyL.nil))
          · dsimp only [List.getElem_toArray, List.getElem_cons_succ, List.getElem_cons_zero]
            go_simp
            refine (C1.out _ HQ.out).mono ?_
            rintro e V5 ⟨rfl, hq, hw⟩
            replace HG9 := hidW (HG9.out.kept hw)
            replace HG15 := hidW (HG15.out.kept hw)
            replace HQ := hidW hq
            clear hq hw
            go_wp2_with fail
            refine hK.out _ _ (HS.out _ _ HQ.out) (fun hNew => ?_)
            clear hK K hHeld
            have hHeld := hNew
            clear hNew
            refine anyL_ready (rs := [10]) (by kernel_rfl) (by simp) (ReadyL.cons rfl (fun K hK => ?_) (ReadyL.nil))
            · dsimp only [List.getElem_toArray, List.getElem_cons_succ, List.getElem_cons_zero]
              go_simp
              refine (C2.out _ _ HQ.out HG9.out).mono ?_
              rintro e V6 ⟨rfl, hq, hw⟩
              replace HG15 := hidW (HG15.out.kept hw)
              replace HQ := hidW hq
              clear hq hw HG9
              go_wp2_with fail
              refine hK.out _ _ (HS.out _ _ HQ.out) (fun hNew => ?_)
              clear hK K hHeld
              have hHeld := hNew
              clear hNew
              refine anyL_ready (rs := [14]) (by kernel_rfl) (by simp) (ReadyL.cons rfl (fun K hK => ?_) (ReadyL.nil))
              · dsimp only [List.getElem_toArray, List.getElem_cons_succ, List.getElem_cons_zero]
                go_simp
                refine (C3.out _ HQ.out).mono ?_
                rintro e V7 ⟨rfl, hq, hw⟩
                replace HG15 := hidW (HG15.out.kept hw)
                replace HQ := hidW hq
                clear hq hw
                go_wp2_with fail
                refine hK.out _ _ (HS.out _ _ HQ.out) (fun hNew => ?_)
                clear hK K hHeld
                have hHeld := hNew
                clear hNew
                refine anyL_ready (rs := [16]) (by kernel_rfl) (by simp) (ReadyL.cons rfl (fun K hK => ?_) (ReadyL.nil))
                · dsimp only [List.getElem_toArray, List.getElem_cons_succ, List.getElem_cons_zero]
                  go_simp
                  refine (C4.out _ _ HQ.out HG15.out).mono ?_
                  rintro e V8 ⟨rfl, hq, hw⟩
                  replace HQ := hidW hq
                  clear hq hw HG15
                  go_wp2_with fail
                  refine hK.out _ _ (HS.out _ _ HQ.out) (fun hNew => ?_)
                  clear hK K hHeld
                  have hHeld := hNew
                  clear hNew
                  refine anyL_done (by kernel_rfl) ?_ _
                  go_wp2
                  refine bodyPost_end (v := .tuple #[]) (by simp [results, Try.results34, go_sem]) rfl ?_
                  exact ⟨rfl, by rw [HFIN.out]; exact HQ.out.w, HQ.out.r⟩
      · dsimp only [List.getElem_toArray, List.getElem_cons_succ, List.getElem_cons_zero]
        go_simp
        have hq : Qs B b W 19 t a (some ⟨blk, off, none⟩) cap blk off ks _ (V2.alloc (.cells #[.string ⟨#[41]⟩] 9)) ∧ Rw b V2.heap.size [[41]] (V2.alloc (.cells #[.string ⟨#[41]⟩] 9)) ∧ Wrt B b V2 (V2.alloc (.cells #[.string ⟨#[41]⟩] 9)) := HQ.out.row [[41]]
        generalize V2.alloc (.cells #[.string ⟨#[41]⟩] 9) = V3 at *
        generalize V2.heap.size = g15 at *
        replace HG1 := hidW (HG1.out.kept hq.2.2)
        replace HG9 := hidW (HG9.out.kept hq.2.2)
        replace HQ := hidW hq.1
        have HG15 := hidW hq.2.1
        clear hq
        refine hK.out _ _ (HS.out _ _ HQ.out) (fun hNew => ?_)
        clear hK K hHeld
        have hHeld := hNew
        clear hNew
        refine anyL_ready (rs := [2]) (by kernel_rfl) (by simp) (ReadyL.cons rfl (fun K hK => ?_) (ReadyL.nil))
        · dsimp only [List.getElem_toArray, List.getElem_cons_succ, List.getElem_cons_zero]
          go_simp
          refine (C0.out _ _ HQ.out HG1.out).mono ?_
          rintro e V4 ⟨rfl, hq, hw⟩
          replace HG9 := hidW (HG9.out.kept hw)
          replace HG15 := hidW (HG15.out.kept hw)
          replace HQ := hidW hq
          clear hq hw HG1
          go_wp2_with fail
          refine hK.out _ _ (HS.out _ _ HQ.out) (fun hNew => ?_)
          clear hK K hHeld
          have hHeld := hNew
          clear hNew
          refine anyL_ready (rs := [6]) (by kernel_rfl) (by simp) (ReadyL.cons rfl (fun K hK => ?_) (ReadyL.nil))
          · dsimp only [List.getElem_toArray, List.getElem_cons_succ, List.getElem_cons_zero]
            go_simp
            refine (C1.out _ HQ.out).mono ?_
            rintro e V5 ⟨rfl, hq, hw⟩
            replace HG9 := hidW (HG9.out.kept hw)
            replace HG15 := hidW (HG15.out.kept hw)
            replace HQ := hidW hq
            clear hq hw
            go_wp2_with fail
            refine hK.out _ _ (HS.out _ _ HQ.out) (fun hNew => ?_)
            clear hK K hHeld
            have hHeld := hNew
            clear hNew
            refine anyL_ready (rs := [10]) (by kernel_rfl) (by simp) (ReadyL.cons rfl (fun K hK => ?_) (ReadyL.nil))
            · dsimp only [List.getElem_toArray, List.getElem_cons_succ, List.getElem_cons_zero]
              go_simp
              refine (C2.out _ _ HQ.out HG9.out).mono ?_
              rintro e V6 ⟨rfl, hq, hw⟩
              replace HG15 := hidW (HG15.out.kept hw)
              replace HQ := hidW hq
              clear hq hw HG9
              go_wp2_with fail
              refine hK.out _ _ (HS.out _ _ HQ.out) (fun hNew => ?_)
              clear hK K hHeld
              have hHeld := hNew
              clear hNew
              refine anyL_ready (rs := [14]) (by kernel_rfl) (by simp) (ReadyL.cons rfl (fun K hK => ?_) (ReadyL.nil))
              · dsimp only [List.getElem_toArray, List.getElem_cons_succ, List.getElem_cons_zero]
                go_simp
                refine (C3.out _ HQ.out).mono ?_
                rintro e V7 ⟨rfl, hq, hw⟩
                replace HG15 := hidW (HG15.out.kept hw)
                replace HQ := hidW hq
                clear hq hw
                go_wp2_with fail
                refine hK.out _ _ (HS.out _ _ HQ.out) (fun hNew => ?_)
                clear hK K hHeld
                have hHeld := hNew
                clear hNew
                refine anyL_ready (rs := [16]) (by kernel_rfl) (by simp) (ReadyL.cons rfl (fun K hK => ?_) (ReadyL.nil))
                · dsimp only [List.getElem_toArray, List.getElem_cons_succ, List.getElem_cons_zero]
                  go_simp
                  refine (C4.out _ _ HQ.out HG15.out).mono ?_
                  rintro e V8 ⟨rfl, hq, hw⟩
                  replace HQ := hidW hq
                  clear hq hw HG15
                  go_wp2_with fail
                  refine hK.out _ _ (HS.out _ _ HQ.out) (fun hNew => ?_)
                  clear hK K hHeld
                  have hHeld := hNew
                  clear hNew
                  refine anyL_done (by kernel_rfl) ?_ _
                  go_wp2
                  refine bodyPost_end (v := .tuple #[]) (by simp [results, Try.results34, go_sem]) rfl ?_
                  exact ⟨rfl, by rw [HFIN.out]; exact HQ.out.w, HQ.out.r⟩
    · dsimp only [List.getElem_toArray, List.getElem_cons_succ, List.getElem_cons_zero]
      go_simp
      have hq : Qs B b W 19 t a (some ⟨blk, off, none⟩) cap blk off ks _ (V1.alloc (.cells #[.string ⟨#[41]⟩] 9)) ∧ Rw b V1.heap.size [[41]] (V1.alloc (.cells #[.string ⟨#[41]⟩] 9)) ∧ Wrt B b V1 (V1.alloc (.cells #[.string ⟨#[41]⟩] 9)) := HQ.out.row [[41]]
      generalize V1.alloc (.cells #[.string ⟨#[41]⟩] 9) = V2 at *
      generalize V1.heap.size = g15 at *
      replace HG9 := hidW (HG9.out.kept hq.2.2)
      replace HQ := hidW hq.1
      have HG15 := hidW hq.2.1
      clear hq
      refine hK.out _ _ (HS.out _ _ HQ.out) (fun hNew => ?_)
      clear hK K hHeld
      have hHeld := hNew
      clear hNew
      refine anyL_ready (rs := [1]) (by kernel_rfl) (by simp) (ReadyL.cons rfl (fun K hK => ?_) (ReadyL.nil))
      · dsimp only [List.getElem_toArray, List.getElem_cons_succ, List.getElem_cons_zero]
        go_simp
        have hq : Qs B b W 19 t a (some ⟨blk, off, none⟩) cap blk off ks _ (V2.alloc (.cells #[.string ⟨#[40]⟩] 9)) ∧ Rw b V2.heap.size [[40]] (V2.alloc (.cells #[.string ⟨#[40]⟩] 9)) ∧ Wrt B b V2 (V2.alloc (.cells #[.string ⟨#[40]⟩] 9)) := HQ.out.row [[40]]
        generalize V2.alloc (.cells #[.string ⟨#[40]⟩] 9) = V3 at *
        generalize V2.heap.size = g1 at *
        replace HG9 := hidW (HG9.out.kept hq.2.2)
        replace HG15 := hidW (HG15.out.kept hq.2.2)
        replace HQ := hidW hq.1
        have HG1 := hidW hq.2.1
        clear hq
        refine hK.out _ _ (HS.out _ _ HQ.out) (fun hNew => ?_)
        clear hK K hHeld
        have hHeld := hNew
        clear hNew
        refine anyL_ready (rs := [2]) (by kernel_rfl) (by simp) (ReadyL.cons rfl (fun K hK => ?_) (ReadyL.nil))
        · dsimp only [List.getElem_toArray, List.getElem_cons_succ, List.getElem_cons_zero]
          go_simp
          refine (C0.out _ _ HQ.out HG1.out).mono ?_
          rintro e V4 ⟨rfl, hq, hw⟩
          replace HG9 := hidW (HG9.out.kept hw)
          replace HG15 := hidW (HG15.out.kept hw)
          replace HQ := hidW hq
          clear hq hw HG1
          go_wp2_with fail
          refine hK.out _ _ (HS.out _ _ HQ.out) (fun hNew => ?_)
          clear hK K hHeld
          have hHeld := hNew
          clear hNew
          refine anyL_ready (rs := [6]) (by kernel_rfl) (by simp) (ReadyL.cons rfl (fun K hK => ?_) (ReadyL.nil))
          · dsimp only [List.getElem_toArray, List.getElem_cons_succ, List.getElem_cons_zero]
            go_simp
            refine (C1.out _ HQ.out).mono ?_
            rintro e V5 ⟨rfl, hq, hw⟩
            replace HG9 := hidW (HG9.out.kept hw)
            replace HG15 := hidW (HG15.out.kept hw)
            replace HQ := hidW hq
            clear hq hw
            go_wp2_with fail
            refine hK.out _ _ (HS.out _ _ HQ.out) (fun hNew => ?_)
            clear hK K hHeld
            have hHeld := hNew
            clear hNew
            refine anyL_ready (rs := [10]) (by kernel_rfl) (by simp) (ReadyL.cons rfl (fun K hK => ?_) (ReadyL.nil))
            · dsimp only [List.getElem_toArray, List.getElem_cons_succ, List.getElem_cons_zero]
              go_simp
              refine (C2.out _ _ HQ.out HG9.out).mono ?_
              rintro e V6 ⟨rfl, hq, hw⟩
              replace HG15 := hidW (HG15.out.kept hw)
              replace HQ := hidW hq
              clear hq hw HG9
              go_wp2_with fail
              refine hK.out _ _ (HS.out _ _ HQ.out) (fun hNew => ?_)
              clear hK K hHeld
              have hHeld := hNew
              clear hNew
              refine anyL_ready (rs := [14]) (by kernel_rfl) (by simp) (ReadyL.cons rfl (fun K hK => ?_) (ReadyL.nil))
              · dsimp only [List.getElem_toArray, List.getElem_cons_succ, List.getElem_cons_zero]
                go_simp
                refine (C3.out _ HQ.out).mono ?_
                rintro e V7 ⟨rfl, hq, hw⟩
                replace HG15 := hidW (HG15.out.kept hw)
                replace HQ := hidW hq
                clear hq hw
                go_wp2_with fail
                refine hK.out _ _ (HS.out _ _ HQ.out) (fun hNew => ?_)
                clear hK K hHeld
                have hHeld := hNew
                clear hNew
                refine anyL_ready (rs := [16]) (by kernel_rfl) (by simp) (ReadyL.cons rfl (fun K hK => ?_) (ReadyL.nil))
                · dsimp only [List.getElem_toArray, List.getElem_cons_succ, List.getElem_cons_zero]
                  go_simp
                  refine (C4.out _ _ HQ.out HG15.out).mono ?_
                  rintro e V8 ⟨rfl, hq, hw⟩
                  replace HQ := hidW hq
                  clear hq hw HG15
                  go_wp2_with fail
                  refine hK.out _ _ (HS.out _ _ HQ.out) (fun hNew => ?_)
                  clear hK K hHeld
                  have hHeld := hNew
                  clear hNew
                  refine anyL_done (by kernel_rfl) ?_ _
                  go_wp2
                  refine bodyPost_end (v := .tuple #[]) (by simp [results, Try.results34, go_sem]) rfl ?_
                  exact ⟨rfl, by rw [HFIN.out]; exact HQ.out.w, HQ.out.r⟩
  · dsimp only [List.getElem_toArray, List.getElem_cons_succ, List.getElem_cons_zero]
    go_simp
    have hq : Qs B b W 19 t a (some ⟨blk, off, none⟩) cap blk off ks _ (V0.alloc (.cells #[.string ⟨#[41]⟩] 9)) ∧ Rw b V0.heap.size [[41]] (V0.alloc (.cells #[.string ⟨#[41]⟩] 9)) ∧ Wrt B b V0 (V0.alloc (.cells #[.string ⟨#[41]⟩] 9)) := HQ.out.row [[41]]
    generalize V0.alloc (.cells #[.string ⟨#[41]⟩] 9) = V1 at *
    generalize V0.heap.size = g15 at *
    replace HQ := hidW hq.1
    have HG15 := hidW hq.2.1
    clear hq
    refine hK.out _ _ (HS.out _ _ HQ.out) (fun hNew => ?_)
    clear hK K hHeld
    have hHeld := hNew
    clear hNew
    refine anyL_ready (rs := [1, 9]) (by kernel_rfl) (by simp) (ReadyL.cons rfl (fun K hK => ?_) (ReadyL.cons rfl (fun K hK => ?_) (ReadyL.nil)))
    · dsimp only [List.getElem_toArray, List.getElem_cons_succ, List.getElem_cons_zero]
      go_simp
      have hq : Qs B b W 19 t a (some ⟨blk, off, none⟩) cap blk off ks _ (V1.alloc (.cells #[.string ⟨#[40]⟩] 9)) ∧ Rw b V1.heap.size [[40]] (V1.alloc (.cells #[.string ⟨#[40]⟩] 9)) ∧ Wrt B b V1 (V1.alloc (.cells #[.string ⟨#[40]⟩] 9)) := HQ.out.row [[40]]
      generalize V1.alloc (.cells #[.string ⟨#[40]⟩] 9) = V2 at *
      generalize V1.heap.size = g1 at *
      replace HG15 := hidW (HG15.out.kept hq.2.2)
      replace HQ := hidW hq.1
      have HG1 := hidW hq.2.1
      clear hq
      refine hK.out _ _ (HS.out _ _ HQ.out) (fun hNew => ?_)
      clear hK K hHeld
      have hHeld := hNew
      clear hNew
      refine anyL_ready (rs := [2, 9]) (by kernel_rfl) (by simp) (ReadyL.cons rfl (fun K hK => ?_) (ReadyL.cons rfl (fun K hK => ?_) (ReadyL.nil)))
      · dsimp only [List.getElem_toArray, List.getElem_cons_succ, List.getElem_cons_zero]
        go_simp
        refine (C0.out _ _ HQ.out HG1.out).mono ?_
        rintro e V3 ⟨rfl, hq, hw⟩
        replace HG15 := hidW (HG15.out.kept hw)
        replace HQ := hidW hq
        clear hq hw HG1
        go_wp2_with fail
        refine hK.out _ _ (HS.out _ _ HQ.out) (fun hNew => ?_)
        clear hK K hHeld
        have hHeld := hNew
        clear hNew
        refine anyL_ready (rs := [6, 9]) (by kernel_rfl) (by simp) (ReadyL.cons rfl (fun K hK => ?_) (ReadyL.cons rfl (fun K hK => ?_) (ReadyL.nil)))
        · dsimp only [List.getElem_toArray, List.getElem_cons_succ, List.getElem_cons_zero]
          go_simp
          refine (C1.out _ HQ.out).mono ?_
          rintro e V4 ⟨rfl, hq, hw⟩
          replace HG15 := hidW (HG15.out.kept hw)
          replace HQ := hidW hq
          clear hq hw
          go_wp2_with fail
          refine hK.out _ _ (HS.out _ _ HQ.out) (fun hNew => ?_)
          clear hK K hHeld
          have hHeld := hNew
          clear hNew
          refine anyL_ready (rs := [9]) (by kernel_rfl) (by simp) (ReadyL.cons rfl (fun K hK => ?_) (ReadyL.nil))
          · dsimp only [List.getElem_toArray, List.getElem_cons_succ, List.getElem_cons_zero]
            go_simp
            have hq : Qs B b W 19 t a (some ⟨blk, off, none⟩) cap blk off ks _ (V4.alloc (.cells #[.string (bs t)] 9)) ∧ Rw b V4.heap.size [t] (V4.alloc (.cells #[.string (bs t)] 9)) ∧ Wrt B b V4 (V4.alloc (.cells #[.string (bs t)] 9)) := HQ.out.row [t]
            generalize V4.alloc (.cells #[.string (bs t)] 9) = V5 at *
            generalize V4.heap.size = g9 at *
            replace HG15 := hidW (HG15.out.kept hq.2.2)
            replace HQ := hidW hq.1
            have HG9 := hidW hq.2.1
            clear hq
            refine hK.out _ _ (HS.out _ _ HQ.out) (fun hNew => ?_)
            clear hK K hHeld
            have hHeld := hNew
            clear hNew
            refine anyL_ready (rs := [10]) (by kernel_rfl) (by simp) (ReadyL.cons rfl (fun K hK => ?_) (ReadyL.nil))
            · dsimp only [List.getElem_toArray, List.getElem_cons_succ, List.getElem_cons_zero]
              go_simp
              refine (C2.out _ _ HQ.out HG9.out).mono ?_
              rintro e V6 ⟨rfl, hq, hw⟩
              replace HG15 := hidW (HG15.out.kept hw)
              replace HQ := hidW hq
              clear hq hw HG9
              go_wp2_with fail
              refine hK.out _ _ (HS.out _ _ HQ.out) (fun hNew => ?_)
              clear hK K hHeld
              have hHeld := hNew
              clear hNew
              refine anyL_ready (rs := [14]) (by kernel_rfl) (by simp) (ReadyL.cons rfl (fun K hK => ?_) (ReadyL.nil))
              · dsimp only [List.getElem_toArray, List.getElem_cons_succ, List.getElem_cons_zero]
                go_simp
                refine (C3.out _ HQ.out).mono ?_
                rintro e V7 ⟨rfl, hq, hw⟩
                replace HG15 := hidW (HG15.out.kept hw)
                replace HQ := hidW hq
                clear hq hw
                go_wp2_with fail
                refine hK.out _ _ (HS.out _ _ HQ.out) (fun hNew => ?_)
                clear hK K hHeld
                have hHeld := hNew
                clear hNew
                refine anyL_ready (rs := [16]) (by kernel_rfl) (by simp) (ReadyL.cons rfl (fun K hK => ?_) (ReadyL.nil))
                · dsimp only [List.getElem_toArray, List.getElem_cons_succ, List.getElem_cons_zero]
                  go_simp
                  refine (C4.out _ _ HQ.out HG15.out).mono ?_
                  rintro e V8 ⟨rfl, hq, hw⟩
                  replace HQ := hidW hq
                  clear hq hw HG15
                  go_wp2_with fail
                  refine hK.out _ _ (HS.out _ _ HQ.out) (fun hNew => ?_)
                  clear hK K hHeld
                  have hHeld := hNew
                  clear hNew
                  refine anyL_done (by kernel_rfl) ?_ _
                  go_wp2
                  refine bodyPost_end (v := .tuple #[]) (by simp [results, Try.results34, go_sem]) rfl ?_
                  exact ⟨rfl, by rw [HFIN.out]; exact HQ.out.w, HQ.out.r⟩
        · dsimp only [List.getElem_toArray, List.getElem_cons_succ, List.getElem_cons_zero]
          go_simp
          have hq : Qs B b W 19 t a (some ⟨blk, off, none⟩) cap blk off ks _ (V3.alloc (.cells #[.string (bs t)] 9)) ∧ Rw b V3.heap.size [t] (V3.alloc (.cells #[.string (bs t)] 9)) ∧ Wrt B b V3 (V3.alloc (.cells #[.string (bs t)] 9)) := HQ.out.row [t]
          generalize V3.alloc (.cells #[.string (bs t)] 9) = V4 at *
          generalize V3.heap.size = g9 at *
          replace HG15 := hidW (HG15.out.kept hq.2.2)
          replace HQ := hidW hq.1
          have HG9 := hidW hq.2.1
          clear hq
          refine hK.out _ _ (HS.out _ _ HQ.out) (fun hNew => ?_)
          clear hK K hHeld
          have hHeld := hNew
          clear hNew
          refine anyL_ready (rs := [6]) (by kernel_rfl) (by simp) (ReadyL.cons rfl (fun K hK => ?_) (ReadyL.nil))
          · dsimp only [List.getElem_toArray, List.getElem_cons_succ, List.getElem_cons_zero]
            go_simp
            refine (C1.out _ HQ.out).mono ?_
            rintro e V5 ⟨rfl, hq, hw⟩
            replace HG9 := hidW (HG9.out.kept hw)
            replace HG15 := hidW (HG15.out.kept hw)
            replace HQ := hidW hq
            clear hq hw
            go_wp2_with fail
            refine hK.out _ _ (HS.out _ _ HQ.out) (fun hNew => ?_)
            clear hK K hHeld
            have hHeld := hNew
            clear hNew
            refine anyL_ready (rs := [10]) (by kernel_rfl) (by simp) (ReadyL.cons rfl (fun K hK => ?_) (ReadyL.nil))
            · dsimp only [List.getElem_toArray, List.getElem_cons_succ, List.getElem_cons_zero]
              go_simp
              refine (C2.out _ _ HQ.out HG9.out).mono ?_
              rintro e V6 ⟨rfl, hq, hw⟩
              replace HG15 := hidW (HG15.out.kept hw)
              replace HQ := hidW hq
              clear hq hw HG9
              go_wp2_with fail
              refine hK.out _ _ (HS.out _ _ HQ.out) (fun hNew => ?_)
              clear hK K hHeld
              have hHeld := hNew
              clear hNew
              refine anyL_ready (rs := [14]) (by kernel_rfl) (by simp) (ReadyL.cons rfl (fun K hK => ?_) (ReadyL.nil))
              · dsimp only [List.getElem_toArray, List.getElem_cons_succ, List.getElem_cons_zero]
                go_simp
                refine (C3.out _ HQ.out).mono ?_
                rintro e V7 ⟨rfl, hq, hw⟩
                replace HG15 := hidW (HG15.out.kept hw)
                replace HQ := hidW hq
                clear hq hw
                go_wp2_with fail
                refine hK.out _ _ (HS.out _ _ HQ.out) (fun hNew => ?_)
                clear hK K hHeld
                have hHeld := hNew
                clear hNew
                refine anyL_ready (rs := [16]) (by kernel_rfl) (by simp) (ReadyL.cons rfl (fun K hK => ?_) (ReadyL.nil))
                · dsimp only [List.getElem_toArray, List.getElem_cons_succ, List.getElem_cons_zero]
                  go_simp
                  refine (C4.out _ _ HQ.out HG15.out).mono ?_
                  rintro e V8 ⟨rfl, hq, hw⟩
                  replace HQ := hidW hq
                  clear hq hw HG15
                  go_wp2_with fail
                  refine hK.out _ _ (HS.out _ _ HQ.out) (fun hNew => ?_)
                  clear hK K hHeld
                  have hHeld := hNew
                  clear hNew
                  refine anyL_done (by kernel_rfl) ?_ _
                  go_wp2
                  refine bodyPost_end (v := .tuple #[]) (by simp [results, Try.results34, go_sem]) rfl ?_
                  exact ⟨rfl, by rw [HFIN.out]; exact HQ.out.w, HQ.out.r⟩
      · dsimp only [List.getElem_toArray, List.getElem_cons_succ, List.getElem_cons_zero]
        go_simp
        have hq : Qs B b W 19 t a (some ⟨blk, off, none⟩) cap blk off ks _ (V2.alloc (.cells #[.string (bs t)] 9)) ∧ Rw b V2.heap.size [t] (V2.alloc (.cells #[.string (bs t)] 9)) ∧ Wrt B b V2 (V2.alloc (.cells #[.string (bs t)] 9)) := HQ.out.row [t]
        generalize V2.alloc (.cells #[.string (bs t)] 9) = V3 at *
        generalize V2.heap.size = g9 at *
        replace HG1 := hidW (HG1.out.kept hq.2.2)
        replace HG15 := hidW (HG15.out.kept hq.2.2)
        replace HQ := hidW hq.1
        have HG9 := hidW hq.2.1
        clear hq
        refine hK.out _ _ (HS.out _ _ HQ.out) (fun hNew => ?_)
        clear hK K hHeld
        have hHeld := hNew
        clear hNew
        refine anyL_ready (rs := [2]) (by kernel_rfl) (by simp) (ReadyL.cons rfl (fun K hK => ?_) (ReadyL.nil))
        · dsimp only [List.getElem_toArray, List.getElem_cons_succ, List.getElem_cons_zero]
          go_simp
          refine (C0.out _ _ HQ.out HG1.out).mono ?_
          rintro e V4 ⟨rfl, hq, hw⟩
          replace HG9 := hidW (HG9.out.kept hw)
          replace HG15 := hidW (HG15.out.kept hw)
          replace HQ := hidW hq
          clear hq hw HG1
          go_wp2_with fail
          refine hK.out _ _ (HS.out _ _ HQ.out) (fun hNew => ?_)
          clear hK K hHeld
          have hHeld := hNew
          clear hNew
          refine anyL_ready (rs := [6]) (by kernel_rfl) (by simp) (ReadyL.cons rfl (fun K hK => ?_) (ReadyL.nil))
          · dsimp only [List.getElem_toArray, List.getElem_cons_succ, List.getElem_cons_zero]
            go_simp
            refine (C1.out _ HQ.out).mono ?_
            rintro e V5 ⟨rfl, hq, hw⟩
            replace HG9 := hidW (HG9.out.kept hw)
            replace HG15 := hidW (HG15.out.kept hw)
            replace HQ := hidW hq
            clear hq hw
            go_wp2_with fail
            refine hK.out _ _ (HS.out _ _ HQ.out) (fun hNew => ?_)
            clear hK K hHeld
            have hHeld := hNew
            clear hNew
            refine anyL_ready (rs := [10]) (by kernel_rfl) (by simp) (ReadyL.cons rfl (fun K hK => ?_) (ReadyL.nil))
            · dsimp only [List.getElem_toArray, List.getElem_cons_succ, List.getElem_cons_zero]
              go_simp
              refine (C2.out _ _ HQ.out HG9.out).mono ?_
              rintro e V6 ⟨rfl, hq, hw⟩
              replace HG15 := hidW (HG15.out.kept hw)
              replace HQ := hidW hq
              clear hq hw HG9
              go_wp2_with fail
              refine hK.out _ _ (HS.out _ _ HQ.out) (fun hNew => ?_)
              clear hK K hHeld
              have hHeld := hNew
              clear hNew
              refine anyL_ready (rs := [14]) (by kernel_rfl) (by simp) (ReadyL.cons rfl (fun K hK => ?_) (ReadyL.nil))
              · dsimp only [List.getElem_toArray, List.getElem_cons_succ, List.getElem_cons_zero]
                go_simp
                refine (C3.out _ HQ.out).mono ?_
                rintro e V7 ⟨rfl, hq, hw⟩
                replace HG15 := hidW (HG15.out.kept hw)
                replace HQ := hidW hq
                clear hq hw
                go_wp2_with fail
                refine hK.out _ _ (HS.out _ _ HQ.out) (fun hNew => ?_)
                clear hK K hHeld
                have hHeld := hNew
                clear hNew
                refine anyL_ready (rs := [16]) (by kernel_rfl) (by simp) (ReadyL.cons rfl (fun K hK => ?_) (ReadyL.nil))
                · dsimp only [List.getElem_toArray, List.getElem_cons_succ, List.getElem_cons_zero]
                  go_simp
                  refine (C4.out _ _ HQ.out HG15.out).mono ?_
                  rintro e V8 ⟨rfl, hq, hw⟩
                  replace HQ := hidW hq
                  clear hq hw HG15
                  go_wp2_with fail
                  refine hK.out _ _ (HS.out _ _ HQ.out) (fun hNew => ?_)
                  clear hK K hHeld
                  have hHeld := hNew
                  clear hNew
                  refine anyL_done (by kernel_rfl) ?_ _
                  go_wp2
                  refine bodyPost_end (v := .tuple #[]) (by simp [results, Try.results34, go_sem]) rfl ?_
                  exact ⟨rfl, by rw [HFIN.out]; exact HQ.out.w, HQ.out.r⟩
    · dsimp only [List.getElem_toArray, List.getElem_cons_succ, List.getElem_cons_zero]
      go_simp
      have hq : Qs B b W 19 t a (some ⟨blk, off, none⟩) cap blk off ks _ (V1.alloc (.cells #[.string (bs t)] 9)) ∧ Rw b V1.heap.size [t] (V1.alloc (.cells #[.string (bs t)] 9)) ∧ Wrt B b V1 (V1.alloc (.cells #[.string (bs t)] 9)) := HQ.out.row [t]
      generalize V1.alloc (.cells #[.string (bs t)] 9) = V2 at *
      generalize V1.heap.size = g9 at *
      replace HG15 := hidW (HG15.out.kept hq.2.2)
      replace HQ := hidW hq.1
      have HG9 := hidW hq.2.1
      clear hq
      refine hK.out _ _ (HS.out _ _ HQ.out) (fun hNew => ?_)
      clear hK K hHeld
      have hHeld := hNew
      clear hNew
      refine anyL_ready (rs := [1]) (by kernel_rfl) (by simp) (ReadyL.cons rfl (fun K hK => ?_) (ReadyL.nil))
      · dsimp only [List.getElem_toArray, List.getElem_cons_succ, List.getElem_cons_zero]
        go_simp
        have hq : Qs B b W 19 t a (some ⟨blk, off, none⟩) cap blk off ks _ (V2.alloc (.cells #[.string ⟨#[40]⟩] 9)) ∧ Rw b V2.heap.size [[40]] (V2.alloc (.cells #[.string ⟨#[40]⟩] 9)) ∧ Wrt B b V2 (V2.alloc (.cells #[.string ⟨#[40]⟩] 9)) := HQ.out.row [[40]]
        generalize V2.alloc (.cells #[.string ⟨#[40]⟩] 9) = V3 at *
        generalize V2.heap.size = g1 at *
        replace HG9 := hidW (HG9.out.kept hq.2.2)
        replace HG15 := hidW (HG15.out.kept hq.2.2)
        replace HQ := hidW hq.1
        have HG1 := hidW hq.2.1
        clear hq
        refine hK.out _ _ (HS.out _ _ HQ.out) (fun hNew => ?_)
        clear hK K hHeld
        have hHeld := hNew
        clear hNew
        refine anyL_ready (rs := [2]) (by kernel_rfl) (by simp) (ReadyL.cons rfl (fun K hK => ?_) (ReadyL.nil))
        · dsimp only [List.getElem_toArray, List.getElem_cons_succ, List.getElem_cons_zero]
          go_simp
          refine (C0.out _ _ HQ.out HG1.out).mono ?_
          rintro e V4 ⟨rfl, hq, hw⟩
          replace HG9 := hidW (HG9.out.kept hw)
          replace HG15 := hidW (HG15.out.kept hw)
          replace HQ := hidW hq
          clear hq hw HG1
          go_wp2_with fail
          refine hK.out _ _ (HS.out _ _ HQ.out) (fun hNew => ?_)
          clear hK K hHeld
          have hHeld := hNew
          clear hNew
          refine anyL_ready (rs := [6]) (by kernel_rfl) (by simp) (ReadyL.cons rfl (fun K hK => ?_) (ReadyL.nil))
          · dsimp only [List.getElem_toArray, List.getElem_cons_succ, List.getElem_cons_zero]
            go_simp
            refine (C1.out _ HQ.out).mono ?_
            rintro e V5 ⟨rfl, hq, hw⟩
            replace HG9 := hidW (HG9.out.kept hw)
            replace HG15 := hidW (HG15.out.kept hw)
            replace HQ := hidW hq
            clear hq hw
            go_wp2_with fail
            refine hK.out _ _ (HS.out _ _ HQ.out) (fun hNew => ?_)
            clear hK K hHeld
            have hHeld := hNew
            clear hNew
            refine anyL_ready (rs := [10]) (by kernel_rfl) (by simp) (ReadyL.cons rfl (fun K hK => ?_) (ReadyL.nil))
            · dsimp only [List.getElem_toArray, List.getElem_cons_succ, List.getElem_cons_zero]
              go_simp
              refine (C2.out _ _ HQ.out HG9.out).mono ?_
              rintro e V6 ⟨rfl, hq, hw⟩
              replace HG15 := hidW (HG15.out.kept hw)
              replace HQ := hidW hq
              clear hq hw HG9
              go_wp2_with fail
              refine hK.out _ _ (HS.out _ _ HQ.out) (fun hNew => ?_)
              clear hK K hHeld
              have hHeld := hNew
              clear hNew
              refine anyL_ready (rs := [14]) (by kernel_rfl) (by simp) (ReadyL.cons rfl (fun K hK => ?_) (ReadyL.nil))
              · dsimp only [List.getElem_toArray, List.getElem_cons_succ, List.getElem_cons_zero]
                go_simp
                refine (C3.out _ HQ.out).mono ?_
                rintro e V7 ⟨rfl, hq, hw⟩
                replace HG15 := hidW (HG15.out.kept hw)
                replace HQ := hidW hq
                clear hq hw
                go_wp2_with fail
                refine hK.out _ _ (HS.out _ _ HQ.out) (fun hNew => ?_)
                clear hK K hHeld
                have hHeld := hNew
                clear hNew
                refine anyL_ready (rs := [16]) (by kernel_rfl) (by simp) (ReadyL.cons rfl (fun K hK => ?_) (ReadyL.nil))
                · dsimp only [List.getElem_toArray, List.getElem_cons_succ, List.getElem_cons_zero]
                  go_simp
                  refine (C4.out _ _ HQ.out HG15.out).mono ?_
                  rintro e V8 ⟨rfl, hq, hw⟩
                  replace HQ := hidW hq
                  clear hq hw HG15
                  go_wp2_with fail
                  refine hK.out _ _ (HS.out _ _ HQ.out) (fun hNew => ?_)
                  clear hK K hHeld
                  have hHeld := hNew
                  clear hNew
                  refine anyL_done (by kernel_rfl) ?_ _
                  go_wp2
                  refine bodyPost_end (v := .tuple #[]) (by simp [results, Try.results34, go_sem]) rfl ?_
                  exact ⟨rfl, by rw [HFIN.out]; exact HQ.out.w, HQ.out.r⟩

end Go.Proofs.Ytgndnodahlabiaa
