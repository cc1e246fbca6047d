/-
  A writer (layer 10): assignments, expressions.
-/
import Derived.Test.YtgndnodahlabiaaMgL
namespace Go.Proofs.Ytgndnodahlabiaa
open Go.ChangeShapes Go.WideShapes Go.ChangeAt Go.RowKit

set_option maxRecDepth 100000 in
set_option maxHeartbeats 16000000 in
theorem wr_11 {B b z : Nat} (IH : NodeTo B b z) {x : Ws} {W : World} (h : WrAt B b x W) {t : List UInt8} {a : Int} {av : Option Addr} {cap blk off : Nat} {ks : List Nv} (hr : RowB B W av blk off ks) (hz : szL (ndL ks) ≤ z) (hlen : x.l.length + (t.length + 60 + nedL (ndL ks)) ≤ 140737488355328) (hk : 2 ≤ ks.length) (_hcap : ks.length ≤ cap) :
    Calls Try.prog 33 #[.pointer (some ⟨b, 0, none⟩), .agg #[.int .i64 11, .string (bs t), .int .i64 a, .slice av ks.length cap]] W fun e W' => e = .returned (.tuple #[]) ∧ WrAt B b (appL (rowP 11 t (txtL (ndL ks))) x) W' ∧ Wrt B b W W' := by
  have hi0 : 0 < ks.length := by omega
  obtain ⟨n0, he0⟩ : ∃ n, ks[0]'hi0 = n := ⟨_, rfl⟩
  have hi1 : 1 < ks.length := by omega
  obtain ⟨n1, he1⟩ : ∃ n, ks[1]'hi1 = n := ⟨_, rfl⟩
  have hj1 : ((1 : Int) < (ks.length : Int)) = True := eq_true (by omega)
  have hned := ned_at2 hi1 he0 he1
  have hg0 := txt_at hi0 he0
  have hg1 := txt_at hi1 he1
  obtain ⟨k0, t0, a0, v0, c0, b0, o0, s0⟩ := n0
  obtain ⟨k1, t1, a1, v1, c1, b1, o1, s1⟩ := n1
  obtain rfl := hr.row.at_ (by omega)
  have HFIN := hidW (show appL (rowP 11 t (txtL (ndL ks))) x = (appL [[59]] (app1 (txt (Nv.mk k1 t1 a1 v1 c1 b1 o1 s1).nd) (appL [[61]] (app1 (txt (Nv.mk k0 t0 a0 v0 c0 b0 o0 s0).nd) x)))) from by rw [rowP_11, hg0, hg1] <;> rfl)
  have L0 : x.l.length + (ned (Nv.mk k0 t0 a0 v0 c0 b0 o0 s0).nd + 4 + (room [[61]] + (ned (Nv.mk k1 t1 a1 v1 c1 b1 o1 s1).nd + 4 + (room [[59]] + (0))))) ≤ 140737488355328 := by simp only [room_cons, room_nil, List.length_cons, List.length_nil]; omega
  have L1 := node_room _ _ _ L0
  have L2 := put_room _ _ _ L1
  have L3 := node_room _ _ _ L2
  have C0 := hidW (fun (V : World) (h : Qs B b W 11 t a (some ⟨blk, off, none⟩) cap blk off ks x V) => h.node IH hz hi0 he0 (by omega))
  have C1 := hidW (fun (V : World) (g : Nat) (h : Qs B b W 11 t a (some ⟨blk, off, none⟩) cap blk off ks (app1 (txt (Nv.mk k0 t0 a0 v0 c0 b0 o0 s0).nd) x) V) (hg : Rw b g [[61]] V) => h.put [[61]] (by omega) (by simp) hg)
  have C2 := hidW (fun (V : World) (h : Qs B b W 11 t a (some ⟨blk, off, none⟩) cap blk off ks (appL [[61]] (app1 (txt (Nv.mk k0 t0 a0 v0 c0 b0 o0 s0).nd) x)) V) => h.node IH hz hi1 he1 (by omega))
  have C3 := hidW (fun (V : World) (g : Nat) (h : Qs B b W 11 t a (some ⟨blk, off, none⟩) cap blk off ks (app1 (txt (Nv.mk k1 t1 a1 v1 c1 b1 o1 s1).nd) (appL [[61]] (app1 (txt (Nv.mk k0 t0 a0 v0 c0 b0 o0 s0).nd) x))) V) (hg : Rw b g [[59]] V) => h.put [[59]] (by omega) (by simp) hg)
  have HQ := hidW (Qs.start (k := 11) (t := t) (a := a) (cap := cap) h hr)
  have HS := hidW (fun (V : World) (y : Ws) (hN : Qs B b W 11 t a (some ⟨blk, off, none⟩) cap blk off ks y V) => (show (V.cell? ⟨blk, off, none⟩ = some (.int .i64 k0)) ∧ (V.cell? ⟨blk, off + 1, none⟩ = some (.string (bs t0))) ∧ (V.cell? ⟨blk, off + 2, none⟩ = some (.int .i64 a0)) ∧ (V.cell? ⟨blk, off + 3, none⟩ = some (.slice v0 s0.length c0)) ∧ (V.cell? ⟨blk, off + 4, none⟩ = some (.int .i64 k1)) ∧ (V.cell? ⟨blk, off + 5, none⟩ = some (.string (bs t1))) ∧ (V.cell? ⟨blk, off + 6, none⟩ = some (.int .i64 a1)) ∧ (V.cell? ⟨blk, off + 7, none⟩ = some (.slice v1 s1.length c1)) from ⟨(hN.n.kid0 hi0 he0).1, (hN.n.kid0 hi0 he0).2.1, (hN.n.kid0 hi0 he0).2.2.1, (hN.n.kid0 hi0 he0).2.2.2, (hN.n.kid1 hi1 he1).1, (hN.n.kid1 hi1 he1).2.1, (hN.n.kid1 hi1 he1).2.2.1, (hN.n.kid1 hi1 he1).2.2.2⟩))
  obtain ⟨q0, -, q3⟩ := HQ.out.n.text
  clear h hr hlen L0 L1 L2 L3 he0 hg0 he1 hg1 hned
  go_enter Try.func33, Try.ntmps33
  go_wp2_with fail
  refine region_late (fun V => (V.cell? ⟨blk, off, none⟩ = some (.int .i64 k0)) ∧ (V.cell? ⟨blk, off + 1, none⟩ = some (.string (bs t0))) ∧ (V.cell? ⟨blk, off + 2, none⟩ = some (.int .i64 a0)) ∧ (V.cell? ⟨blk, off + 3, none⟩ = some (.slice v0 s0.length c0)) ∧ (V.cell? ⟨blk, off + 4, none⟩ = some (.int .i64 k1)) ∧ (V.cell? ⟨blk, off + 5, none⟩ = some (.string (bs t1))) ∧ (V.cell? ⟨blk, off + 6, none⟩ = some (.int .i64 a1)) ∧ (V.cell? ⟨blk, off + 7, none⟩ = some (.slice v1 s1.length c1))) 99 (by kernel_rfl) ?_
  replace HQ := hidW HQ.out.drew
  clear q0 q3
  generalize (W.alloc (.cells #[.int .i64 11, .string (bs t), .int .i64 a, .slice (some ⟨blk, off, none⟩) ks.length cap] 24)).drew = V0 at *
  have hHeld := HS.out _ _ HQ.out
  refine anyL_tk 0 (v := ?_) rfl (by kernel_rfl) (fun _ _ _ h => h) hHeld (by rfl) ?_ ?_
  rotate_left 1
  · intro w hSw; (try dsimp only at hSw); go_simp; try with_reducible rfl
  refine anyL_tk 1 (v := ?_) rfl (by kernel_rfl) (fun _ _ _ h => h) hHeld (by rfl) ?_ ?_
  rotate_left 1
  · intro w hSw; (try dsimp only at hSw); go_simp; try with_reducible rfl
  refine anyL_tk 2 (v := ?_) rfl (by kernel_rfl) (fun _ _ _ h => h) hHeld (by rfl) ?_ ?_
  rotate_left 1
  · intro w hSw; (try dsimp only at hSw); go_simp; try with_reducible rfl
  refine anyL_tk 3 (v := ?_) rfl (by kernel_rfl) (fun _ _ _ h => h) hHeld (by rfl) ?_ ?_
  rotate_left 1
  · intro w hSw; (try dsimp only at hSw); go_simp; try with_reducible rfl
  refine anyL_tk 7 (v := ?_) rfl (by kernel_rfl) (fun _ _ _ h => h) hHeld (by rfl) ?_ ?_
  rotate_left 1
  · intro w hSw; (try dsimp only at hSw); go_simp; try with_reducible rfl
  refine anyL_tk 8 (v := ?_) rfl (by kernel_rfl) (fun _ _ _ h => h) hHeld (by rfl) ?_ ?_
  rotate_left 1
  · intro w hSw; (try dsimp only at hSw); go_simp; try with_reducible rfl
  refine anyL_tk 9 (v := ?_) rfl (by kernel_rfl) (fun _ _ _ h => h) hHeld (by rfl) ?_ ?_
  rotate_left 1
  · intro w hSw; (try dsimp only at hSw); go_simp; try with_reducible rfl
  refine anyL_ready (rs := [4, 5, 11]) (by kernel_rfl) (by simp) (ReadyL.cons rfl (fun K hK => ?_) (ReadyL.cons rfl (fun K hK => ?_) (ReadyL.cons rfl (fun K hK => ?_) (ReadyL.nil))))
  · dsimp only [List.getElem_toArray, List.getElem_cons_succ, List.getElem_cons_zero]
    go_simp
    refine (C0.out _ HQ.out).mono ?_
    rintro e V1 ⟨rfl, hq, hw⟩
    replace HQ := hidW hq
    clear hq hw
    go_wp2_with fail
    refine hK.out _ _ (HS.out _ _ HQ.out) (fun hNew => ?_)
    clear hK K hHeld
    have hHeld := hNew
    clear hNew
    refine anyL_ready (rs := [5, 11]) (by kernel_rfl) (by simp) (ReadyL.cons rfl (fun K hK => ?_) (ReadyL.cons rfl (fun K hK => ?_) (ReadyL.nil)))
    · dsimp only [List.getElem_toArray, List.getElem_cons_succ, List.getElem_cons_zero]
      go_simp
      have hq : Qs B b W 11 t a (some ⟨blk, off, none⟩) cap blk off ks _ (V1.alloc (.cells #[.string ⟨#[61]⟩] 9)) ∧ Rw b V1.heap.size [[61]] (V1.alloc (.cells #[.string ⟨#[61]⟩] 9)) ∧ Wrt B b V1 (V1.alloc (.cells #[.string ⟨#[61]⟩] 9)) := HQ.out.row [[61]]
      generalize V1.alloc (.cells #[.string ⟨#[61]⟩] 9) = V2 at *
      generalize V1.heap.size = g5 at *
      replace HQ := hidW hq.1
      have HG5 := hidW hq.2.1
      clear hq
      refine hK.out _ _ (HS.out _ _ HQ.out) (fun hNew => ?_)
      clear hK K hHeld
      have hHeld := hNew
      clear hNew
      refine anyL_ready (rs := [6, 11]) (by kernel_rfl) (by simp) (ReadyL.cons rfl (fun K hK => ?_) (ReadyL.cons rfl (fun K hK => ?_) (ReadyL.nil)))
      · dsimp only [List.getElem_toArray, List.getElem_cons_succ, List.getElem_cons_zero]
        go_simp
        refine (C1.out _ _ HQ.out HG5.out).mono ?_
        rintro e V3 ⟨rfl, hq, hw⟩
        replace HQ := hidW hq
        clear hq hw HG5
        go_wp2_with fail
        refine hK.out _ _ (HS.out _ _ HQ.out) (fun hNew => ?_)
        clear hK K hHeld
        have hHeld := hNew
        clear hNew
        refine anyL_ready (rs := [10, 11]) (by kernel_rfl) (by simp) (ReadyL.cons rfl (fun K hK => ?_) (ReadyL.cons rfl (fun K hK => ?_) (ReadyL.nil)))
        · dsimp only [List.getElem_toArray, List.getElem_cons_succ, List.getElem_cons_zero]
          go_simp
          refine (C2.out _ HQ.out).mono ?_
          rintro e V4 ⟨rfl, hq, hw⟩
          replace HQ := hidW hq
          clear hq hw
          go_wp2_with fail
          refine hK.out _ _ (HS.out _ _ HQ.out) (fun hNew => ?_)
          clear hK K hHeld
          have hHeld := hNew
          clear hNew
          refine anyL_ready (rs := [11]) (by kernel_rfl) (by simp) (ReadyL.cons rfl (fun K hK => ?_) (ReadyL.nil))
          · dsimp only [List.getElem_toArray, List.getElem_cons_succ, List.getElem_cons_zero]
            go_simp
            have hq : Qs B b W 11 t a (some ⟨blk, off, none⟩) cap blk off ks _ (V4.alloc (.cells #[.string ⟨#[59]⟩] 9)) ∧ Rw b V4.heap.size [[59]] (V4.alloc (.cells #[.string ⟨#[59]⟩] 9)) ∧ Wrt B b V4 (V4.alloc (.cells #[.string ⟨#[59]⟩] 9)) := HQ.out.row [[59]]
            generalize V4.alloc (.cells #[.string ⟨#[59]⟩] 9) = V5 at *
            generalize V4.heap.size = g11 at *
            replace HQ := hidW hq.1
            have HG11 := hidW hq.2.1
            clear hq
            refine hK.out _ _ (HS.out _ _ HQ.out) (fun hNew => ?_)
            clear hK K hHeld
            have hHeld := hNew
            clear hNew
            refine anyL_ready (rs := [12]) (by kernel_rfl) (by simp) (ReadyL.cons rfl (fun K hK => ?_) (ReadyL.nil))
            · dsimp only [List.getElem_toArray, List.getElem_cons_succ, List.getElem_cons_zero]
              go_simp
              refine (C3.out _ _ HQ.out HG11.out).mono ?_
              rintro e V6 ⟨rfl, hq, hw⟩
              replace HQ := hidW hq
              clear hq hw HG11
              go_wp2_with fail
              refine hK.out _ _ (HS.out _ _ HQ.out) (fun hNew => ?_)
              clear hK K hHeld
              have hHeld := hNew
              clear hNew
              refine anyL_done (by kernel_rfl) ?_ _
              go_wp2
              refine bodyPost_end (v := .tuple #[]) (by simp [results, Try.results33, go_sem]) rfl ?_
              exact ⟨rfl, by rw [HFIN.out]; exact HQ.out.w, HQ.out.r⟩
        · dsimp only [List.getElem_toArray, List.getElem_cons_succ, List.getElem_cons_zero]
          go_simp
          have hq : Qs B b W 11 t a (some ⟨blk, off, none⟩) cap blk off ks _ (V3.alloc (.cells #[.string ⟨#[59]⟩] 9)) ∧ Rw b V3.heap.size [[59]] (V3.alloc (.cells #[.string ⟨#[59]⟩] 9)) ∧ Wrt B b V3 (V3.alloc (.cells #[.string ⟨#[59]⟩] 9)) := HQ.out.row [[59]]
          generalize V3.alloc (.cells #[.string ⟨#[59]⟩] 9) = V4 at *
          generalize V3.heap.size = g11 at *
          replace HQ := hidW hq.1
          have HG11 := hidW hq.2.1
          clear hq
          refine hK.out _ _ (HS.out _ _ HQ.out) (fun hNew => ?_)
          clear hK K hHeld
          have hHeld := hNew
          clear hNew
          refine anyL_ready (rs := [10]) (by kernel_rfl) (by simp) (ReadyL.cons rfl (fun K hK => ?_) (ReadyL.nil))
          · dsimp only [List.getElem_toArray, List.getElem_cons_succ, List.getElem_cons_zero]
            go_simp
            refine (C2.out _ HQ.out).mono ?_
            rintro e V5 ⟨rfl, hq, hw⟩
            replace HG11 := hidW (HG11.out.kept hw)
            replace HQ := hidW hq
            clear hq hw
            go_wp2_with fail
            refine hK.out _ _ (HS.out _ _ HQ.out) (fun hNew => ?_)
            clear hK K hHeld
            have hHeld := hNew
            clear hNew
            refine anyL_ready (rs := [12]) (by kernel_rfl) (by simp) (ReadyL.cons rfl (fun K hK => ?_) (ReadyL.nil))
            · dsimp only [List.getElem_toArray, List.getElem_cons_succ, List.getElem_cons_zero]
              go_simp
              refine (C3.out _ _ HQ.out HG11.out).mono ?_
              rintro e V6 ⟨rfl, hq, hw⟩
              replace HQ := hidW hq
              clear hq hw HG11
              go_wp2_with fail
              refine hK.out _ _ (HS.out _ _ HQ.out) (fun hNew => ?_)
              clear hK K hHeld
              have hHeld := hNew
              clear hNew
              refine anyL_done (by kernel_rfl) ?_ _
              go_wp2
              refine bodyPost_end (v := .tuple #[]) (by simp [results, Try.results33, go_sem]) rfl ?_
              exact ⟨rfl, by rw [HFIN.out]; exact HQ.out.w, HQ.out.r⟩
      · dsimp only [List.getElem_toArray, List.getElem_cons_succ, List.getElem_cons_zero]
        go_simp
        have hq : Qs B b W 11 t a (some ⟨blk, off, none⟩) cap blk off ks _ (V2.alloc (.cells #[.string ⟨#[59]⟩] 9)) ∧ Rw b V2.heap.size [[59]] (V2.alloc (.cells #[.string ⟨#[59]⟩] 9)) ∧ Wrt B b V2 (V2.alloc (.cells #[.string ⟨#[59]⟩] 9)) := HQ.out.row [[59]]
        generalize V2.alloc (.cells #[.string ⟨#[59]⟩] 9) = V3 at *
        generalize V2.heap.size = g11 at *
        replace HG5 := hidW (HG5.out.kept hq.2.2)
        replace HQ := hidW hq.1
        have HG11 := hidW hq.2.1
        clear hq
        refine hK.out _ _ (HS.out _ _ HQ.out) (fun hNew => ?_)
        clear hK K hHeld
        have hHeld := hNew
        clear hNew
        refine anyL_ready (rs := [6]) (by kernel_rfl) (by simp) (ReadyL.cons rfl (fun K hK => ?_) (ReadyL.nil))
        · dsimp only [List.getElem_toArray, List.getElem_cons_succ, List.getElem_cons_zero]
          go_simp
          refine (C1.out _ _ HQ.out HG5.out).mono ?_
          rintro e V4 ⟨rfl, hq, hw⟩
          replace HG11 := hidW (HG11.out.kept hw)
          replace HQ := hidW hq
          clear hq hw HG5
          go_wp2_with fail
          refine hK.out _ _ (HS.out _ _ HQ.out) (fun hNew => ?_)
          clear hK K hHeld
          have hHeld := hNew
          clear hNew
          refine anyL_ready (rs := [10]) (by kernel_rfl) (by simp) (ReadyL.cons rfl (fun K hK => ?_) (ReadyL.nil))
          · dsimp only [List.getElem_toArray, List.getElem_cons_succ, List.getElem_cons_zero]
            go_simp
            refine (C2.out _ HQ.out).mono ?_
            rintro e V5 ⟨rfl, hq, hw⟩
            replace HG11 := hidW (HG11.out.kept hw)
            replace HQ := hidW hq
            clear hq hw
            go_wp2_with fail
            refine hK.out _ _ (HS.out _ _ HQ.out) (fun hNew => ?_)
            clear hK K hHeld
            have hHeld := hNew
            clear hNew
            refine anyL_ready (rs := [12]) (by kernel_rfl) (by simp) (ReadyL.cons rfl (fun K hK => ?_) (ReadyL.nil))
            · dsimp only [List.getElem_toArray, List.getElem_cons_succ, List.getElem_cons_zero]
              go_simp
              refine (C3.out _ _ HQ.out HG11.out).mono ?_
              rintro e V6 ⟨rfl, hq, hw⟩
              replace HQ := hidW hq
              clear hq hw HG11
              go_wp2_with fail
              refine hK.out _ _ (HS.out _ _ HQ.out) (fun hNew => ?_)
              clear hK K hHeld
              have hHeld := hNew
              clear hNew
              refine anyL_done (by kernel_rfl) ?_ _
              go_wp2
              refine bodyPost_end (v := .tuple #[]) (by simp [results, Try.results33, go_sem]) rfl ?_
              exact ⟨rfl, by rw [HFIN.out]; exact HQ.out.w, HQ.out.r⟩
    · dsimp only [List.getElem_toArray, List.getElem_cons_succ, List.getElem_cons_zero]
      go_simp
      have hq : Qs B b W 11 t a (some ⟨blk, off, none⟩) cap blk off ks _ (V1.alloc (.cells #[.string ⟨#[59]⟩] 9)) ∧ Rw b V1.heap.size [[59]] (V1.alloc (.cells #[.string ⟨#[59]⟩] 9)) ∧ Wrt B b V1 (V1.alloc (.cells #[.string ⟨#[59]⟩] 9)) := HQ.out.row [[59]]
      generalize V1.alloc (.cells #[.string ⟨#[59]⟩] 9) = V2 at *
      generalize V1.heap.size = g11 at *
      replace HQ := hidW hq.1
      have HG11 := hidW hq.2.1
      clear hq
      refine hK.out _ _ (HS.out _ _ HQ.out) (fun hNew => ?_)
      clear hK K hHeld
      have hHeld := hNew
      clear hNew
      refine anyL_ready (rs := [5]) (by kernel_rfl) (by simp) (ReadyL.cons rfl (fun K hK => ?_) (ReadyL.nil))
      · dsimp only [List.getElem_toArray, List.getElem_cons_succ, List.getElem_cons_zero]
        go_simp
        have hq : Qs B b W 11 t a (some ⟨blk, off, none⟩) cap blk off ks _ (V2.alloc (.cells #[.string ⟨#[61]⟩] 9)) ∧ Rw b V2.heap.size [[61]] (V2.alloc (.cells #[.string ⟨#[61]⟩] 9)) ∧ Wrt B b V2 (V2.alloc (.cells #[.string ⟨#[61]⟩] 9)) := HQ.out.row [[61]]
        generalize V2.alloc (.cells #[.string ⟨#[61]⟩] 9) = V3 at *
        generalize V2.heap.size = g5 at *
        replace HG11 := hidW (HG11.out.kept hq.2.2)
        replace HQ := hidW hq.1
        have HG5 := hidW hq.2.1
        clear hq
        refine hK.out _ _ (HS.out _ _ HQ.out) (fun hNew => ?_)
        clear hK K hHeld
        have hHeld := hNew
        clear hNew
        refine anyL_ready (rs := [6]) (by kernel_rfl) (by simp) (ReadyL.cons rfl (fun K hK => ?_) (ReadyL.nil))
        · dsimp only [List.getElem_toArray, List.getElem_cons_succ, List.getElem_cons_zero]
          go_simp
          refine (C1.out _ _ HQ.out HG5.out).mono ?_
          rintro e V4 ⟨rfl, hq, hw⟩
          replace HG11 := hidW (HG11.out.kept hw)
          replace HQ := hidW hq
          clear hq hw HG5
          go_wp2_with fail
          refine hK.out _ _ (HS.out _ _ HQ.out) (fun hNew => ?_)
          clear hK K hHeld
          have hHeld := hNew
          clear hNew
          refine anyL_ready (rs := [10]) (by kernel_rfl) (by simp) (ReadyL.cons rfl (fun K hK => ?_) (ReadyL.nil))
          · dsimp only [List.getElem_toArray, List.getElem_cons_succ, List.getElem_cons_zero]
            go_simp
            refine (C2.out _ HQ.out).mono ?_
            rintro e V5 ⟨rfl, hq, hw⟩
            replace HG11 := hidW (HG11.out.kept hw)
            replace HQ := hidW hq
            clear hq hw
            go_wp2_with fail
            refine hK.out _ _ (HS.out _ _ HQ.out) (fun hNew => ?_)
            clear hK K hHeld
            have hHeld := hNew
            clear hNew
            refine anyL_ready (rs := [12]) (by kernel_rfl) (by simp) (ReadyL.cons rfl (fun K hK => ?_) (ReadyL.nil))
            · dsimp only [List.getElem_toArray, List.getElem_cons_succ, List.getElem_cons_zero]
              go_simp
              refine (C3.out _ _ HQ.out HG11.out).mono ?_
              rintro e V6 ⟨rfl, hq, hw⟩
              replace HQ := hidW hq
              clear hq hw HG11
              go_wp2_with fail
              refine hK.out _ _ (HS.out _ _ HQ.out) (fun hNew => ?_)
              clear hK K hHeld
              have hHeld := hNew
              clear hNew
              refine anyL_done (by kernel_rfl) ?_ _
              go_wp2
              refine bodyPost_end (v := .tuple #[]) (by simp [results, Try.results33, go_sem]) rfl ?_
              exact ⟨rfl, by rw [HFIN.out]; exact HQ.out.w, HQ.out.r⟩
  · dsimp only [List.getElem_toArray, List.getElem_cons_succ, List.getElem_cons_zero]
    go_simp
    have hq : Qs B b W 11 t a (some ⟨blk, off, none⟩) cap blk off ks _ (V0.alloc (.cells #[.string ⟨#[61]⟩] 9)) ∧ Rw b V0.heap.size [[61]] (V0.alloc (.cells #[.string ⟨#[61]⟩] 9)) ∧ Wrt B b V0 (V0.alloc (.cells #[.string ⟨#[61]⟩] 9)) := HQ.out.row [[61]]
    generalize V0.alloc (.cells #[.string ⟨#[61]⟩] 9) = V1 at *
    generalize V0.heap.size = g5 at *
    replace HQ := hidW hq.1
    have HG5 := hidW hq.2.1
    clear hq
    refine hK.out _ _ (HS.out _ _ HQ.out) (fun hNew => ?_)
    clear hK K hHeld
    have hHeld := hNew
    clear hNew
    refine anyL_ready (rs := [4, 11]) (by kernel_rfl) (by simp) (ReadyL.cons rfl (fun K hK => ?_) (ReadyL.cons rfl (fun K hK => ?_) (ReadyL.nil)))
    · dsimp only [List.getElem_toArray, List.getElem_cons_succ, List.getElem_cons_zero]
      go_simp
      refine (C0.out _ HQ.out).mono ?_
      rintro e V2 ⟨rfl, hq, hw⟩
      replace HG5 := hidW (HG5.out.kept hw)
      replace HQ := hidW hq
      clear hq hw
      go_wp2_with fail
      refine hK.out _ _ (HS.out _ _ HQ.out) (fun hNew => ?_)
      clear hK K hHeld
      have hHeld := hNew
      clear hNew
      refine anyL_ready (rs := [6, 11]) (by kernel_rfl) (by simp) (ReadyL.cons rfl (fun K hK => ?_) (ReadyL.cons rfl (fun K hK => ?_) (ReadyL.nil)))
      · dsimp only [List.getElem_toArray, List.getElem_cons_succ, List.getElem_cons_zero]
        go_simp
        refine (C1.out _ _ HQ.out HG5.out).mono ?_
        rintro e V3 ⟨rfl, hq, hw⟩
        replace HQ := hidW hq
        clear hq hw HG5
        go_wp2_with fail
        refine hK.out _ _ (HS.out _ _ HQ.out) (fun hNew => ?_)
        clear hK K hHeld
        have hHeld := hNew
        clear hNew
        refine anyL_ready (rs := [10, 11]) (by kernel_rfl) (by simp) (ReadyL.cons rfl (fun K hK => ?_) (ReadyL.cons rfl (fun K hK => ?_) (ReadyL.nil)))
        · dsimp only [List.getElem_toArray, List.getElem_cons_succ, List.getElem_cons_zero]
          go_simp
          refine (C2.out _ HQ.out).mono ?_
          rintro e V4 ⟨rfl, hq, hw⟩
          replace HQ := hidW hq
          clear hq hw
          go_wp2_with fail
          refine hK.out _ _ (HS.out _ _ HQ.out) (fun hNew => ?_)
          clear hK K hHeld
          have hHeld := hNew
          clear hNew
          refine anyL_ready (rs := [11]) (by kernel_rfl) (by simp) (ReadyL.cons rfl (fun K hK => ?_) (ReadyL.nil))
          · dsimp only [List.getElem_toArray, List.getElem_cons_succ, List.getElem_cons_zero]
            go_simp
            have hq : Qs B b W 11 t a (some ⟨blk, off, none⟩) cap blk off ks _ (V4.alloc (.cells #[.string ⟨#[59]⟩] 9)) ∧ Rw b V4.heap.size [[59]] (V4.alloc (.cells #[.string ⟨#[59]⟩] 9)) ∧ Wrt B b V4 (V4.alloc (.cells #[.string ⟨#[59]⟩] 9)) := HQ.out.row [[59]]
            generalize V4.alloc (.cells #[.string ⟨#[59]⟩] 9) = V5 at *
            generalize V4.heap.size = g11 at *
            replace HQ := hidW hq.1
            have HG11 := hidW hq.2.1
            clear hq
            refine hK.out _ _ (HS.out _ _ HQ.out) (fun hNew => ?_)
            clear hK K hHeld
            have hHeld := hNew
            clear hNew
            refine anyL_ready (rs := [12]) (by kernel_rfl) (by simp) (ReadyL.cons rfl (fun K hK => ?_) (ReadyL.nil))
            · dsimp only [List.getElem_toArray, List.getElem_cons_succ, List.getElem_cons_zero]
              go_simp
              refine (C3.out _ _ HQ.out HG11.out).mono ?_
              rintro e V6 ⟨rfl, hq, hw⟩
              replace HQ := hidW hq
              clear hq hw HG11
              go_wp2_with fail
              refine hK.out _ _ (HS.out _ _ HQ.out) (fun hNew => ?_)
              clear hK K hHeld
              have hHeld := hNew
              clear hNew
              refine anyL_done (by kernel_rfl) ?_ _
              go_wp2
              refine bodyPost_end (v := .tuple #[]) (by simp [results, Try.results33, go_sem]) rfl ?_
              exact ⟨rfl, by rw [HFIN.out]; exact HQ.out.w, HQ.out.r⟩
        · dsimp only [List.getElem_toArray, List.getElem_cons_succ, List.getElem_cons_zero]
          go_simp
          have hq : Qs B b W 11 t a (some ⟨blk, off, none⟩) cap blk off ks _ (V3.alloc (.cells #[.string ⟨#[59]⟩] 9)) ∧ Rw b V3.heap.size [[59]] (V3.alloc (.cells #[.string ⟨#[59]⟩] 9)) ∧ Wrt B b V3 (V3.alloc (.cells #[.string ⟨#[59]⟩] 9)) := HQ.out.row [[59]]
          generalize V3.alloc (.cells #[.string ⟨#[59]⟩] 9) = V4 at *
          generalize V3.heap.size = g11 at *
          replace HQ := hidW hq.1
          have HG11 := hidW hq.2.1
          clear hq
          refine hK.out _ _ (HS.out _ _ HQ.out) (fun hNew => ?_)
          clear hK K hHeld
          have hHeld := hNew
          clear hNew
          refine anyL_ready (rs := [10]) (by kernel_rfl) (by simp) (ReadyL.cons rfl (fun K hK => ?_) (ReadyL.nil))
          · dsimp only [List.getElem_toArray, List.getElem_cons_succ, List.getElem_cons_zero]
            go_simp
            refine (C2.out _ HQ.out).mono ?_
            rintro e V5 ⟨rfl, hq, hw⟩
            replace HG11 := hidW (HG11.out.kept hw)
            replace HQ := hidW hq
            clear hq hw
            go_wp2_with fail
            refine hK.out _ _ (HS.out _ _ HQ.out) (fun hNew => ?_)
            clear hK K hHeld
            have hHeld := hNew
            clear hNew
            refine anyL_ready (rs := [12]) (by kernel_rfl) (by simp) (ReadyL.cons rfl (fun K hK => ?_) (ReadyL.nil))
            · dsimp only [List.getElem_toArray, List.getElem_cons_succ, List.getElem_cons_zero]
              go_simp
              refine (C3.out _ _ HQ.out HG11.out).mono ?_
              rintro e V6 ⟨rfl, hq, hw⟩
              replace HQ := hidW hq
              clear hq hw HG11
              go_wp2_with fail
              refine hK.out _ _ (HS.out _ _ HQ.out) (fun hNew => ?_)
              clear hK K hHeld
              have hHeld := hNew
              clear hNew
              refine anyL_done (by kernel_rfl) ?_ _
              go_wp2
              refine bodyPost_end (v := .tuple #[]) (by simp [results, Try.results33, go_sem]) rfl ?_
              exact ⟨rfl, by rw [HFIN.out]; exact HQ.out.w, HQ.out.r⟩
      · dsimp only [List.getElem_toArray, List.getElem_cons_succ, List.getElem_cons_zero]
        go_simp
        have hq : Qs B b W 11 t a (some ⟨blk, off, none⟩) cap blk off ks _ (V2.alloc (.cells #[.string ⟨#[59]⟩] 9)) ∧ Rw b V2.heap.size [[59]] (V2.alloc (.cells #[.string ⟨#[59]⟩] 9)) ∧ Wrt B b V2 (V2.alloc (.cells #[.string ⟨#[59]⟩] 9)) := HQ.out.row [[59]]
        generalize V2.alloc (.cells #[.string ⟨#[59]⟩] 9) = V3 at *
        generalize V2.heap.size = g11 at *
        replace HG5 := hidW (HG5.out.kept hq.2.2)
        replace HQ := hidW hq.1
        have HG11 := hidW hq.2.1
        clear hq
        refine hK.out _ _ (HS.out _ _ HQ.out) (fun hNew => ?_)
        clear hK K hHeld
        have hHeld := hNew
        clear hNew
        refine anyL_ready (rs := [6]) (by kernel_rfl) (by simp) (ReadyL.cons rfl (fun K hK => ?_) (ReadyL.nil))
        · dsimp only [List.getElem_toArray, List.getElem_cons_succ, List.getElem_cons_zero]
          go_simp
          refine (C1.out _ _ HQ.out HG5.out).mono ?_
          rintro e V4 ⟨rfl, hq, hw⟩
          replace HG11 := hidW (HG11.out.kept hw)
          replace HQ := hidW hq
          clear hq hw HG5
          go_wp2_with fail
          refine hK.out _ _ (HS.out _ _ HQ.out) (fun hNew => ?_)
          clear hK K hHeld
          have hHeld := hNew
          clear hNew
          refine anyL_ready (rs := [10]) (by kernel_rfl) (by simp) (ReadyL.cons rfl (fun K hK => ?_) (ReadyL.nil))
          · dsimp only [List.getElem_toArray, List.getElem_cons_succ, List.getElem_cons_zero]
            go_simp
            refine (C2.out _ HQ.out).mono ?_
            rintro e V5 ⟨rfl, hq, hw⟩
            replace HG11 := hidW (HG11.out.kept hw)
            replace HQ := hidW hq
            clear hq hw
            go_wp2_with fail
            refine hK.out _ _ (HS.out _ _ HQ.out) (fun hNew => ?_)
            clear hK K hHeld
            have hHeld := hNew
            clear hNew
            refine anyL_ready (rs := [12]) (by kernel_rfl) (by simp) (ReadyL.cons rfl (fun K hK => ?_) (ReadyL.nil))
            · dsimp only [List.getElem_toArray, List.getElem_cons_succ, List.getElem_cons_zero]
              go_simp
              refine (C3.out _ _ HQ.out HG11.out).mono ?_
              rintro e V6 ⟨rfl, hq, hw⟩
              replace HQ := hidW hq
              clear hq hw HG11
              go_wp2_with fail
              refine hK.out _ _ (HS.out _ _ HQ.out) (fun hNew => ?_)
              clear hK K hHeld
              have hHeld := hNew
              clear hNew
              refine anyL_done (by kernel_rfl) ?_ _
              go_wp2
              refine bodyPost_end (v := .tuple #[]) (by simp [results, Try.results33, go_sem]) rfl ?_
              exact ⟨rfl, by rw [HFIN.out]; exact HQ.out.w, HQ.out.r⟩
    · dsimp only [List.getElem_toArray, List.getElem_cons_succ, List.getElem_cons_zero]
      go_simp
      have hq : Qs B b W 11 t a (some ⟨blk, off, none⟩) cap blk off ks _ (V1.alloc (.cells #[.string ⟨#[59]⟩] 9)) ∧ Rw b V1.heap.size [[59]] (V1.alloc (.cells #[.string ⟨#[59]⟩] 9)) ∧ Wrt B b V1 (V1.alloc (.cells #[.string ⟨#[59]⟩] 9)) := HQ.out.row [[59]]
      generalize V1.alloc (.cells #[.string ⟨#[59]⟩] 9) = V2 at *
      generalize V1.heap.size = g11 at *
      replace HG5 := hidW (HG5.out.kept hq.2.2)
      replace HQ := hidW hq.1
      have HG11 := hidW hq.2.1
      clear hq
      refine hK.out _ _ (HS.out _ _ HQ.out) (fun hNew => ?_)
      clear hK K hHeld
      have hHeld := hNew
      clear hNew
      refine anyL_ready (rs := [4]) (by kernel_rfl) (by simp) (ReadyL.cons rfl (fun K hK => ?_) (ReadyL.nil))
      · dsimp only [List.getElem_toArray, List.getElem_cons_succ, List.getElem_cons_zero]
        go_simp
        refine (C0.out _ HQ.out).mono ?_
        rintro e V3 ⟨rfl, hq, hw⟩
        replace HG5 := hidW (HG5.out.kept hw)
        replace HG11 := hidW (HG11.out.kept hw)
        replace HQ := hidW hq
        clear hq hw
        go_wp2_with fail
        refine hK.out _ _ (HS.out _ _ HQ.out) (fun hNew => ?_)
        clear hK K hHeld
        have hHeld := hNew
        clear hNew
        refine anyL_ready (rs := [6]) (by kernel_rfl) (by simp) (ReadyL.cons rfl (fun K hK => ?_) (ReadyL.nil))
        · dsimp only [List.getElem_toArray, List.getElem_cons_succ, List.getElem_cons_zero]
          go_simp
          refine (C1.out _ _ HQ.out HG5.out).mono ?_
          rintro e V4 ⟨rfl, hq, hw⟩
          replace HG11 := hidW (HG11.out.kept hw)
          replace HQ := hidW hq
          clear hq hw HG5
          go_wp2_with fail
          refine hK.out _ _ (HS.out _ _ HQ.out) (fun hNew => ?_)
          clear hK K hHeld
          have hHeld := hNew
          clear hNew
          refine anyL_ready (rs := [10]) (by kernel_rfl) (by simp) (ReadyL.cons rfl (fun K hK => ?_) (ReadyL.nil))
          · dsimp only [List.getElem_toArray, List.getElem_cons_succ, List.getElem_cons_zero]
            go_simp
            refine (C2.out _ HQ.out).mono ?_
            rintro e V5 ⟨rfl, hq, hw⟩
            replace HG11 := hidW (HG11.out.kept hw)
            replace HQ := hidW hq
            clear hq hw
            go_wp2_with fail
            refine hK.out _ _ (HS.out _ _ HQ.out) (fun hNew => ?_)
            clear hK K hHeld
            have hHeld := hNew
            clear hNew
            refine anyL_ready (rs := [12]) (by kernel_rfl) (by simp) (ReadyL.cons rfl (fun K hK => ?_) (ReadyL.nil))
            · dsimp only [List.getElem_toArray, List.getElem_cons_succ, List.getElem_cons_zero]
              go_simp
              refine (C3.out _ _ HQ.out HG11.out).mono ?_
              rintro e V6 ⟨rfl, hq, hw⟩
              replace HQ := hidW hq
              clear hq hw HG11
              go_wp2_with fail
              refine hK.out _ _ (HS.out _ _ HQ.out) (fun hNew => ?_)
              clear hK K hHeld
              have hHeld := hNew
              clear hNew
              refine anyL_done (by kernel_rfl) ?_ _
              go_wp2
              refine bodyPost_end (v := .tuple #[]) (by simp [results, Try.results33, go_sem]) rfl ?_
              exact ⟨rfl, by rw [HFIN.out]; exact HQ.out.w, HQ.out.r⟩
  · dsimp only [List.getElem_toArray, List.getElem_cons_succ, List.getElem_cons_zero]
    go_simp
    have hq : Qs B b W 11 t a (some ⟨blk, off, none⟩) cap blk off ks _ (V0.alloc (.cells #[.string ⟨#[59]⟩] 9)) ∧ Rw b V0.heap.size [[59]] (V0.alloc (.cells #[.string ⟨#[59]⟩] 9)) ∧ Wrt B b V0 (V0.alloc (.cells #[.string ⟨#[59]⟩] 9)) := HQ.out.row [[59]]
    generalize V0.alloc (.cells #[.string ⟨#[59]⟩] 9) = V1 at *
    generalize V0.heap.size = g11 at *
    replace HQ := hidW hq.1
    have HG11 := hidW hq.2.1
    clear hq
    refine hK.out _ _ (HS.out _ _ HQ.out) (fun hNew => ?_)
    clear hK K hHeld
    have hHeld := hNew
    clear hNew
    refine anyL_ready (rs := [4, 5]) (by kernel_rfl) (by simp) (ReadyL.cons rfl (fun K hK => ?_) (ReadyL.cons rfl (fun K hK => ?_) (ReadyL.nil)))
    · dsimp only [List.getElem_toArray, List.getElem_cons_succ, List.getElem_cons_zero]
      go_simp
      refine (C0.out _ HQ.out).mono ?_
      rintro e V2 ⟨rfl, hq, hw⟩
      replace HG11 := hidW (HG11.out.kept hw)
      replace HQ := hidW hq
      clear hq hw
      go_wp2_with fail
      refine hK.out _ _ (HS.out _ _ HQ.out) (fun hNew => ?_)
      clear hK K hHeld
      have hHeld := hNew
      clear hNew
      refine anyL_ready (rs := [5]) (by kernel_rfl) (by simp) (ReadyL.cons rfl (fun K hK => ?_) (ReadyL.nil))
      · dsimp only [List.getElem_toArray, List.getElem_cons_succ, List.getElem_cons_zero]
        go_simp
        have hq : Qs B b W 11 t a (some ⟨blk, off, none⟩) cap blk off ks _ (V2.alloc (.cells #[.string ⟨#[61]⟩] 9)) ∧ Rw b V2.heap.size [[61]] (V2.alloc (.cells #[.string ⟨#[61]⟩] 9)) ∧ Wrt B b V2 (V2.alloc (.cells #[.string ⟨#[61]⟩] 9)) := HQ.out.row [[61]]
        generalize V2.alloc (.cells #[.string ⟨#[61]⟩] 9) = V3 at *
        generalize V2.heap.size = g5 at *
        replace HG11 := hidW (HG11.out.kept hq.2.2)
        replace HQ := hidW hq.1
        have HG5 := hidW hq.2.1
        clear hq
        refine hK.out _ _ (HS.out _ _ HQ.out) (fun hNew => ?_)
        clear hK K hHeld
        have hHeld := hNew
        clear hNew
        refine anyL_ready (rs := [6]) (by kernel_rfl) (by simp) (ReadyL.cons rfl (fun K hK => ?_) (ReadyL.nil))
        · dsimp only [List.getElem_toArray, List.getElem_cons_succ, List.getElem_cons_zero]
          go_simp
          refine (C1.out _ _ HQ.out HG5.out).mono ?_
          rintro e V4 ⟨rfl, hq, hw⟩
          replace HG11 := hidW (HG11.out.kept hw)
          replace HQ := hidW hq
          clear hq hw HG5
          go_wp2_with fail
          refine hK.out _ _ (HS.out _ _ HQ.out) (fun hNew => ?_)
          clear hK K hHeld
          have hHeld := hNew
          clear hNew
          refine anyL_ready (rs := [10]) (by kernel_rfl) (by simp) (ReadyL.cons rfl (fun K hK => ?_) (ReadyL.nil))
          · dsimp only [List.getElem_toArray, List.getElem_cons_succ, List.getElem_cons_zero]
            go_simp
            refine (C2.out _ HQ.out).mono ?_
            rintro e V5 ⟨rfl, hq, hw⟩
            replace HG11 := hidW (HG11.out.kept hw)
            replace HQ := hidW hq
            clear hq hw
            go_wp2_with fail
            refine hK.out _ _ (HS.out _ _ HQ.out) (fun hNew => ?_)
            clear hK K hHeld
            have hHeld := hNew
            clear hNew
            refine anyL_ready (rs := [12]) (by kernel_rfl) (by simp) (ReadyL.cons rfl (fun K hK => ?_) (ReadyL.nil))
            · dsimp only [List.getElem_toArray, List.getElem_cons_succ, List.getElem_cons_zero]
              go_simp
              refine (C3.out _ _ HQ.out HG11.out).mono ?_
              rintro e V6 ⟨rfl, hq, hw⟩
              replace HQ := hidW hq
              clear hq hw HG11
              go_wp2_with fail
              refine hK.out _ _ (HS.out _ _ HQ.out) (fun hNew => ?_)
              clear hK K hHeld
              have hHeld := hNew
              clear hNew
              refine anyL_done (by kernel_rfl) ?_ _
              go_wp2
              refine bodyPost_end (v := .tuple #[]) (by simp [results, Try.results33, go_sem]) rfl ?_
              exact ⟨rfl, by rw [HFIN.out]; exact HQ.out.w, HQ.out.r⟩
    · dsimp only [List.getElem_toArray, List.getElem_cons_succ, List.getElem_cons_zero]
      go_simp
      have hq : Qs B b W 11 t a (some ⟨blk, off, none⟩) cap blk off ks _ (V1.alloc (.cells #[.string ⟨#[61]⟩] 9)) ∧ Rw b V1.heap.size [[61]] (V1.alloc (.cells #[.string ⟨#[61]⟩] 9)) ∧ Wrt B b V1 (V1.alloc (.cells #[.string ⟨#[61]⟩] 9)) := HQ.out.row [[61]]
      generalize V1.alloc (.cells #[.string ⟨#[61]⟩] 9) = V2 at *
      generalize V1.heap.size = g5 at *
      replace HG11 := hidW (HG11.out.kept hq.2.2)
      replace HQ := hidW hq.1
      have HG5 := hidW hq.2.1
      clear hq
      refine hK.out _ _ (HS.out _ _ HQ.out) (fun hNew => ?_)
      clear hK K hHeld
      have hHeld := hNew
      clear hNew
      refine anyL_ready (rs := [4]) (by kernel_rfl) (by simp) (ReadyL.cons rfl (fun K hK => ?_) (ReadyL.nil))
      · dsimp only [List.getElem_toArray, List.getElem_cons_succ, List.getElem_cons_zero]
        go_simp
        refine (C0.out _ HQ.out).mono ?_
        rintro e V3 ⟨rfl, hq, hw⟩
        replace HG5 := hidW (HG5.out.kept hw)
        replace HG11 := hidW (HG11.out.kept hw)
        replace HQ := hidW hq
        clear hq hw
        go_wp2_with fail
        refine hK.out _ _ (HS.out _ _ HQ.out) (fun hNew => ?_)
        clear hK K hHeld
        have hHeld := hNew
        clear hNew
        refine anyL_ready (rs := [6]) (by kernel_rfl) (by simp) (ReadyL.cons rfl (fun K hK => ?_) (ReadyL.nil))
        · dsimp only [List.getElem_toArray, List.getElem_cons_succ, List.getElem_cons_zero]
          go_simp
          refine (C1.out _ _ HQ.out HG5.out).mono ?_
          rintro e V4 ⟨rfl, hq, hw⟩
          replace HG11 := hidW (HG11.out.kept hw)
          replace HQ := hidW hq
          clear hq hw HG5
          go_wp2_with fail
          refine hK.out _ _ (HS.out _ _ HQ.out) (fun hNew => ?_)
          clear hK K hHeld
          have hHeld := hNew
          clear hNew
          refine anyL_ready (rs := [10]) (by kernel_rfl) (by simp) (ReadyL.cons rfl (fun K hK => ?_) (ReadyL.nil))
          · dsimp only [List.getElem_toArray, List.getElem_cons_succ, List.getElem_cons_zero]
            go_simp
            refine (C2.out _ HQ.out).mono ?_
            rintro e V5 ⟨rfl, hq, hw⟩
            replace HG11 := hidW (HG11.out.kept hw)
            replace HQ := hidW hq
            clear hq hw
            go_wp2_with fail
            refine hK.out _ _ (HS.out _ _ HQ.out) (fun hNew => ?_)
            clear hK K hHeld
            have hHeld := hNew
            clear hNew
            refine anyL_ready (rs := [12]) (by kernel_rfl) (by simp) (ReadyL.cons rfl (fun K hK => ?_) (ReadyL.nil))
            · dsimp only [List.getElem_toArray, List.getElem_cons_succ, List.getElem_cons_zero]
              go_simp
              refine (C3.out _ _ HQ.out HG11.out).mono ?_
              rintro e V6 ⟨rfl, hq, hw⟩
              replace HQ := hidW hq
              clear hq hw HG11
              go_wp2_with fail
              refine hK.out _ _ (HS.out _ _ HQ.out) (fun hNew => ?_)
              clear hK K hHeld
              have hHeld := hNew
              clear hNew
              refine anyL_done (by kernel_rfl) ?_ _
              go_wp2
              refine bodyPost_end (v := .tuple #[]) (by simp [results, Try.results33, go_sem]) rfl ?_
              exact ⟨rfl, by rw [HFIN.out]; exact HQ.out.w, HQ.out.r⟩

set_option maxRecDepth 100000 in
set_option maxHeartbeats 16000000 in
theorem wr_17 {B b z : Nat} (_IH : NodeTo B b z) {x : Ws} {W : World} (h : WrAt B b x W) {t : List UInt8} {a : Int} {av : Option Addr} {cap blk off : Nat} {ks : List Nv} (hr : RowB B W av blk off ks) (_hz : szL (ndL ks) ≤ z) (hlen : x.l.length + (t.length + 60 + nedL (ndL ks)) ≤ 140737488355328) (_hk : 0 ≤ ks.length) (_hcap : ks.length ≤ cap) :
    Calls Try.prog 34 #[.pointer (some ⟨b, 0, none⟩), .agg #[.int .i64 17, .string (bs t), .int .i64 a, .slice av ks.length cap]] W fun e W' => e = .returned (.tuple #[]) ∧ WrAt B b (appL (rowP 17 t (txtL (ndL ks))) x) W' ∧ Wrt B b W W' := by
  have HFIN := hidW (show appL (rowP 17 t (txtL (ndL ks))) x = (appL [t] x) from by rw [rowP_17] <;> rfl)
  have L0 : x.l.length + (room [t] + (0)) ≤ 140737488355328 := by simp only [room_cons, room_nil]; omega
  have C0 := hidW (fun (V : World) (g : Nat) (h : Qs B b W 17 t a av cap blk off ks x V) (hg : Rw b g [t] V) => h.put [t] (by omega) (by simp) hg)
  have HQ := hidW (Qs.start (k := 17) (t := t) (a := a) (cap := cap) h hr)
  obtain ⟨q0, -, q3⟩ := HQ.out.n.text
  clear h hr hlen L0
  go_enter Try.func34, Try.ntmps34
  have hq : Qs B b W 17 t a av cap blk off ks _ ((W.alloc (.cells #[.int .i64 17, .string (bs t), .int .i64 a, .slice av ks.length cap] 24)).alloc (.cells #[.string (bs t)] 9)) ∧ Rw b (W.alloc (.cells #[.int .i64 17, .string (bs t), .int .i64 a, .slice av ks.length cap] 24)).heap.size [t] ((W.alloc (.cells #[.int .i64 17, .string (bs t), .int .i64 a, .slice av ks.length cap] 24)).alloc (.cells #[.string (bs t)] 9)) ∧ Wrt B b (W.alloc (.cells #[.int .i64 17, .string (bs t), .int .i64 a, .slice av ks.length cap] 24)) ((W.alloc (.cells #[.int .i64 17, .string (bs t), .int .i64 a, .slice av ks.length cap] 24)).alloc (.cells #[.string (bs t)] 9)) := HQ.out.row [t]
  rw [World.size_alloc] at hq
  replace HQ := hidW hq.1
  have HG3 := hidW hq.2.1
  clear hq
  obtain ⟨-, q1, -⟩ := HQ.out.n.text
  have HC := hidW (C0.out _ _ HQ.out HG3.out)
  go_wp2_with fail
  refine HC.out.mono ?_
  clear HC
  rintro e V1 ⟨rfl, hq, hw⟩
  replace HQ := hidW hq
  clear hq hw
  go_wp2
  refine bodyPost_end (v := .tuple #[]) (by simp [results, Try.results34, go_sem]) rfl ?_
  exact ⟨rfl, by rw [HFIN.out]; exact HQ.out.w, HQ.out.r⟩

set_option maxRecDepth 100000 in
set_option maxHeartbeats 16000000 in
theorem wr_18 {B b z : Nat} (_IH : NodeTo B b z) {x : Ws} {W : World} (h : WrAt B b x W) {t : List UInt8} {a : Int} {av : Option Addr} {cap blk off : Nat} {ks : List Nv} (hr : RowB B W av blk off ks) (_hz : szL (ndL ks) ≤ z) (hlen : x.l.length + (t.length + 60 + nedL (ndL ks)) ≤ 140737488355328) (_hk : 0 ≤ ks.length) (_hcap : ks.length ≤ cap) :
    Calls Try.prog 34 #[.pointer (some ⟨b, 0, none⟩), .agg #[.int .i64 18, .string (bs t), .int .i64 a, .slice av ks.length cap]] W fun e W' => e = .returned (.tuple #[]) ∧ WrAt B b (appL (rowP 18 t (txtL (ndL ks))) x) W' ∧ Wrt B b W W' := by
  have HFIN := hidW (show appL (rowP 18 t (txtL (ndL ks))) x = (appL [t] x) from by rw [rowP_18] <;> rfl)
  have L0 : x.l.length + (room [t] + (0)) ≤ 140737488355328 := by simp only [room_cons, room_nil]; omega
  have C0 := hidW (fun (V : World) (g : Nat) (h : Qs B b W 18 t a av cap blk off ks x V) (hg : Rw b g [t] V) => h.put [t] (by omega) (by simp) hg)
  have HQ := hidW (Qs.start (k := 18) (t := t) (a := a) (cap := cap) h hr)
  obtain ⟨q0, -, q3⟩ := HQ.out.n.text
  clear h hr hlen L0
  go_enter Try.func34, Try.ntmps34
  have hq : Qs B b W 18 t a av cap blk off ks _ ((W.alloc (.cells #[.int .i64 18, .string (bs t), .int .i64 a, .slice av ks.length cap] 24)).alloc (.cells #[.string (bs t)] 9)) ∧ Rw b (W.alloc (.cells #[.int .i64 18, .string (bs t), .int .i64 a, .slice av ks.length cap] 24)).heap.size [t] ((W.alloc (.cells #[.int .i64 18, .string (bs t), .int .i64 a, .slice av ks.length cap] 24)).alloc (.cells #[.string (bs t)] 9)) ∧ Wrt B b (W.alloc (.cells #[.int .i64 18, .string (bs t), .int .i64 a, .slice av ks.length cap] 24)) ((W.alloc (.cells #[.int .i64 18, .string (bs t), .int .i64 a, .slice av ks.length cap] 24)).alloc (.cells #[.string (bs t)] 9)) := HQ.out.row [t]
  rw [World.size_alloc] at hq
  replace HQ := hidW hq.1
  have HG3 := hidW hq.2.1
  clear hq
  obtain ⟨-, q1, -⟩ := HQ.out.n.text
  have HC := hidW (C0.out _ _ HQ.out HG3.out)
  go_wp2_with fail
  refine HC.out.mono ?_
  clear HC
  rintro e V1 ⟨rfl, hq, hw⟩
  replace HQ := hidW hq
  clear hq hw
  go_wp2
  refine bodyPost_end (v := .tuple #[]) (by simp [results, Try.results34, go_sem]) rfl ?_
  exact ⟨rfl, by rw [HFIN.out]; exact HQ.out.w, HQ.out.r⟩

set_option maxRecDepth 100000 in
set_option maxHeartbeats 16000000 in
theorem wr_20 {B b z : Nat} (IH : NodeTo B b z) {x : Ws} {W : World} (h : WrAt B b x W) {t : List UInt8} {a : Int} {av : Option Addr} {cap blk off : Nat} {ks : List Nv} (hr : RowB B W av blk off ks) (hz : szL (ndL ks) ≤ z) (hlen : x.l.length + (t.length + 60 + nedL (ndL ks)) ≤ 140737488355328) (hk : 1 ≤ ks.length) (_hcap : ks.length ≤ cap) :
    Calls Try.prog 34 #[.pointer (some ⟨b, 0, none⟩), .agg #[.int .i64 20, .string (bs t), .int .i64 a, .slice av ks.length cap]] W fun e W' => e = .returned (.tuple #[]) ∧ WrAt B b (appL (rowP 20 t (txtL (ndL ks))) x) W' ∧ Wrt B b W W' := by
  have hi0 : 0 < ks.length := by omega
  obtain ⟨n0, he0⟩ : ∃ n, ks[0]'hi0 = n := ⟨_, rfl⟩
  have hned := ned_at1 hi0 he0
  have hg0 := txt_at hi0 he0
  obtain ⟨k0, t0, a0, v0, c0, b0, o0, s0⟩ := n0
  obtain rfl := hr.row.at_ (by omega)
  have HFIN := hidW (show appL (rowP 20 t (txtL (ndL ks))) x = (appL [[41]] (app1 (txt (Nv.mk k0 t0 a0 v0 c0 b0 o0 s0).nd) (appL [[40], [45]] x))) from by rw [rowP_20, hg0] <;> rfl)
  have L0 : x.l.length + (room [[40], [45]] + (ned (Nv.mk k0 t0 a0 v0 c0 b0 o0 s0).nd + 4 + (room [[41]] + (0)))) ≤ 140737488355328 := by simp only [room_cons, room_nil, List.length_cons, List.length_nil]; omega
  have L1 := put_room _ _ _ L0
  have L2 := node_room _ _ _ L1
  have C0 := hidW (fun (V : World) (g : Nat) (h : Qs B b W 20 t a (some ⟨blk, off, none⟩) cap blk off ks x V) (hg : Rw b g [[40], [45]] V) => h.put [[40], [45]] (by omega) (by simp) hg)
  have C1 := hidW (fun (V : World) (h : Qs B b W 20 t a (some ⟨blk, off, none⟩) cap blk off ks (appL [[40], [45]] x) V) => h.node IH hz hi0 he0 (by omega))
  have C2 := hidW (fun (V : World) (g : Nat) (h : Qs B b W 20 t a (some ⟨blk, off, none⟩) cap blk off ks (app1 (txt (Nv.mk k0 t0 a0 v0 c0 b0 o0 s0).nd) (appL [[40], [45]] x)) V) (hg : Rw b g [[41]] V) => h.put [[41]] (by omega) (by simp) hg)
  have HQ := hidW (Qs.start (k := 20) (t := t) (a := a) (cap := cap) h hr)
  have HS := hidW (fun (V : World) (y : Ws) (hN : Qs B b W 20 t a (some ⟨blk, off, none⟩) cap blk off ks y V) => (show (V.cell? ⟨blk, off, none⟩ = some (.int .i64 k0)) ∧ (V.cell? ⟨blk, off + 1, none⟩ = some (.string (bs t0))) ∧ (V.cell? ⟨blk, off + 2, none⟩ = some (.int .i64 a0)) ∧ (V.cell? ⟨blk, off + 3, none⟩ = some (.slice v0 s0.length c0)) from ⟨(hN.n.kid0 hi0 he0).1, (hN.n.kid0 hi0 he0).2.1, (hN.n.kid0 hi0 he0).2.2.1, (hN.n.kid0 hi0 he0).2.2.2⟩))
  obtain ⟨q0, -, q3⟩ := HQ.out.n.text
  clear h hr hlen L0 L1 L2 he0 hg0 hned
  go_enter Try.func34, Try.ntmps34
  go_wp2_with fail
  refine region_late (fun V => (V.cell? ⟨blk, off, none⟩ = some (.int .i64 k0)) ∧ (V.cell? ⟨blk, off + 1, none⟩ = some (.string (bs t0))) ∧ (V.cell? ⟨blk, off + 2, none⟩ = some (.int .i64 a0)) ∧ (V.cell? ⟨blk, off + 3, none⟩ = some (.slice v0 s0.length c0))) 99 (by kernel_rfl) ?_
  replace HQ := hidW HQ.out.drew
  clear q0 q3
  generalize (W.alloc (.cells #[.int .i64 20, .string (bs t), .int .i64 a, .slice (some ⟨blk, off, none⟩) ks.length cap] 24)).drew = V0 at *
  have hHeld := HS.out _ _ HQ.out
  refine anyL_tk 0 (v := ?_) rfl (by kernel_rfl) (fun _ _ _ h => h) hHeld (by rfl) ?_ ?_
  rotate_left 1
  · intro w hSw; (try dsimp only at hSw); go_simp; try with_reducible rfl
  refine anyL_tk 3 (v := ?_) rfl (by kernel_rfl) (fun _ _ _ h => h) hHeld (by rfl) ?_ ?_
  rotate_left 1
  · intro w hSw; (try dsimp only at hSw); go_simp; try with_reducible rfl
  refine anyL_tk 4 (v := ?_) rfl (by kernel_rfl) (fun _ _ _ h => h) hHeld (by rfl) ?_ ?_
  rotate_left 1
  · intro w hSw; (try dsimp only at hSw); go_simp; try with_reducible rfl
  refine anyL_tk 5 (v := ?_) rfl (by kernel_rfl) (fun _ _ _ h => h) hHeld (by rfl) ?_ ?_
  rotate_left 1
  · intro w hSw; (try dsimp only at hSw); go_simp; try with_reducible rfl
  refine anyL_ready (rs := [1, 7]) (by kernel_rfl) (by simp) (ReadyL.cons rfl (fun K hK => ?_) (ReadyL.cons rfl (fun K hK => ?_) (ReadyL.nil)))
  · dsimp only [List.getElem_toArray, List.getElem_cons_succ, List.getElem_cons_zero]
    go_simp
    have hq : Qs B b W 20 t a (some ⟨blk, off, none⟩) cap blk off ks _ (V0.alloc (.cells #[.string ⟨#[40]⟩, .string ⟨#[45]⟩] 9)) ∧ Rw b V0.heap.size [[40], [45]] (V0.alloc (.cells #[.string ⟨#[40]⟩, .string ⟨#[45]⟩] 9)) ∧ Wrt B b V0 (V0.alloc (.cells #[.string ⟨#[40]⟩, .string ⟨#[45]⟩] 9)) := HQ.out.row [[40], [45]]
    generalize V0.alloc (.cells #[.string ⟨#[40]⟩, .string ⟨#[45]⟩] 9) = V1 at *
    generalize V0.heap.size = g1 at *
    replace HQ := hidW hq.1
    have HG1 := hidW hq.2.1
    clear hq
    refine hK.out _ _ (HS.out _ _ HQ.out) (fun hNew => ?_)
    clear hK K hHeld
    have hHeld := hNew
    clear hNew
    refine anyL_ready (rs := [2, 7]) (by kernel_rfl) (by simp) (ReadyL.cons rfl (fun K hK => ?_) (ReadyL.cons rfl (fun K hK => ?_) (ReadyL.nil)))
    · dsimp only [List.getElem_toArray, List.getElem_cons_succ, List.getElem_cons_zero]
      go_simp
      refine (C0.out _ _ HQ.out HG1.out).mono ?_
      rintro e V2 ⟨rfl, hq, hw⟩
      replace HQ := hidW hq
      clear hq hw HG1
      go_wp2_with fail
      refine hK.out _ _ (HS.out _ _ HQ.out) (fun hNew => ?_)
      clear hK K hHeld
      have hHeld := hNew
      clear hNew
      refine anyL_ready (rs := [6, 7]) (by kernel_rfl) (by simp) (ReadyL.cons rfl (fun K hK => ?_) (ReadyL.cons rfl (fun K hK => ?_) (ReadyL.nil)))
      · dsimp only [List.getElem_toArray, List.getElem_cons_succ, List.getElem_cons_zero]
        go_simp
        refine (C1.out _ HQ.out).mono ?_
        rintro e V3 ⟨rfl, hq, hw⟩
        replace HQ := hidW hq
        clear hq hw
        go_wp2_with fail
        refine hK.out _ _ (HS.out _ _ HQ.out) (fun hNew => ?_)
        clear hK K hHeld
        have hHeld := hNew
        clear hNew
        refine anyL_ready (rs := [7]) (by kernel_rfl) (by simp) (ReadyL.cons rfl (fun K hK => ?_) (ReadyL.nil))
        · dsimp only [List.getElem_toArray, List.getElem_cons_succ, List.getElem_cons_zero]
          go_simp
          have hq : Qs B b W 20 t a (some ⟨blk, off, none⟩) cap blk off ks _ (V3.alloc (.cells #[.string ⟨#[41]⟩] 9)) ∧ Rw b V3.heap.size [[41]] (V3.alloc (.cells #[.string ⟨#[41]⟩] 9)) ∧ Wrt B b V3 (V3.alloc (.cells #[.string ⟨#[41]⟩] 9)) := HQ.out.row [[41]]
          generalize V3.alloc (.cells #[.string ⟨#[41]⟩] 9) = V4 at *
          generalize V3.heap.size = g7 at *
          replace HQ := hidW hq.1
          have HG7 := hidW hq.2.1
          clear hq
          refine hK.out _ _ (HS.out _ _ HQ.out) (fun hNew => ?_)
          clear hK K hHeld
          have hHeld := hNew
          clear hNew
          refine anyL_ready (rs := [8]) (by kernel_rfl) (by simp) (ReadyL.cons rfl (fun K hK => ?_) (ReadyL.nil))
          · dsimp only [List.getElem_toArray, List.getElem_cons_succ, List.getElem_cons_zero]
            go_simp
            refine (C2.out _ _ HQ.out HG7.out).mono ?_
            rintro e V5 ⟨rfl, hq, hw⟩
            replace HQ := hidW hq
            clear hq hw HG7
            go_wp2_with fail
            refine hK.out _ _ (HS.out _ _ HQ.out) (fun hNew => ?_)
            clear hK K hHeld
            have hHeld := hNew
            clear hNew
            refine anyL_done (by kernel_rfl) ?_ _
            go_wp2
            refine bodyPost_end (v := .tuple #[]) (by simp [results, Try.results34, go_sem]) rfl ?_
            exact ⟨rfl, by rw [HFIN.out]; exact HQ.out.w, HQ.out.r⟩
      · dsimp only [List.getElem_toArray, List.getElem_cons_succ, List.getElem_cons_zero]
        go_simp
        have hq : Qs B b W 20 t a (some ⟨blk, off, none⟩) cap blk off ks _ (V2.alloc (.cells #[.string ⟨#[41]⟩] 9)) ∧ Rw b V2.heap.size [[41]] (V2.alloc (.cells #[.string ⟨#[41]⟩] 9)) ∧ Wrt B b V2 (V2.alloc (.cells #[.string ⟨#[41]⟩] 9)) := HQ.out.row [[41]]
        generalize V2.alloc (.cells #[.string ⟨#[41]⟩] 9) = V3 at *
        generalize V2.heap.size = g7 at *
        replace HQ := hidW hq.1
        have HG7 := hidW hq.2.1
        clear hq
        refine hK.out _ _ (HS.out _ _ HQ.out) (fun hNew => ?_)
        clear hK K hHeld
        have hHeld := hNew
        clear hNew
        refine anyL_ready (rs := [6]) (by kernel_rfl) (by simp) (ReadyL.cons rfl (fun K hK => ?_) (ReadyL.nil))
        · dsimp only [List.getElem_toArray, List.getElem_cons_succ, List.getElem_cons_zero]
          go_simp
          refine (C1.out _ HQ.out).mono ?_
          rintro e V4 ⟨rfl, hq, hw⟩
          replace HG7 := hidW (HG7.out.kept hw)
          replace HQ := hidW hq
          clear hq hw
          go_wp2_with fail
          refine hK.out _ _ (HS.out _ _ HQ.out) (fun hNew => ?_)
          clear hK K hHeld
          have hHeld := hNew
          clear hNew
          refine anyL_ready (rs := [8]) (by kernel_rfl) (by simp) (ReadyL.cons rfl (fun K hK => ?_) (ReadyL.nil))
          · dsimp only [List.getElem_toArray, List.getElem_cons_succ, List.getElem_cons_zero]
            go_simp
            refine (C2.out _ _ HQ.out HG7.out).mono ?_
            rintro e V5 ⟨rfl, hq, hw⟩
            replace HQ := hidW hq
            clear hq hw HG7
            go_wp2_with fail
            refine hK.out _ _ (HS.out _ _ HQ.out) (fun hNew => ?_)
            clear hK K hHeld
            have hHeld := hNew
            clear hNew
            refine anyL_done (by kernel_rfl) ?_ _
            go_wp2
            refine bodyPost_end (v := .tuple #[]) (by simp [results, Try.results34, go_sem]) rfl ?_
            exact ⟨rfl, by rw [HFIN.out]; exact HQ.out.w, HQ.out.r⟩
    · dsimp only [List.getElem_toArray, List.getElem_cons_succ, List.getElem_cons_zero]
      go_simp
      have hq : Qs B b W 20 t a (some ⟨blk, off, none⟩) cap blk off ks _ (V1.alloc (.cells #[.string ⟨#[41]⟩] 9)) ∧ Rw b V1.heap.size [[41]] (V1.alloc (.cells #[.string ⟨#[41]⟩] 9)) ∧ Wrt B b V1 (V1.alloc (.cells #[.string ⟨#[41]⟩] 9)) := HQ.out.row [[41]]
      generalize V1.alloc (.cells #[.string ⟨#[41]⟩] 9) = V2 at *
      generalize V1.heap.size = g7 at *
      replace HG1 := hidW (HG1.out.kept hq.2.2)
      replace HQ := hidW hq.1
      have HG7 := hidW hq.2.1
      clear hq
      refine hK.out _ _ (HS.out _ _ HQ.out) (fun hNew => ?_)
      clear hK K hHeld
      have hHeld := hNew
      clear hNew
      refine anyL_ready (rs := [2]) (by kernel_rfl) (by simp) (ReadyL.cons rfl (fun K hK => ?_) (ReadyL.nil))
      · dsimp only [List.getElem_toArray, List.getElem_cons_succ, List.getElem_cons_zero]
        go_simp
        refine (C0.out _ _ HQ.out HG1.out).mono ?_
        rintro e V3 ⟨rfl, hq, hw⟩
        replace HG7 := hidW (HG7.out.kept hw)
        replace HQ := hidW hq
        clear hq hw HG1
        go_wp2_with fail
        refine hK.out _ _ (HS.out _ _ HQ.out) (fun hNew => ?_)
        clear hK K hHeld
        have hHeld := hNew
        clear hNew
        refine anyL_ready (rs := [6]) (by kernel_rfl) (by simp) (ReadyL.cons rfl (fun K hK => ?_) (ReadyL.nil))
        · dsimp only [List.getElem_toArray, List.getElem_cons_succ, List.getElem_cons_zero]
          go_simp
          refine (C1.out _ HQ.out).mono ?_
          rintro e V4 ⟨rfl, hq, hw⟩
          replace HG7 := hidW (HG7.out.kept hw)
          replace HQ := hidW hq
          clear hq hw
          go_wp2_with fail
          refine hK.out _ _ (HS.out _ _ HQ.out) (fun hNew => ?_)
          clear hK K hHeld
          have hHeld := hNew
          clear hNew
          refine anyL_ready (rs := [8]) (by kernel_rfl) (by simp) (ReadyL.cons rfl (fun K hK => ?_) (ReadyL.nil))
          · dsimp only [List.getElem_toArray, List.getElem_cons_succ, List.getElem_cons_zero]
            go_simp
            refine (C2.out _ _ HQ.out HG7.out).mono ?_
            rintro e V5 ⟨rfl, hq, hw⟩
            replace HQ := hidW hq
            clear hq hw HG7
            go_wp2_with fail
            refine hK.out _ _ (HS.out _ _ HQ.out) (fun hNew => ?_)
            clear hK K hHeld
            have hHeld := hNew
            clear hNew
            refine anyL_done (by kernel_rfl) ?_ _
            go_wp2
            refine bodyPost_end (v := .tuple #[]) (by simp [results, Try.results34, go_sem]) rfl ?_
            exact ⟨rfl, by rw [HFIN.out]; exact HQ.out.w, HQ.out.r⟩
  · dsimp only [List.getElem_toArray, List.getElem_cons_succ, List.getElem_cons_zero]
    go_simp
    have hq : Qs B b W 20 t a (some ⟨blk, off, none⟩) cap blk off ks _ (V0.alloc (.cells #[.string ⟨#[41]⟩] 9)) ∧ Rw b V0.heap.size [[41]] (V0.alloc (.cells #[.string ⟨#[41]⟩] 9)) ∧ Wrt B b V0 (V0.alloc (.cells #[.string ⟨#[41]⟩] 9)) := HQ.out.row [[41]]
    generalize V0.alloc (.cells #[.string ⟨#[41]⟩] 9) = V1 at *
    generalize V0.heap.size = g7 at *
    replace HQ := hidW hq.1
    have HG7 := hidW hq.2.1
    clear hq
    refine hK.out _ _ (HS.out _ _ HQ.out) (fun hNew => ?_)
    clear hK K hHeld
    have hHeld := hNew
    clear hNew
    refine anyL_ready (rs := [1]) (by kernel_rfl) (by simp) (ReadyL.cons rfl (fun K hK => ?_) (ReadyL.nil))
    · dsimp only [List.getElem_toArray, List.getElem_cons_succ, List.getElem_cons_zero]
      go_simp
      have hq : Qs B b W 20 t a (some ⟨blk, off, none⟩) cap blk off ks _ (V1.alloc (.cells #[.string ⟨#[40]⟩, .string ⟨#[45]⟩] 9)) ∧ Rw b V1.heap.size [[40], [45]] (V1.alloc (.cells #[.string ⟨#[40]⟩, .string ⟨#[45]⟩] 9)) ∧ Wrt B b V1 (V1.alloc (.cells #[.string ⟨#[40]⟩, .string ⟨#[45]⟩] 9)) := HQ.out.row [[40], [45]]
      generalize V1.alloc (.cells #[.string ⟨#[40]⟩, .string ⟨#[45]⟩] 9) = V2 at *
      generalize V1.heap.size = g1 at *
      replace HG7 := hidW (HG7.out.kept hq.2.2)
      replace HQ := hidW hq.1
      have HG1 := hidW hq.2.1
      clear hq
      refine hK.out _ _ (HS.out _ _ HQ.out) (fun hNew => ?_)
      clear hK K hHeld
      have hHeld := hNew
      clear hNew
      refine anyL_ready (rs := [2]) (by kernel_rfl) (by simp) (ReadyL.cons rfl (fun K hK => ?_) (ReadyL.nil))
      · dsimp only [List.getElem_toArray, List.getElem_cons_succ, List.getElem_cons_zero]
        go_simp
        refine (C0.out _ _ HQ.out HG1.out).mono ?_
        rintro e V3 ⟨rfl, hq, hw⟩
        replace HG7 := hidW (HG7.out.kept hw)
        replace HQ := hidW hq
        clear hq hw HG1
        go_wp2_with fail
        refine hK.out _ _ (HS.out _ _ HQ.out) (fun hNew => ?_)
        clear hK K hHeld
        have hHeld := hNew
        clear hNew
        refine anyL_ready (rs := [6]) (by kernel_rfl) (by simp) (ReadyL.cons rfl (fun K hK => ?_) (ReadyL.nil))
        · dsimp only [List.getElem_toArray, List.getElem_cons_succ, List.getElem_cons_zero]
          go_simp
          refine (C1.out _ HQ.out).mono ?_
          rintro e V4 ⟨rfl, hq, hw⟩
          replace HG7 := hidW (HG7.out.kept hw)
          replace HQ := hidW hq
          clear hq hw
          go_wp2_with fail
          refine hK.out _ _ (HS.out _ _ HQ.out) (fun hNew => ?_)
          clear hK K hHeld
          have hHeld := hNew
          clear hNew
          refine anyL_ready (rs := [8]) (by kernel_rfl) (by simp) (ReadyL.cons rfl (fun K hK => ?_) (ReadyL.nil))
          · dsimp only [List.getElem_toArray, List.getElem_cons_succ, List.getElem_cons_zero]
            go_simp
            refine (C2.out _ _ HQ.out HG7.out).mono ?_
            rintro e V5 ⟨rfl, hq, hw⟩
            replace HQ := hidW hq
            clear hq hw HG7
            go_wp2_with fail
            refine hK.out _ _ (HS.out _ _ HQ.out) (fun hNew => ?_)
            clear hK K hHeld
            have hHeld := hNew
            clear hNew
            refine anyL_done (by kernel_rfl) ?_ _
            go_wp2
            refine bodyPost_end (v := .tuple #[]) (by simp [results, Try.results34, go_sem]) rfl ?_
            exact ⟨rfl, by rw [HFIN.out]; exact HQ.out.w, HQ.out.r⟩

set_option maxRecDepth 100000 in
set_option maxHeartbeats 16000000 in
theorem wr_21 {B b z : Nat} (IH : NodeTo B b z) {x : Ws} {W : World} (h : WrAt B b x W) {t : List UInt8} {a : Int} {av : Option Addr} {cap blk off : Nat} {ks : List Nv} (hr : RowB B W av blk off ks) (hz : szL (ndL ks) ≤ z) (hlen : x.l.length + (t.length + 60 + nedL (ndL ks)) ≤ 140737488355328) (hk : 1 ≤ ks.length) (_hcap : ks.length ≤ cap) :
    Calls Try.prog 34 #[.pointer (some ⟨b, 0, none⟩), .agg #[.int .i64 21, .string (bs t), .int .i64 a, .slice av ks.length cap]] W fun e W' => e = .returned (.tuple #[]) ∧ WrAt B b (appL (rowP 21 t (txtL (ndL ks))) x) W' ∧ Wrt B b W W' := by
  have hi0 : 0 < ks.length := by omega
  obtain ⟨n0, he0⟩ : ∃ n, ks[0]'hi0 = n := ⟨_, rfl⟩
  have hned := ned_at1 hi0 he0
  have hg0 := txt_at hi0 he0
  obtain ⟨k0, t0, a0, v0, c0, b0, o0, s0⟩ := n0
  obtain rfl := hr.row.at_ (by omega)
  have HFIN := hidW (show appL (rowP 21 t (txtL (ndL ks))) x = (appL [[41]] (app1 (txt (Nv.mk k0 t0 a0 v0 c0 b0 o0 s0).nd) (appL [[40], [42]] x))) from by rw [rowP_21, hg0] <;> rfl)
  have L0 : x.l.length + (room [[40], [42]] + (ned (Nv.mk k0 t0 a0 v0 c0 b0 o0 s0).nd + 4 + (room [[41]] + (0)))) ≤ 140737488355328 := by simp only [room_cons, room_nil, List.length_cons, List.length_nil]; omega
  have L1 := put_room _ _ _ L0
  have L2 := node_room _ _ _ L1
  have C0 := hidW (fun (V : World) (g : Nat) (h : Qs B b W 21 t a (some ⟨blk, off, none⟩) cap blk off ks x V) (hg : Rw b g [[40], [42]] V) => h.put [[40], [42]] (by omega) (by simp) hg)
  have C1 := hidW (fun (V : World) (h : Qs B b W 21 t a (some ⟨blk, off, none⟩) cap blk off ks (appL [[40], [42]] x) V) => h.node IH hz hi0 he0 (by omega))
  have C2 := hidW (fun (V : World) (g : Nat) (h : Qs B b W 21 t a (some ⟨blk, off, none⟩) cap blk off ks (app1 (txt (Nv.mk k0 t0 a0 v0 c0 b0 o0 s0).nd) (appL [[40], [42]] x)) V) (hg : Rw b g [[41]] V) => h.put [[41]] (by omega) (by simp) hg)
  have HQ := hidW (Qs.start (k := 21) (t := t) (a := a) (cap := cap) h hr)
  have HS := hidW (fun (V : World) (y : Ws) (hN : Qs B b W 21 t a (some ⟨blk, off, none⟩) cap blk off ks y V) => (show (V.cell? ⟨blk, off, none⟩ = some (.int .i64 k0)) ∧ (V.cell? ⟨blk, off + 1, none⟩ = some (.string (bs t0))) ∧ (V.cell? ⟨blk, off + 2, none⟩ = some (.int .i64 a0)) ∧ (V.cell? ⟨blk, off + 3, none⟩ = some (.slice v0 s0.length c0)) from ⟨(hN.n.kid0 hi0 he0).1, (hN.n.kid0 hi0 he0).2.1, (hN.n.kid0 hi0 he0).2.2.1, (hN.n.kid0 hi0 he0).2.2.2⟩))
  obtain ⟨q0, -, q3⟩ := HQ.out.n.text
  clear h hr hlen L0 L1 L2 he0 hg0 hned
  go_enter Try.func34, Try.ntmps34
  go_wp2_with fail
  refine region_late (fun V => (V.cell? ⟨blk, off, none⟩ = some (.int .i64 k0)) ∧ (V.cell? ⟨blk, off + 1, none⟩ = some (.string (bs t0))) ∧ (V.cell? ⟨blk, off + 2, none⟩ = some (.int .i64 a0)) ∧ (V.cell? ⟨blk, off + 3, none⟩ = some (.slice v0 s0.length c0))) 99 (by kernel_rfl) ?_
  replace HQ := hidW HQ.out.drew
  clear q0 q3
  generalize (W.alloc (.cells #[.int .i64 21, .string (bs t), .int .i64 a, .slice (some ⟨blk, off, none⟩) ks.length cap] 24)).drew = V0 at *
  have hHeld := HS.out _ _ HQ.out
  refine anyL_tk 0 (v := ?_) rfl (by kernel_rfl) (fun _ _ _ h => h) hHeld (by rfl) ?_ ?_
  rotate_left 1
  · intro w hSw; (try dsimp only at hSw); go_simp; try with_reducible rfl
  refine anyL_tk 3 (v := ?_) rfl (by kernel_rfl) (fun _ _ _ h => h) hHeld (by rfl) ?_ ?_
  rotate_left 1
  · intro w hSw; (try dsimp only at hSw); go_simp; try with_reducible rfl
  refine anyL_tk 4 (v := ?_) rfl (by kernel_rfl) (fun _ _ _ h => h) hHeld (by rfl) ?_ ?_
  rotate_left 1
  · intro w hSw; (try dsimp only at hSw); go_simp; try with_reducible rfl
  refine anyL_tk 5 (v := ?_) rfl (by kernel_rfl) (fun _ _ _ h => h) hHeld (by rfl) ?_ ?_
  rotate_left 1
  · intro w hSw; (try dsimp only at hSw); go_simp; try with_reducible rfl
  refine anyL_ready (rs := [1, 7]) (by kernel_rfl) (by simp) (ReadyL.cons rfl (fun K hK => ?_) (ReadyL.cons rfl (fun K hK => ?_) (ReadyL.nil)))
  · dsimp only [List.getElem_toArray, List.getElem_cons_succ, List.getElem_cons_zero]
    go_simp
    have hq : Qs B b W 21 t a (some ⟨blk, off, none⟩) cap blk off ks _ (V0.alloc (.cells #[.string ⟨#[40]⟩, .string ⟨#[42]⟩] 9)) ∧ Rw b V0.heap.size [[40], [42]] (V0.alloc (.cells #[.string ⟨#[40]⟩, .string ⟨#[42]⟩] 9)) ∧ Wrt B b V0 (V0.alloc (.cells #[.string ⟨#[40]⟩, .string ⟨#[42]⟩] 9)) := HQ.out.row [[40], [42]]
    generalize V0.alloc (.cells #[.string ⟨#[40]⟩, .string ⟨#[42]⟩] 9) = V1 at *
    generalize V0.heap.size = g1 at *
    replace HQ := hidW hq.1
    have HG1 := hidW hq.2.1
    clear hq
    refine hK.out _ _ (HS.out _ _ HQ.out) (fun hNew => ?_)
    clear hK K hHeld
    have hHeld := hNew
    clear hNew
    refine anyL_ready (rs := [2, 7]) (by kernel_rfl) (by simp) (ReadyL.cons rfl (fun K hK => ?_) (ReadyL.cons rfl (fun K hK => ?_) (ReadyL.nil)))
    · dsimp only [List.getElem_toArray, List.getElem_cons_succ, List.getElem_cons_zero]
      go_simp
      refine (C0.out _ _ HQ.out HG1.out).mono ?_
      rintro e V2 ⟨rfl, hq, hw⟩
      replace HQ := hidW hq
      clear hq hw HG1
      go_wp2_with fail
      refine hK.out _ _ (HS.out _ _ HQ.out) (fun hNew => ?_)
      clear hK K hHeld
      have hHeld := hNew
      clear hNew
      refine anyL_ready (rs := [6, 7]) (by kernel_rfl) (by simp) (ReadyL.cons rfl (fun K hK => ?_) (ReadyL.cons rfl (fun K hK => ?_) (ReadyL.nil)))
      · dsimp only [List.getElem_toArray, List.getElem_cons_succ, List.getElem_cons_zero]
        go_simp
        refine (C1.out _ HQ.out).mono ?_
        rintro e V3 ⟨rfl, hq, hw⟩
        replace HQ := hidW hq
        clear hq hw
        go_wp2_with fail
        refine hK.out _ _ (HS.out _ _ HQ.out) (fun hNew => ?_)
        clear hK K hHeld
        have hHeld := hNew
        clear hNew
        refine anyL_ready (rs := [7]) (by kernel_rfl) (by simp) (ReadyL.cons rfl (fun K hK => ?_) (ReadyL.nil))
        · dsimp only [List.getElem_toArray, List.getElem_cons_succ, List.getElem_cons_zero]
          go_simp
          have hq : Qs B b W 21 t a (some ⟨blk, off, none⟩) cap blk off ks _ (V3.alloc (.cells #[.string ⟨#[41]⟩] 9)) ∧ Rw b V3.heap.size [[41]] (V3.alloc (.cells #[.string ⟨#[41]⟩] 9)) ∧ Wrt B b V3 (V3.alloc (.cells #[.string ⟨#[41]⟩] 9)) := HQ.out.row [[41]]
          generalize V3.alloc (.cells #[.string ⟨#[41]⟩] 9) = V4 at *
          generalize V3.heap.size = g7 at *
          replace HQ := hidW hq.1
          have HG7 := hidW hq.2.1
          clear hq
          refine hK.out _ _ (HS.out _ _ HQ.out) (fun hNew => ?_)
          clear hK K hHeld
          have hHeld := hNew
          clear hNew
          refine anyL_ready (rs := [8]) (by kernel_rfl) (by simp) (ReadyL.cons rfl (fun K hK => ?_) (ReadyL.nil))
          · dsimp only [List.getElem_toArray, List.getElem_cons_succ, List.getElem_cons_zero]
            go_simp
            refine (C2.out _ _ HQ.out HG7.out).mono ?_
            rintro e V5 ⟨rfl, hq, hw⟩
            replace HQ := hidW hq
            clear hq hw HG7
            go_wp2_with fail
            refine hK.out _ _ (HS.out _ _ HQ.out) (fun hNew => ?_)
            clear hK K hHeld
            have hHeld := hNew
            clear hNew
            refine anyL_done (by kernel_rfl) ?_ _
            go_wp2
            refine bodyPost_end (v := .tuple #[]) (by simp [results, Try.results34, go_sem]) rfl ?_
            exact ⟨rfl, by rw [HFIN.out]; exact HQ.out.w, HQ.out.r⟩
      · dsimp only [List.getElem_toArray, List.getElem_cons_succ, List.getElem_cons_zero]
        go_simp
        have hq : Qs B b W 21 t a (some ⟨blk, off, none⟩) cap blk off ks _ (V2.alloc (.cells #[.string ⟨#[41]⟩] 9)) ∧ Rw b V2.heap.size [[41]] (V2.alloc (.cells #[.string ⟨#[41]⟩] 9)) ∧ Wrt B b V2 (V2.alloc (.cells #[.string ⟨#[41]⟩] 9)) := HQ.out.row [[41]]
        generalize V2.alloc (.cells #[.string ⟨#[41]⟩] 9) = V3 at *
        generalize V2.heap.size = g7 at *
        replace HQ := hidW hq.1
        have HG7 := hidW hq.2.1
        clear hq
        refine hK.out _ _ (HS.out _ _ HQ.out) (fun hNew => ?_)
        clear hK K hHeld
        have hHeld := hNew
        clear hNew
        refine anyL_ready (rs := [6]) (by kernel_rfl) (by simp) (ReadyL.cons rfl (fun K hK => ?_) (ReadyL.nil))
        · dsimp only [List.getElem_toArray, List.getElem_cons_succ, List.getElem_cons_zero]
          go_simp
          refine (C1.out _ HQ.out).mono ?_
          rintro e V4 ⟨rfl, hq, hw⟩
          replace HG7 := hidW (HG7.out.kept hw)
          replace HQ := hidW hq
          clear hq hw
          go_wp2_with fail
          refine hK.out _ _ (HS.out _ _ HQ.out) (fun hNew => ?_)
          clear hK K hHeld
          have hHeld := hNew
          clear hNew
          refine anyL_ready (rs := [8]) (by kernel_rfl) (by simp) (ReadyL.cons rfl (fun K hK => ?_) (ReadyL.nil))
          · dsimp only [List.getElem_toArray, List.getElem_cons_succ, List.getElem_cons_zero]
            go_simp
            refine (C2.out _ _ HQ.out HG7.out).mono ?_
            rintro e V5 ⟨rfl, hq, hw⟩
            replace HQ := hidW hq
            clear hq hw HG7
            go_wp2_with fail
            refine hK.out _ _ (HS.out _ _ HQ.out) (fun hNew => ?_)
            clear hK K hHeld
            have hHeld := hNew
            clear hNew
            refine anyL_done (by kernel_rfl) ?_ _
            go_wp2
            refine bodyPost_end (v := .tuple #[]) (by simp [results, Try.results34, go_sem]) rfl ?_
            exact ⟨rfl, by rw [HFIN.out]; exact HQ.out.w, HQ.out.r⟩
    · dsimp only [List.getElem_toArray, List.getElem_cons_succ, List.getElem_cons_zero]
      go_simp
      have hq : Qs B b W 21 t a (some ⟨blk, off, none⟩) cap blk off ks _ (V1.alloc (.cells #[.string ⟨#[41]⟩] 9)) ∧ Rw b V1.heap.size [[41]] (V1.alloc (.cells #[.string ⟨#[41]⟩] 9)) ∧ Wrt B b V1 (V1.alloc (.cells #[.string ⟨#[41]⟩] 9)) := HQ.out.row [[41]]
      generalize V1.alloc (.cells #[.string ⟨#[41]⟩] 9) = V2 at *
      generalize V1.heap.size = g7 at *
      replace HG1 := hidW (HG1.out.kept hq.2.2)
      replace HQ := hidW hq.1
      have HG7 := hidW hq.2.1
      clear hq
      refine hK.out _ _ (HS.out _ _ HQ.out) (fun hNew => ?_)
      clear hK K hHeld
      have hHeld := hNew
      clear hNew
      refine anyL_ready (rs := [2]) (by kernel_rfl) (by simp) (ReadyL.cons rfl (fun K hK => ?_) (ReadyL.nil))
      · dsimp only [List.getElem_toArray, List.getElem_cons_succ, List.getElem_cons_zero]
        go_simp
        refine (C0.out _ _ HQ.out HG1.out).mono ?_
        rintro e V3 ⟨rfl, hq, hw⟩
        replace HG7 := hidW (HG7.out.kept hw)
        replace HQ := hidW hq
        clear hq hw HG1
        go_wp2_with fail
        refine hK.out _ _ (HS.out _ _ HQ.out) (fun hNew => ?_)
        clear hK K hHeld
        have hHeld := hNew
        clear hNew
        refine anyL_ready (rs := [6]) (by kernel_rfl) (by simp) (ReadyL.cons rfl (fun K hK => ?_) (ReadyL.nil))
        · dsimp only [List.getElem_toArray, List.getElem_cons_succ, List.getElem_cons_zero]
          go_simp
          refine (C1.out _ HQ.out).mono ?_
          rintro e V4 ⟨rfl, hq, hw⟩
          replace HG7 := hidW (HG7.out.kept hw)
          replace HQ := hidW hq
          clear hq hw
          go_wp2_with fail
          refine hK.out _ _ (HS.out _ _ HQ.out) (fun hNew => ?_)
          clear hK K hHeld
          have hHeld := hNew
          clear hNew
          refine anyL_ready (rs := [8]) (by kernel_rfl) (by simp) (ReadyL.cons rfl (fun K hK => ?_) (ReadyL.nil))
          · dsimp only [List.getElem_toArray, List.getElem_cons_succ, List.getElem_cons_zero]
            go_simp
            refine (C2.out _ _ HQ.out HG7.out).mono ?_
            rintro e V5 ⟨rfl, hq, hw⟩
            replace HQ := hidW hq
            clear hq hw HG7
            go_wp2_with fail
            refine hK.out _ _ (HS.out _ _ HQ.out) (fun hNew => ?_)
            clear hK K hHeld
            have hHeld := hNew
            clear hNew
            refine anyL_done (by kernel_rfl) ?_ _
            go_wp2
            refine bodyPost_end (v := .tuple #[]) (by simp [results, Try.results34, go_sem]) rfl ?_
            exact ⟨rfl, by rw [HFIN.out]; exact HQ.out.w, HQ.out.r⟩
  · dsimp only [List.getElem_toArray, List.getElem_cons_succ, List.getElem_cons_zero]
    go_simp
    have hq : Qs B b W 21 t a (some ⟨blk, off, none⟩) cap blk off ks _ (V0.alloc (.cells #[.string ⟨#[41]⟩] 9)) ∧ Rw b V0.heap.size [[41]] (V0.alloc (.cells #[.string ⟨#[41]⟩] 9)) ∧ Wrt B b V0 (V0.alloc (.cells #[.string ⟨#[41]⟩] 9)) := HQ.out.row [[41]]
    generalize V0.alloc (.cells #[.string ⟨#[41]⟩] 9) = V1 at *
    generalize V0.heap.size = g7 at *
    replace HQ := hidW hq.1
    have HG7 := hidW hq.2.1
    clear hq
    refine hK.out _ _ (HS.out _ _ HQ.out) (fun hNew => ?_)
    clear hK K hHeld
    have hHeld := hNew
    clear hNew
    refine anyL_ready (rs := [1]) (by kernel_rfl) (by simp) (ReadyL.cons rfl (fun K hK => ?_) (ReadyL.nil))
    · dsimp only [List.getElem_toArray, List.getElem_cons_succ, List.getElem_cons_zero]
      go_simp
      have hq : Qs B b W 21 t a (some ⟨blk, off, none⟩) cap blk off ks _ (V1.alloc (.cells #[.string ⟨#[40]⟩, .string ⟨#[42]⟩] 9)) ∧ Rw b V1.heap.size [[40], [42]] (V1.alloc (.cells #[.string ⟨#[40]⟩, .string ⟨#[42]⟩] 9)) ∧ Wrt B b V1 (V1.alloc (.cells #[.string ⟨#[40]⟩, .string ⟨#[42]⟩] 9)) := HQ.out.row [[40], [42]]
      generalize V1.alloc (.cells #[.string ⟨#[40]⟩, .string ⟨#[42]⟩] 9) = V2 at *
      generalize V1.heap.size = g1 at *
      replace HG7 := hidW (HG7.out.kept hq.2.2)
      replace HQ := hidW hq.1
      have HG1 := hidW hq.2.1
      clear hq
      refine hK.out _ _ (HS.out _ _ HQ.out) (fun hNew => ?_)
      clear hK K hHeld
      have hHeld := hNew
      clear hNew
      refine anyL_ready (rs := [2]) (by kernel_rfl) (by simp) (ReadyL.cons rfl (fun K hK => ?_) (ReadyL.nil))
      · dsimp only [List.getElem_toArray, List.getElem_cons_succ, List.getElem_cons_zero]
        go_simp
        refine (C0.out _ _ HQ.out HG1.out).mono ?_
        rintro e V3 ⟨rfl, hq, hw⟩
        replace HG7 := hidW (HG7.out.kept hw)
        replace HQ := hidW hq
        clear hq hw HG1
        go_wp2_with fail
        refine hK.out _ _ (HS.out _ _ HQ.out) (fun hNew => ?_)
        clear hK K hHeld
        have hHeld := hNew
        clear hNew
        refine anyL_ready (rs := [6]) (by kernel_rfl) (by simp) (ReadyL.cons rfl (fun K hK => ?_) (ReadyL.nil))
        · dsimp only [List.getElem_toArray, List.getElem_cons_succ, List.getElem_cons_zero]
          go_simp
          refine (C1.out _ HQ.out).mono ?_
          rintro e V4 ⟨rfl, hq, hw⟩
          replace HG7 := hidW (HG7.out.kept hw)
          replace HQ := hidW hq
          clear hq hw
          go_wp2_with fail
          refine hK.out _ _ (HS.out _ _ HQ.out) (fun hNew => ?_)
          clear hK K hHeld
          have hHeld := hNew
          clear hNew
          refine anyL_ready (rs := [8]) (by kernel_rfl) (by simp) (ReadyL.cons rfl (fun K hK => ?_) (ReadyL.nil))
          · dsimp only [List.getElem_toArray, List.getElem_cons_succ, List.getElem_cons_zero]
            go_simp
            refine (C2.out _ _ HQ.out HG7.out).mono ?_
            rintro e V5 ⟨rfl, hq, hw⟩
            replace HQ := hidW hq
            clear hq hw HG7
            go_wp2_with fail
            refine hK.out _ _ (HS.out _ _ HQ.out) (fun hNew => ?_)
            clear hK K hHeld
            have hHeld := hNew
            clear hNew
            refine anyL_done (by kernel_rfl) ?_ _
            go_wp2
            refine bodyPost_end (v := .tuple #[]) (by simp [results, Try.results34, go_sem]) rfl ?_
            exact ⟨rfl, by rw [HFIN.out]; exact HQ.out.w, HQ.out.r⟩

set_option maxRecDepth 100000 in
set_option maxHeartbeats 16000000 in
theorem wr_22 {B b z : Nat} (IH : NodeTo B b z) {x : Ws} {W : World} (h : WrAt B b x W) {t : List UInt8} {a : Int} {av : Option Addr} {cap blk off : Nat} {ks : List Nv} (hr : RowB B W av blk off ks) (hz : szL (ndL ks) ≤ z) (hlen : x.l.length + (t.length + 60 + nedL (ndL ks)) ≤ 140737488355328) (hk : 1 ≤ ks.length) (_hcap : ks.length ≤ cap) :
    Calls Try.prog 34 #[.pointer (some ⟨b, 0, none⟩), .agg #[.int .i64 22, .string (bs t), .int .i64 a, .slice av ks.length cap]] W fun e W' => e = .returned (.tuple #[]) ∧ WrAt B b (appL (rowP 22 t (txtL (ndL ks))) x) W' ∧ Wrt B b W W' := by
  have hi0 : 0 < ks.length := by omega
  obtain ⟨n0, he0⟩ : ∃ n, ks[0]'hi0 = n := ⟨_, rfl⟩
  have hned := ned_at1 hi0 he0
  have hg0 := txt_at hi0 he0
  obtain ⟨k0, t0, a0, v0, c0, b0, o0, s0⟩ := n0
  obtain rfl := hr.row.at_ (by omega)
  have HFIN := hidW (show appL (rowP 22 t (txtL (ndL ks))) x = (appL [[41]] (app1 (txt (Nv.mk k0 t0 a0 v0 c0 b0 o0 s0).nd) (appL [[40], [38]] x))) from by rw [rowP_22, hg0] <;> rfl)
  have L0 : x.l.length + (room [[40], [38]] + (ned (Nv.mk k0 t0 a0 v0 c0 b0 o0 s0).nd + 4 + (room [[41]] + (0)))) ≤ 140737488355328 := by simp only [room_cons, room_nil, List.length_cons, List.length_nil]; omega
  have L1 := put_room _ _ _ L0
  have L2 := node_room _ _ _ L1
  have C0 := hidW (fun (V : World) (g : Nat) (h : Qs B b W 22 t a (some ⟨blk, off, none⟩) cap blk off ks x V) (hg : Rw b g [[40], [38]] V) => h.put [[40], [38]] (by omega) (by simp) hg)
  have C1 := hidW (fun (V : World) (h : Qs B b W 22 t a (some ⟨blk, off, none⟩) cap blk off ks (appL [[40], [38]] x) V) => h.node IH hz hi0 he0 (by omega))
  have C2 := hidW (fun (V : World) (g : Nat) (h : Qs B b W 22 t a (some ⟨blk, off, none⟩) cap blk off ks (app1 (txt (Nv.mk k0 t0 a0 v0 c0 b0 o0 s0).nd) (appL [[40], [38]] x)) V) (hg : Rw b g [[41]] V) => h.put [[41]] (by omega) (by simp) hg)
  have HQ := hidW (Qs.start (k := 22) (t := t) (a := a) (cap := cap) h hr)
  have HS := hidW (fun (V : World) (y : Ws) (hN : Qs B b W 22 t a (some ⟨blk, off, none⟩) cap blk off ks y V) => (show (V.cell? ⟨blk, off, none⟩ = some (.int .i64 k0)) ∧ (V.cell? ⟨blk, off + 1, none⟩ = some (.string (bs t0))) ∧ (V.cell? ⟨blk, off + 2, none⟩ = some (.int .i64 a0)) ∧ (V.cell? ⟨blk, off + 3, none⟩ = some (.slice v0 s0.length c0)) from ⟨(hN.n.kid0 hi0 he0).1, (hN.n.kid0 hi0 he0).2.1, (hN.n.kid0 hi0 he0).2.2.1, (hN.n.kid0 hi0 he0).2.2.2⟩))
  obtain ⟨q0, -, q3⟩ := HQ.out.n.text
  clear h hr hlen L0 L1 L2 he0 hg0 hned
  go_enter Try.func34, Try.ntmps34
  go_wp2_with fail
  refine region_late (fun V => (V.cell? ⟨blk, off, none⟩ = some (.int .i64 k0)) ∧ (V.cell? ⟨blk, off + 1, none⟩ = some (.string (bs t0))) ∧ (V.cell? ⟨blk, off + 2, none⟩ = some (.int .i64 a0)) ∧ (V.cell? ⟨blk, off + 3, none⟩ = some (.slice v0 s0.length c0))) 99 (by kernel_rfl) ?_
  replace HQ := hidW HQ.out.drew
  clear q0 q3
  generalize (W.alloc (.cells #[.int .i64 22, .string (bs t), .int .i64 a, .slice (some ⟨blk, off, none⟩) ks.length cap] 24)).drew = V0 at *
  have hHeld := HS.out _ _ HQ.out
  refine anyL_tk 0 (v := ?_) rfl (by kernel_rfl) (fun _ _ _ h => h) hHeld (by rfl) ?_ ?_
  rotate_left 1
  · intro w hSw; (try dsimp only at hSw); go_simp; try with_reducible rfl
  refine anyL_tk 3 (v := ?_) rfl (by kernel_rfl) (fun _ _ _ h => h) hHeld (by rfl) ?_ ?_
  rotate_left 1
  · intro w hSw; (try dsimp only at hSw); go_simp; try with_reducible rfl
  refine anyL_tk 4 (v := ?_) rfl (by kernel_rfl) (fun _ _ _ h => h) hHeld (by rfl) ?_ ?_
  rotate_left 1
  · intro w hSw; (try dsimp only at hSw); go_simp; try with_reducible rfl
  refine anyL_tk 5 (v := ?_) rfl (by kernel_rfl) (fun _ _ _ h => h) hHeld (by rfl) ?_ ?_
  rotate_left 1
  · intro w hSw; (try dsimp only at hSw); go_simp; try with_reducible rfl
  refine anyL_ready (rs := [1, 7]) (by kernel_rfl) (by simp) (ReadyL.cons rfl (fun K hK => ?_) (ReadyL.cons rfl (fun K hK => ?_) (ReadyL.nil)))
  · dsimp only [List.getElem_toArray, List.getElem_cons_succ, List.getElem_cons_zero]
    go_simp
    have hq : Qs B b W 22 t a (some ⟨blk, off, none⟩) cap blk off ks _ (V0.alloc (.cells #[.string ⟨#[40]⟩, .string ⟨#[38]⟩] 9)) ∧ Rw b V0.heap.size [[40], [38]] (V0.alloc (.cells #[.string ⟨#[40]⟩, .string ⟨#[38]⟩] 9)) ∧ Wrt B b V0 (V0.alloc (.cells #[.string ⟨#[40]⟩, .string ⟨#[38]⟩] 9)) := HQ.out.row [[40], [38]]
    generalize V0.alloc (.cells #[.string ⟨#[40]⟩, .string ⟨#[38]⟩] 9) = V1 at *
    generalize V0.heap.size = g1 at *
    replace HQ := hidW hq.1
    have HG1 := hidW hq.2.1
    clear hq
    refine hK.out _ _ (HS.out _ _ HQ.out) (fun hNew => ?_)
    clear hK K hHeld
    have hHeld := hNew
    clear hNew
    refine anyL_ready (rs := [2, 7]) (by kernel_rfl) (by simp) (ReadyL.cons rfl (fun K hK => ?_) (ReadyL.cons rfl (fun K hK => ?_) (ReadyL.nil)))
    · dsimp only [List.getElem_toArray, List.getElem_cons_succ, List.getElem_cons_zero]
      go_simp
      refine (C0.out _ _ HQ.out HG1.out).mono ?_
      rintro e V2 ⟨rfl, hq, hw⟩
      replace HQ := hidW hq
      clear hq hw HG1
      go_wp2_with fail
      refine hK.out _ _ (HS.out _ _ HQ.out) (fun hNew => ?_)
      clear hK K hHeld
      have hHeld := hNew
      clear hNew
      refine anyL_ready (rs := [6, 7]) (by kernel_rfl) (by simp) (ReadyL.cons rfl (fun K hK => ?_) (ReadyL.cons rfl (fun K hK => ?_) (ReadyL.nil)))
      · dsimp only [List.getElem_toArray, List.getElem_cons_succ, List.getElem_cons_zero]
        go_simp
        refine (C1.out _ HQ.out).mono ?_
        rintro e V3 ⟨rfl, hq, hw⟩
        replace HQ := hidW hq
        clear hq hw
        go_wp2_with fail
        refine hK.out _ _ (HS.out _ _ HQ.out) (fun hNew => ?_)
        clear hK K hHeld
        have hHeld := hNew
        clear hNew
        refine anyL_ready (rs := [7]) (by kernel_rfl) (by simp) (ReadyL.cons rfl (fun K hK => ?_) (ReadyL.nil))
        · dsimp only [List.getElem_toArray, List.getElem_cons_succ, List.getElem_cons_zero]
          go_simp
          have hq : Qs B b W 22 t a (some ⟨blk, off, none⟩) cap blk off ks _ (V3.alloc (.cells #[.string ⟨#[41]⟩] 9)) ∧ Rw b V3.heap.size [[41]] (V3.alloc (.cells #[.string ⟨#[41]⟩] 9)) ∧ Wrt B b V3 (V3.alloc (.cells #[.string ⟨#[41]⟩] 9)) := HQ.out.row [[41]]
          generalize V3.alloc (.cells #[.string ⟨#[41]⟩] 9) = V4 at *
          generalize V3.heap.size = g7 at *
          replace HQ := hidW hq.1
          have HG7 := hidW hq.2.1
          clear hq
          refine hK.out _ _ (HS.out _ _ HQ.out) (fun hNew => ?_)
          clear hK K hHeld
          have hHeld := hNew
          clear hNew
          refine anyL_ready (rs := [8]) (by kernel_rfl) (by simp) (ReadyL.cons rfl (fun K hK => ?_) (ReadyL.nil))
          · dsimp only [List.getElem_toArray, List.getElem_cons_succ, List.getElem_cons_zero]
            go_simp
            refine (C2.out _ _ HQ.out HG7.out).mono ?_
            rintro e V5 ⟨rfl, hq, hw⟩
            replace HQ := hidW hq
            clear hq hw HG7
            go_wp2_with fail
            refine hK.out _ _ (HS.out _ _ HQ.out) (fun hNew => ?_)
            clear hK K hHeld
            have hHeld := hNew
            clear hNew
            refine anyL_done (by kernel_rfl) ?_ _
            go_wp2
            refine bodyPost_end (v := .tuple #[]) (by simp [results, Try.results34, go_sem]) rfl ?_
            exact ⟨rfl, by rw [HFIN.out]; exact HQ.out.w, HQ.out.r⟩
      · dsimp only [List.getElem_toArray, List.getElem_cons_succ, List.getElem_cons_zero]
        go_simp
        have hq : Qs B b W 22 t a (some ⟨blk, off, none⟩) cap blk off ks _ (V2.alloc (.cells #[.string ⟨#[41]⟩] 9)) ∧ Rw b V2.heap.size [[41]] (V2.alloc (.cells #[.string ⟨#[41]⟩] 9)) ∧ Wrt B b V2 (V2.alloc (.cells #[.string ⟨#[41]⟩] 9)) := HQ.out.row [[41]]
        generalize V2.alloc (.cells #[.string ⟨#[41]⟩] 9) = V3 at *
        generalize V2.heap.size = g7 at *
        replace HQ := hidW hq.1
        have HG7 := hidW hq.2.1
        clear hq
        refine hK.out _ _ (HS.out _ _ HQ.out) (fun hNew => ?_)
        clear hK K hHeld
        have hHeld := hNew
        clear hNew
        refine anyL_ready (rs := [6]) (by kernel_rfl) (by simp) (ReadyL.cons rfl (fun K hK => ?_) (ReadyL.nil))
        · dsimp only [List.getElem_toArray, List.getElem_cons_succ, List.getElem_cons_zero]
          go_simp
          refine (C1.out _ HQ.out).mono ?_
          rintro e V4 ⟨rfl, hq, hw⟩
          replace HG7 := hidW (HG7.out.kept hw)
          replace HQ := hidW hq
          clear hq hw
          go_wp2_with fail
          refine hK.out _ _ (HS.out _ _ HQ.out) (fun hNew => ?_)
          clear hK K hHeld
          have hHeld := hNew
          clear hNew
          refine anyL_ready (rs := [8]) (by kernel_rfl) (by simp) (ReadyL.cons rfl (fun K hK => ?_) (ReadyL.nil))
          · dsimp only [List.getElem_toArray, List.getElem_cons_succ, List.getElem_cons_zero]
            go_simp
            refine (C2.out _ _ HQ.out HG7.out).mono ?_
            rintro e V5 ⟨rfl, hq, hw⟩
            replace HQ := hidW hq
            clear hq hw HG7
            go_wp2_with fail
            refine hK.out _ _ (HS.out _ _ HQ.out) (fun hNew => ?_)
            clear hK K hHeld
            have hHeld := hNew
            clear hNew
            refine anyL_done (by kernel_rfl) ?_ _
            go_wp2
            refine bodyPost_end (v := .tuple #[]) (by simp [results, Try.results34, go_sem]) rfl ?_
            exact ⟨rfl, by rw [HFIN.out]; exact HQ.out.w, HQ.out.r⟩
    · dsimp only [List.getElem_toArray, List.getElem_cons_succ, List.getElem_cons_zero]
      go_simp
      have hq : Qs B b W 22 t a (some ⟨blk, off, none⟩) cap blk off ks _ (V1.alloc (.cells #[.string ⟨#[41]⟩] 9)) ∧ Rw b V1.heap.size [[41]] (V1.alloc (.cells #[.string ⟨#[41]⟩] 9)) ∧ Wrt B b V1 (V1.alloc (.cells #[.string ⟨#[41]⟩] 9)) := HQ.out.row [[41]]
      generalize V1.alloc (.cells #[.string ⟨#[41]⟩] 9) = V2 at *
      generalize V1.heap.size = g7 at *
      replace HG1 := hidW (HG1.out.kept hq.2.2)
      replace HQ := hidW hq.1
      have HG7 := hidW hq.2.1
      clear hq
      refine hK.out _ _ (HS.out _ _ HQ.out) (fun hNew => ?_)
      clear hK K hHeld
      have hHeld := hNew
      clear hNew
      refine anyL_ready (rs := [2]) (by kernel_rfl) (by simp) (ReadyL.cons rfl (fun K hK => ?_) (ReadyL.nil))
      · dsimp only [List.getElem_toArray, List.getElem_cons_succ, List.getElem_cons_zero]
        go_simp
        refine (C0.out _ _ HQ.out HG1.out).mono ?_
        rintro e V3 ⟨rfl, hq, hw⟩
        replace HG7 := hidW (HG7.out.kept hw)
        replace HQ := hidW hq
        clear hq hw HG1
        go_wp2_with fail
        refine hK.out _ _ (HS.out _ _ HQ.out) (fun hNew => ?_)
        clear hK K hHeld
        have hHeld := hNew
        clear hNew
        refine anyL_ready (rs := [6]) (by kernel_rfl) (by simp) (ReadyL.cons rfl (fun K hK => ?_) (ReadyL.nil))
        · dsimp only [List.getElem_toArray, List.getElem_cons_succ, List.getElem_cons_zero]
          go_simp
          refine (C1.out _ HQ.out).mono ?_
          rintro e V4 ⟨rfl, hq, hw⟩
          replace HG7 := hidW (HG7.out.kept hw)
          replace HQ := hidW hq
          clear hq hw
          go_wp2_with fail
          refine hK.out _ _ (HS.out _ _ HQ.out) (fun hNew => ?_)
          clear hK K hHeld
          have hHeld := hNew
          clear hNew
          refine anyL_ready (rs := [8]) (by kernel_rfl) (by simp) (ReadyL.cons rfl (fun K hK => ?_) (ReadyL.nil))
          · dsimp only [List.getElem_toArray, List.getElem_cons_succ, List.getElem_cons_zero]
            go_simp
            refine (C2.out _ _ HQ.out HG7.out).mono ?_
            rintro e V5 ⟨rfl, hq, hw⟩
            replace HQ := hidW hq
            clear hq hw HG7
            go_wp2_with fail
            refine hK.out _ _ (HS.out _ _ HQ.out) (fun hNew => ?_)
            clear hK K hHeld
            have hHeld := hNew
            clear hNew
            refine anyL_done (by kernel_rfl) ?_ _
            go_wp2
            refine bodyPost_end (v := .tuple #[]) (by simp [results, Try.results34, go_sem]) rfl ?_
            exact ⟨rfl, by rw [HFIN.out]; exact HQ.out.w, HQ.out.r⟩
  · dsimp only [List.getElem_toArray, List.getElem_cons_succ, List.getElem_cons_zero]
    go_simp
    have hq : Qs B b W 22 t a (some ⟨blk, off, none⟩) cap blk off ks _ (V0.alloc (.cells #[.string ⟨#[41]⟩] 9)) ∧ Rw b V0.heap.size [[41]] (V0.alloc (.cells #[.string ⟨#[41]⟩] 9)) ∧ Wrt B b V0 (V0.alloc (.cells #[.string ⟨#[41]⟩] 9)) := HQ.out.row [[41]]
    generalize V0.alloc (.cells #[.string ⟨#[41]⟩] 9) = V1 at *
    generalize V0.heap.size = g7 at *
    replace HQ := hidW hq.1
    have HG7 := hidW hq.2.1
    clear hq
    refine hK.out _ _ (HS.out _ _ HQ.out) (fun hNew => ?_)
    clear hK K hHeld
    have hHeld := hNew
    clear hNew
    refine anyL_ready (rs := [1]) (by kernel_rfl) (by simp) (ReadyL.cons rfl (fun K hK => ?_) (ReadyL.nil))
    · dsimp only [List.getElem_toArray, List.getElem_cons_succ, List.getElem_cons_zero]
      go_simp
      have hq : Qs B b W 22 t a (some ⟨blk, off, none⟩) cap blk off ks _ (V1.alloc (.cells #[.string ⟨#[40]⟩, .string ⟨#[38]⟩] 9)) ∧ Rw b V1.heap.size [[40], [38]] (V1.alloc (.cells #[.string ⟨#[40]⟩, .string ⟨#[38]⟩] 9)) ∧ Wrt B b V1 (V1.alloc (.cells #[.string ⟨#[40]⟩, .string ⟨#[38]⟩] 9)) := HQ.out.row [[40], [38]]
      generalize V1.alloc (.cells #[.string ⟨#[40]⟩, .string ⟨#[38]⟩] 9) = V2 at *
      generalize V1.heap.size = g1 at *
      replace HG7 := hidW (HG7.out.kept hq.2.2)
      replace HQ := hidW hq.1
      have HG1 := hidW hq.2.1
      clear hq
      refine hK.out _ _ (HS.out _ _ HQ.out) (fun hNew => ?_)
      clear hK K hHeld
      have hHeld := hNew
      clear hNew
      refine anyL_ready (rs := [2]) (by kernel_rfl) (by simp) (ReadyL.cons rfl (fun K hK => ?_) (ReadyL.nil))
      · dsimp only [List.getElem_toArray, List.getElem_cons_succ, List.getElem_cons_zero]
        go_simp
        refine (C0.out _ _ HQ.out HG1.out).mono ?_
        rintro e V3 ⟨rfl, hq, hw⟩
        replace HG7 := hidW (HG7.out.kept hw)
        replace HQ := hidW hq
        clear hq hw HG1
        go_wp2_with fail
        refine hK.out _ _ (HS.out _ _ HQ.out) (fun hNew => ?_)
        clear hK K hHeld
        have hHeld := hNew
        clear hNew
        refine anyL_ready (rs := [6]) (by kernel_rfl) (by simp) (ReadyL.cons rfl (fun K hK => ?_) (ReadyL.nil))
        · dsimp only [List.getElem_toArray, List.getElem_cons_succ, List.getElem_cons_zero]
          go_simp
          refine (C1.out _ HQ.out).mono ?_
          rintro e V4 ⟨rfl, hq, hw⟩
          replace HG7 := hidW (HG7.out.kept hw)
          replace HQ := hidW hq
          clear hq hw
          go_wp2_with fail
          refine hK.out _ _ (HS.out _ _ HQ.out) (fun hNew => ?_)
          clear hK K hHeld
          have hHeld := hNew
          clear hNew
          refine anyL_ready (rs := [8]) (by kernel_rfl) (by simp) (ReadyL.cons rfl (fun K hK => ?_) (ReadyL.nil))
          · dsimp only [List.getElem_toArray, List.getElem_cons_succ, List.getElem_cons_zero]
            go_simp
            refine (C2.out _ _ HQ.out HG7.out).mono ?_
            rintro e V5 ⟨rfl, hq, hw⟩
            replace HQ := hidW hq
            clear hq hw HG7
            go_wp2_with fail
            refine hK.out _ _ (HS.out _ _ HQ.out) (fun hNew => ?_)
            clear hK K hHeld
            have hHeld := hNew
            clear hNew
            refine anyL_done (by kernel_rfl) ?_ _
            go_wp2
            refine bodyPost_end (v := .tuple #[]) (by simp [results, Try.results34, go_sem]) rfl ?_
            exact ⟨rfl, by rw [HFIN.out]; exact HQ.out.w, HQ.out.r⟩

set_option maxRecDepth 100000 in
set_option maxHeartbeats 16000000 in
theorem wr_23 {B b z : Nat} (IH : NodeTo B b z) {x : Ws} {W : World} (h : WrAt B b x W) {t : List UInt8} {a : Int} {av : Option Addr} {cap blk off : Nat} {ks : List Nv} (hr : RowB B W av blk off ks) (hz : szL (ndL ks) ≤ z) (hlen : x.l.length + (t.length + 60 + nedL (ndL ks)) ≤ 140737488355328) (hk : 2 ≤ ks.length) (_hcap : ks.length ≤ cap) :
    Calls Try.prog 34 #[.pointer (some ⟨b, 0, none⟩), .agg #[.int .i64 23, .string (bs t), .int .i64 a, .slice av ks.length cap]] W fun e W' => e = .returned (.tuple #[]) ∧ WrAt B b (appL (rowP 23 t (txtL (ndL ks))) x) W' ∧ Wrt B b W W' := by
  have hi0 : 0 < ks.length := by omega
  obtain ⟨n0, he0⟩ : ∃ n, ks[0]'hi0 = n := ⟨_, rfl⟩
  have hi1 : 1 < ks.length := by omega
  obtain ⟨n1, he1⟩ : ∃ n, ks[1]'hi1 = n := ⟨_, rfl⟩
  have hj1 : ((1 : Int) < (ks.length : Int)) = True := eq_true (by omega)
  have hned := ned_at2 hi1 he0 he1
  have hg0 := txt_at hi0 he0
  have hg1 := txt_at hi1 he1
  obtain ⟨k0, t0, a0, v0, c0, b0, o0, s0⟩ := n0
  obtain ⟨k1, t1, a1, v1, c1, b1, o1, s1⟩ := n1
  obtain rfl := hr.row.at_ (by omega)
  have HFIN := hidW (show appL (rowP 23 t (txtL (ndL ks))) x = (appL [[93]] (app1 (txt (Nv.mk k1 t1 a1 v1 c1 b1 o1 s1).nd) (appL [[91]] (app1 (txt (Nv.mk k0 t0 a0 v0 c0 b0 o0 s0).nd) x)))) from by rw [rowP_23, hg0, hg1] <;> rfl)
  have L0 : x.l.length + (ned (Nv.mk k0 t0 a0 v0 c0 b0 o0 s0).nd + 4 + (room [[91]] + (ned (Nv.mk k1 t1 a1 v1 c1 b1 o1 s1).nd + 4 + (room [[93]] + (0))))) ≤ 140737488355328 := by simp only [room_cons, room_nil, List.length_cons, List.length_nil]; omega
  have L1 := node_room _ _ _ L0
  have L2 := put_room _ _ _ L1
  have L3 := node_room _ _ _ L2
  have C0 := hidW (fun (V : World) (h : Qs B b W 23 t a (some ⟨blk, off, none⟩) cap blk off ks x V) => h.node IH hz hi0 he0 (by omega))
  have C1 := hidW (fun (V : World) (g : Nat) (h : Qs B b W 23 t a (some ⟨blk, off, none⟩) cap blk off ks (app1 (txt (Nv.mk k0 t0 a0 v0 c0 b0 o0 s0).nd) x) V) (hg : Rw b g [[91]] V) => h.put [[91]] (by omega) (by simp) hg)
  have C2 := hidW (fun (V : World) (h : Qs B b W 23 t a (some ⟨blk, off, none⟩) cap blk off ks (appL [[91]] (app1 (txt (Nv.mk k0 t0 a0 v0 c0 b0 o0 s0).nd) x)) V) => h.node IH hz hi1 he1 (by omega))
  have C3 := hidW (fun (V : World) (g : Nat) (h : Qs B b W 23 t a (some ⟨blk, off, none⟩) cap blk off ks (app1 (txt (Nv.mk k1 t1 a1 v1 c1 b1 o1 s1).nd) (appL [[91]] (app1 (txt (Nv.mk k0 t0 a0 v0 c0 b0 o0 s0).nd) x))) V) (hg : Rw b g [[93]] V) => h.put [[93]] (by omega) (by simp) hg)
  have HQ := hidW (Qs.start (k := 23) (t := t) (a := a) (cap := cap) h hr)
  have HS := hidW (fun (V : World) (y : Ws) (hN : Qs B b W 23 t a (some ⟨blk, off, none⟩) cap blk off ks y V) => (show (V.cell? ⟨blk, off, none⟩ = some (.int .i64 k0)) ∧ (V.cell? ⟨blk, off + 1, none⟩ = some (.string (bs t0))) ∧ (V.cell? ⟨blk, off + 2, none⟩ = some (.int .i64 a0)) ∧ (V.cell? ⟨blk, off + 3, none⟩ = some (.slice v0 s0.length c0)) ∧ (V.cell? ⟨blk, off + 4, none⟩ = some (.int .i64 k1)) ∧ (V.cell? ⟨blk, off + 5, none⟩ = some (.string (bs t1))) ∧ (V.cell? ⟨blk, off + 6, none⟩ = some (.int .i64 a1)) ∧ (V.cell? ⟨blk, off + 7, none⟩ = some (.slice v1 s1.length c1)) from ⟨(hN.n.kid0 hi0 he0).1, (hN.n.kid0 hi0 he0).2.1, (hN.n.kid0 hi0 he0).2.2.1, (hN.n.kid0 hi0 he0).2.2.2, (hN.n.kid1 hi1 he1).1, (hN.n.kid1 hi1 he1).2.1, (hN.n.kid1 hi1 he1).2.2.1, (hN.n.kid1 hi1 he1).2.2.2⟩))
  obtain ⟨q0, -, q3⟩ := HQ.out.n.text
  clear h hr hlen L0 L1 L2 L3 he0 hg0 he1 hg1 hned
  go_enter Try.func34, Try.ntmps34
  go_wp2_with fail
  refine region_late (fun V => (V.cell? ⟨blk, off, none⟩ = some (.int .i64 k0)) ∧ (V.cell? ⟨blk, off + 1, none⟩ = some (.string (bs t0))) ∧ (V.cell? ⟨blk, off + 2, none⟩ = some (.int .i64 a0)) ∧ (V.cell? ⟨blk, off + 3, none⟩ = some (.slice v0 s0.length c0)) ∧ (V.cell? ⟨blk, off + 4, none⟩ = some (.int .i64 k1)) ∧ (V.cell? ⟨blk, off + 5, none⟩ = some (.string (bs t1))) ∧ (V.cell? ⟨blk, off + 6, none⟩ = some (.int .i64 a1)) ∧ (V.cell? ⟨blk, off + 7, none⟩ = some (.slice v1 s1.length c1))) 99 (by kernel_rfl) ?_
  replace HQ := hidW HQ.out.drew
  clear q0 q3
  generalize (W.alloc (.cells #[.int .i64 23, .string (bs t), .int .i64 a, .slice (some ⟨blk, off, none⟩) ks.length cap] 24)).drew = V0 at *
  have hHeld := HS.out _ _ HQ.out
  refine anyL_tk 0 (v := ?_) rfl (by kernel_rfl) (fun _ _ _ h => h) hHeld (by rfl) ?_ ?_
  rotate_left 1
  · intro w hSw; (try dsimp only at hSw); go_simp; try with_reducible rfl
  refine anyL_tk 1 (v := ?_) rfl (by kernel_rfl) (fun _ _ _ h => h) hHeld (by rfl) ?_ ?_
  rotate_left 1
  · intro w hSw; (try dsimp only at hSw); go_simp; try with_reducible rfl
  refine anyL_tk 2 (v := ?_) rfl (by kernel_rfl) (fun _ _ _ h => h) hHeld (by rfl) ?_ ?_
  rotate_left 1
  · intro w hSw; (try dsimp only at hSw); go_simp; try with_reducible rfl
  refine anyL_tk 3 (v := ?_) rfl (by kernel_rfl) (fun _ _ _ h => h) hHeld (by rfl) ?_ ?_
  rotate_left 1
  · intro w hSw; (try dsimp only at hSw); go_simp; try with_reducible rfl
  refine anyL_tk 7 (v := ?_) rfl (by kernel_rfl) (fun _ _ _ h => h) hHeld (by rfl) ?_ ?_
  rotate_left 1
  · intro w hSw; (try dsimp only at hSw); go_simp; try with_reducible rfl
  refine anyL_tk 8 (v := ?_) rfl (by kernel_rfl) (fun _ _ _ h => h) hHeld (by rfl) ?_ ?_
  rotate_left 1
  · intro w hSw; (try dsimp only at hSw); go_simp; try with_reducible rfl
  refine anyL_tk 9 (v := ?_) rfl (by kernel_rfl) (fun _ _ _ h => h) hHeld (by rfl) ?_ ?_
  rotate_left 1
  · intro w hSw; (try dsimp only at hSw); go_simp; try with_reducible rfl
  refine anyL_ready (rs := [4, 5, 11]) (by kernel_rfl) (by simp) (ReadyL.cons rfl (fun K hK => ?_) (ReadyL.cons rfl (fun K hK => ?_) (ReadyL.cons rfl (fun K hK => ?_) (ReadyL.nil))))
  · dsimp only [List.getElem_toArray, List.getElem_cons_succ, List.getElem_cons_zero]
    go_simp
    refine (C0.out _ HQ.out).mono ?_
    rintro e V1 ⟨rfl, hq, hw⟩
    replace HQ := hidW hq
    clear hq hw
    go_wp2_with fail
    refine hK.out _ _ (HS.out _ _ HQ.out) (fun hNew => ?_)
    clear hK K hHeld
    have hHeld := hNew
    clear hNew
    refine anyL_ready (rs := [5, 11]) (by kernel_rfl) (by simp) (ReadyL.cons rfl (fun K hK => ?_) (ReadyL.cons rfl (fun K hK => ?_) (ReadyL.nil)))
    · dsimp only [List.getElem_toArray, List.getElem_cons_succ, List.getElem_cons_zero]
      go_simp
      have hq : Qs B b W 23 t a (some ⟨blk, off, none⟩) cap blk off ks _ (V1.alloc (.cells #[.string ⟨#[91]⟩] 9)) ∧ Rw b V1.heap.size [[91]] (V1.alloc (.cells #[.string ⟨#[91]⟩] 9)) ∧ Wrt B b V1 (V1.alloc (.cells #[.string ⟨#[91]⟩] 9)) := HQ.out.row [[91]]
      generalize V1.alloc (.cells #[.string ⟨#[91]⟩] 9) = V2 at *
      generalize V1.heap.size = g5 at *
      replace HQ := hidW hq.1
      have HG5 := hidW hq.2.1
      clear hq
      refine hK.out _ _ (HS.out _ _ HQ.out) (fun hNew => ?_)
      clear hK K hHeld
      have hHeld := hNew
      clear hNew
      refine anyL_ready (rs := [6, 11]) (by kernel_rfl) (by simp) (ReadyL.cons rfl (fun K hK => ?_) (ReadyL.cons rfl (fun K hK => ?_) (ReadyL.nil)))
      · dsimp only [List.getElem_toArray, List.getElem_cons_succ, List.getElem_cons_zero]
        go_simp
        refine (C1.out _ _ HQ.out HG5.out).mono ?_
        rintro e V3 ⟨rfl, hq, hw⟩
        replace HQ := hidW hq
        clear hq hw HG5
        go_wp2_with fail
        refine hK.out _ _ (HS.out _ _ HQ.out) (fun hNew => ?_)
        clear hK K hHeld
        have hHeld := hNew
        clear hNew
        refine anyL_ready (rs := [10, 11]) (by kernel_rfl) (by simp) (ReadyL.cons rfl (fun K hK => ?_) (ReadyL.cons rfl (fun K hK => ?_) (ReadyL.nil)))
        · dsimp only [List.getElem_toArray, List.getElem_cons_succ, List.getElem_cons_zero]
          go_simp
          refine (C2.out _ HQ.out).mono ?_
          rintro e V4 ⟨rfl, hq, hw⟩
          replace HQ := hidW hq
          clear hq hw
          go_wp2_with fail
          refine hK.out _ _ (HS.out _ _ HQ.out) (fun hNew => ?_)
          clear hK K hHeld
          have hHeld := hNew
          clear hNew
          refine anyL_ready (rs := [11]) (by kernel_rfl) (by simp) (ReadyL.cons rfl (fun K hK => ?_) (ReadyL.nil))
          · dsimp only [List.getElem_toArray, List.getElem_cons_succ, List.getElem_cons_zero]
            go_simp
            have hq : Qs B b W 23 t a (some ⟨blk, off, none⟩) cap blk off ks _ (V4.alloc (.cells #[.string ⟨#[93]⟩] 9)) ∧ Rw b V4.heap.size [[93]] (V4.alloc (.cells #[.string ⟨#[93]⟩] 9)) ∧ Wrt B b V4 (V4.alloc (.cells #[.string ⟨#[93]⟩] 9)) := HQ.out.row [[93]]
            generalize V4.alloc (.cells #[.string ⟨#[93]⟩] 9) = V5 at *
            generalize V4.heap.size = g11 at *
            replace HQ := hidW hq.1
            have HG11 := hidW hq.2.1
            clear hq
            refine hK.out _ _ (HS.out _ _ HQ.out) (fun hNew => ?_)
            clear hK K hHeld
            have hHeld := hNew
            clear hNew
            refine anyL_ready (rs := [12]) (by kernel_rfl) (by simp) (ReadyL.cons rfl (fun K hK => ?_) (ReadyL.nil))
            · dsimp only [List.getElem_toArray, List.getElem_cons_succ, List.getElem_cons_zero]
              go_simp
              refine (C3.out _ _ HQ.out HG11.out).mono ?_
              rintro e V6 ⟨rfl, hq, hw⟩
              replace HQ := hidW hq
              clear hq hw HG11
              go_wp2_with fail
              refine hK.out _ _ (HS.out _ _ HQ.out) (fun hNew => ?_)
              clear hK K hHeld
              have hHeld := hNew
              clear hNew
              refine anyL_done (by kernel_rfl) ?_ _
              go_wp2
              refine bodyPost_end (v := .tuple #[]) (by simp [results, Try.results34, go_sem]) rfl ?_
              exact ⟨rfl, by rw [HFIN.out]; exact HQ.out.w, HQ.out.r⟩
        · dsimp only [List.getElem_toArray, List.getElem_cons_succ, List.getElem_cons_zero]
          go_simp
          have hq : Qs B b W 23 t a (some ⟨blk, off, none⟩) cap blk off ks _ (V3.alloc (.cells #[.string ⟨#[93]⟩] 9)) ∧ Rw b V3.heap.size [[93]] (V3.alloc (.cells #[.string ⟨#[93]⟩] 9)) ∧ Wrt B b V3 (V3.alloc (.cells #[.string ⟨#[93]⟩] 9)) := HQ.out.row [[93]]
          generalize V3.alloc (.cells #[.string ⟨#[93]⟩] 9) = V4 at *
          generalize V3.heap.size = g11 at *
          replace HQ := hidW hq.1
          have HG11 := hidW hq.2.1
          clear hq
          refine hK.out _ _ (HS.out _ _ HQ.out) (fun hNew => ?_)
          clear hK K hHeld
          have hHeld := hNew
          clear hNew
          refine anyL_ready (rs := [10]) (by kernel_rfl) (by simp) (ReadyL.cons rfl (fun K hK => ?_) (ReadyL.nil))
          · dsimp only [List.getElem_toArray, List.getElem_cons_succ, List.getElem_cons_zero]
            go_simp
            refine (C2.out _ HQ.out).mono ?_
            rintro e V5 ⟨rfl, hq, hw⟩
            replace HG11 := hidW (HG11.out.kept hw)
            replace HQ := hidW hq
            clear hq hw
            go_wp2_with fail
            refine hK.out _ _ (HS.out _ _ HQ.out) (fun hNew => ?_)
            clear hK K hHeld
            have hHeld := hNew
            clear hNew
            refine anyL_ready (rs := [12]) (by kernel_rfl) (by simp) (ReadyL.cons rfl (fun K hK => ?_) (ReadyL.nil))
            · dsimp only [List.getElem_toArray, List.getElem_cons_succ, List.getElem_cons_zero]
              go_simp
              refine (C3.out _ _ HQ.out HG11.out).mono ?_
              rintro e V6 ⟨rfl, hq, hw⟩
              replace HQ := hidW hq
              clear hq hw HG11
              go_wp2_with fail
              refine hK.out _ _ (HS.out _ _ HQ.out) (fun hNew => ?_)
              clear hK K hHeld
              have hHeld := hNew
              clear hNew
              refine anyL_done (by kernel_rfl) ?_ _
              go_wp2
              refine bodyPost_end (v := .tuple #[]) (by simp [results, Try.results34, go_sem]) rfl ?_
              exact ⟨rfl, by rw [HFIN.out]; exact HQ.out.w, HQ.out.r⟩
      · dsimp only [List.getElem_toArray, List.getElem_cons_succ, List.getElem_cons_zero]
        go_simp
        have hq : Qs B b W 23 t a (some ⟨blk, off, none⟩) cap blk off ks _ (V2.alloc (.cells #[.string ⟨#[93]⟩] 9)) ∧ Rw b V2.heap.size [[93]] (V2.alloc (.cells #[.string ⟨#[93]⟩] 9)) ∧ Wrt B b V2 (V2.alloc (.cells #[.string ⟨#[93]⟩] 9)) := HQ.out.row [[93]]
        generalize V2.alloc (.cells #[.string ⟨#[93]⟩] 9) = V3 at *
        generalize V2.heap.size = g11 at *
        replace HG5 := hidW (HG5.out.kept hq.2.2)
        replace HQ := hidW hq.1
        have HG11 := hidW hq.2.1
        clear hq
        refine hK.out _ _ (HS.out _ _ HQ.out) (fun hNew => ?_)
        clear hK K hHeld
        have hHeld := hNew
        clear hNew
        refine anyL_ready (rs := [6]) (by kernel_rfl) (by simp) (ReadyL.cons rfl (fun K hK => ?_) (ReadyL.nil))
        · dsimp only [List.getElem_toArray, List.getElem_cons_succ, List.getElem_cons_zero]
          go_simp
          refine (C1.out _ _ HQ.out HG5.out).mono ?_
          rintro e V4 ⟨rfl, hq, hw⟩
          replace HG11 := hidW (HG11.out.kept hw)
          replace HQ := hidW hq
          clear hq hw HG5
          go_wp2_with fail
          refine hK.out _ _ (HS.out _ _ HQ.out) (fun hNew => ?_)
          clear hK K hHeld
          have hHeld := hNew
          clear hNew
          refine anyL_ready (rs := [10]) (by kernel_rfl) (by simp) (ReadyL.cons rfl (fun K hK => ?_) (ReadyL.nil))
          · dsimp only [List.getElem_toArray, List.getElem_cons_succ, List.getElem_cons_zero]
            go_simp
            refine (C2.out _ HQ.out).mono ?_
            rintro e V5 ⟨rfl, hq, hw⟩
            replace HG11 := hidW (HG11.out.kept hw)
            replace HQ := hidW hq
            clear hq hw
            go_wp2_with fail
            refine hK.out _ _ (HS.out _ _ HQ.out) (fun hNew => ?_)
            clear hK K hHeld
            have hHeld := hNew
            clear hNew
            refine anyL_ready (rs := [12]) (by kernel_rfl) (by simp) (ReadyL.cons rfl (fun K hK => ?_) (ReadyL.nil))
            · dsimp only [List.getElem_toArray, List.getElem_cons_succ, List.getElem_cons_zero]
              go_simp
              refine (C3.out _ _ HQ.out HG11.out).mono ?_
              rintro e V6 ⟨rfl, hq, hw⟩
              replace HQ := hidW hq
              clear hq hw HG11
              go_wp2_with fail
              refine hK.out _ _ (HS.out _ _ HQ.out) (fun hNew => ?_)
              clear hK K hHeld
              have hHeld := hNew
              clear hNew
              refine anyL_done (by kernel_rfl) ?_ _
              go_wp2
              refine bodyPost_end (v := .tuple #[]) (by simp [results, Try.results34, go_sem]) rfl ?_
              exact ⟨rfl, by rw [HFIN.out]; exact HQ.out.w, HQ.out.r⟩
    · dsimp only [List.getElem_toArray, List.getElem_cons_succ, List.getElem_cons_zero]
      go_simp
      have hq : Qs B b W 23 t a (some ⟨blk, off, none⟩) cap blk off ks _ (V1.alloc (.cells #[.string ⟨#[93]⟩] 9)) ∧ Rw b V1.heap.size [[93]] (V1.alloc (.cells #[.string ⟨#[93]⟩] 9)) ∧ Wrt B b V1 (V1.alloc (.cells #[.string ⟨#[93]⟩] 9)) := HQ.out.row [[93]]
      generalize V1.alloc (.cells #[.string ⟨#[93]⟩] 9) = V2 at *
      generalize V1.heap.size = g11 at *
      replace HQ := hidW hq.1
      have HG11 := hidW hq.2.1
      clear hq
      refine hK.out _ _ (HS.out _ _ HQ.out) (fun hNew => ?_)
      clear hK K hHeld
      have hHeld := hNew
      clear hNew
      refine anyL_ready (rs := [5]) (by kernel_rfl) (by simp) (ReadyL.cons rfl (fun K hK => ?_) (ReadyL.nil))
      · dsimp only [List.getElem_toArray, List.getElem_cons_succ, List.getElem_cons_zero]
        go_simp
        have hq : Qs B b W 23 t a (some ⟨blk, off, none⟩) cap blk off ks _ (V2.alloc (.cells #[.string ⟨#[91]⟩] 9)) ∧ Rw b V2.heap.size [[91]] (V2.alloc (.cells #[.string ⟨#[91]⟩] 9)) ∧ Wrt B b V2 (V2.alloc (.cells #[.string ⟨#[91]⟩] 9)) := HQ.out.row [[91]]
        generalize V2.alloc (.cells #[.string ⟨#[91]⟩] 9) = V3 at *
        generalize V2.heap.size = g5 at *
        replace HG11 := hidW (HG11.out.kept hq.2.2)
        replace HQ := hidW hq.1
        have HG5 := hidW hq.2.1
        clear hq
        refine hK.out _ _ (HS.out _ _ HQ.out) (fun hNew => ?_)
        clear hK K hHeld
        have hHeld := hNew
        clear hNew
        refine anyL_ready (rs := [6]) (by kernel_rfl) (by simp) (ReadyL.cons rfl (fun K hK => ?_) (ReadyL.nil))
        · dsimp only [List.getElem_toArray, List.getElem_cons_succ, List.getElem_cons_zero]
          go_simp
          refine (C1.out _ _ HQ.out HG5.out).mono ?_
          rintro e V4 ⟨rfl, hq, hw⟩
          replace HG11 := hidW (HG11.out.kept hw)
          replace HQ := hidW hq
          clear hq hw HG5
          go_wp2_with fail
          refine hK.out _ _ (HS.out _ _ HQ.out) (fun hNew => ?_)
          clear hK K hHeld
          have hHeld := hNew
          clear hNew
          refine anyL_ready (rs := [10]) (by kernel_rfl) (by simp) (ReadyL.cons rfl (fun K hK => ?_) (ReadyL.nil))
          · dsimp only [List.getElem_toArray, List.getElem_cons_succ, List.getElem_cons_zero]
            go_simp
            refine (C2.out _ HQ.out).mono ?_
            rintro e V5 ⟨rfl, hq, hw⟩
            replace HG11 := hidW (HG11.out.kept hw)
            replace HQ := hidW hq
            clear hq hw
            go_wp2_with fail
            refine hK.out _ _ (HS.out _ _ HQ.out) (fun hNew => ?_)
            clear hK K hHeld
            have hHeld := hNew
            clear hNew
            refine anyL_ready (rs := [12]) (by kernel_rfl) (by simp) (ReadyL.cons rfl (fun K hK => ?_) (ReadyL.nil))
            · dsimp only [List.getElem_toArray, List.getElem_cons_succ, List.getElem_cons_zero]
              go_simp
              refine (C3.out _ _ HQ.out HG11.out).mono ?_
              rintro e V6 ⟨rfl, hq, hw⟩
              replace HQ := hidW hq
              clear hq hw HG11
              go_wp2_with fail
              refine hK.out _ _ (HS.out _ _ HQ.out) (fun hNew => ?_)
              clear hK K hHeld
              have hHeld := hNew
              clear hNew
              refine anyL_done (by kernel_rfl) ?_ _
              go_wp2
              refine bodyPost_end (v := .tuple #[]) (by simp [results, Try.results34, go_sem]) rfl ?_
              exact ⟨rfl, by rw [HFIN.out]; exact HQ.out.w, HQ.out.r⟩
  · dsimp only [List.getElem_toArray, List.getElem_cons_succ, List.getElem_cons_zero]
    go_simp
    have hq : Qs B b W 23 t a (some ⟨blk, off, none⟩) cap blk off ks _ (V0.alloc (.cells #[.string ⟨#[91]⟩] 9)) ∧ Rw b V0.heap.size [[91]] (V0.alloc (.cells #[.string ⟨#[91]⟩] 9)) ∧ Wrt B b V0 (V0.alloc (.cells #[.string ⟨#[91]⟩] 9)) := HQ.out.row [[91]]
    generalize V0.alloc (.cells #[.string ⟨#[91]⟩] 9) = V1 at *
    generalize V0.heap.size = g5 at *
    replace HQ := hidW hq.1
    have HG5 := hidW hq.2.1
    clear hq
    refine hK.out _ _ (HS.out _ _ HQ.out) (fun hNew => ?_)
    clear hK K hHeld
    have hHeld := hNew
    clear hNew
    refine anyL_ready (rs := [4, 11]) (by kernel_rfl) (by simp) (ReadyL.cons rfl (fun K hK => ?_) (ReadyL.cons rfl (fun K hK => ?_) (ReadyL.nil)))
    · dsimp only [List.getElem_toArray, List.getElem_cons_succ, List.getElem_cons_zero]
      go_simp
      refine (C0.out _ HQ.out).mono ?_
      rintro e V2 ⟨rfl, hq, hw⟩
      replace HG5 := hidW (HG5.out.kept hw)
      replace HQ := hidW hq
      clear hq hw
      go_wp2_with fail
      refine hK.out _ _ (HS.out _ _ HQ.out) (fun hNew => ?_)
      clear hK K hHeld
      have hHeld := hNew
      clear hNew
      refine anyL_ready (rs := [6, 11]) (by kernel_rfl) (by simp) (ReadyL.cons rfl (fun K hK => ?_) (ReadyL.cons rfl (fun K hK => ?_) (ReadyL.nil)))
      · dsimp only [List.getElem_toArray, List.getElem_cons_succ, List.getElem_cons_zero]
        go_simp
        refine (C1.out _ _ HQ.out HG5.out).mono ?_
        rintro e V3 ⟨rfl, hq, hw⟩
        replace HQ := hidW hq
        clear hq hw HG5
        go_wp2_with fail
        refine hK.out _ _ (HS.out _ _ HQ.out) (fun hNew => ?_)
        clear hK K hHeld
        have hHeld := hNew
        clear hNew
        refine anyL_ready (rs := [10, 11]) (by kernel_rfl) (by simp) (ReadyL.cons rfl (fun K hK => ?_) (ReadyL.cons rfl (fun K hK => ?_) (ReadyL.nil)))
        · dsimp only [List.getElem_toArray, List.getElem_cons_succ, List.getElem_cons_zero]
          go_simp
          refine (C2.out _ HQ.out).mono ?_
          rintro e V4 ⟨rfl, hq, hw⟩
          replace HQ := hidW hq
          clear hq hw
          go_wp2_with fail
          refine hK.out _ _ (HS.out _ _ HQ.out) (fun hNew => ?_)
          clear hK K hHeld
          have hHeld := hNew
          clear hNew
          refine anyL_ready (rs := [11]) (by kernel_rfl) (by simp) (ReadyL.cons rfl (fun K hK => ?_) (ReadyL.nil))
          · dsimp only [List.getElem_toArray, List.getElem_cons_succ, List.getElem_cons_zero]
            go_simp
            have hq : Qs B b W 23 t a (some ⟨blk, off, none⟩) cap blk off ks _ (V4.alloc (.cells #[.string ⟨#[93]⟩] 9)) ∧ Rw b V4.heap.size [[93]] (V4.alloc (.cells #[.string ⟨#[93]⟩] 9)) ∧ Wrt B b V4 (V4.alloc (.cells #[.string ⟨#[93]⟩] 9)) := HQ.out.row [[93]]
            generalize V4.alloc (.cells #[.string ⟨#[93]⟩] 9) = V5 at *
            generalize V4.heap.size = g11 at *
            replace HQ := hidW hq.1
            have HG11 := hidW hq.2.1
            clear hq
            refine hK.out _ _ (HS.out _ _ HQ.out) (fun hNew => ?_)
            clear hK K hHeld
            have hHeld := hNew
            clear hNew
            refine anyL_ready (rs := [12]) (by kernel_rfl) (by simp) (ReadyL.cons rfl (fun K hK => ?_) (ReadyL.nil))
            · dsimp only [List.getElem_toArray, List.getElem_cons_succ, List.getElem_cons_zero]
              go_simp
              refine (C3.out _ _ HQ.out HG11.out).mono ?_
              rintro e V6 ⟨rfl, hq, hw⟩
              replace HQ := hidW hq
              clear hq hw HG11
              go_wp2_with fail
              refine hK.out _ _ (HS.out _ _ HQ.out) (fun hNew => ?_)
              clear hK K hHeld
              have hHeld := hNew
              clear hNew
              refine anyL_done (by kernel_rfl) ?_ _
              go_wp2
              refine bodyPost_end (v := .tuple #[]) (by simp [results, Try.results34, go_sem]) rfl ?_
              exact ⟨rfl, by rw [HFIN.out]; exact HQ.out.w, HQ.out.r⟩
        · dsimp only [List.getElem_toArray, List.getElem_cons_succ, List.getElem_cons_zero]
          go_simp
          have hq : Qs B b W 23 t a (some ⟨blk, off, none⟩) cap blk off ks _ (V3.alloc (.cells #[.string ⟨#[93]⟩] 9)) ∧ Rw b V3.heap.size [[93]] (V3.alloc (.cells #[.string ⟨#[93]⟩] 9)) ∧ Wrt B b V3 (V3.alloc (.cells #[.string ⟨#[93]⟩] 9)) := HQ.out.row [[93]]
          generalize V3.alloc (.cells #[.string ⟨#[93]⟩] 9) = V4 at *
          generalize V3.heap.size = g11 at *
          replace HQ := hidW hq.1
          have HG11 := hidW hq.2.1
          clear hq
          refine hK.out _ _ (HS.out _ _ HQ.out) (fun hNew => ?_)
          clear hK K hHeld
          have hHeld := hNew
          clear hNew
          refine anyL_ready (rs := [10]) (by kernel_rfl) (by simp) (ReadyL.cons rfl (fun K hK => ?_) (ReadyL.nil))
          · dsimp only [List.getElem_toArray, List.getElem_cons_succ, List.getElem_cons_zero]
            go_simp
            refine (C2.out _ HQ.out).mono ?_
            rintro e V5 ⟨rfl, hq, hw⟩
            replace HG11 := hidW (HG11.out.kept hw)
            replace HQ := hidW hq
            clear hq hw
            go_wp2_with fail
            refine hK.out _ _ (HS.out _ _ HQ.out) (fun hNew => ?_)
            clear hK K hHeld
            have hHeld := hNew
            clear hNew
            refine anyL_ready (rs := [12]) (by kernel_rfl) (by simp) (ReadyL.cons rfl (fun K hK => ?_) (ReadyL.nil))
            · dsimp only [List.getElem_toArray, List.getElem_cons_succ, List.getElem_cons_zero]
              go_simp
              refine (C3.out _ _ HQ.out HG11.out).mono ?_
              rintro e V6 ⟨rfl, hq, hw⟩
              replace HQ := hidW hq
              clear hq hw HG11
              go_wp2_with fail
              refine hK.out _ _ (HS.out _ _ HQ.out) (fun hNew => ?_)
              clear hK K hHeld
              have hHeld := hNew
              clear hNew
              refine anyL_done (by kernel_rfl) ?_ _
              go_wp2
              refine bodyPost_end (v := .tuple #[]) (by simp [results, Try.results34, go_sem]) rfl ?_
              exact ⟨rfl, by rw [HFIN.out]; exact HQ.out.w, HQ.out.r⟩
      · dsimp only [List.getElem_toArray, List.getElem_cons_succ, List.getElem_cons_zero]
        go_simp
        have hq : Qs B b W 23 t a (some ⟨blk, off, none⟩) cap blk off ks _ (V2.alloc (.cells #[.string ⟨#[93]⟩] 9)) ∧ Rw b V2.heap.size [[93]] (V2.alloc (.cells #[.string ⟨#[93]⟩] 9)) ∧ Wrt B b V2 (V2.alloc (.cells #[.string ⟨#[93]⟩] 9)) := HQ.out.row [[93]]
        generalize V2.alloc (.cells #[.string ⟨#[93]⟩] 9) = V3 at *
        generalize V2.heap.size = g11 at *
        replace HG5 := hidW (HG5.out.kept hq.2.2)
        replace HQ := hidW hq.1
        have HG11 := hidW hq.2.1
        clear hq
        refine hK.out _ _ (HS.out _ _ HQ.out) (fun hNew => ?_)
        clear hK K hHeld
        have hHeld := hNew
        clear hNew
        refine anyL_ready (rs := [6]) (by kernel_rfl) (by simp) (ReadyL.cons rfl (fun K hK => ?_) (ReadyL.nil))
        · dsimp only [List.getElem_toArray, List.getElem_cons_succ, List.getElem_cons_zero]
          go_simp
          refine (C1.out _ _ HQ.out HG5.out).mono ?_
          rintro e V4 ⟨rfl, hq, hw⟩
          replace HG11 := hidW (HG11.out.kept hw)
          replace HQ := hidW hq
          clear hq hw HG5
          go_wp2_with fail
          refine hK.out _ _ (HS.out _ _ HQ.out) (fun hNew => ?_)
          clear hK K hHeld
          have hHeld := hNew
          clear hNew
          refine anyL_ready (rs := [10]) (by kernel_rfl) (by simp) (ReadyL.cons rfl (fun K hK => ?_) (ReadyL.nil))
          · dsimp only [List.getElem_toArray, List.getElem_cons_succ, List.getElem_cons_zero]
            go_simp
            refine (C2.out _ HQ.out).mono ?_
            rintro e V5 ⟨rfl, hq, hw⟩
            replace HG11 := hidW (HG11.out.kept hw)
            replace HQ := hidW hq
            clear hq hw
            go_wp2_with fail
            refine hK.out _ _ (HS.out _ _ HQ.out) (fun hNew => ?_)
            clear hK K hHeld
            have hHeld := hNew
            clear hNew
            refine anyL_ready (rs := [12]) (by kernel_rfl) (by simp) (ReadyL.cons rfl (fun K hK => ?_) (ReadyL.nil))
            · dsimp only [List.getElem_toArray, List.getElem_cons_succ, List.getElem_cons_zero]
              go_simp
              refine (C3.out _ _ HQ.out HG11.out).mono ?_
              rintro e V6 ⟨rfl, hq, hw⟩
              replace HQ := hidW hq
              clear hq hw HG11
              go_wp2_with fail
              refine hK.out _ _ (HS.out _ _ HQ.out) (fun hNew => ?_)
              clear hK K hHeld
              have hHeld := hNew
              clear hNew
              refine anyL_done (by kernel_rfl) ?_ _
              go_wp2
              refine bodyPost_end (v := .tuple #[]) (by simp [results, Try.results34, go_sem]) rfl ?_
              exact ⟨rfl, by rw [HFIN.out]; exact HQ.out.w, HQ.out.r⟩
    · dsimp only [List.getElem_toArray, List.getElem_cons_succ, List.getElem_cons_zero]
      go_simp
      have hq : Qs B b W 23 t a (some ⟨blk, off, none⟩) cap blk off ks _ (V1.alloc (.cells #[.string ⟨#[93]⟩] 9)) ∧ Rw b V1.heap.size [[93]] (V1.alloc (.cells #[.string ⟨#[93]⟩] 9)) ∧ Wrt B b V1 (V1.alloc (.cells #[.string ⟨#[93]⟩] 9)) := HQ.out.row [[93]]
      generalize V1.alloc (.cells #[.string ⟨#[93]⟩] 9) = V2 at *
      generalize V1.heap.size = g11 at *
      replace HG5 := hidW (HG5.out.kept hq.2.2)
      replace HQ := hidW hq.1
      have HG11 := hidW hq.2.1
      clear hq
      refine hK.out _ _ (HS.out _ _ HQ.out) (fun hNew => ?_)
      clear hK K hHeld
      have hHeld := hNew
      clear hNew
      refine anyL_ready (rs := [4]) (by kernel_rfl) (by simp) (ReadyL.cons rfl (fun K hK => ?_) (ReadyL.nil))
      · dsimp only [List.getElem_toArray, List.getElem_cons_succ, List.getElem_cons_zero]
        go_simp
        refine (C0.out _ HQ.out).mono ?_
        rintro e V3 ⟨rfl, hq, hw⟩
        replace HG5 := hidW (HG5.out.kept hw)
        replace HG11 := hidW (HG11.out.kept hw)
        replace HQ := hidW hq
        clear hq hw
        go_wp2_with fail
        refine hK.out _ _ (HS.out _ _ HQ.out) (fun hNew => ?_)
        clear hK K hHeld
        have hHeld := hNew
        clear hNew
        refine anyL_ready (rs := [6]) (by kernel_rfl) (by simp) (ReadyL.cons rfl (fun K hK => ?_) (ReadyL.nil))
        · dsimp only [List.getElem_toArray, List.getElem_cons_succ, List.getElem_cons_zero]
          go_simp
          refine (C1.out _ _ HQ.out HG5.out).mono ?_
          rintro e V4 ⟨rfl, hq, hw⟩
          replace HG11 := hidW (HG11.out.kept hw)
          replace HQ := hidW hq
          clear hq hw HG5
          go_wp2_with fail
          refine hK.out _ _ (HS.out _ _ HQ.out) (fun hNew => ?_)
          clear hK K hHeld
          have hHeld := hNew
          clear hNew
          refine anyL_ready (rs := [10]) (by kernel_rfl) (by simp) (ReadyL.cons rfl (fun K hK => ?_) (ReadyL.nil))
          · dsimp only [List.getElem_toArray, List.getElem_cons_succ, List.getElem_cons_zero]
            go_simp
            refine (C2.out _ HQ.out).mono ?_
            rintro e V5 ⟨rfl, hq, hw⟩
            replace HG11 := hidW (HG11.out.kept hw)
            replace HQ := hidW hq
            clear hq hw
            go_wp2_with fail
            refine hK.out _ _ (HS.out _ _ HQ.out) (fun hNew => ?_)
            clear hK K hHeld
            have hHeld := hNew
            clear hNew
            refine anyL_ready (rs := [12]) (by kernel_rfl) (by simp) (ReadyL.cons rfl (fun K hK => ?_) (ReadyL.nil))
            · dsimp only [List.getElem_toArray, List.getElem_cons_succ, List.getElem_cons_zero]
              go_simp
              refine (C3.out _ _ HQ.out HG11.out).mono ?_
              rintro e V6 ⟨rfl, hq, hw⟩
              replace HQ := hidW hq
              clear hq hw HG11
              go_wp2_with fail
              refine hK.out _ _ (HS.out _ _ HQ.out) (fun hNew => ?_)
              clear hK K hHeld
              have hHeld := hNew
              clear hNew
              refine anyL_done (by kernel_rfl) ?_ _
              go_wp2
              refine bodyPost_end (v := .tuple #[]) (by simp [results, Try.results34, go_sem]) rfl ?_
              exact ⟨rfl, by rw [HFIN.out]; exact HQ.out.w, HQ.out.r⟩
  · dsimp only [List.getElem_toArray, List.getElem_cons_succ, List.getElem_cons_zero]
    go_simp
    have hq : Qs B b W 23 t a (some ⟨blk, off, none⟩) cap blk off ks _ (V0.alloc (.cells #[.string ⟨#[93]⟩] 9)) ∧ Rw b V0.heap.size [[93]] (V0.alloc (.cells #[.string ⟨#[93]⟩] 9)) ∧ Wrt B b V0 (V0.alloc (.cells #[.string ⟨#[93]⟩] 9)) := HQ.out.row [[93]]
    generalize V0.alloc (.cells #[.string ⟨#[93]⟩] 9) = V1 at *
    generalize V0.heap.size = g11 at *
    replace HQ := hidW hq.1
    have HG11 := hidW hq.2.1
    clear hq
    refine hK.out _ _ (HS.out _ _ HQ.out) (fun hNew => ?_)
    clear hK K hHeld
    have hHeld := hNew
    clear hNew
    refine anyL_ready (rs := [4, 5]) (by kernel_rfl) (by simp) (ReadyL.cons rfl (fun K hK => ?_) (ReadyL.cons rfl (fun K hK => ?_) (ReadyL.nil)))
    · dsimp only [List.getElem_toArray, List.getElem_cons_succ, List.getElem_cons_zero]
      go_simp
      refine (C0.out _ HQ.out).mono ?_
      rintro e V2 ⟨rfl, hq, hw⟩
      replace HG11 := hidW (HG11.out.kept hw)
      replace HQ := hidW hq
      clear hq hw
      go_wp2_with fail
      refine hK.out _ _ (HS.out _ _ HQ.out) (fun hNew => ?_)
      clear hK K hHeld
      have hHeld := hNew
      clear hNew
      refine anyL_ready (rs := [5]) (by kernel_rfl) (by simp) (ReadyL.cons rfl (fun K hK => ?_) (ReadyL.nil))
      · dsimp only [List.getElem_toArray, List.getElem_cons_succ, List.getElem_cons_zero]
        go_simp
        have hq : Qs B b W 23 t a (some ⟨blk, off, none⟩) cap blk off ks _ (V2.alloc (.cells #[.string ⟨#[91]⟩] 9)) ∧ Rw b V2.heap.size [[91]] (V2.alloc (.cells #[.string ⟨#[91]⟩] 9)) ∧ Wrt B b V2 (V2.alloc (.cells #[.string ⟨#[91]⟩] 9)) := HQ.out.row [[91]]
        generalize V2.alloc (.cells #[.string ⟨#[91]⟩] 9) = V3 at *
        generalize V2.heap.size = g5 at *
        replace HG11 := hidW (HG11.out.kept hq.2.2)
        replace HQ := hidW hq.1
        have HG5 := hidW hq.2.1
        clear hq
        refine hK.out _ _ (HS.out _ _ HQ.out) (fun hNew => ?_)
        clear hK K hHeld
        have hHeld := hNew
        clear hNew
        refine anyL_ready (rs := [6]) (by kernel_rfl) (by simp) (ReadyL.cons rfl (fun K hK => ?_) (ReadyL.nil))
        · dsimp only [List.getElem_toArray, List.getElem_cons_succ, List.getElem_cons_zero]
          go_simp
          refine (C1.out _ _ HQ.out HG5.out).mono ?_
          rintro e V4 ⟨rfl, hq, hw⟩
          replace HG11 := hidW (HG11.out.kept hw)
          replace HQ := hidW hq
          clear hq hw HG5
          go_wp2_with fail
          refine hK.out _ _ (HS.out _ _ HQ.out) (fun hNew => ?_)
          clear hK K hHeld
          have hHeld := hNew
          clear hNew
          refine anyL_ready (rs := [10]) (by kernel_rfl) (by simp) (ReadyL.cons rfl (fun K hK => ?_) (ReadyL.nil))
          · dsimp only [List.getElem_toArray, List.getElem_cons_succ, List.getElem_cons_zero]
            go_simp
            refine (C2.out _ HQ.out).mono ?_
            rintro e V5 ⟨rfl, hq, hw⟩
            replace HG11 := hidW (HG11.out.kept hw)
            replace HQ := hidW hq
            clear hq hw
            go_wp2_with fail
            refine hK.out _ _ (HS.out _ _ HQ.out) (fun hNew => ?_)
            clear hK K hHeld
            have hHeld := hNew
            clear hNew
            refine anyL_ready (rs := [12]) (by kernel_rfl) (by simp) (ReadyL.cons rfl (fun K hK => ?_) (ReadyL.nil))
            · dsimp only [List.getElem_toArray, List.getElem_cons_succ, List.getElem_cons_zero]
              go_simp
              refine (C3.out _ _ HQ.out HG11.out).mono ?_
              rintro e V6 ⟨rfl, hq, hw⟩
              replace HQ := hidW hq
              clear hq hw HG11
              go_wp2_with fail
              refine hK.out _ _ (HS.out _ _ HQ.out) (fun hNew => ?_)
              clear hK K hHeld
              have hHeld := hNew
              clear hNew
              refine anyL_done (by kernel_rfl) ?_ _
              go_wp2
              refine bodyPost_end (v := .tuple #[]) (by simp [results, Try.results34, go_sem]) rfl ?_
              exact ⟨rfl, by rw [HFIN.out]; exact HQ.out.w, HQ.out.r⟩
    · dsimp only [List.getElem_toArray, List.getElem_cons_succ, List.getElem_cons_zero]
      go_simp
      have hq : Qs B b W 23 t a (some ⟨blk, off, none⟩) cap blk off ks _ (V1.alloc (.cells #[.string ⟨#[91]⟩] 9)) ∧ Rw b V1.heap.size [[91]] (V1.alloc (.cells #[.string ⟨#[91]⟩] 9)) ∧ Wrt B b V1 (V1.alloc (.cells #[.string ⟨#[91]⟩] 9)) := HQ.out.row [[91]]
      generalize V1.alloc (.cells #[.string ⟨#[91]⟩] 9) = V2 at *
      generalize V1.heap.size = g5 at *
      replace HG11 := hidW (HG11.out.kept hq.2.2)
      replace HQ := hidW hq.1
      have HG5 := hidW hq.2.1
      clear hq
      refine hK.out _ _ (HS.out _ _ HQ.out) (fun hNew => ?_)
      clear hK K hHeld
      have hHeld := hNew
      clear hNew
      refine anyL_ready (rs := [4]) (by kernel_rfl) (by simp) (ReadyL.cons rfl (fun K hK => ?_) (ReadyL.nil))
      · dsimp only [List.getElem_toArray, List.getElem_cons_succ, List.getElem_cons_zero]
        go_simp
        refine (C0.out _ HQ.out).mono ?_
        rintro e V3 ⟨rfl, hq, hw⟩
        replace HG5 := hidW (HG5.out.kept hw)
        replace HG11 := hidW (HG11.out.kept hw)
        replace HQ := hidW hq
        clear hq hw
        go_wp2_with fail
        refine hK.out _ _ (HS.out _ _ HQ.out) (fun hNew => ?_)
        clear hK K hHeld
        have hHeld := hNew
        clear hNew
        refine anyL_ready (rs := [6]) (by kernel_rfl) (by simp) (ReadyL.cons rfl (fun K hK => ?_) (ReadyL.nil))
        · dsimp only [List.getElem_toArray, List.getElem_cons_succ, List.getElem_cons_zero]
          go_simp
          refine (C1.out _ _ HQ.out HG5.out).mono ?_
          rintro e V4 ⟨rfl, hq, hw⟩
          replace HG11 := hidW (HG11.out.kept hw)
          replace HQ := hidW hq
          clear hq hw HG5
          go_wp2_with fail
          refine hK.out _ _ (HS.out _ _ HQ.out) (fun hNew => ?_)
          clear hK K hHeld
          have hHeld := hNew
          clear hNew
          refine anyL_ready (rs := [10]) (by kernel_rfl) (by simp) (ReadyL.cons rfl (fun K hK => ?_) (ReadyL.nil))
          · dsimp only [List.getElem_toArray, List.getElem_cons_succ, List.getElem_cons_zero]
            go_simp
            refine (C2.out _ HQ.out).mono ?_
            rintro e V5 ⟨rfl, hq, hw⟩
            replace HG11 := hidW (HG11.out.kept hw)
            replace HQ := hidW hq
            clear hq hw
            go_wp2_with fail
            refine hK.out _ _ (HS.out _ _ HQ.out) (fun hNew => ?_)
            clear hK K hHeld
            have hHeld := hNew
            clear hNew
            refine anyL_ready (rs := [12]) (by kernel_rfl) (by simp) (ReadyL.cons rfl (fun K hK => ?_) (ReadyL.nil))
            · dsimp only [List.getElem_toArray, List.getElem_cons_succ, List.getElem_cons_zero]
              go_simp
              refine (C3.out _ _ HQ.out HG11.out).mono ?_
              rintro e V6 ⟨rfl, hq, hw⟩
              replace HQ := hidW hq
              clear hq hw HG11
              go_wp2_with fail
              refine hK.out _ _ (HS.out _ _ HQ.out) (fun hNew => ?_)
              clear hK K hHeld
              have hHeld := hNew
              clear hNew
              refine anyL_done (by kernel_rfl) ?_ _
              go_wp2
              refine bodyPost_end (v := .tuple #[]) (by simp [results, Try.results34, go_sem]) rfl ?_
              exact ⟨rfl, by rw [HFIN.out]; exact HQ.out.w, HQ.out.r⟩

set_option maxRecDepth 100000 in
set_option maxHeartbeats 16000000 in
theorem wr_24 {B b z : Nat} (IH : NodeTo B b z) {x : Ws} {W : World} (h : WrAt B b x W) {t : List UInt8} {a : Int} {av : Option Addr} {cap blk off : Nat} {ks : List Nv} (hr : RowB B W av blk off ks) (hz : szL (ndL ks) ≤ z) (hlen : x.l.length + (t.length + 60 + nedL (ndL ks)) ≤ 140737488355328) (hk : 1 ≤ ks.length) (_hcap : ks.length ≤ cap) :
    Calls Try.prog 34 #[.pointer (some ⟨b, 0, none⟩), .agg #[.int .i64 24, .string (bs t), .int .i64 a, .slice av ks.length cap]] W fun e W' => e = .returned (.tuple #[]) ∧ WrAt B b (appL (rowP 24 t (txtL (ndL ks))) x) W' ∧ Wrt B b W W' := by
  have hi0 : 0 < ks.length := by omega
  obtain ⟨n0, he0⟩ : ∃ n, ks[0]'hi0 = n := ⟨_, rfl⟩
  have hned := ned_at1 hi0 he0
  have hg0 := txt_at hi0 he0
  obtain ⟨k0, t0, a0, v0, c0, b0, o0, s0⟩ := n0
  obtain rfl := hr.row.at_ (by omega)
  have HFIN := hidW (show appL (rowP 24 t (txtL (ndL ks))) x = (appL [[46], t] (app1 (txt (Nv.mk k0 t0 a0 v0 c0 b0 o0 s0).nd) x)) from by rw [rowP_24, hg0] <;> rfl)
  have L0 : x.l.length + (ned (Nv.mk k0 t0 a0 v0 c0 b0 o0 s0).nd + 4 + (room [[46], t] + (0))) ≤ 140737488355328 := by simp only [room_cons, room_nil, List.length_cons, List.length_nil]; omega
  have L1 := node_room _ _ _ L0
  have C0 := hidW (fun (V : World) (h : Qs B b W 24 t a (some ⟨blk, off, none⟩) cap blk off ks x V) => h.node IH hz hi0 he0 (by omega))
  have C1 := hidW (fun (V : World) (g : Nat) (h : Qs B b W 24 t a (some ⟨blk, off, none⟩) cap blk off ks (app1 (txt (Nv.mk k0 t0 a0 v0 c0 b0 o0 s0).nd) x) V) (hg : Rw b g [[46], t] V) => h.put [[46], t] (by omega) (by simp) hg)
  have HQ := hidW (Qs.start (k := 24) (t := t) (a := a) (cap := cap) h hr)
  have HS := hidW (fun (V : World) (y : Ws) (hN : Qs B b W 24 t a (some ⟨blk, off, none⟩) cap blk off ks y V) => (show (V.cell? ⟨W.heap.size, 1, none⟩ = some (.string (bs t))) ∧ (V.cell? ⟨blk, off, none⟩ = some (.int .i64 k0)) ∧ (V.cell? ⟨blk, off + 1, none⟩ = some (.string (bs t0))) ∧ (V.cell? ⟨blk, off + 2, none⟩ = some (.int .i64 a0)) ∧ (V.cell? ⟨blk, off + 3, none⟩ = some (.slice v0 s0.length c0)) from ⟨hN.n.text.2.1, (hN.n.kid0 hi0 he0).1, (hN.n.kid0 hi0 he0).2.1, (hN.n.kid0 hi0 he0).2.2.1, (hN.n.kid0 hi0 he0).2.2.2⟩))
  obtain ⟨q0, -, q3⟩ := HQ.out.n.text
  clear h hr hlen L0 L1 he0 hg0 hned
  go_enter Try.func34, Try.ntmps34
  go_wp2_with fail
  refine region_late (fun V => (V.cell? ⟨W.heap.size, 1, none⟩ = some (.string (bs t))) ∧ (V.cell? ⟨blk, off, none⟩ = some (.int .i64 k0)) ∧ (V.cell? ⟨blk, off + 1, none⟩ = some (.string (bs t0))) ∧ (V.cell? ⟨blk, off + 2, none⟩ = some (.int .i64 a0)) ∧ (V.cell? ⟨blk, off + 3, none⟩ = some (.slice v0 s0.length c0))) 99 (by kernel_rfl) ?_
  replace HQ := hidW HQ.out.drew
  clear q0 q3
  generalize (W.alloc (.cells #[.int .i64 24, .string (bs t), .int .i64 a, .slice (some ⟨blk, off, none⟩) ks.length cap] 24)).drew = V0 at *
  have hHeld := HS.out _ _ HQ.out
  refine anyL_tk 0 (v := ?_) rfl (by kernel_rfl) (fun _ _ _ h => h) hHeld (by rfl) ?_ ?_
  rotate_left 1
  · intro w hSw; (try dsimp only at hSw); go_simp; try with_reducible rfl
  refine anyL_tk 1 (v := ?_) rfl (by kernel_rfl) (fun _ _ _ h => h) hHeld (by rfl) ?_ ?_
  rotate_left 1
  · intro w hSw; (try dsimp only at hSw); go_simp; try with_reducible rfl
  refine anyL_tk 2 (v := ?_) rfl (by kernel_rfl) (fun _ _ _ h => h) hHeld (by rfl) ?_ ?_
  rotate_left 1
  · intro w hSw; (try dsimp only at hSw); go_simp; try with_reducible rfl
  refine anyL_tk 3 (v := ?_) rfl (by kernel_rfl) (fun _ _ _ h => h) hHeld (by rfl) ?_ ?_
  rotate_left 1
  · intro w hSw; (try dsimp only at hSw); go_simp; try with_reducible rfl
  refine anyL_tk 5 (v := ?_) rfl (by kernel_rfl) (fun _ _ _ h => h) hHeld (by rfl) ?_ ?_
  rotate_left 1
  · intro w hSw; (try dsimp only at hSw); go_simp; try with_reducible rfl
  refine anyL_tk 6 (v := ?_) rfl (by kernel_rfl) (fun _ _ _ h => h) hHeld (by rfl) ?_ ?_
  rotate_left 1
  · intro w hSw; (try dsimp only at hSw); go_simp; try with_reducible rfl
  refine anyL_ready (rs := [4, 7]) (by kernel_rfl) (by simp) (ReadyL.cons rfl (fun K hK => ?_) (ReadyL.cons rfl (fun K hK => ?_) (ReadyL.nil)))
  · dsimp only [List.getElem_toArray, List.getElem_cons_succ, List.getElem_cons_zero]
    go_simp
    refine (C0.out _ HQ.out).mono ?_
    rintro e V1 ⟨rfl, hq, hw⟩
    replace HQ := hidW hq
    clear hq hw
    go_wp2_with fail
    refine hK.out _ _ (HS.out _ _ HQ.out) (fun hNew => ?_)
    clear hK K hHeld
    have hHeld := hNew
    clear hNew
    refine anyL_ready (rs := [7]) (by kernel_rfl) (by simp) (ReadyL.cons rfl (fun K hK => ?_) (ReadyL.nil))
    · dsimp only [List.getElem_toArray, List.getElem_cons_succ, List.getElem_cons_zero]
      go_simp
      have hq : Qs B b W 24 t a (some ⟨blk, off, none⟩) cap blk off ks _ (V1.alloc (.cells #[.string ⟨#[46]⟩, .string (bs t)] 9)) ∧ Rw b V1.heap.size [[46], t] (V1.alloc (.cells #[.string ⟨#[46]⟩, .string (bs t)] 9)) ∧ Wrt B b V1 (V1.alloc (.cells #[.string ⟨#[46]⟩, .string (bs t)] 9)) := HQ.out.row [[46], t]
      generalize V1.alloc (.cells #[.string ⟨#[46]⟩, .string (bs t)] 9) = V2 at *
      generalize V1.heap.size = g7 at *
      replace HQ := hidW hq.1
      have HG7 := hidW hq.2.1
      clear hq
      refine hK.out _ _ (HS.out _ _ HQ.out) (fun hNew => ?_)
      clear hK K hHeld
      have hHeld := hNew
      clear hNew
      refine anyL_ready (rs := [8]) (by kernel_rfl) (by simp) (ReadyL.cons rfl (fun K hK => ?_) (ReadyL.nil))
      · dsimp only [List.getElem_toArray, List.getElem_cons_succ, List.getElem_cons_zero]
        go_simp
        refine (C1.out _ _ HQ.out HG7.out).mono ?_
        rintro e V3 ⟨rfl, hq, hw⟩
        replace HQ := hidW hq
        clear hq hw HG7
        go_wp2_with fail
        refine hK.out _ _ (HS.out _ _ HQ.out) (fun hNew => ?_)
        clear hK K hHeld
        have hHeld := hNew
        clear hNew
        refine anyL_done (by kernel_rfl) ?_ _
        go_wp2
        refine bodyPost_end (v := .tuple #[]) (by simp [results, Try.results34, go_sem]) rfl ?_
        exact ⟨rfl, by rw [HFIN.out]; exact HQ.out.w, HQ.out.r⟩
  · dsimp only [List.getElem_toArray, List.getElem_cons_succ, List.getElem_cons_zero]
    go_simp
    have hq : Qs B b W 24 t a (some ⟨blk, off, none⟩) cap blk off ks _ (V0.alloc (.cells #[.string ⟨#[46]⟩, .string (bs t)] 9)) ∧ Rw b V0.heap.size [[46], t] (V0.alloc (.cells #[.string ⟨#[46]⟩, .string (bs t)] 9)) ∧ Wrt B b V0 (V0.alloc (.cells #[.string ⟨#[46]⟩, .string (bs t)] 9)) := HQ.out.row [[46], t]
    generalize V0.alloc (.cells #[.string ⟨#[46]⟩, .string (bs t)] 9) = V1 at *
    generalize V0.heap.size = g7 at *
    replace HQ := hidW hq.1
    have HG7 := hidW hq.2.1
    clear hq
    refine hK.out _ _ (HS.out _ _ HQ.out) (fun hNew => ?_)
    clear hK K hHeld
    have hHeld := hNew
    clear hNew
    refine anyL_ready (rs := [4]) (by kernel_rfl) (by simp) (ReadyL.cons rfl (fun K hK => ?_) (ReadyL.nil))
    · dsimp only [List.getElem_toArray, List.getElem_cons_succ, List.getElem_cons_zero]
      go_simp
      refine (C0.out _ HQ.out).mono ?_
      rintro e V2 ⟨rfl, hq, hw⟩
      replace HG7 := hidW (HG7.out.kept hw)
      replace HQ := hidW hq
      clear hq hw
      go_wp2_with fail
      refine hK.out _ _ (HS.out _ _ HQ.out) (fun hNew => ?_)
      clear hK K hHeld
      have hHeld := hNew
      clear hNew
      refine anyL_ready (rs := [8]) (by kernel_rfl) (by simp) (ReadyL.cons rfl (fun K hK => ?_) (ReadyL.nil))
      · dsimp only [List.getElem_toArray, List.getElem_cons_succ, List.getElem_cons_zero]
        go_simp
        refine (C1.out _ _ HQ.out HG7.out).mono ?_
        rintro e V3 ⟨rfl, hq, hw⟩
        replace HQ := hidW hq
        clear hq hw HG7
        go_wp2_with fail
        refine hK.out _ _ (HS.out _ _ HQ.out) (fun hNew => ?_)
        clear hK K hHeld
        have hHeld := hNew
        clear hNew
        refine anyL_done (by kernel_rfl) ?_ _
        go_wp2
        refine bodyPost_end (v := .tuple #[]) (by simp [results, Try.results34, go_sem]) rfl ?_
        exact ⟨rfl, by rw [HFIN.out]; exact HQ.out.w, HQ.out.r⟩

set_option maxRecDepth 100000 in
set_option maxHeartbeats 16000000 in
theorem wr_25 {B b z : Nat} (IH : NodeTo B b z) {x : Ws} {W : World} (h : WrAt B b x W) {t : List UInt8} {a : Int} {av : Option Addr} {cap blk off : Nat} {ks : List Nv} (hr : RowB B W av blk off ks) (hz : szL (ndL ks) ≤ z) (hlen : x.l.length + (t.length + 60 + nedL (ndL ks)) ≤ 140737488355328) (_hk : 0 ≤ ks.length) (_hcap : ks.length ≤ cap) :
    Calls Try.prog 34 #[.pointer (some ⟨b, 0, none⟩), .agg #[.int .i64 25, .string (bs t), .int .i64 a, .slice av ks.length cap]] W fun e W' => e = .returned (.tuple #[]) ∧ WrAt B b (appL (rowP 25 t (txtL (ndL ks))) x) W' ∧ Wrt B b W W' := by
  have HFIN := hidW (show appL (rowP 25 t (txtL (ndL ks))) x = (appL [[41]] (appL (inter (txtL (ndL ks))) (appL [t, [40]] x))) from by rw [rowP_25, appL_append, appL_append] <;> rfl)
  have L0 : x.l.length + (room [t, [40]] + (nedL (ndL ks) + (room [[41]] + (0)))) ≤ 140737488355328 := by simp only [room_cons, room_nil, List.length_cons, List.length_nil]; omega
  have L1 := put_room _ _ _ L0
  have L2 := list_room _ _ _ L1
  have C0 := hidW (fun (V : World) (g : Nat) (h : Qs B b W 25 t a av cap blk off ks x V) (hg : Rw b g [t, [40]] V) => h.put [t, [40]] (by omega) (by simp) hg)
  have C1 := hidW (fun (V : World) (h : Qs B b W 25 t a av cap blk off ks (appL [t, [40]] x) V) => h.list (cap2 := cap) IH hz (by omega) (fun _ h => h) _ rfl)
  have C2 := hidW (fun (V : World) (g : Nat) (h : Qs B b W 25 t a av cap blk off ks (appL (inter (txtL (ndL ks))) (appL [t, [40]] x)) V) (hg : Rw b g [[41]] V) => h.put [[41]] (by omega) (by simp) hg)
  have HQ := hidW (Qs.start (k := 25) (t := t) (a := a) (cap := cap) h hr)
  obtain ⟨q0, -, q3⟩ := HQ.out.n.text
  clear h hr hlen L0 L1 L2
  go_enter Try.func34, Try.ntmps34
  have hq : Qs B b W 25 t a av cap blk off ks _ ((W.alloc (.cells #[.int .i64 25, .string (bs t), .int .i64 a, .slice av ks.length cap] 24)).alloc (.cells #[.string (bs t), .string ⟨#[40]⟩] 9)) ∧ Rw b (W.alloc (.cells #[.int .i64 25, .string (bs t), .int .i64 a, .slice av ks.length cap] 24)).heap.size [t, [40]] ((W.alloc (.cells #[.int .i64 25, .string (bs t), .int .i64 a, .slice av ks.length cap] 24)).alloc (.cells #[.string (bs t), .string ⟨#[40]⟩] 9)) ∧ Wrt B b (W.alloc (.cells #[.int .i64 25, .string (bs t), .int .i64 a, .slice av ks.length cap] 24)) ((W.alloc (.cells #[.int .i64 25, .string (bs t), .int .i64 a, .slice av ks.length cap] 24)).alloc (.cells #[.string (bs t), .string ⟨#[40]⟩] 9)) := HQ.out.row [t, [40]]
  rw [World.size_alloc] at hq
  replace HQ := hidW hq.1
  have HG3 := hidW hq.2.1
  clear hq
  obtain ⟨-, q1, -⟩ := HQ.out.n.text
  have HC := hidW (C0.out _ _ HQ.out HG3.out)
  go_wp2_with fail
  refine HC.out.mono ?_
  clear HC
  rintro e V1 ⟨rfl, hq, hw⟩
  replace HQ := hidW hq
  clear hq hw
  obtain ⟨-, q1, -⟩ := HQ.out.n.text
  have HC := hidW (C1.out _ HQ.out)
  go_wp2_with fail
  refine HC.out.mono ?_
  clear HC
  rintro e V2 ⟨rfl, hq, hw⟩
  replace HQ := hidW hq
  clear hq hw
  have hq : Qs B b W 25 t a av cap blk off ks _ (V2.alloc (.cells #[.string ⟨#[41]⟩] 9)) ∧ Rw b V2.heap.size [[41]] (V2.alloc (.cells #[.string ⟨#[41]⟩] 9)) ∧ Wrt B b V2 (V2.alloc (.cells #[.string ⟨#[41]⟩] 9)) := HQ.out.row [[41]]
  replace HQ := hidW hq.1
  have HG7 := hidW hq.2.1
  clear hq
  obtain ⟨-, q1, -⟩ := HQ.out.n.text
  have HC := hidW (C2.out _ _ HQ.out HG7.out)
  go_wp2_with fail
  refine HC.out.mono ?_
  clear HC
  rintro e V3 ⟨rfl, hq, hw⟩
  replace HQ := hidW hq
  clear hq hw
  go_wp2
  refine bodyPost_end (v := .tuple #[]) (by simp [results, Try.results34, go_sem]) rfl ?_
  exact ⟨rfl, by rw [HFIN.out]; exact HQ.out.w, HQ.out.r⟩

set_option maxRecDepth 100000 in
set_option maxHeartbeats 16000000 in
theorem wr_26 {B b z : Nat} (IH : NodeTo B b z) {x : Ws} {W : World} (h : WrAt B b x W) {t : List UInt8} {a : Int} {av : Option Addr} {cap blk off : Nat} {ks : List Nv} (hr : RowB B W av blk off ks) (hz : szL (ndL ks) ≤ z) (hlen : x.l.length + (t.length + 60 + nedL (ndL ks)) ≤ 140737488355328) (hk : 1 ≤ ks.length) (_hcap : ks.length ≤ cap) :
    Calls Try.prog 34 #[.pointer (some ⟨b, 0, none⟩), .agg #[.int .i64 26, .string (bs t), .int .i64 a, .slice av ks.length cap]] W fun e W' => e = .returned (.tuple #[]) ∧ WrAt B b (appL (rowP 26 t (txtL (ndL ks))) x) W' ∧ Wrt B b W W' := by
  have hi0 : 0 < ks.length := by omega
  obtain ⟨n0, he0⟩ : ∃ n, ks[0]'hi0 = n := ⟨_, rfl⟩
  have hned := ned_at1 hi0 he0
  have hg0 := txt_at hi0 he0
  obtain ⟨k0, t0, a0, v0, c0, b0, o0, s0⟩ := n0
  obtain rfl := hr.row.at_ (by omega)
  have HFIN := hidW (show appL (rowP 26 t (txtL (ndL ks))) x = (appL [[41]] (app1 (txt (Nv.mk k0 t0 a0 v0 c0 b0 o0 s0).nd) (appL [[110, 101, 119], [40]] x))) from by rw [rowP_26, hg0] <;> rfl)
  have L0 : x.l.length + (room [[110, 101, 119], [40]] + (ned (Nv.mk k0 t0 a0 v0 c0 b0 o0 s0).nd + 4 + (room [[41]] + (0)))) ≤ 140737488355328 := by simp only [room_cons, room_nil, List.length_cons, List.length_nil]; omega
  have L1 := put_room _ _ _ L0
  have L2 := node_room _ _ _ L1
  have C0 := hidW (fun (V : World) (g : Nat) (h : Qs B b W 26 t a (some ⟨blk, off, none⟩) cap blk off ks x V) (hg : Rw b g [[110, 101, 119], [40]] V) => h.put [[110, 101, 119], [40]] (by omega) (by simp) hg)
  have C1 := hidW (fun (V : World) (h : Qs B b W 26 t a (some ⟨blk, off, none⟩) cap blk off ks (appL [[110, 101, 119], [40]] x) V) => h.node IH hz hi0 he0 (by omega))
  have C2 := hidW (fun (V : World) (g : Nat) (h : Qs B b W 26 t a (some ⟨blk, off, none⟩) cap blk off ks (app1 (txt (Nv.mk k0 t0 a0 v0 c0 b0 o0 s0).nd) (appL [[110, 101, 119], [40]] x)) V) (hg : Rw b g [[41]] V) => h.put [[41]] (by omega) (by simp) hg)
  have HQ := hidW (Qs.start (k := 26) (t := t) (a := a) (cap := cap) h hr)
  have HS := hidW (fun (V : World) (y : Ws) (hN : Qs B b W 26 t a (some ⟨blk, off, none⟩) cap blk off ks y V) => (show (V.cell? ⟨blk, off, none⟩ = some (.int .i64 k0)) ∧ (V.cell? ⟨blk, off + 1, none⟩ = some (.string (bs t0))) ∧ (V.cell? ⟨blk, off + 2, none⟩ = some (.int .i64 a0)) ∧ (V.cell? ⟨blk, off + 3, none⟩ = some (.slice v0 s0.length c0)) from ⟨(hN.n.kid0 hi0 he0).1, (hN.n.kid0 hi0 he0).2.1, (hN.n.kid0 hi0 he0).2.2.1, (hN.n.kid0 hi0 he0).2.2.2⟩))
  obtain ⟨q0, -, q3⟩ := HQ.out.n.text
  clear h hr hlen L0 L1 L2 he0 hg0 hned
  go_enter Try.func34, Try.ntmps34
  go_wp2_with fail
  refine region_late (fun V => (V.cell? ⟨blk, off, none⟩ = some (.int .i64 k0)) ∧ (V.cell? ⟨blk, off + 1, none⟩ = some (.string (bs t0))) ∧ (V.cell? ⟨blk, off + 2, none⟩ = some (.int .i64 a0)) ∧ (V.cell? ⟨blk, off + 3, none⟩ = some (.slice v0 s0.length c0))) 99 (by kernel_rfl) ?_
  replace HQ := hidW HQ.out.drew
  clear q0 q3
  generalize (W.alloc (.cells #[.int .i64 26, .string (bs t), .int .i64 a, .slice (some ⟨blk, off, none⟩) ks.length cap] 24)).drew = V0 at *
  have hHeld := HS.out _ _ HQ.out
  refine anyL_tk 0 (v := ?_) rfl (by kernel_rfl) (fun _ _ _ h => h) hHeld (by rfl) ?_ ?_
  rotate_left 1
  · intro w hSw; (try dsimp only at hSw); go_simp; try with_reducible rfl
  refine anyL_tk 3 (v := ?_) rfl (by kernel_rfl) (fun _ _ _ h => h) hHeld (by rfl) ?_ ?_
  rotate_left 1
  · intro w hSw; (try dsimp only at hSw); go_simp; try with_reducible rfl
  refine anyL_tk 4 (v := ?_) rfl (by kernel_rfl) (fun _ _ _ h => h) hHeld (by rfl) ?_ ?_
  rotate_left 1
  · intro w hSw; (try dsimp only at hSw); go_simp; try with_reducible rfl
  refine anyL_tk 5 (v := ?_) rfl (by kernel_rfl) (fun _ _ _ h => h) hHeld (by rfl) ?_ ?_
  rotate_left 1
  · intro w hSw; (try dsimp only at hSw); go_simp; try with_reducible rfl
  refine anyL_ready (rs := [1, 7]) (by kernel_rfl) (by simp) (ReadyL.cons rfl (fun K hK => ?_) (ReadyL.cons rfl (fun K hK => ?_) (ReadyL.nil)))
  · dsimp only [List.getElem_toArray, List.getElem_cons_succ, List.getElem_cons_zero]
    go_simp
    have hq : Qs B b W 26 t a (some ⟨blk, off, none⟩) cap blk off ks _ (V0.alloc (.cells #[.string ⟨#[110, 101, 119]⟩, .string ⟨#[40]⟩] 9)) ∧ Rw b V0.heap.size [[110, 101, 119], [40]] (V0.alloc (.cells #[.string ⟨#[110, 101, 119]⟩, .string ⟨#[40]⟩] 9)) ∧ Wrt B b V0 (V0.alloc (.cells #[.string ⟨#[110, 101, 119]⟩, .string ⟨#[40]⟩] 9)) := HQ.out.row [[110, 101, 119], [40]]
    generalize V0.alloc (.cells #[.string ⟨#[110, 101, 119]⟩, .string ⟨#[40]⟩] 9) = V1 at *
    generalize V0.heap.size = g1 at *
    replace HQ := hidW hq.1
    have HG1 := hidW hq.2.1
    clear hq
    refine hK.out _ _ (HS.out _ _ HQ.out) (fun hNew => ?_)
    clear hK K hHeld
    have hHeld := hNew
    clear hNew
    refine anyL_ready (rs := [2, 7]) (by kernel_rfl) (by simp) (ReadyL.cons rfl (fun K hK => ?_) (ReadyL.cons rfl (fun K hK => ?_) (ReadyL.nil)))
    · dsimp only [List.getElem_toArray, List.getElem_cons_succ, List.getElem_cons_zero]
      go_simp
      refine (C0.out _ _ HQ.out HG1.out).mono ?_
      rintro e V2 ⟨rfl, hq, hw⟩
      replace HQ := hidW hq
      clear hq hw HG1
      go_wp2_with fail
      refine hK.out _ _ (HS.out _ _ HQ.out) (fun hNew => ?_)
      clear hK K hHeld
      have hHeld := hNew
      clear hNew
      refine anyL_ready (rs := [6, 7]) (by kernel_rfl) (by simp) (ReadyL.cons rfl (fun K hK => ?_) (ReadyL.cons rfl (fun K hK => ?_) (ReadyL.nil)))
      · dsimp only [List.getElem_toArray, List.getElem_cons_succ, List.getElem_cons_zero]
        go_simp
        refine (C1.out _ HQ.out).mono ?_
        rintro e V3 ⟨rfl, hq, hw⟩
        replace HQ := hidW hq
        clear hq hw
        go_wp2_with fail
        refine hK.out _ _ (HS.out _ _ HQ.out) (fun hNew => ?_)
        clear hK K hHeld
        have hHeld := hNew
        clear hNew
        refine anyL_ready (rs := [7]) (by kernel_rfl) (by simp) (ReadyL.cons rfl (fun K hK => ?_) (ReadyL.nil))
        · dsimp only [List.getElem_toArray, List.getElem_cons_succ, List.getElem_cons_zero]
          go_simp
          have hq : Qs B b W 26 t a (some ⟨blk, off, none⟩) cap blk off ks _ (V3.alloc (.cells #[.string ⟨#[41]⟩] 9)) ∧ Rw b V3.heap.size [[41]] (V3.alloc (.cells #[.string ⟨#[41]⟩] 9)) ∧ Wrt B b V3 (V3.alloc (.cells #[.string ⟨#[41]⟩] 9)) := HQ.out.row [[41]]
          generalize V3.alloc (.cells #[.string ⟨#[41]⟩] 9) = V4 at *
          generalize V3.heap.size = g7 at *
          replace HQ := hidW hq.1
          have HG7 := hidW hq.2.1
          clear hq
          refine hK.out _ _ (HS.out _ _ HQ.out) (fun hNew => ?_)
          clear hK K hHeld
          have hHeld := hNew
          clear hNew
          refine anyL_ready (rs := [8]) (by kernel_rfl) (by simp) (ReadyL.cons rfl (fun K hK => ?_) (ReadyL.nil))
          · dsimp only [List.getElem_toArray, List.getElem_cons_succ, List.getElem_cons_zero]
            go_simp
            refine (C2.out _ _ HQ.out HG7.out).mono ?_
            rintro e V5 ⟨rfl, hq, hw⟩
            replace HQ := hidW hq
            clear hq hw HG7
            go_wp2_with fail
            refine hK.out _ _ (HS.out _ _ HQ.out) (fun hNew => ?_)
            clear hK K hHeld
            have hHeld := hNew
            clear hNew
            refine anyL_done (by kernel_rfl) ?_ _
            go_wp2
            refine bodyPost_end (v := .tuple #[]) (by simp [results, Try.results34, go_sem]) rfl ?_
            exact ⟨rfl, by rw [HFIN.out]; exact HQ.out.w, HQ.out.r⟩
      · dsimp only [List.getElem_toArray, List.getElem_cons_succ, List.getElem_cons_zero]
        go_simp
        have hq : Qs B b W 26 t a (some ⟨blk, off, none⟩) cap blk off ks _ (V2.alloc (.cells #[.string ⟨#[41]⟩] 9)) ∧ Rw b V2.heap.size [[41]] (V2.alloc (.cells #[.string ⟨#[41]⟩] 9)) ∧ Wrt B b V2 (V2.alloc (.cells #[.string ⟨#[41]⟩] 9)) := HQ.out.row [[41]]
        generalize V2.alloc (.cells #[.string ⟨#[41]⟩] 9) = V3 at *
        generalize V2.heap.size = g7 at *
        replace HQ := hidW hq.1
        have HG7 := hidW hq.2.1
        clear hq
        refine hK.out _ _ (HS.out _ _ HQ.out) (fun hNew => ?_)
        clear hK K hHeld
        have hHeld := hNew
        clear hNew
        refine anyL_ready (rs := [6]) (by kernel_rfl) (by simp) (ReadyL.cons rfl (fun K hK => ?_) (ReadyL.nil))
        · dsimp only [List.getElem_toArray, List.getElem_cons_succ, List.getElem_cons_zero]
          go_simp
          refine (C1.out _ HQ.out).mono ?_
          rintro e V4 ⟨rfl, hq, hw⟩
          replace HG7 := hidW (HG7.out.kept hw)
          replace HQ := hidW hq
          clear hq hw
          go_wp2_with fail
          refine hK.out _ _ (HS.out _ _ HQ.out) (fun hNew => ?_)
          clear hK K hHeld
          have hHeld := hNew
          clear hNew
          refine anyL_ready (rs := [8]) (by kernel_rfl) (by simp) (ReadyL.cons rfl (fun K hK => ?_) (ReadyL.nil))
          · dsimp only [List.getElem_toArray, List.getElem_cons_succ, List.getElem_cons_zero]
            go_simp
            refine (C2.out _ _ HQ.out HG7.out).mono ?_
            rintro e V5 ⟨rfl, hq, hw⟩
            replace HQ := hidW hq
            clear hq hw HG7
            go_wp2_with fail
            refine hK.out _ _ (HS.out _ _ HQ.out) (fun hNew => ?_)
            clear hK K hHeld
            have hHeld := hNew
            clear hNew
            refine anyL_done (by kernel_rfl) ?_ _
            go_wp2
            refine bodyPost_end (v := .tuple #[]) (by simp [results, Try.results34, go_sem]) rfl ?_
            exact ⟨rfl, by rw [HFIN.out]; exact HQ.out.w, HQ.out.r⟩
    · dsimp only [List.getElem_toArray, List.getElem_cons_succ, List.getElem_cons_zero]
      go_simp
      have hq : Qs B b W 26 t a (some ⟨blk, off, none⟩) cap blk off ks _ (V1.alloc (.cells #[.string ⟨#[41]⟩] 9)) ∧ Rw b V1.heap.size [[41]] (V1.alloc (.cells #[.string ⟨#[41]⟩] 9)) ∧ Wrt B b V1 (V1.alloc (.cells #[.string ⟨#[41]⟩] 9)) := HQ.out.row [[41]]
      generalize V1.alloc (.cells #[.string ⟨#[41]⟩] 9) = V2 at *
      generalize V1.heap.size = g7 at *
      replace HG1 := hidW (HG1.out.kept hq.2.2)
      replace HQ := hidW hq.1
      have HG7 := hidW hq.2.1
      clear hq
      refine hK.out _ _ (HS.out _ _ HQ.out) (fun hNew => ?_)
      clear hK K hHeld
      have hHeld := hNew
      clear hNew
      refine anyL_ready (rs := [2]) (by kernel_rfl) (by simp) (ReadyL.cons rfl (fun K hK => ?_) (ReadyL.nil))
      · dsimp only [List.getElem_toArray, List.getElem_cons_succ, List.getElem_cons_zero]
        go_simp
        refine (C0.out _ _ HQ.out HG1.out).mono ?_
        rintro e V3 ⟨rfl, hq, hw⟩
        replace HG7 := hidW (HG7.out.kept hw)
        replace HQ := hidW hq
        clear hq hw HG1
        go_wp2_with fail
        refine hK.out _ _ (HS.out _ _ HQ.out) (fun hNew => ?_)
        clear hK K hHeld
        have hHeld := hNew
        clear hNew
        refine anyL_ready (rs := [6]) (by kernel_rfl) (by simp) (ReadyL.cons rfl (fun K hK => ?_) (ReadyL.nil))
        · dsimp only [List.getElem_toArray, List.getElem_cons_succ, List.getElem_cons_zero]
          go_simp
          refine (C1.out _ HQ.out).mono ?_
          rintro e V4 ⟨rfl, hq, hw⟩
          replace HG7 := hidW (HG7.out.kept hw)
          replace HQ := hidW hq
          clear hq hw
          go_wp2_with fail
          refine hK.out _ _ (HS.out _ _ HQ.out) (fun hNew => ?_)
          clear hK K hHeld
          have hHeld := hNew
          clear hNew
          refine anyL_ready (rs := [8]) (by kernel_rfl) (by simp) (ReadyL.cons rfl (fun K hK => ?_) (ReadyL.nil))
          · dsimp only [List.getElem_toArray, List.getElem_cons_succ, List.getElem_cons_zero]
            go_simp
            refine (C2.out _ _ HQ.out HG7.out).mono ?_
            rintro e V5 ⟨rfl, hq, hw⟩
            replace HQ := hidW hq
            clear hq hw HG7
            go_wp2_with fail
            refine hK.out _ _ (HS.out _ _ HQ.out) (fun hNew => ?_)
            clear hK K hHeld
            have hHeld := hNew
            clear hNew
            refine anyL_done (by kernel_rfl) ?_ _
            go_wp2
            refine bodyPost_end (v := .tuple #[]) (by simp [results, Try.results34, go_sem]) rfl ?_
            exact ⟨rfl, by rw [HFIN.out]; exact HQ.out.w, HQ.out.r⟩
  · dsimp only [List.getElem_toArray, List.getElem_cons_succ, List.getElem_cons_zero]
    go_simp
    have hq : Qs B b W 26 t a (some ⟨blk, off, none⟩) cap blk off ks _ (V0.alloc (.cells #[.string ⟨#[41]⟩] 9)) ∧ Rw b V0.heap.size [[41]] (V0.alloc (.cells #[.string ⟨#[41]⟩] 9)) ∧ Wrt B b V0 (V0.alloc (.cells #[.string ⟨#[41]⟩] 9)) := HQ.out.row [[41]]
    generalize V0.alloc (.cells #[.string ⟨#[41]⟩] 9) = V1 at *
    generalize V0.heap.size = g7 at *
    replace HQ := hidW hq.1
    have HG7 := hidW hq.2.1
    clear hq
    refine hK.out _ _ (HS.out _ _ HQ.out) (fun hNew => ?_)
    clear hK K hHeld
    have hHeld := hNew
    clear hNew
    refine anyL_ready (rs := [1]) (by kernel_rfl) (by simp) (ReadyL.cons rfl (fun K hK => ?_) (ReadyL.nil))
    · dsimp only [List.getElem_toArray, List.getElem_cons_succ, List.getElem_cons_zero]
      go_simp
      have hq : Qs B b W 26 t a (some ⟨blk, off, none⟩) cap blk off ks _ (V1.alloc (.cells #[.string ⟨#[110, 101, 119]⟩, .string ⟨#[40]⟩] 9)) ∧ Rw b V1.heap.size [[110, 101, 119], [40]] (V1.alloc (.cells #[.string ⟨#[110, 101, 119]⟩, .string ⟨#[40]⟩] 9)) ∧ Wrt B b V1 (V1.alloc (.cells #[.string ⟨#[110, 101, 119]⟩, .string ⟨#[40]⟩] 9)) := HQ.out.row [[110, 101, 119], [40]]
      generalize V1.alloc (.cells #[.string ⟨#[110, 101, 119]⟩, .string ⟨#[40]⟩] 9) = V2 at *
      generalize V1.heap.size = g1 at *
      replace HG7 := hidW (HG7.out.kept hq.2.2)
      replace HQ := hidW hq.1
      have HG1 := hidW hq.2.1
      clear hq
      refine hK.out _ _ (HS.out _ _ HQ.out) (fun hNew => ?_)
      clear hK K hHeld
      have hHeld := hNew
      clear hNew
      refine anyL_ready (rs := [2]) (by kernel_rfl) (by simp) (ReadyL.cons rfl (fun K hK => ?_) (ReadyL.nil))
      · dsimp only [List.getElem_toArray, List.getElem_cons_succ, List.getElem_cons_zero]
        go_simp
        refine (C0.out _ _ HQ.out HG1.out).mono ?_
        rintro e V3 ⟨rfl, hq, hw⟩
        replace HG7 := hidW (HG7.out.kept hw)
        replace HQ := hidW hq
        clear hq hw HG1
        go_wp2_with fail
        refine hK.out _ _ (HS.out _ _ HQ.out) (fun hNew => ?_)
        clear hK K hHeld
        have hHeld := hNew
        clear hNew
        refine anyL_ready (rs := [6]) (by kernel_rfl) (by simp) (ReadyL.cons rfl (fun K hK => ?_) (ReadyL.nil))
        · dsimp only [List.getElem_toArray, List.getElem_cons_succ, List.getElem_cons_zero]
          go_simp
          refine (C1.out _ HQ.out).mono ?_
          rintro e V4 ⟨rfl, hq, hw⟩
          replace HG7 := hidW (HG7.out.kept hw)
          replace HQ := hidW hq
          clear hq hw
          go_wp2_with fail
          refine hK.out _ _ (HS.out _ _ HQ.out) (fun hNew => ?_)
          clear hK K hHeld
          have hHeld := hNew
          clear hNew
          refine anyL_ready (rs := [8]) (by kernel_rfl) (by simp) (ReadyL.cons rfl (fun K hK => ?_) (ReadyL.nil))
          · dsimp only [List.getElem_toArray, List.getElem_cons_succ, List.getElem_cons_zero]
            go_simp
            refine (C2.out _ _ HQ.out HG7.out).mono ?_
            rintro e V5 ⟨rfl, hq, hw⟩
            replace HQ := hidW hq
            clear hq hw HG7
            go_wp2_with fail
            refine hK.out _ _ (HS.out _ _ HQ.out) (fun hNew => ?_)
            clear hK K hHeld
            have hHeld := hNew
            clear hNew
            refine anyL_done (by kernel_rfl) ?_ _
            go_wp2
            refine bodyPost_end (v := .tuple #[]) (by simp [results, Try.results34, go_sem]) rfl ?_
            exact ⟨rfl, by rw [HFIN.out]; exact HQ.out.w, HQ.out.r⟩

set_option maxRecDepth 100000 in
set_option maxHeartbeats 16000000 in
theorem wr_27 {B b z : Nat} (_IH : NodeTo B b z) {x : Ws} {W : World} (h : WrAt B b x W) {t : List UInt8} {a : Int} {av : Option Addr} {cap blk off : Nat} {ks : List Nv} (hr : RowB B W av blk off ks) (_hz : szL (ndL ks) ≤ z) (hlen : x.l.length + (t.length + 60 + nedL (ndL ks)) ≤ 140737488355328) (_hk : 0 ≤ ks.length) (_hcap : ks.length ≤ cap) :
    Calls Try.prog 34 #[.pointer (some ⟨b, 0, none⟩), .agg #[.int .i64 27, .string (bs t), .int .i64 a, .slice av ks.length cap]] W fun e W' => e = .returned (.tuple #[]) ∧ WrAt B b (appL (rowP 27 t (txtL (ndL ks))) x) W' ∧ Wrt B b W W' := by
  have HFIN := hidW (show appL (rowP 27 t (txtL (ndL ks))) x = (appL [[114, 101, 97, 100]] x) from by rw [rowP_27] <;> rfl)
  have L0 : x.l.length + (room [[114, 101, 97, 100]] + (0)) ≤ 140737488355328 := by simp only [room_cons, room_nil, List.length_cons, List.length_nil]; omega
  have C0 := hidW (fun (V : World) (g : Nat) (h : Qs B b W 27 t a av cap blk off ks x V) (hg : Rw b g [[114, 101, 97, 100]] V) => h.put [[114, 101, 97, 100]] (by omega) (by simp) hg)
  have HQ := hidW (Qs.start (k := 27) (t := t) (a := a) (cap := cap) h hr)
  obtain ⟨q0, -, q3⟩ := HQ.out.n.text
  clear h hr hlen L0
  go_enter Try.func34, Try.ntmps34
  have hq : Qs B b W 27 t a av cap blk off ks _ ((W.alloc (.cells #[.int .i64 27, .string (bs t), .int .i64 a, .slice av ks.length cap] 24)).alloc (.cells #[.string ⟨#[114, 101, 97, 100]⟩] 9)) ∧ Rw b (W.alloc (.cells #[.int .i64 27, .string (bs t), .int .i64 a, .slice av ks.length cap] 24)).heap.size [[114, 101, 97, 100]] ((W.alloc (.cells #[.int .i64 27, .string (bs t), .int .i64 a, .slice av ks.length cap] 24)).alloc (.cells #[.string ⟨#[114, 101, 97, 100]⟩] 9)) ∧ Wrt B b (W.alloc (.cells #[.int .i64 27, .string (bs t), .int .i64 a, .slice av ks.length cap] 24)) ((W.alloc (.cells #[.int .i64 27, .string (bs t), .int .i64 a, .slice av ks.length cap] 24)).alloc (.cells #[.string ⟨#[114, 101, 97, 100]⟩] 9)) := HQ.out.row [[114, 101, 97, 100]]
  rw [World.size_alloc] at hq
  replace HQ := hidW hq.1
  have HG1 := hidW hq.2.1
  clear hq
  have HC := hidW (C0.out _ _ HQ.out HG1.out)
  go_wp2_with fail
  refine HC.out.mono ?_
  clear HC
  rintro e V1 ⟨rfl, hq, hw⟩
  replace HQ := hidW hq
  clear hq hw
  go_wp2
  refine bodyPost_end (v := .tuple #[]) (by simp [results, Try.results34, go_sem]) rfl ?_
  exact ⟨rfl, by rw [HFIN.out]; exact HQ.out.w, HQ.out.r⟩

end Go.Proofs.Ytgndnodahlabiaa
