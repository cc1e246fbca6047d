/-
  A writer (layer 10): statements.
-/
import Derived.Test.YtgndnodahlabiaaMgL
namespace Go.Proofs.Ytgndnodahlabiaa
open Go.ChangeShapes Go.WideShapes Go.ChangeAt Go.RowKit

set_option maxRecDepth 100000 in
set_option maxHeartbeats 16000000 in
theorem wr_9 {B b z : Nat} (IH : NodeTo B b z) {x : Ws} {W : World} (h : WrAt B b x W) {t : List UInt8} {a : Int} {av : Option Addr} {cap blk off : Nat} {ks : List Nv} (hr : RowB B W av blk off ks) (hz : szL (ndL ks) ≤ z) (hlen : x.l.length + (t.length + 60 + nedL (ndL ks)) ≤ 140737488355328) (_hk : 0 ≤ ks.length) (_hcap : ks.length ≤ cap) :
    Calls Try.prog 33 #[.pointer (some ⟨b, 0, none⟩), .agg #[.int .i64 9, .string (bs t), .int .i64 a, .slice av ks.length cap]] W fun e W' => e = .returned (.tuple #[]) ∧ WrAt B b (appL (rowP 9 t (txtL (ndL ks))) x) W' ∧ Wrt B b W W' := by
  have HFIN := hidW (show appL (rowP 9 t (txtL (ndL ks))) x = (appL [[125]] (appL (txtL (ndL ks)) (appL [[123]] x))) from by rw [rowP_9, appL_append, appL_append] <;> rfl)
  have L0 : x.l.length + (room [[123]] + (nedL (ndL ks) + (room [[125]] + (0)))) ≤ 140737488355328 := by simp only [room_cons, room_nil, List.length_cons, List.length_nil]; omega
  have L1 := put_room _ _ _ L0
  have L2 := nodes_room _ _ _ L1
  have C0 := hidW (fun (V : World) (g : Nat) (h : Qs B b W 9 t a av cap blk off ks x V) (hg : Rw b g [[123]] V) => h.put [[123]] (by omega) (by simp) hg)
  have C1 := hidW (fun (V : World) (h : Qs B b W 9 t a av cap blk off ks (appL [[123]] x) V) => h.nodes (cap2 := cap) IH hz (by omega) (fun _ h => h) _ rfl)
  have C2 := hidW (fun (V : World) (g : Nat) (h : Qs B b W 9 t a av cap blk off ks (appL (txtL (ndL ks)) (appL [[123]] x)) V) (hg : Rw b g [[125]] V) => h.put [[125]] (by omega) (by simp) hg)
  have HQ := hidW (Qs.start (k := 9) (t := t) (a := a) (cap := cap) h hr)
  obtain ⟨q0, -, q3⟩ := HQ.out.n.text
  clear h hr hlen L0 L1 L2
  go_enter Try.func33, Try.ntmps33
  have hq : Qs B b W 9 t a av cap blk off ks _ ((W.alloc (.cells #[.int .i64 9, .string (bs t), .int .i64 a, .slice av ks.length cap] 24)).alloc (.cells #[.string ⟨#[123]⟩] 9)) ∧ Rw b (W.alloc (.cells #[.int .i64 9, .string (bs t), .int .i64 a, .slice av ks.length cap] 24)).heap.size [[123]] ((W.alloc (.cells #[.int .i64 9, .string (bs t), .int .i64 a, .slice av ks.length cap] 24)).alloc (.cells #[.string ⟨#[123]⟩] 9)) ∧ Wrt B b (W.alloc (.cells #[.int .i64 9, .string (bs t), .int .i64 a, .slice av ks.length cap] 24)) ((W.alloc (.cells #[.int .i64 9, .string (bs t), .int .i64 a, .slice av ks.length cap] 24)).alloc (.cells #[.string ⟨#[123]⟩] 9)) := HQ.out.row [[123]]
  rw [World.size_alloc] at hq
  replace HQ := hidW hq.1
  have HG1 := hidW hq.2.1
  clear hq
  have HC := hidW (C0.out _ _ HQ.out HG1.out)
  go_wp2_with fail
  refine HC.out.mono ?_
  clear HC
  rintro e V1 ⟨rfl, hq, hw⟩
  replace HQ := hidW hq
  clear hq hw
  have HC := hidW (C1.out _ HQ.out)
  go_wp2_with fail
  refine HC.out.mono ?_
  clear HC
  rintro e V2 ⟨rfl, hq, hw⟩
  replace HQ := hidW hq
  clear hq hw
  have hq : Qs B b W 9 t a av cap blk off ks _ (V2.alloc (.cells #[.string ⟨#[125]⟩] 9)) ∧ Rw b V2.heap.size [[125]] (V2.alloc (.cells #[.string ⟨#[125]⟩] 9)) ∧ Wrt B b V2 (V2.alloc (.cells #[.string ⟨#[125]⟩] 9)) := HQ.out.row [[125]]
  replace HQ := hidW hq.1
  have HG5 := hidW hq.2.1
  clear hq
  have HC := hidW (C2.out _ _ HQ.out HG5.out)
  go_wp2_with fail
  refine HC.out.mono ?_
  clear HC
  rintro e V3 ⟨rfl, hq, hw⟩
  replace HQ := hidW hq
  clear hq hw
  go_wp2
  refine bodyPost_end (v := .tuple #[]) (by simp [results, Try.results33, go_sem]) rfl ?_
  exact ⟨rfl, by rw [HFIN.out]; exact HQ.out.w, HQ.out.r⟩

set_option maxRecDepth 100000 in
set_option maxHeartbeats 16000000 in
theorem wr_10 {B b z : Nat} (IH : NodeTo B b z) {x : Ws} {W : World} (h : WrAt B b x W) {t : List UInt8} {a : Int} {av : Option Addr} {cap blk off : Nat} {ks : List Nv} (hr : RowB B W av blk off ks) (hz : szL (ndL ks) ≤ z) (hlen : x.l.length + (t.length + 60 + nedL (ndL ks)) ≤ 140737488355328) (hk : 1 ≤ ks.length) (_hcap : ks.length ≤ cap) :
    Calls Try.prog 33 #[.pointer (some ⟨b, 0, none⟩), .agg #[.int .i64 10, .string (bs t), .int .i64 a, .slice av ks.length cap]] W fun e W' => e = .returned (.tuple #[]) ∧ WrAt B b (appL (rowP 10 t (txtL (ndL ks))) x) W' ∧ Wrt B b W W' := by
  have hi0 : 0 < ks.length := by omega
  obtain ⟨n0, he0⟩ : ∃ n, ks[0]'hi0 = n := ⟨_, rfl⟩
  have hned := ned_at1 hi0 he0
  have hg0 := txt_at hi0 he0
  obtain ⟨k0, t0, a0, v0, c0, b0, o0, s0⟩ := n0
  obtain rfl := hr.row.at_ (by omega)
  have HFIN := hidW (show appL (rowP 10 t (txtL (ndL ks))) x = (appL [[59]] (app1 (txt (Nv.mk k0 t0 a0 v0 c0 b0 o0 s0).nd) (appL [[118, 97, 114], t] x))) from by rw [rowP_10, hg0] <;> rfl)
  have L0 : x.l.length + (room [[118, 97, 114], t] + (ned (Nv.mk k0 t0 a0 v0 c0 b0 o0 s0).nd + 4 + (room [[59]] + (0)))) ≤ 140737488355328 := by simp only [room_cons, room_nil, List.length_cons, List.length_nil]; omega
  have L1 := put_room _ _ _ L0
  have L2 := node_room _ _ _ L1
  have C0 := hidW (fun (V : World) (g : Nat) (h : Qs B b W 10 t a (some ⟨blk, off, none⟩) cap blk off ks x V) (hg : Rw b g [[118, 97, 114], t] V) => h.put [[118, 97, 114], t] (by omega) (by simp) hg)
  have C1 := hidW (fun (V : World) (h : Qs B b W 10 t a (some ⟨blk, off, none⟩) cap blk off ks (appL [[118, 97, 114], t] x) V) => h.node IH hz hi0 he0 (by omega))
  have C2 := hidW (fun (V : World) (g : Nat) (h : Qs B b W 10 t a (some ⟨blk, off, none⟩) cap blk off ks (app1 (txt (Nv.mk k0 t0 a0 v0 c0 b0 o0 s0).nd) (appL [[118, 97, 114], t] x)) V) (hg : Rw b g [[59]] V) => h.put [[59]] (by omega) (by simp) hg)
  have HQ := hidW (Qs.start (k := 10) (t := t) (a := a) (cap := cap) h hr)
  have HS := hidW (fun (V : World) (y : Ws) (hN : Qs B b W 10 t a (some ⟨blk, off, none⟩) cap blk off ks y V) => (show (V.cell? ⟨W.heap.size, 1, none⟩ = some (.string (bs t))) ∧ (V.cell? ⟨blk, off, none⟩ = some (.int .i64 k0)) ∧ (V.cell? ⟨blk, off + 1, none⟩ = some (.string (bs t0))) ∧ (V.cell? ⟨blk, off + 2, none⟩ = some (.int .i64 a0)) ∧ (V.cell? ⟨blk, off + 3, none⟩ = some (.slice v0 s0.length c0)) from ⟨hN.n.text.2.1, (hN.n.kid0 hi0 he0).1, (hN.n.kid0 hi0 he0).2.1, (hN.n.kid0 hi0 he0).2.2.1, (hN.n.kid0 hi0 he0).2.2.2⟩))
  obtain ⟨q0, -, q3⟩ := HQ.out.n.text
  clear h hr hlen L0 L1 L2 he0 hg0 hned
  go_enter Try.func33, Try.ntmps33
  go_wp2_with fail
  refine region_late (fun V => (V.cell? ⟨W.heap.size, 1, none⟩ = some (.string (bs t))) ∧ (V.cell? ⟨blk, off, none⟩ = some (.int .i64 k0)) ∧ (V.cell? ⟨blk, off + 1, none⟩ = some (.string (bs t0))) ∧ (V.cell? ⟨blk, off + 2, none⟩ = some (.int .i64 a0)) ∧ (V.cell? ⟨blk, off + 3, none⟩ = some (.slice v0 s0.length c0))) 99 (by kernel_rfl) ?_
  replace HQ := hidW HQ.out.drew
  clear q0 q3
  generalize (W.alloc (.cells #[.int .i64 10, .string (bs t), .int .i64 a, .slice (some ⟨blk, off, none⟩) ks.length cap] 24)).drew = V0 at *
  have hHeld := HS.out _ _ HQ.out
  refine anyL_tk 0 (v := ?_) rfl (by kernel_rfl) (fun _ _ _ h => h) hHeld (by rfl) ?_ ?_
  rotate_left 1
  · intro w hSw; (try dsimp only at hSw); go_simp; try with_reducible rfl
  refine anyL_tk 1 (v := ?_) rfl (by kernel_rfl) (fun _ _ _ h => h) hHeld (by rfl) ?_ ?_
  rotate_left 1
  · intro w hSw; (try dsimp only at hSw); go_simp; try with_reducible rfl
  refine anyL_tk 2 (v := ?_) rfl (by kernel_rfl) (fun _ _ _ h => h) hHeld (by rfl) ?_ ?_
  rotate_left 1
  · intro w hSw; (try dsimp only at hSw); go_simp; try with_reducible rfl
  refine anyL_tk 5 (v := ?_) rfl (by kernel_rfl) (fun _ _ _ h => h) hHeld (by rfl) ?_ ?_
  rotate_left 1
  · intro w hSw; (try dsimp only at hSw); go_simp; try with_reducible rfl
  refine anyL_tk 6 (v := ?_) rfl (by kernel_rfl) (fun _ _ _ h => h) hHeld (by rfl) ?_ ?_
  rotate_left 1
  · intro w hSw; (try dsimp only at hSw); go_simp; try with_reducible rfl
  refine anyL_tk 7 (v := ?_) rfl (by kernel_rfl) (fun _ _ _ h => h) hHeld (by rfl) ?_ ?_
  rotate_left 1
  · intro w hSw; (try dsimp only at hSw); go_simp; try with_reducible rfl
  refine anyL_ready (rs := [3, 9]) (by kernel_rfl) (by simp) (ReadyL.cons rfl (fun K hK => ?_) (ReadyL.cons rfl (fun K hK => ?_) (ReadyL.nil)))
  · dsimp only [List.getElem_toArray, List.getElem_cons_succ, List.getElem_cons_zero]
    go_simp
    have hq : Qs B b W 10 t a (some ⟨blk, off, none⟩) cap blk off ks _ (V0.alloc (.cells #[.string ⟨#[118, 97, 114]⟩, .string (bs t)] 9)) ∧ Rw b V0.heap.size [[118, 97, 114], t] (V0.alloc (.cells #[.string ⟨#[118, 97, 114]⟩, .string (bs t)] 9)) ∧ Wrt B b V0 (V0.alloc (.cells #[.string ⟨#[118, 97, 114]⟩, .string (bs t)] 9)) := HQ.out.row [[118, 97, 114], t]
    generalize V0.alloc (.cells #[.string ⟨#[118, 97, 114]⟩, .string (bs t)] 9) = V1 at *
    generalize V0.heap.size = g3 at *
    replace HQ := hidW hq.1
    have HG3 := hidW hq.2.1
    clear hq
    refine hK.out _ _ (HS.out _ _ HQ.out) (fun hNew => ?_)
    clear hK K hHeld
    have hHeld := hNew
    clear hNew
    refine anyL_ready (rs := [4, 9]) (by kernel_rfl) (by simp) (ReadyL.cons rfl (fun K hK => ?_) (ReadyL.cons rfl (fun K hK => ?_) (ReadyL.nil)))
    · dsimp only [List.getElem_toArray, List.getElem_cons_succ, List.getElem_cons_zero]
      go_simp
      refine (C0.out _ _ HQ.out HG3.out).mono ?_
      rintro e V2 ⟨rfl, hq, hw⟩
      replace HQ := hidW hq
      clear hq hw HG3
      go_wp2_with fail
      refine hK.out _ _ (HS.out _ _ HQ.out) (fun hNew => ?_)
      clear hK K hHeld
      have hHeld := hNew
      clear hNew
      refine anyL_ready (rs := [8, 9]) (by kernel_rfl) (by simp) (ReadyL.cons rfl (fun K hK => ?_) (ReadyL.cons rfl (fun K hK => ?_) (ReadyL.nil)))
      · dsimp only [List.getElem_toArray, List.getElem_cons_succ, List.getElem_cons_zero]
        go_simp
        refine (C1.out _ HQ.out).mono ?_
        rintro e V3 ⟨rfl, hq, hw⟩
        replace HQ := hidW hq
        clear hq hw
        go_wp2_with fail
        refine hK.out _ _ (HS.out _ _ HQ.out) (fun hNew => ?_)
        clear hK K hHeld
        have hHeld := hNew
        clear hNew
        refine anyL_ready (rs := [9]) (by kernel_rfl) (by simp) (ReadyL.cons rfl (fun K hK => ?_) (ReadyL.nil))
        · dsimp only [List.getElem_toArray, List.getElem_cons_succ, List.getElem_cons_zero]
          go_simp
          have hq : Qs B b W 10 t a (some ⟨blk, off, none⟩) cap blk off ks _ (V3.alloc (.cells #[.string ⟨#[59]⟩] 9)) ∧ Rw b V3.heap.size [[59]] (V3.alloc (.cells #[.string ⟨#[59]⟩] 9)) ∧ Wrt B b V3 (V3.alloc (.cells #[.string ⟨#[59]⟩] 9)) := HQ.out.row [[59]]
          generalize V3.alloc (.cells #[.string ⟨#[59]⟩] 9) = V4 at *
          generalize V3.heap.size = g9 at *
          replace HQ := hidW hq.1
          have HG9 := hidW hq.2.1
          clear hq
          refine hK.out _ _ (HS.out _ _ HQ.out) (fun hNew => ?_)
          clear hK K hHeld
          have hHeld := hNew
          clear hNew
          refine anyL_ready (rs := [10]) (by kernel_rfl) (by simp) (ReadyL.cons rfl (fun K hK => ?_) (ReadyL.nil))
          · dsimp only [List.getElem_toArray, List.getElem_cons_succ, List.getElem_cons_zero]
            go_simp
            refine (C2.out _ _ HQ.out HG9.out).mono ?_
            rintro e V5 ⟨rfl, hq, hw⟩
            replace HQ := hidW hq
            clear hq hw HG9
            go_wp2_with fail
            refine hK.out _ _ (HS.out _ _ HQ.out) (fun hNew => ?_)
            clear hK K hHeld
            have hHeld := hNew
            clear hNew
            refine anyL_done (by kernel_rfl) ?_ _
            go_wp2
            refine bodyPost_end (v := .tuple #[]) (by simp [results, Try.results33, go_sem]) rfl ?_
            exact ⟨rfl, by rw [HFIN.out]; exact HQ.out.w, HQ.out.r⟩
      · dsimp only [List.getElem_toArray, List.getElem_cons_succ, List.getElem_cons_zero]
        go_simp
        have hq : Qs B b W 10 t a (some ⟨blk, off, none⟩) cap blk off ks _ (V2.alloc (.cells #[.string ⟨#[59]⟩] 9)) ∧ Rw b V2.heap.size [[59]] (V2.alloc (.cells #[.string ⟨#[59]⟩] 9)) ∧ Wrt B b V2 (V2.alloc (.cells #[.string ⟨#[59]⟩] 9)) := HQ.out.row [[59]]
        generalize V2.alloc (.cells #[.string ⟨#[59]⟩] 9) = V3 at *
        generalize V2.heap.size = g9 at *
        replace HQ := hidW hq.1
        have HG9 := hidW hq.2.1
        clear hq
        refine hK.out _ _ (HS.out _ _ HQ.out) (fun hNew => ?_)
        clear hK K hHeld
        have hHeld := hNew
        clear hNew
        refine anyL_ready (rs := [8]) (by kernel_rfl) (by simp) (ReadyL.cons rfl (fun K hK => ?_) (ReadyL.nil))
        · dsimp only [List.getElem_toArray, List.getElem_cons_succ, List.getElem_cons_zero]
          go_simp
          refine (C1.out _ HQ.out).mono ?_
          rintro e V4 ⟨rfl, hq, hw⟩
          replace HG9 := hidW (HG9.out.kept hw)
          replace HQ := hidW hq
          clear hq hw
          go_wp2_with fail
          refine hK.out _ _ (HS.out _ _ HQ.out) (fun hNew => ?_)
          clear hK K hHeld
          have hHeld := hNew
          clear hNew
          refine anyL_ready (rs := [10]) (by kernel_rfl) (by simp) (ReadyL.cons rfl (fun K hK => ?_) (ReadyL.nil))
          · dsimp only [List.getElem_toArray, List.getElem_cons_succ, List.getElem_cons_zero]
            go_simp
            refine (C2.out _ _ HQ.out HG9.out).mono ?_
            rintro e V5 ⟨rfl, hq, hw⟩
            replace HQ := hidW hq
            clear hq hw HG9
            go_wp2_with fail
            refine hK.out _ _ (HS.out _ _ HQ.out) (fun hNew => ?_)
            clear hK K hHeld
            have hHeld := hNew
            clear hNew
            refine anyL_done (by kernel_rfl) ?_ _
            go_wp2
            refine bodyPost_end (v := .tuple #[]) (by simp [results, Try.results33, go_sem]) rfl ?_
            exact ⟨rfl, by rw [HFIN.out]; exact HQ.out.w, HQ.out.r⟩
    · dsimp only [List.getElem_toArray, List.getElem_cons_succ, List.getElem_cons_zero]
      go_simp
      have hq : Qs B b W 10 t a (some ⟨blk, off, none⟩) cap blk off ks _ (V1.alloc (.cells #[.string ⟨#[59]⟩] 9)) ∧ Rw b V1.heap.size [[59]] (V1.alloc (.cells #[.string ⟨#[59]⟩] 9)) ∧ Wrt B b V1 (V1.alloc (.cells #[.string ⟨#[59]⟩] 9)) := HQ.out.row [[59]]
      generalize V1.alloc (.cells #[.string ⟨#[59]⟩] 9) = V2 at *
      generalize V1.heap.size = g9 at *
      replace HG3 := hidW (HG3.out.kept hq.2.2)
      replace HQ := hidW hq.1
      have HG9 := hidW hq.2.1
      clear hq
      refine hK.out _ _ (HS.out _ _ HQ.out) (fun hNew => ?_)
      clear hK K hHeld
      have hHeld := hNew
      clear hNew
      refine anyL_ready (rs := [4]) (by kernel_rfl) (by simp) (ReadyL.cons rfl (fun K hK => ?_) (ReadyL.nil))
      · dsimp only [List.getElem_toArray, List.getElem_cons_succ, List.getElem_cons_zero]
        go_simp
        refine (C0.out _ _ HQ.out HG3.out).mono ?_
        rintro e V3 ⟨rfl, hq, hw⟩
        replace HG9 := hidW (HG9.out.kept hw)
        replace HQ := hidW hq
        clear hq hw HG3
        go_wp2_with fail
        refine hK.out _ _ (HS.out _ _ HQ.out) (fun hNew => ?_)
        clear hK K hHeld
        have hHeld := hNew
        clear hNew
        refine anyL_ready (rs := [8]) (by kernel_rfl) (by simp) (ReadyL.cons rfl (fun K hK => ?_) (ReadyL.nil))
        · dsimp only [List.getElem_toArray, List.getElem_cons_succ, List.getElem_cons_zero]
          go_simp
          refine (C1.out _ HQ.out).mono ?_
          rintro e V4 ⟨rfl, hq, hw⟩
          replace HG9 := hidW (HG9.out.kept hw)
          replace HQ := hidW hq
          clear hq hw
          go_wp2_with fail
          refine hK.out _ _ (HS.out _ _ HQ.out) (fun hNew => ?_)
          clear hK K hHeld
          have hHeld := hNew
          clear hNew
          refine anyL_ready (rs := [10]) (by kernel_rfl) (by simp) (ReadyL.cons rfl (fun K hK => ?_) (ReadyL.nil))
          · dsimp only [List.getElem_toArray, List.getElem_cons_succ, List.getElem_cons_zero]
            go_simp
            refine (C2.out _ _ HQ.out HG9.out).mono ?_
            rintro e V5 ⟨rfl, hq, hw⟩
            replace HQ := hidW hq
            clear hq hw HG9
            go_wp2_with fail
            refine hK.out _ _ (HS.out _ _ HQ.out) (fun hNew => ?_)
            clear hK K hHeld
            have hHeld := hNew
            clear hNew
            refine anyL_done (by kernel_rfl) ?_ _
            go_wp2
            refine bodyPost_end (v := .tuple #[]) (by simp [results, Try.results33, go_sem]) rfl ?_
            exact ⟨rfl, by rw [HFIN.out]; exact HQ.out.w, HQ.out.r⟩
  · dsimp only [List.getElem_toArray, List.getElem_cons_succ, List.getElem_cons_zero]
    go_simp
    have hq : Qs B b W 10 t a (some ⟨blk, off, none⟩) cap blk off ks _ (V0.alloc (.cells #[.string ⟨#[59]⟩] 9)) ∧ Rw b V0.heap.size [[59]] (V0.alloc (.cells #[.string ⟨#[59]⟩] 9)) ∧ Wrt B b V0 (V0.alloc (.cells #[.string ⟨#[59]⟩] 9)) := HQ.out.row [[59]]
    generalize V0.alloc (.cells #[.string ⟨#[59]⟩] 9) = V1 at *
    generalize V0.heap.size = g9 at *
    replace HQ := hidW hq.1
    have HG9 := hidW hq.2.1
    clear hq
    refine hK.out _ _ (HS.out _ _ HQ.out) (fun hNew => ?_)
    clear hK K hHeld
    have hHeld := hNew
    clear hNew
    refine anyL_ready (rs := [3]) (by kernel_rfl) (by simp) (ReadyL.cons rfl (fun K hK => ?_) (ReadyL.nil))
    · dsimp only [List.getElem_toArray, List.getElem_cons_succ, List.getElem_cons_zero]
      go_simp
      have hq : Qs B b W 10 t a (some ⟨blk, off, none⟩) cap blk off ks _ (V1.alloc (.cells #[.string ⟨#[118, 97, 114]⟩, .string (bs t)] 9)) ∧ Rw b V1.heap.size [[118, 97, 114], t] (V1.alloc (.cells #[.string ⟨#[118, 97, 114]⟩, .string (bs t)] 9)) ∧ Wrt B b V1 (V1.alloc (.cells #[.string ⟨#[118, 97, 114]⟩, .string (bs t)] 9)) := HQ.out.row [[118, 97, 114], t]
      generalize V1.alloc (.cells #[.string ⟨#[118, 97, 114]⟩, .string (bs t)] 9) = V2 at *
      generalize V1.heap.size = g3 at *
      replace HG9 := hidW (HG9.out.kept hq.2.2)
      replace HQ := hidW hq.1
      have HG3 := hidW hq.2.1
      clear hq
      refine hK.out _ _ (HS.out _ _ HQ.out) (fun hNew => ?_)
      clear hK K hHeld
      have hHeld := hNew
      clear hNew
      refine anyL_ready (rs := [4]) (by kernel_rfl) (by simp) (ReadyL.cons rfl (fun K hK => ?_) (ReadyL.nil))
      · dsimp only [List.getElem_toArray, List.getElem_cons_succ, List.getElem_cons_zero]
        go_simp
        refine (C0.out _ _ HQ.out HG3.out).mono ?_
        rintro e V3 ⟨rfl, hq, hw⟩
        replace HG9 := hidW (HG9.out.kept hw)
        replace HQ := hidW hq
        clear hq hw HG3
        go_wp2_with fail
        refine hK.out _ _ (HS.out _ _ HQ.out) (fun hNew => ?_)
        clear hK K hHeld
        have hHeld := hNew
        clear hNew
        refine anyL_ready (rs := [8]) (by kernel_rfl) (by simp) (ReadyL.cons rfl (fun K hK => ?_) (ReadyL.nil))
        · dsimp only [List.getElem_toArray, List.getElem_cons_succ, List.getElem_cons_zero]
          go_simp
          refine (C1.out _ HQ.out).mono ?_
          rintro e V4 ⟨rfl, hq, hw⟩
          replace HG9 := hidW (HG9.out.kept hw)
          replace HQ := hidW hq
          clear hq hw
          go_wp2_with fail
          refine hK.out _ _ (HS.out _ _ HQ.out) (fun hNew => ?_)
          clear hK K hHeld
          have hHeld := hNew
          clear hNew
          refine anyL_ready (rs := [10]) (by kernel_rfl) (by simp) (ReadyL.cons rfl (fun K hK => ?_) (ReadyL.nil))
          · dsimp only [List.getElem_toArray, List.getElem_cons_succ, List.getElem_cons_zero]
            go_simp
            refine (C2.out _ _ HQ.out HG9.out).mono ?_
            rintro e V5 ⟨rfl, hq, hw⟩
            replace HQ := hidW hq
            clear hq hw HG9
            go_wp2_with fail
            refine hK.out _ _ (HS.out _ _ HQ.out) (fun hNew => ?_)
            clear hK K hHeld
            have hHeld := hNew
            clear hNew
            refine anyL_done (by kernel_rfl) ?_ _
            go_wp2
            refine bodyPost_end (v := .tuple #[]) (by simp [results, Try.results33, go_sem]) rfl ?_
            exact ⟨rfl, by rw [HFIN.out]; exact HQ.out.w, HQ.out.r⟩

set_option maxRecDepth 100000 in
set_option maxHeartbeats 16000000 in
theorem wr_13 {B b z : Nat} (IH : NodeTo B b z) {x : Ws} {W : World} (h : WrAt B b x W) {t : List UInt8} {a : Int} {av : Option Addr} {cap blk off : Nat} {ks : List Nv} (hr : RowB B W av blk off ks) (hz : szL (ndL ks) ≤ z) (hlen : x.l.length + (t.length + 60 + nedL (ndL ks)) ≤ 140737488355328) (hk : 2 ≤ ks.length) (hcap : ks.length ≤ cap) :
    Calls Try.prog 33 #[.pointer (some ⟨b, 0, none⟩), .agg #[.int .i64 13, .string (bs t), .int .i64 a, .slice av ks.length cap]] W fun e W' => e = .returned (.tuple #[]) ∧ WrAt B b (appL (rowP 13 t (txtL (ndL ks))) x) W' ∧ Wrt B b W W' := by
  obtain rfl := hr.row.at_ (by omega)
  have hned2 := nedL_split ks 2
  have HFIN := hidW (show appL (rowP 13 t (txtL (ndL ks))) x = (appL (txtL (ndL (ks.take 2))) (appL [[102, 111, 114]] x)) from by rw [rowP_13, txt_take2 hk] <;> rfl)
  have L0 : x.l.length + (room [[102, 111, 114]] + (nedL (ndL (ks.take 2)) + (0))) ≤ 140737488355328 := by simp only [room_cons, room_nil, List.length_cons, List.length_nil]; omega
  have L1 := put_room _ _ _ L0
  have C0 := hidW (fun (V : World) (g : Nat) (h : Qs B b W 13 t a (some ⟨blk, off, none⟩) cap blk off ks x V) (hg : Rw b g [[102, 111, 114]] V) => h.put [[102, 111, 114]] (by omega) (by simp) hg)
  have C1 := hidW (fun (V : World) (h : Qs B b W 13 t a (some ⟨blk, off, none⟩) cap blk off ks (appL [[102, 111, 114]] x) V) => h.nodes (cap2 := cap) IH (Nat.le_trans (szL_take ks 2) hz) (by omega) (fun _ h => h.take 2) 2 (take_len ks 2 (by omega)))
  have HQ := hidW (Qs.start (k := 13) (t := t) (a := a) (cap := cap) h hr)
  obtain ⟨q0, -, q3⟩ := HQ.out.n.text
  clear h hr hlen L0 L1 hned2
  have hc2 : ((2 : Int) ≤ (cap : Int)) = True := eq_true (by omega)
  go_enter Try.func33, Try.ntmps33
  go_wp2_with fail
  refine region_late (fun _ => True) 99 (by kernel_rfl) ?_
  replace HQ := hidW HQ.out.drew
  clear q0 q3
  generalize (W.alloc (.cells #[.int .i64 13, .string (bs t), .int .i64 a, .slice (some ⟨blk, off, none⟩) ks.length cap] 24)).drew = V0 at *
  have hHeld := trivial
  refine anyL_tk 0 (v := ?_) rfl (by kernel_rfl) (fun _ _ _ h => h) hHeld (by rfl) ?_ ?_
  rotate_left 1
  · intro w hSw; (try dsimp only at hSw); go_simp; try with_reducible rfl
  refine anyL_tk 3 (v := ?_) rfl (by kernel_rfl) (fun _ _ _ h => h) hHeld (by rfl) ?_ ?_
  rotate_left 1
  · intro w hSw; (try dsimp only at hSw); go_simp; try with_reducible rfl
  refine anyL_tk 4 (v := ?_) rfl (by kernel_rfl) (fun _ _ _ h => h) hHeld (by rfl) ?_ ?_
  rotate_left 1
  · intro w hSw; (try dsimp only at hSw); go_simp; try with_reducible rfl
  refine anyL_ready (rs := [1]) (by kernel_rfl) (by simp) (ReadyL.cons rfl (fun K hK => ?_) (ReadyL.nil))
  · dsimp only [List.getElem_toArray, List.getElem_cons_succ, List.getElem_cons_zero]
    go_simp
    have hq : Qs B b W 13 t a (some ⟨blk, off, none⟩) cap blk off ks _ (V0.alloc (.cells #[.string ⟨#[102, 111, 114]⟩] 9)) ∧ Rw b V0.heap.size [[102, 111, 114]] (V0.alloc (.cells #[.string ⟨#[102, 111, 114]⟩] 9)) ∧ Wrt B b V0 (V0.alloc (.cells #[.string ⟨#[102, 111, 114]⟩] 9)) := HQ.out.row [[102, 111, 114]]
    generalize V0.alloc (.cells #[.string ⟨#[102, 111, 114]⟩] 9) = V1 at *
    generalize V0.heap.size = g1 at *
    replace HQ := hidW hq.1
    have HG1 := hidW hq.2.1
    clear hq
    refine hK.out _ _ (trivial) (fun hNew => ?_)
    clear hK K hHeld
    have hHeld := hNew
    clear hNew
    refine anyL_ready (rs := [2]) (by kernel_rfl) (by simp) (ReadyL.cons rfl (fun K hK => ?_) (ReadyL.nil))
    · dsimp only [List.getElem_toArray, List.getElem_cons_succ, List.getElem_cons_zero]
      go_simp
      refine (C0.out _ _ HQ.out HG1.out).mono ?_
      rintro e V2 ⟨rfl, hq, hw⟩
      replace HQ := hidW hq
      clear hq hw HG1
      go_wp2_with fail
      refine hK.out _ _ (trivial) (fun hNew => ?_)
      clear hK K hHeld
      have hHeld := hNew
      clear hNew
      refine anyL_ready (rs := [5]) (by kernel_rfl) (by simp) (ReadyL.cons rfl (fun K hK => ?_) (ReadyL.nil))
      · dsimp only [List.getElem_toArray, List.getElem_cons_succ, List.getElem_cons_zero]
        go_simp
        refine (C1.out _ HQ.out).mono ?_
        rintro e V3 ⟨rfl, hq, hw⟩
        replace HQ := hidW hq
        clear hq hw
        go_wp2_with fail
        refine hK.out _ _ (trivial) (fun hNew => ?_)
        clear hK K hHeld
        have hHeld := hNew
        clear hNew
        refine anyL_done (by kernel_rfl) ?_ _
        go_wp2
        refine bodyPost_end (v := .tuple #[]) (by simp [results, Try.results33, go_sem]) rfl ?_
        exact ⟨rfl, by rw [HFIN.out]; exact HQ.out.w, HQ.out.r⟩

set_option maxRecDepth 100000 in
set_option maxHeartbeats 16000000 in
theorem wr_15 {B b z : Nat} (IH : NodeTo B b z) {x : Ws} {W : World} (h : WrAt B b x W) {t : List UInt8} {a : Int} {av : Option Addr} {cap blk off : Nat} {ks : List Nv} (hr : RowB B W av blk off ks) (hz : szL (ndL ks) ≤ z) (hlen : x.l.length + (t.length + 60 + nedL (ndL ks)) ≤ 140737488355328) (hk : 1 ≤ ks.length) (_hcap : ks.length ≤ cap) :
    Calls Try.prog 33 #[.pointer (some ⟨b, 0, none⟩), .agg #[.int .i64 15, .string (bs t), .int .i64 a, .slice av ks.length cap]] W fun e W' => e = .returned (.tuple #[]) ∧ WrAt B b (appL (rowP 15 t (txtL (ndL ks))) x) W' ∧ Wrt B b W W' := by
  have hi0 : 0 < ks.length := by omega
  obtain ⟨n0, he0⟩ : ∃ n, ks[0]'hi0 = n := ⟨_, rfl⟩
  have hned := ned_at1 hi0 he0
  have hg0 := txt_at hi0 he0
  obtain ⟨k0, t0, a0, v0, c0, b0, o0, s0⟩ := n0
  obtain rfl := hr.row.at_ (by omega)
  have HFIN := hidW (show appL (rowP 15 t (txtL (ndL ks))) x = (appL [[59]] (app1 (txt (Nv.mk k0 t0 a0 v0 c0 b0 o0 s0).nd) (appL [[112, 114, 105, 110, 116]] x))) from by rw [rowP_15, hg0] <;> rfl)
  have L0 : x.l.length + (room [[112, 114, 105, 110, 116]] + (ned (Nv.mk k0 t0 a0 v0 c0 b0 o0 s0).nd + 4 + (room [[59]] + (0)))) ≤ 140737488355328 := by simp only [room_cons, room_nil, List.length_cons, List.length_nil]; omega
  have L1 := put_room _ _ _ L0
  have L2 := node_room _ _ _ L1
  have C0 := hidW (fun (V : World) (g : Nat) (h : Qs B b W 15 t a (some ⟨blk, off, none⟩) cap blk off ks x V) (hg : Rw b g [[112, 114, 105, 110, 116]] V) => h.put [[112, 114, 105, 110, 116]] (by omega) (by simp) hg)
  have C1 := hidW (fun (V : World) (h : Qs B b W 15 t a (some ⟨blk, off, none⟩) cap blk off ks (appL [[112, 114, 105, 110, 116]] x) V) => h.node IH hz hi0 he0 (by omega))
  have C2 := hidW (fun (V : World) (g : Nat) (h : Qs B b W 15 t a (some ⟨blk, off, none⟩) cap blk off ks (app1 (txt (Nv.mk k0 t0 a0 v0 c0 b0 o0 s0).nd) (appL [[112, 114, 105, 110, 116]] x)) V) (hg : Rw b g [[59]] V) => h.put [[59]] (by omega) (by simp) hg)
  have HQ := hidW (Qs.start (k := 15) (t := t) (a := a) (cap := cap) h hr)
  have HS := hidW (fun (V : World) (y : Ws) (hN : Qs B b W 15 t a (some ⟨blk, off, none⟩) cap blk off ks y V) => (show (V.cell? ⟨blk, off, none⟩ = some (.int .i64 k0)) ∧ (V.cell? ⟨blk, off + 1, none⟩ = some (.string (bs t0))) ∧ (V.cell? ⟨blk, off + 2, none⟩ = some (.int .i64 a0)) ∧ (V.cell? ⟨blk, off + 3, none⟩ = some (.slice v0 s0.length c0)) from ⟨(hN.n.kid0 hi0 he0).1, (hN.n.kid0 hi0 he0).2.1, (hN.n.kid0 hi0 he0).2.2.1, (hN.n.kid0 hi0 he0).2.2.2⟩))
  obtain ⟨q0, -, q3⟩ := HQ.out.n.text
  clear h hr hlen L0 L1 L2 he0 hg0 hned
  go_enter Try.func33, Try.ntmps33
  go_wp2_with fail
  refine region_late (fun V => (V.cell? ⟨blk, off, none⟩ = some (.int .i64 k0)) ∧ (V.cell? ⟨blk, off + 1, none⟩ = some (.string (bs t0))) ∧ (V.cell? ⟨blk, off + 2, none⟩ = some (.int .i64 a0)) ∧ (V.cell? ⟨blk, off + 3, none⟩ = some (.slice v0 s0.length c0))) 99 (by kernel_rfl) ?_
  replace HQ := hidW HQ.out.drew
  clear q0 q3
  generalize (W.alloc (.cells #[.int .i64 15, .string (bs t), .int .i64 a, .slice (some ⟨blk, off, none⟩) ks.length cap] 24)).drew = V0 at *
  have hHeld := HS.out _ _ HQ.out
  refine anyL_tk 0 (v := ?_) rfl (by kernel_rfl) (fun _ _ _ h => h) hHeld (by rfl) ?_ ?_
  rotate_left 1
  · intro w hSw; (try dsimp only at hSw); go_simp; try with_reducible rfl
  refine anyL_tk 3 (v := ?_) rfl (by kernel_rfl) (fun _ _ _ h => h) hHeld (by rfl) ?_ ?_
  rotate_left 1
  · intro w hSw; (try dsimp only at hSw); go_simp; try with_reducible rfl
  refine anyL_tk 4 (v := ?_) rfl (by kernel_rfl) (fun _ _ _ h => h) hHeld (by rfl) ?_ ?_
  rotate_left 1
  · intro w hSw; (try dsimp only at hSw); go_simp; try with_reducible rfl
  refine anyL_tk 5 (v := ?_) rfl (by kernel_rfl) (fun _ _ _ h => h) hHeld (by rfl) ?_ ?_
  rotate_left 1
  · intro w hSw; (try dsimp only at hSw); go_simp; try with_reducible rfl
  refine anyL_ready (rs := [1, 7]) (by kernel_rfl) (by simp) (ReadyL.cons rfl (fun K hK => ?_) (ReadyL.cons rfl (fun K hK => ?_) (ReadyL.nil)))
  · dsimp only [List.getElem_toArray, List.getElem_cons_succ, List.getElem_cons_zero]
    go_simp
    have hq : Qs B b W 15 t a (some ⟨blk, off, none⟩) cap blk off ks _ (V0.alloc (.cells #[.string ⟨#[112, 114, 105, 110, 116]⟩] 9)) ∧ Rw b V0.heap.size [[112, 114, 105, 110, 116]] (V0.alloc (.cells #[.string ⟨#[112, 114, 105, 110, 116]⟩] 9)) ∧ Wrt B b V0 (V0.alloc (.cells #[.string ⟨#[112, 114, 105, 110, 116]⟩] 9)) := HQ.out.row [[112, 114, 105, 110, 116]]
    generalize V0.alloc (.cells #[.string ⟨#[112, 114, 105, 110, 116]⟩] 9) = V1 at *
    generalize V0.heap.size = g1 at *
    replace HQ := hidW hq.1
    have HG1 := hidW hq.2.1
    clear hq
    refine hK.out _ _ (HS.out _ _ HQ.out) (fun hNew => ?_)
    clear hK K hHeld
    have hHeld := hNew
    clear hNew
    refine anyL_ready (rs := [2, 7]) (by kernel_rfl) (by simp) (ReadyL.cons rfl (fun K hK => ?_) (ReadyL.cons rfl (fun K hK => ?_) (ReadyL.nil)))
    · dsimp only [List.getElem_toArray, List.getElem_cons_succ, List.getElem_cons_zero]
      go_simp
      refine (C0.out _ _ HQ.out HG1.out).mono ?_
      rintro e V2 ⟨rfl, hq, hw⟩
      replace HQ := hidW hq
      clear hq hw HG1
      go_wp2_with fail
      refine hK.out _ _ (HS.out _ _ HQ.out) (fun hNew => ?_)
      clear hK K hHeld
      have hHeld := hNew
      clear hNew
      refine anyL_ready (rs := [6, 7]) (by kernel_rfl) (by simp) (ReadyL.cons rfl (fun K hK => ?_) (ReadyL.cons rfl (fun K hK => ?_) (ReadyL.nil)))
      · dsimp only [List.getElem_toArray, List.getElem_cons_succ, List.getElem_cons_zero]
        go_simp
        refine (C1.out _ HQ.out).mono ?_
        rintro e V3 ⟨rfl, hq, hw⟩
        replace HQ := hidW hq
        clear hq hw
        go_wp2_with fail
        refine hK.out _ _ (HS.out _ _ HQ.out) (fun hNew => ?_)
        clear hK K hHeld
        have hHeld := hNew
        clear hNew
        refine anyL_ready (rs := [7]) (by kernel_rfl) (by simp) (ReadyL.cons rfl (fun K hK => ?_) (ReadyL.nil))
        · dsimp only [List.getElem_toArray, List.getElem_cons_succ, List.getElem_cons_zero]
          go_simp
          have hq : Qs B b W 15 t a (some ⟨blk, off, none⟩) cap blk off ks _ (V3.alloc (.cells #[.string ⟨#[59]⟩] 9)) ∧ Rw b V3.heap.size [[59]] (V3.alloc (.cells #[.string ⟨#[59]⟩] 9)) ∧ Wrt B b V3 (V3.alloc (.cells #[.string ⟨#[59]⟩] 9)) := HQ.out.row [[59]]
          generalize V3.alloc (.cells #[.string ⟨#[59]⟩] 9) = V4 at *
          generalize V3.heap.size = g7 at *
          replace HQ := hidW hq.1
          have HG7 := hidW hq.2.1
          clear hq
          refine hK.out _ _ (HS.out _ _ HQ.out) (fun hNew => ?_)
          clear hK K hHeld
          have hHeld := hNew
          clear hNew
          refine anyL_ready (rs := [8]) (by kernel_rfl) (by simp) (ReadyL.cons rfl (fun K hK => ?_) (ReadyL.nil))
          · dsimp only [List.getElem_toArray, List.getElem_cons_succ, List.getElem_cons_zero]
            go_simp
            refine (C2.out _ _ HQ.out HG7.out).mono ?_
            rintro e V5 ⟨rfl, hq, hw⟩
            replace HQ := hidW hq
            clear hq hw HG7
            go_wp2_with fail
            refine hK.out _ _ (HS.out _ _ HQ.out) (fun hNew => ?_)
            clear hK K hHeld
            have hHeld := hNew
            clear hNew
            refine anyL_done (by kernel_rfl) ?_ _
            go_wp2
            refine bodyPost_end (v := .tuple #[]) (by simp [results, Try.results33, go_sem]) rfl ?_
            exact ⟨rfl, by rw [HFIN.out]; exact HQ.out.w, HQ.out.r⟩
      · dsimp only [List.getElem_toArray, List.getElem_cons_succ, List.getElem_cons_zero]
        go_simp
        have hq : Qs B b W 15 t a (some ⟨blk, off, none⟩) cap blk off ks _ (V2.alloc (.cells #[.string ⟨#[59]⟩] 9)) ∧ Rw b V2.heap.size [[59]] (V2.alloc (.cells #[.string ⟨#[59]⟩] 9)) ∧ Wrt B b V2 (V2.alloc (.cells #[.string ⟨#[59]⟩] 9)) := HQ.out.row [[59]]
        generalize V2.alloc (.cells #[.string ⟨#[59]⟩] 9) = V3 at *
        generalize V2.heap.size = g7 at *
        replace HQ := hidW hq.1
        have HG7 := hidW hq.2.1
        clear hq
        refine hK.out _ _ (HS.out _ _ HQ.out) (fun hNew => ?_)
        clear hK K hHeld
        have hHeld := hNew
        clear hNew
        refine anyL_ready (rs := [6]) (by kernel_rfl) (by simp) (ReadyL.cons rfl (fun K hK => ?_) (ReadyL.nil))
        · dsimp only [List.getElem_toArray, List.getElem_cons_succ, List.getElem_cons_zero]
          go_simp
          refine (C1.out _ HQ.out).mono ?_
          rintro e V4 ⟨rfl, hq, hw⟩
          replace HG7 := hidW (HG7.out.kept hw)
          replace HQ := hidW hq
          clear hq hw
          go_wp2_with fail
          refine hK.out _ _ (HS.out _ _ HQ.out) (fun hNew => ?_)
          clear hK K hHeld
          have hHeld := hNew
          clear hNew
          refine anyL_ready (rs := [8]) (by kernel_rfl) (by simp) (ReadyL.cons rfl (fun K hK => ?_) (ReadyL.nil))
          · dsimp only [List.getElem_toArray, List.getElem_cons_succ, List.getElem_cons_zero]
            go_simp
            refine (C2.out _ _ HQ.out HG7.out).mono ?_
            rintro e V5 ⟨rfl, hq, hw⟩
            replace HQ := hidW hq
            clear hq hw HG7
            go_wp2_with fail
            refine hK.out _ _ (HS.out _ _ HQ.out) (fun hNew => ?_)
            clear hK K hHeld
            have hHeld := hNew
            clear hNew
            refine anyL_done (by kernel_rfl) ?_ _
            go_wp2
            refine bodyPost_end (v := .tuple #[]) (by simp [results, Try.results33, go_sem]) rfl ?_
            exact ⟨rfl, by rw [HFIN.out]; exact HQ.out.w, HQ.out.r⟩
    · dsimp only [List.getElem_toArray, List.getElem_cons_succ, List.getElem_cons_zero]
      go_simp
      have hq : Qs B b W 15 t a (some ⟨blk, off, none⟩) cap blk off ks _ (V1.alloc (.cells #[.string ⟨#[59]⟩] 9)) ∧ Rw b V1.heap.size [[59]] (V1.alloc (.cells #[.string ⟨#[59]⟩] 9)) ∧ Wrt B b V1 (V1.alloc (.cells #[.string ⟨#[59]⟩] 9)) := HQ.out.row [[59]]
      generalize V1.alloc (.cells #[.string ⟨#[59]⟩] 9) = V2 at *
      generalize V1.heap.size = g7 at *
      replace HG1 := hidW (HG1.out.kept hq.2.2)
      replace HQ := hidW hq.1
      have HG7 := hidW hq.2.1
      clear hq
      refine hK.out _ _ (HS.out _ _ HQ.out) (fun hNew => ?_)
      clear hK K hHeld
      have hHeld := hNew
      clear hNew
      refine anyL_ready (rs := [2]) (by kernel_rfl) (by simp) (ReadyL.cons rfl (fun K hK => ?_) (ReadyL.nil))
      · dsimp only [List.getElem_toArray, List.getElem_cons_succ, List.getElem_cons_zero]
        go_simp
        refine (C0.out _ _ HQ.out HG1.out).mono ?_
        rintro e V3 ⟨rfl, hq, hw⟩
        replace HG7 := hidW (HG7.out.kept hw)
        replace HQ := hidW hq
        clear hq hw HG1
        go_wp2_with fail
        refine hK.out _ _ (HS.out _ _ HQ.out) (fun hNew => ?_)
        clear hK K hHeld
        have hHeld := hNew
        clear hNew
        refine anyL_ready (rs := [6]) (by kernel_rfl) (by simp) (ReadyL.cons rfl (fun K hK => ?_) (ReadyL.nil))
        · dsimp only [List.getElem_toArray, List.getElem_cons_succ, List.getElem_cons_zero]
          go_simp
          refine (C1.out _ HQ.out).mono ?_
          rintro e V4 ⟨rfl, hq, hw⟩
          replace HG7 := hidW (HG7.out.kept hw)
          replace HQ := hidW hq
          clear hq hw
          go_wp2_with fail
          refine hK.out _ _ (HS.out _ _ HQ.out) (fun hNew => ?_)
          clear hK K hHeld
          have hHeld := hNew
          clear hNew
          refine anyL_ready (rs := [8]) (by kernel_rfl) (by simp) (ReadyL.cons rfl (fun K hK => ?_) (ReadyL.nil))
          · dsimp only [List.getElem_toArray, List.getElem_cons_succ, List.getElem_cons_zero]
            go_simp
            refine (C2.out _ _ HQ.out HG7.out).mono ?_
            rintro e V5 ⟨rfl, hq, hw⟩
            replace HQ := hidW hq
            clear hq hw HG7
            go_wp2_with fail
            refine hK.out _ _ (HS.out _ _ HQ.out) (fun hNew => ?_)
            clear hK K hHeld
            have hHeld := hNew
            clear hNew
            refine anyL_done (by kernel_rfl) ?_ _
            go_wp2
            refine bodyPost_end (v := .tuple #[]) (by simp [results, Try.results33, go_sem]) rfl ?_
            exact ⟨rfl, by rw [HFIN.out]; exact HQ.out.w, HQ.out.r⟩
  · dsimp only [List.getElem_toArray, List.getElem_cons_succ, List.getElem_cons_zero]
    go_simp
    have hq : Qs B b W 15 t a (some ⟨blk, off, none⟩) cap blk off ks _ (V0.alloc (.cells #[.string ⟨#[59]⟩] 9)) ∧ Rw b V0.heap.size [[59]] (V0.alloc (.cells #[.string ⟨#[59]⟩] 9)) ∧ Wrt B b V0 (V0.alloc (.cells #[.string ⟨#[59]⟩] 9)) := HQ.out.row [[59]]
    generalize V0.alloc (.cells #[.string ⟨#[59]⟩] 9) = V1 at *
    generalize V0.heap.size = g7 at *
    replace HQ := hidW hq.1
    have HG7 := hidW hq.2.1
    clear hq
    refine hK.out _ _ (HS.out _ _ HQ.out) (fun hNew => ?_)
    clear hK K hHeld
    have hHeld := hNew
    clear hNew
    refine anyL_ready (rs := [1]) (by kernel_rfl) (by simp) (ReadyL.cons rfl (fun K hK => ?_) (ReadyL.nil))
    · dsimp only [List.getElem_toArray, List.getElem_cons_succ, List.getElem_cons_zero]
      go_simp
      have hq : Qs B b W 15 t a (some ⟨blk, off, none⟩) cap blk off ks _ (V1.alloc (.cells #[.string ⟨#[112, 114, 105, 110, 116]⟩] 9)) ∧ Rw b V1.heap.size [[112, 114, 105, 110, 116]] (V1.alloc (.cells #[.string ⟨#[112, 114, 105, 110, 116]⟩] 9)) ∧ Wrt B b V1 (V1.alloc (.cells #[.string ⟨#[112, 114, 105, 110, 116]⟩] 9)) := HQ.out.row [[112, 114, 105, 110, 116]]
      generalize V1.alloc (.cells #[.string ⟨#[112, 114, 105, 110, 116]⟩] 9) = V2 at *
      generalize V1.heap.size = g1 at *
      replace HG7 := hidW (HG7.out.kept hq.2.2)
      replace HQ := hidW hq.1
      have HG1 := hidW hq.2.1
      clear hq
      refine hK.out _ _ (HS.out _ _ HQ.out) (fun hNew => ?_)
      clear hK K hHeld
      have hHeld := hNew
      clear hNew
      refine anyL_ready (rs := [2]) (by kernel_rfl) (by simp) (ReadyL.cons rfl (fun K hK => ?_) (ReadyL.nil))
      · dsimp only [List.getElem_toArray, List.getElem_cons_succ, List.getElem_cons_zero]
        go_simp
        refine (C0.out _ _ HQ.out HG1.out).mono ?_
        rintro e V3 ⟨rfl, hq, hw⟩
        replace HG7 := hidW (HG7.out.kept hw)
        replace HQ := hidW hq
        clear hq hw HG1
        go_wp2_with fail
        refine hK.out _ _ (HS.out _ _ HQ.out) (fun hNew => ?_)
        clear hK K hHeld
        have hHeld := hNew
        clear hNew
        refine anyL_ready (rs := [6]) (by kernel_rfl) (by simp) (ReadyL.cons rfl (fun K hK => ?_) (ReadyL.nil))
        · dsimp only [List.getElem_toArray, List.getElem_cons_succ, List.getElem_cons_zero]
          go_simp
          refine (C1.out _ HQ.out).mono ?_
          rintro e V4 ⟨rfl, hq, hw⟩
          replace HG7 := hidW (HG7.out.kept hw)
          replace HQ := hidW hq
          clear hq hw
          go_wp2_with fail
          refine hK.out _ _ (HS.out _ _ HQ.out) (fun hNew => ?_)
          clear hK K hHeld
          have hHeld := hNew
          clear hNew
          refine anyL_ready (rs := [8]) (by kernel_rfl) (by simp) (ReadyL.cons rfl (fun K hK => ?_) (ReadyL.nil))
          · dsimp only [List.getElem_toArray, List.getElem_cons_succ, List.getElem_cons_zero]
            go_simp
            refine (C2.out _ _ HQ.out HG7.out).mono ?_
            rintro e V5 ⟨rfl, hq, hw⟩
            replace HQ := hidW hq
            clear hq hw HG7
            go_wp2_with fail
            refine hK.out _ _ (HS.out _ _ HQ.out) (fun hNew => ?_)
            clear hK K hHeld
            have hHeld := hNew
            clear hNew
            refine anyL_done (by kernel_rfl) ?_ _
            go_wp2
            refine bodyPost_end (v := .tuple #[]) (by simp [results, Try.results33, go_sem]) rfl ?_
            exact ⟨rfl, by rw [HFIN.out]; exact HQ.out.w, HQ.out.r⟩

set_option maxRecDepth 100000 in
set_option maxHeartbeats 16000000 in
theorem wr_16 {B b z : Nat} (IH : NodeTo B b z) {x : Ws} {W : World} (h : WrAt B b x W) {t : List UInt8} {a : Int} {av : Option Addr} {cap blk off : Nat} {ks : List Nv} (hr : RowB B W av blk off ks) (hz : szL (ndL ks) ≤ z) (hlen : x.l.length + (t.length + 60 + nedL (ndL ks)) ≤ 140737488355328) (hk : 1 ≤ ks.length) (_hcap : ks.length ≤ cap) :
    Calls Try.prog 33 #[.pointer (some ⟨b, 0, none⟩), .agg #[.int .i64 16, .string (bs t), .int .i64 a, .slice av ks.length cap]] W fun e W' => e = .returned (.tuple #[]) ∧ WrAt B b (appL (rowP 16 t (txtL (ndL ks))) x) W' ∧ Wrt B b W W' := by
  have hi0 : 0 < ks.length := by omega
  obtain ⟨n0, he0⟩ : ∃ n, ks[0]'hi0 = n := ⟨_, rfl⟩
  have hned := ned_at1 hi0 he0
  have hg0 := txt_at hi0 he0
  obtain ⟨k0, t0, a0, v0, c0, b0, o0, s0⟩ := n0
  obtain rfl := hr.row.at_ (by omega)
  have HFIN := hidW (show appL (rowP 16 t (txtL (ndL ks))) x = (appL [[59]] (app1 (txt (Nv.mk k0 t0 a0 v0 c0 b0 o0 s0).nd) x)) from by rw [rowP_16, hg0] <;> rfl)
  have L0 : x.l.length + (ned (Nv.mk k0 t0 a0 v0 c0 b0 o0 s0).nd + 4 + (room [[59]] + (0))) ≤ 140737488355328 := by simp only [room_cons, room_nil, List.length_cons, List.length_nil]; omega
  have L1 := node_room _ _ _ L0
  have C0 := hidW (fun (V : World) (h : Qs B b W 16 t a (some ⟨blk, off, none⟩) cap blk off ks x V) => h.node IH hz hi0 he0 (by omega))
  have C1 := hidW (fun (V : World) (g : Nat) (h : Qs B b W 16 t a (some ⟨blk, off, none⟩) cap blk off ks (app1 (txt (Nv.mk k0 t0 a0 v0 c0 b0 o0 s0).nd) x) V) (hg : Rw b g [[59]] V) => h.put [[59]] (by omega) (by simp) hg)
  have HQ := hidW (Qs.start (k := 16) (t := t) (a := a) (cap := cap) h hr)
  obtain ⟨q0, -, q3⟩ := HQ.out.n.text
  have HE0 := hidW he0
  clear h hr hlen L0 L1 he0 hg0 hned
  go_enter Try.func33, Try.ntmps33
  obtain ⟨kc0, kc1, kc2, kc3⟩ := HQ.out.n.kid0 hi0 HE0.out
  have HC := hidW (C0.out _ HQ.out)
  go_wp2_with fail
  refine HC.out.mono ?_
  clear HC
  rintro e V1 ⟨rfl, hq, hw⟩
  replace HQ := hidW hq
  clear hq hw
  have hq : Qs B b W 16 t a (some ⟨blk, off, none⟩) cap blk off ks _ (V1.alloc (.cells #[.string ⟨#[59]⟩] 9)) ∧ Rw b V1.heap.size [[59]] (V1.alloc (.cells #[.string ⟨#[59]⟩] 9)) ∧ Wrt B b V1 (V1.alloc (.cells #[.string ⟨#[59]⟩] 9)) := HQ.out.row [[59]]
  replace HQ := hidW hq.1
  have HG5 := hidW hq.2.1
  clear hq
  have HC := hidW (C1.out _ _ HQ.out HG5.out)
  go_wp2_with fail
  refine HC.out.mono ?_
  clear HC
  rintro e V2 ⟨rfl, hq, hw⟩
  replace HQ := hidW hq
  clear hq hw
  go_wp2
  refine bodyPost_end (v := .tuple #[]) (by simp [results, Try.results33, go_sem]) rfl ?_
  exact ⟨rfl, by rw [HFIN.out]; exact HQ.out.w, HQ.out.r⟩

set_option maxRecDepth 100000 in
set_option maxHeartbeats 16000000 in
theorem wr_12a {B b z : Nat} (IH : NodeTo B b z) {x : Ws} {W : World} (h : WrAt B b x W) {t : List UInt8} {a : Int} {av : Option Addr} {cap blk off : Nat} {ks : List Nv} (hr : RowB B W av blk off ks) (hz : szL (ndL ks) ≤ z) (hlen : x.l.length + (t.length + 60 + nedL (ndL ks)) ≤ 140737488355328) (hk : 2 ≤ ks.length) (hcap : ks.length ≤ cap) (h2 : ks.length = 2) :
    Calls Try.prog 33 #[.pointer (some ⟨b, 0, none⟩), .agg #[.int .i64 12, .string (bs t), .int .i64 a, .slice av ks.length cap]] W fun e W' => e = .returned (.tuple #[]) ∧ WrAt B b (appL (rowP 12 t (txtL (ndL ks))) x) W' ∧ Wrt B b W W' := by
  have hk3 : 2 ≤ ks.length := by omega
  obtain rfl := hr.row.at_ (by omega)
  have hned2 := nedL_split ks 2
  have HFIN := hidW (show appL (rowP 12 t (txtL (ndL ks))) x = (appL (txtL (ndL (ks.take 2))) (appL [[105, 102]] x)) from by rw [rowP_12, txtL_len, ndL_len, if_neg (by omega), txt_take2 (by omega)] <;> rfl)
  have L0 : x.l.length + (room [[105, 102]] + (nedL (ndL (ks.take 2)) + (0))) ≤ 140737488355328 := by simp only [room_cons, room_nil, List.length_cons, List.length_nil]; omega
  have L1 := put_room _ _ _ L0
  have C0 := hidW (fun (V : World) (g : Nat) (h : Qs B b W 12 t a (some ⟨blk, off, none⟩) cap blk off ks x V) (hg : Rw b g [[105, 102]] V) => h.put [[105, 102]] (by omega) (by simp) hg)
  have C1 := hidW (fun (V : World) (h : Qs B b W 12 t a (some ⟨blk, off, none⟩) cap blk off ks (appL [[105, 102]] x) V) => h.nodes (cap2 := cap) IH (Nat.le_trans (szL_take ks 2) hz) (by omega) (fun _ h => h.take 2) 2 (take_len ks 2 (by omega)))
  have HQ := hidW (Qs.start (k := 12) (t := t) (a := a) (cap := cap) h hr)
  obtain ⟨q0, -, q3⟩ := HQ.out.n.text
  clear h hr hlen L0 L1 hned2
  have hc2 : ((2 : Int) ≤ (cap : Int)) = True := eq_true (by omega)
  have hc3 : ((2 : Int) < (ks.length : Int)) = False := eq_false (by omega)
  clear h2
  go_enter Try.func33, Try.ntmps33
  go_wp2_with fail
  refine region_late (fun _ => True) 99 (by kernel_rfl) ?_
  replace HQ := hidW HQ.out.drew
  clear q0 q3
  generalize (W.alloc (.cells #[.int .i64 12, .string (bs t), .int .i64 a, .slice (some ⟨blk, off, none⟩) ks.length cap] 24)).drew = V0 at *
  have hHeld := trivial
  refine anyL_tk 0 (v := ?_) rfl (by kernel_rfl) (fun _ _ _ h => h) hHeld (by rfl) ?_ ?_
  rotate_left 1
  · intro w hSw; (try dsimp only at hSw); go_simp; try with_reducible rfl
  refine anyL_tk 3 (v := ?_) rfl (by kernel_rfl) (fun _ _ _ h => h) hHeld (by rfl) ?_ ?_
  rotate_left 1
  · intro w hSw; (try dsimp only at hSw); go_simp; try with_reducible rfl
  refine anyL_tk 4 (v := ?_) rfl (by kernel_rfl) (fun _ _ _ h => h) hHeld (by rfl) ?_ ?_
  rotate_left 1
  · intro w hSw; (try dsimp only at hSw); go_simp; try with_reducible rfl
  refine anyL_ready (rs := [1]) (by kernel_rfl) (by simp) (ReadyL.cons rfl (fun K hK => ?_) (ReadyL.nil))
  · dsimp only [List.getElem_toArray, List.getElem_cons_succ, List.getElem_cons_zero]
    go_simp
    have hq : Qs B b W 12 t a (some ⟨blk, off, none⟩) cap blk off ks _ (V0.alloc (.cells #[.string ⟨#[105, 102]⟩] 9)) ∧ Rw b V0.heap.size [[105, 102]] (V0.alloc (.cells #[.string ⟨#[105, 102]⟩] 9)) ∧ Wrt B b V0 (V0.alloc (.cells #[.string ⟨#[105, 102]⟩] 9)) := HQ.out.row [[105, 102]]
    generalize V0.alloc (.cells #[.string ⟨#[105, 102]⟩] 9) = V1 at *
    generalize V0.heap.size = g1 at *
    replace HQ := hidW hq.1
    have HG1 := hidW hq.2.1
    clear hq
    refine hK.out _ _ (trivial) (fun hNew => ?_)
    clear hK K hHeld
    have hHeld := hNew
    clear hNew
    refine anyL_ready (rs := [2]) (by kernel_rfl) (by simp) (ReadyL.cons rfl (fun K hK => ?_) (ReadyL.nil))
    · dsimp only [List.getElem_toArray, List.getElem_cons_succ, List.getElem_cons_zero]
      go_simp
      refine (C0.out _ _ HQ.out HG1.out).mono ?_
      rintro e V2 ⟨rfl, hq, hw⟩
      replace HQ := hidW hq
      clear hq hw HG1
      go_wp2_with fail
      refine hK.out _ _ (trivial) (fun hNew => ?_)
      clear hK K hHeld
      have hHeld := hNew
      clear hNew
      refine anyL_ready (rs := [5]) (by kernel_rfl) (by simp) (ReadyL.cons rfl (fun K hK => ?_) (ReadyL.nil))
      · dsimp only [List.getElem_toArray, List.getElem_cons_succ, List.getElem_cons_zero]
        go_simp
        refine (C1.out _ HQ.out).mono ?_
        rintro e V3 ⟨rfl, hq, hw⟩
        replace HQ := hidW hq
        clear hq hw
        go_wp2_with fail
        refine hK.out _ _ (trivial) (fun hNew => ?_)
        clear hK K hHeld
        have hHeld := hNew
        clear hNew
        refine anyL_done (by kernel_rfl) ?_ _
        go_wp2
        refine bodyPost_end (v := .tuple #[]) (by simp [results, Try.results33, go_sem]) rfl ?_
        exact ⟨rfl, by rw [HFIN.out]; exact HQ.out.w, HQ.out.r⟩

set_option maxRecDepth 100000 in
set_option maxHeartbeats 16000000 in
theorem wr_12b {B b z : Nat} (IH : NodeTo B b z) {x : Ws} {W : World} (h : WrAt B b x W) {t : List UInt8} {a : Int} {av : Option Addr} {cap blk off : Nat} {ks : List Nv} (hr : RowB B W av blk off ks) (hz : szL (ndL ks) ≤ z) (hlen : x.l.length + (t.length + 60 + nedL (ndL ks)) ≤ 140737488355328) (hk : 3 ≤ ks.length) (hcap : ks.length ≤ cap) :
    Calls Try.prog 33 #[.pointer (some ⟨b, 0, none⟩), .agg #[.int .i64 12, .string (bs t), .int .i64 a, .slice av ks.length cap]] W fun e W' => e = .returned (.tuple #[]) ∧ WrAt B b (appL (rowP 12 t (txtL (ndL ks))) x) W' ∧ Wrt B b W W' := by
  have hi0 : 0 < ks.length := by omega
  obtain ⟨n0, he0⟩ : ∃ n, ks[0]'hi0 = n := ⟨_, rfl⟩
  have hi1 : 1 < ks.length := by omega
  obtain ⟨n1, he1⟩ : ∃ n, ks[1]'hi1 = n := ⟨_, rfl⟩
  have hi2 : 2 < ks.length := by omega
  obtain ⟨n2, he2⟩ : ∃ n, ks[2]'hi2 = n := ⟨_, rfl⟩
  have hj1 : ((1 : Int) < (ks.length : Int)) = True := eq_true (by omega)
  have hj2 : ((2 : Int) < (ks.length : Int)) = True := eq_true (by omega)
  have hned := ned_at3 hi2 he2
  have hg0 := txt_at hi0 he0
  have hg1 := txt_at hi1 he1
  have hg2 := txt_at hi2 he2
  obtain ⟨k0, t0, a0, v0, c0, b0, o0, s0⟩ := n0
  obtain ⟨k1, t1, a1, v1, c1, b1, o1, s1⟩ := n1
  obtain ⟨k2, t2, a2, v2, c2, b2, o2, s2⟩ := n2
  obtain rfl := hr.row.at_ (by omega)
  have hned2 := nedL_split ks 2
  have HFIN := hidW (show appL (rowP 12 t (txtL (ndL ks))) x = (app1 (txt (Nv.mk k2 t2 a2 v2 c2 b2 o2 s2).nd) (appL [[101, 108, 115, 101]] (appL (txtL (ndL (ks.take 2))) (appL [[105, 102]] x)))) from by rw [rowP_12, txtL_len, ndL_len, if_pos hi2, hg2, appL_append, txt_take2 (by omega)] <;> rfl)
  have L0 : x.l.length + (room [[105, 102]] + (nedL (ndL (ks.take 2)) + (room [[101, 108, 115, 101]] + (ned (Nv.mk k2 t2 a2 v2 c2 b2 o2 s2).nd + 4 + (0))))) ≤ 140737488355328 := by simp only [room_cons, room_nil, List.length_cons, List.length_nil]; omega
  have L1 := put_room _ _ _ L0
  have L2 := nodes_room _ _ _ L1
  have L3 := put_room _ _ _ L2
  have C0 := hidW (fun (V : World) (g : Nat) (h : Qs B b W 12 t a (some ⟨blk, off, none⟩) cap blk off ks x V) (hg : Rw b g [[105, 102]] V) => h.put [[105, 102]] (by omega) (by simp) hg)
  have C1 := hidW (fun (V : World) (h : Qs B b W 12 t a (some ⟨blk, off, none⟩) cap blk off ks (appL [[105, 102]] x) V) => h.nodes (cap2 := cap) IH (Nat.le_trans (szL_take ks 2) hz) (by omega) (fun _ h => h.take 2) 2 (take_len ks 2 (by omega)))
  have C2 := hidW (fun (V : World) (g : Nat) (h : Qs B b W 12 t a (some ⟨blk, off, none⟩) cap blk off ks (appL (txtL (ndL (ks.take 2))) (appL [[105, 102]] x)) V) (hg : Rw b g [[101, 108, 115, 101]] V) => h.put [[101, 108, 115, 101]] (by omega) (by simp) hg)
  have C3 := hidW (fun (V : World) (h : Qs B b W 12 t a (some ⟨blk, off, none⟩) cap blk off ks (appL [[101, 108, 115, 101]] (appL (txtL (ndL (ks.take 2))) (appL [[105, 102]] x))) V) => h.node IH hz hi2 he2 (by omega))
  have HQ := hidW (Qs.start (k := 12) (t := t) (a := a) (cap := cap) h hr)
  have HS := hidW (fun (V : World) (y : Ws) (hN : Qs B b W 12 t a (some ⟨blk, off, none⟩) cap blk off ks y V) => (show (V.cell? ⟨blk, off + 8, none⟩ = some (.int .i64 k2)) ∧ (V.cell? ⟨blk, off + 9, none⟩ = some (.string (bs t2))) ∧ (V.cell? ⟨blk, off + 10, none⟩ = some (.int .i64 a2)) ∧ (V.cell? ⟨blk, off + 11, none⟩ = some (.slice v2 s2.length c2)) from ⟨(hN.n.kid2 hi2 he2).1, (hN.n.kid2 hi2 he2).2.1, (hN.n.kid2 hi2 he2).2.2.1, (hN.n.kid2 hi2 he2).2.2.2⟩))
  obtain ⟨q0, -, q3⟩ := HQ.out.n.text
  clear h hr hlen L0 L1 L2 L3 he0 hg0 he1 hg1 he2 hg2 hned hned2
  have hc2 : ((2 : Int) ≤ (cap : Int)) = True := eq_true (by omega)
  have hc3 : ((2 : Int) < (ks.length : Int)) = True := eq_true (by omega)
  go_enter Try.func33, Try.ntmps33
  go_wp2_with fail
  refine region_late (fun _ => True) 99 (by kernel_rfl) ?_
  replace HQ := hidW HQ.out.drew
  clear q0 q3
  generalize (W.alloc (.cells #[.int .i64 12, .string (bs t), .int .i64 a, .slice (some ⟨blk, off, none⟩) ks.length cap] 24)).drew = V0 at *
  have hHeld := trivial
  refine anyL_tk 0 (v := ?_) rfl (by kernel_rfl) (fun _ _ _ h => h) hHeld (by rfl) ?_ ?_
  rotate_left 1
  · intro w hSw; (try dsimp only at hSw); go_simp; try with_reducible rfl
  refine anyL_tk 3 (v := ?_) rfl (by kernel_rfl) (fun _ _ _ h => h) hHeld (by rfl) ?_ ?_
  rotate_left 1
  · intro w hSw; (try dsimp only at hSw); go_simp; try with_reducible rfl
  refine anyL_tk 4 (v := ?_) rfl (by kernel_rfl) (fun _ _ _ h => h) hHeld (by rfl) ?_ ?_
  rotate_left 1
  · intro w hSw; (try dsimp only at hSw); go_simp; try with_reducible rfl
  refine anyL_ready (rs := [1]) (by kernel_rfl) (by simp) (ReadyL.cons rfl (fun K hK => ?_) (ReadyL.nil))
  · dsimp only [List.getElem_toArray, List.getElem_cons_succ, List.getElem_cons_zero]
    go_simp
    have hq : Qs B b W 12 t a (some ⟨blk, off, none⟩) cap blk off ks _ (V0.alloc (.cells #[.string ⟨#[105, 102]⟩] 9)) ∧ Rw b V0.heap.size [[105, 102]] (V0.alloc (.cells #[.string ⟨#[105, 102]⟩] 9)) ∧ Wrt B b V0 (V0.alloc (.cells #[.string ⟨#[105, 102]⟩] 9)) := HQ.out.row [[105, 102]]
    generalize V0.alloc (.cells #[.string ⟨#[105, 102]⟩] 9) = V1 at *
    generalize V0.heap.size = g1 at *
    replace HQ := hidW hq.1
    have HG1 := hidW hq.2.1
    clear hq
    refine hK.out _ _ (trivial) (fun hNew => ?_)
    clear hK K hHeld
    have hHeld := hNew
    clear hNew
    refine anyL_ready (rs := [2]) (by kernel_rfl) (by simp) (ReadyL.cons rfl (fun K hK => ?_) (ReadyL.nil))
    · dsimp only [List.getElem_toArray, List.getElem_cons_succ, List.getElem_cons_zero]
      go_simp
      refine (C0.out _ _ HQ.out HG1.out).mono ?_
      rintro e V2 ⟨rfl, hq, hw⟩
      replace HQ := hidW hq
      clear hq hw HG1
      go_wp2_with fail
      refine hK.out _ _ (trivial) (fun hNew => ?_)
      clear hK K hHeld
      have hHeld := hNew
      clear hNew
      refine anyL_ready (rs := [5]) (by kernel_rfl) (by simp) (ReadyL.cons rfl (fun K hK => ?_) (ReadyL.nil))
      · dsimp only [List.getElem_toArray, List.getElem_cons_succ, List.getElem_cons_zero]
        go_simp
        refine (C1.out _ HQ.out).mono ?_
        rintro e V3 ⟨rfl, hq, hw⟩
        replace HQ := hidW hq
        clear hq hw
        go_wp2_with fail
        refine hK.out _ _ (trivial) (fun hNew => ?_)
        clear hK K hHeld
        have hHeld := hNew
        clear hNew
        refine anyL_done (by kernel_rfl) ?_ _
        go_wp2_with fail
        refine region_late (fun V => (V.cell? ⟨blk, off + 8, none⟩ = some (.int .i64 k2)) ∧ (V.cell? ⟨blk, off + 9, none⟩ = some (.string (bs t2))) ∧ (V.cell? ⟨blk, off + 10, none⟩ = some (.int .i64 a2)) ∧ (V.cell? ⟨blk, off + 11, none⟩ = some (.slice v2 s2.length c2))) 99 (by kernel_rfl) ?_
        replace HQ := hidW HQ.out.drew
        generalize V3.drew = U0 at *
        clear hHeld
        have hHeld := HS.out _ _ HQ.out
        refine anyL_tk 0 (v := ?_) rfl (by kernel_rfl) (fun _ _ _ h => h) hHeld (by rfl) ?_ ?_
        rotate_left 1
        · intro w hSw; (try dsimp only at hSw); go_simp; try with_reducible rfl
        refine anyL_tk 3 (v := ?_) rfl (by kernel_rfl) (fun _ _ _ h => h) hHeld (by rfl) ?_ ?_
        rotate_left 1
        · intro w hSw; (try dsimp only at hSw); go_simp; try with_reducible rfl
        refine anyL_tk 4 (v := ?_) rfl (by kernel_rfl) (fun _ _ _ h => h) hHeld (by rfl) ?_ ?_
        rotate_left 1
        · intro w hSw; (try dsimp only at hSw); go_simp; try with_reducible rfl
        refine anyL_tk 5 (v := ?_) rfl (by kernel_rfl) (fun _ _ _ h => h) hHeld (by rfl) ?_ ?_
        rotate_left 1
        · intro w hSw; (try dsimp only at hSw); go_simp; try with_reducible rfl
        refine anyL_ready (rs := [1]) (by kernel_rfl) (by simp) (ReadyL.cons rfl (fun K hK => ?_) (ReadyL.nil))
        · dsimp only [List.getElem_toArray, List.getElem_cons_succ, List.getElem_cons_zero]
          go_simp
          have hq : Qs B b W 12 t a (some ⟨blk, off, none⟩) cap blk off ks _ (U0.alloc (.cells #[.string ⟨#[101, 108, 115, 101]⟩] 9)) ∧ Rw b U0.heap.size [[101, 108, 115, 101]] (U0.alloc (.cells #[.string ⟨#[101, 108, 115, 101]⟩] 9)) ∧ Wrt B b U0 (U0.alloc (.cells #[.string ⟨#[101, 108, 115, 101]⟩] 9)) := HQ.out.row [[101, 108, 115, 101]]
          generalize U0.alloc (.cells #[.string ⟨#[101, 108, 115, 101]⟩] 9) = U1 at *
          generalize U0.heap.size = g1 at *
          replace HQ := hidW hq.1
          have HG1 := hidW hq.2.1
          clear hq
          refine hK.out _ _ (HS.out _ _ HQ.out) (fun hNew => ?_)
          clear hK K hHeld
          have hHeld := hNew
          clear hNew
          refine anyL_ready (rs := [2]) (by kernel_rfl) (by simp) (ReadyL.cons rfl (fun K hK => ?_) (ReadyL.nil))
          · dsimp only [List.getElem_toArray, List.getElem_cons_succ, List.getElem_cons_zero]
            go_simp
            refine (C2.out _ _ HQ.out HG1.out).mono ?_
            rintro e U2 ⟨rfl, hq, hw⟩
            replace HQ := hidW hq
            clear hq hw HG1
            go_wp2_with fail
            refine hK.out _ _ (HS.out _ _ HQ.out) (fun hNew => ?_)
            clear hK K hHeld
            have hHeld := hNew
            clear hNew
            refine anyL_ready (rs := [6]) (by kernel_rfl) (by simp) (ReadyL.cons rfl (fun K hK => ?_) (ReadyL.nil))
            · dsimp only [List.getElem_toArray, List.getElem_cons_succ, List.getElem_cons_zero]
              go_simp
              refine (C3.out _ HQ.out).mono ?_
              rintro e U3 ⟨rfl, hq, hw⟩
              replace HQ := hidW hq
              clear hq hw
              go_wp2_with fail
              refine hK.out _ _ (HS.out _ _ HQ.out) (fun hNew => ?_)
              clear hK K hHeld
              have hHeld := hNew
              clear hNew
              refine anyL_done (by kernel_rfl) ?_ _
              go_wp2
              refine bodyPost_end (v := .tuple #[]) (by simp [results, Try.results33, go_sem]) rfl ?_
              exact ⟨rfl, by rw [HFIN.out]; exact HQ.out.w, HQ.out.r⟩

set_option maxRecDepth 100000 in
set_option maxHeartbeats 16000000 in
theorem wr_14p {B b z : Nat} (IH : NodeTo B b z) {x : Ws} {W : World} (h : WrAt B b x W) {t : List UInt8} {a : Int} {av : Option Addr} {cap blk off : Nat} {ks : List Nv} (hr : RowB B W av blk off ks) (hz : szL (ndL ks) ≤ z) (hlen : x.l.length + (t.length + 60 + nedL (ndL ks)) ≤ 140737488355328) (hk : 1 ≤ ks.length) (hcap : ks.length ≤ cap) :
    Calls Try.prog 33 #[.pointer (some ⟨b, 0, none⟩), .agg #[.int .i64 14, .string (bs t), .int .i64 a, .slice av ks.length cap]] W fun e W' => e = .returned (.tuple #[]) ∧ WrAt B b (appL (rowP 14 t (txtL (ndL ks))) x) W' ∧ Wrt B b W W' := by
  obtain rfl := hr.row.at_ (by omega)
  have hned2 := nedL_split ks 1
  have HFIN := hidW (show appL (rowP 14 t (txtL (ndL ks))) x = (appL [[59]] (appL (txtL (ndL (ks.take 1))) (appL [[114, 101, 116, 117, 114, 110]] x))) from by rw [rowP_14, txt_take, appL_append, appL_append] <;> rfl)
  have L0 : x.l.length + (room [[114, 101, 116, 117, 114, 110]] + (nedL (ndL (ks.take 1)) + (room [[59]] + (0)))) ≤ 140737488355328 := by simp only [room_cons, room_nil, List.length_cons, List.length_nil]; omega
  have L1 := put_room _ _ _ L0
  have L2 := nodes_room _ _ _ L1
  have C0 := hidW (fun (V : World) (g : Nat) (h : Qs B b W 14 t a (some ⟨blk, off, none⟩) cap blk off ks x V) (hg : Rw b g [[114, 101, 116, 117, 114, 110]] V) => h.put [[114, 101, 116, 117, 114, 110]] (by omega) (by simp) hg)
  have C1 := hidW (fun (V : World) (h : Qs B b W 14 t a (some ⟨blk, off, none⟩) cap blk off ks (appL [[114, 101, 116, 117, 114, 110]] x) V) => h.nodes (cap2 := cap) IH (Nat.le_trans (szL_take ks 1) hz) (by omega) (fun _ h => h.take 1) 1 (take_len ks 1 (by omega)))
  have C2 := hidW (fun (V : World) (g : Nat) (h : Qs B b W 14 t a (some ⟨blk, off, none⟩) cap blk off ks (appL (txtL (ndL (ks.take 1))) (appL [[114, 101, 116, 117, 114, 110]] x)) V) (hg : Rw b g [[59]] V) => h.put [[59]] (by omega) (by simp) hg)
  have HQ := hidW (Qs.start (k := 14) (t := t) (a := a) (cap := cap) h hr)
  obtain ⟨q0, -, q3⟩ := HQ.out.n.text
  clear h hr hlen L0 L1 L2 hned2
  have hc1 : ((1 : Int) ≤ (cap : Int)) = True := eq_true (by omega)
  have hc2 : min (1 : Int) (ks.length : Int) = 1 := by omega
  go_enter Try.func33, Try.ntmps33
  go_wp2_with fail
  refine region_late (fun _ => True) 99 (by kernel_rfl) ?_
  replace HQ := hidW HQ.out.drew
  clear q0 q3
  generalize (W.alloc (.cells #[.int .i64 14, .string (bs t), .int .i64 a, .slice (some ⟨blk, off, none⟩) ks.length cap] 24)).drew = V0 at *
  have hHeld := trivial
  refine anyL_tk 0 (v := ?_) rfl (by kernel_rfl) (fun _ _ _ h => h) hHeld (by rfl) ?_ ?_
  rotate_left 1
  · intro w hSw; (try dsimp only at hSw); go_simp; try with_reducible rfl
  refine anyL_tk 3 (v := ?_) rfl (by kernel_rfl) (fun _ _ _ h => h) hHeld (by rfl) ?_ ?_
  rotate_left 1
  · intro w hSw; (try dsimp only at hSw); go_simp; try with_reducible rfl
  refine anyL_tk 4 (v := ?_) rfl (by kernel_rfl) (fun _ _ _ h => h) hHeld (by rfl) ?_ ?_
  rotate_left 1
  · intro w hSw; (try dsimp only at hSw); go_simp; try with_reducible rfl
  refine anyL_tk 5 (v := ?_) rfl (by kernel_rfl) (fun _ _ _ h => h) hHeld (by rfl) ?_ ?_
  rotate_left 1
  · intro w hSw; (try dsimp only at hSw); go_simp; try with_reducible rfl
  refine anyL_tk 6 (v := ?_) rfl (by kernel_rfl) (fun _ _ _ h => h) hHeld (by rfl) ?_ ?_
  rotate_left 1
  · intro w hSw; (try dsimp only at hSw); go_simp; try with_reducible rfl
  refine anyL_tk 7 (v := ?_) rfl (by kernel_rfl) (fun _ _ _ h => h) hHeld (by rfl) ?_ ?_
  rotate_left 1
  · intro w hSw; (try dsimp only at hSw); go_simp; try with_reducible rfl
  refine anyL_ready (rs := [1, 9]) (by kernel_rfl) (by simp) (ReadyL.cons rfl (fun K hK => ?_) (ReadyL.cons rfl (fun K hK => ?_) (ReadyL.nil)))
  · dsimp only [List.getElem_toArray, List.getElem_cons_succ, List.getElem_cons_zero]
    go_simp
    have hq : Qs B b W 14 t a (some ⟨blk, off, none⟩) cap blk off ks _ (V0.alloc (.cells #[.string ⟨#[114, 101, 116, 117, 114, 110]⟩] 9)) ∧ Rw b V0.heap.size [[114, 101, 116, 117, 114, 110]] (V0.alloc (.cells #[.string ⟨#[114, 101, 116, 117, 114, 110]⟩] 9)) ∧ Wrt B b V0 (V0.alloc (.cells #[.string ⟨#[114, 101, 116, 117, 114, 110]⟩] 9)) := HQ.out.row [[114, 101, 116, 117, 114, 110]]
    generalize V0.alloc (.cells #[.string ⟨#[114, 101, 116, 117, 114, 110]⟩] 9) = V1 at *
    generalize V0.heap.size = g1 at *
    replace HQ := hidW hq.1
    have HG1 := hidW hq.2.1
    clear hq
    refine hK.out _ _ (trivial) (fun hNew => ?_)
    clear hK K hHeld
    have hHeld := hNew
    clear hNew
    refine anyL_ready (rs := [2, 9]) (by kernel_rfl) (by simp) (ReadyL.cons rfl (fun K hK => ?_) (ReadyL.cons rfl (fun K hK => ?_) (ReadyL.nil)))
    · dsimp only [List.getElem_toArray, List.getElem_cons_succ, List.getElem_cons_zero]
      go_simp
      refine (C0.out _ _ HQ.out HG1.out).mono ?_
      rintro e V2 ⟨rfl, hq, hw⟩
      replace HQ := hidW hq
      clear hq hw HG1
      go_wp2_with fail
      refine hK.out _ _ (trivial) (fun hNew => ?_)
      clear hK K hHeld
      have hHeld := hNew
      clear hNew
      refine anyL_ready (rs := [8, 9]) (by kernel_rfl) (by simp) (ReadyL.cons rfl (fun K hK => ?_) (ReadyL.cons rfl (fun K hK => ?_) (ReadyL.nil)))
      · dsimp only [List.getElem_toArray, List.getElem_cons_succ, List.getElem_cons_zero]
        go_simp
        refine (C1.out _ HQ.out).mono ?_
        rintro e V3 ⟨rfl, hq, hw⟩
        replace HQ := hidW hq
        clear hq hw
        go_wp2_with fail
        refine hK.out _ _ (trivial) (fun hNew => ?_)
        clear hK K hHeld
        have hHeld := hNew
        clear hNew
        refine anyL_ready (rs := [9]) (by kernel_rfl) (by simp) (ReadyL.cons rfl (fun K hK => ?_) (ReadyL.nil))
        · dsimp only [List.getElem_toArray, List.getElem_cons_succ, List.getElem_cons_zero]
          go_simp
          have hq : Qs B b W 14 t a (some ⟨blk, off, none⟩) cap blk off ks _ (V3.alloc (.cells #[.string ⟨#[59]⟩] 9)) ∧ Rw b V3.heap.size [[59]] (V3.alloc (.cells #[.string ⟨#[59]⟩] 9)) ∧ Wrt B b V3 (V3.alloc (.cells #[.string ⟨#[59]⟩] 9)) := HQ.out.row [[59]]
          generalize V3.alloc (.cells #[.string ⟨#[59]⟩] 9) = V4 at *
          generalize V3.heap.size = g9 at *
          replace HQ := hidW hq.1
          have HG9 := hidW hq.2.1
          clear hq
          refine hK.out _ _ (trivial) (fun hNew => ?_)
          clear hK K hHeld
          have hHeld := hNew
          clear hNew
          refine anyL_ready (rs := [10]) (by kernel_rfl) (by simp) (ReadyL.cons rfl (fun K hK => ?_) (ReadyL.nil))
          · dsimp only [List.getElem_toArray, List.getElem_cons_succ, List.getElem_cons_zero]
            go_simp
            refine (C2.out _ _ HQ.out HG9.out).mono ?_
            rintro e V5 ⟨rfl, hq, hw⟩
            replace HQ := hidW hq
            clear hq hw HG9
            go_wp2_with fail
            refine hK.out _ _ (trivial) (fun hNew => ?_)
            clear hK K hHeld
            have hHeld := hNew
            clear hNew
            refine anyL_done (by kernel_rfl) ?_ _
            go_wp2
            refine bodyPost_end (v := .tuple #[]) (by simp [results, Try.results33, go_sem]) rfl ?_
            exact ⟨rfl, by rw [HFIN.out]; exact HQ.out.w, HQ.out.r⟩
      · dsimp only [List.getElem_toArray, List.getElem_cons_succ, List.getElem_cons_zero]
        go_simp
        have hq : Qs B b W 14 t a (some ⟨blk, off, none⟩) cap blk off ks _ (V2.alloc (.cells #[.string ⟨#[59]⟩] 9)) ∧ Rw b V2.heap.size [[59]] (V2.alloc (.cells #[.string ⟨#[59]⟩] 9)) ∧ Wrt B b V2 (V2.alloc (.cells #[.string ⟨#[59]⟩] 9)) := HQ.out.row [[59]]
        generalize V2.alloc (.cells #[.string ⟨#[59]⟩] 9) = V3 at *
        generalize V2.heap.size = g9 at *
        replace HQ := hidW hq.1
        have HG9 := hidW hq.2.1
        clear hq
        refine hK.out _ _ (trivial) (fun hNew => ?_)
        clear hK K hHeld
        have hHeld := hNew
        clear hNew
        refine anyL_ready (rs := [8]) (by kernel_rfl) (by simp) (ReadyL.cons rfl (fun K hK => ?_) (ReadyL.nil))
        · dsimp only [List.getElem_toArray, List.getElem_cons_succ, List.getElem_cons_zero]
          go_simp
          refine (C1.out _ HQ.out).mono ?_
          rintro e V4 ⟨rfl, hq, hw⟩
          replace HG9 := hidW (HG9.out.kept hw)
          replace HQ := hidW hq
          clear hq hw
          go_wp2_with fail
          refine hK.out _ _ (trivial) (fun hNew => ?_)
          clear hK K hHeld
          have hHeld := hNew
          clear hNew
          refine anyL_ready (rs := [10]) (by kernel_rfl) (by simp) (ReadyL.cons rfl (fun K hK => ?_) (ReadyL.nil))
          · dsimp only [List.getElem_toArray, List.getElem_cons_succ, List.getElem_cons_zero]
            go_simp
            refine (C2.out _ _ HQ.out HG9.out).mono ?_
            rintro e V5 ⟨rfl, hq, hw⟩
            replace HQ := hidW hq
            clear hq hw HG9
            go_wp2_with fail
            refine hK.out _ _ (trivial) (fun hNew => ?_)
            clear hK K hHeld
            have hHeld := hNew
            clear hNew
            refine anyL_done (by kernel_rfl) ?_ _
            go_wp2
            refine bodyPost_end (v := .tuple #[]) (by simp [results, Try.results33, go_sem]) rfl ?_
            exact ⟨rfl, by rw [HFIN.out]; exact HQ.out.w, HQ.out.r⟩
    · dsimp only [List.getElem_toArray, List.getElem_cons_succ, List.getElem_cons_zero]
      go_simp
      have hq : Qs B b W 14 t a (some ⟨blk, off, none⟩) cap blk off ks _ (V1.alloc (.cells #[.string ⟨#[59]⟩] 9)) ∧ Rw b V1.heap.size [[59]] (V1.alloc (.cells #[.string ⟨#[59]⟩] 9)) ∧ Wrt B b V1 (V1.alloc (.cells #[.string ⟨#[59]⟩] 9)) := HQ.out.row [[59]]
      generalize V1.alloc (.cells #[.string ⟨#[59]⟩] 9) = V2 at *
      generalize V1.heap.size = g9 at *
      replace HG1 := hidW (HG1.out.kept hq.2.2)
      replace HQ := hidW hq.1
      have HG9 := hidW hq.2.1
      clear hq
      refine hK.out _ _ (trivial) (fun hNew => ?_)
      clear hK K hHeld
      have hHeld := hNew
      clear hNew
      refine anyL_ready (rs := [2]) (by kernel_rfl) (by simp) (ReadyL.cons rfl (fun K hK => ?_) (ReadyL.nil))
      · dsimp only [List.getElem_toArray, List.getElem_cons_succ, List.getElem_cons_zero]
        go_simp
        refine (C0.out _ _ HQ.out HG1.out).mono ?_
        rintro e V3 ⟨rfl, hq, hw⟩
        replace HG9 := hidW (HG9.out.kept hw)
        replace HQ := hidW hq
        clear hq hw HG1
        go_wp2_with fail
        refine hK.out _ _ (trivial) (fun hNew => ?_)
        clear hK K hHeld
        have hHeld := hNew
        clear hNew
        refine anyL_ready (rs := [8]) (by kernel_rfl) (by simp) (ReadyL.cons rfl (fun K hK => ?_) (ReadyL.nil))
        · dsimp only [List.getElem_toArray, List.getElem_cons_succ, List.getElem_cons_zero]
          go_simp
          refine (C1.out _ HQ.out).mono ?_
          rintro e V4 ⟨rfl, hq, hw⟩
          replace HG9 := hidW (HG9.out.kept hw)
          replace HQ := hidW hq
          clear hq hw
          go_wp2_with fail
          refine hK.out _ _ (trivial) (fun hNew => ?_)
          clear hK K hHeld
          have hHeld := hNew
          clear hNew
          refine anyL_ready (rs := [10]) (by kernel_rfl) (by simp) (ReadyL.cons rfl (fun K hK => ?_) (ReadyL.nil))
          · dsimp only [List.getElem_toArray, List.getElem_cons_succ, List.getElem_cons_zero]
            go_simp
            refine (C2.out _ _ HQ.out HG9.out).mono ?_
            rintro e V5 ⟨rfl, hq, hw⟩
            replace HQ := hidW hq
            clear hq hw HG9
            go_wp2_with fail
            refine hK.out _ _ (trivial) (fun hNew => ?_)
            clear hK K hHeld
            have hHeld := hNew
            clear hNew
            refine anyL_done (by kernel_rfl) ?_ _
            go_wp2
            refine bodyPost_end (v := .tuple #[]) (by simp [results, Try.results33, go_sem]) rfl ?_
            exact ⟨rfl, by rw [HFIN.out]; exact HQ.out.w, HQ.out.r⟩
  · dsimp only [List.getElem_toArray, List.getElem_cons_succ, List.getElem_cons_zero]
    go_simp
    have hq : Qs B b W 14 t a (some ⟨blk, off, none⟩) cap blk off ks _ (V0.alloc (.cells #[.string ⟨#[59]⟩] 9)) ∧ Rw b V0.heap.size [[59]] (V0.alloc (.cells #[.string ⟨#[59]⟩] 9)) ∧ Wrt B b V0 (V0.alloc (.cells #[.string ⟨#[59]⟩] 9)) := HQ.out.row [[59]]
    generalize V0.alloc (.cells #[.string ⟨#[59]⟩] 9) = V1 at *
    generalize V0.heap.size = g9 at *
    replace HQ := hidW hq.1
    have HG9 := hidW hq.2.1
    clear hq
    refine hK.out _ _ (trivial) (fun hNew => ?_)
    clear hK K hHeld
    have hHeld := hNew
    clear hNew
    refine anyL_ready (rs := [1]) (by kernel_rfl) (by simp) (ReadyL.cons rfl (fun K hK => ?_) (ReadyL.nil))
    · dsimp only [List.getElem_toArray, List.getElem_cons_succ, List.getElem_cons_zero]
      go_simp
      have hq : Qs B b W 14 t a (some ⟨blk, off, none⟩) cap blk off ks _ (V1.alloc (.cells #[.string ⟨#[114, 101, 116, 117, 114, 110]⟩] 9)) ∧ Rw b V1.heap.size [[114, 101, 116, 117, 114, 110]] (V1.alloc (.cells #[.string ⟨#[114, 101, 116, 117, 114, 110]⟩] 9)) ∧ Wrt B b V1 (V1.alloc (.cells #[.string ⟨#[114, 101, 116, 117, 114, 110]⟩] 9)) := HQ.out.row [[114, 101, 116, 117, 114, 110]]
      generalize V1.alloc (.cells #[.string ⟨#[114, 101, 116, 117, 114, 110]⟩] 9) = V2 at *
      generalize V1.heap.size = g1 at *
      replace HG9 := hidW (HG9.out.kept hq.2.2)
      replace HQ := hidW hq.1
      have HG1 := hidW hq.2.1
      clear hq
      refine hK.out _ _ (trivial) (fun hNew => ?_)
      clear hK K hHeld
      have hHeld := hNew
      clear hNew
      refine anyL_ready (rs := [2]) (by kernel_rfl) (by simp) (ReadyL.cons rfl (fun K hK => ?_) (ReadyL.nil))
      · dsimp only [List.getElem_toArray, List.getElem_cons_succ, List.getElem_cons_zero]
        go_simp
        refine (C0.out _ _ HQ.out HG1.out).mono ?_
        rintro e V3 ⟨rfl, hq, hw⟩
        replace HG9 := hidW (HG9.out.kept hw)
        replace HQ := hidW hq
        clear hq hw HG1
        go_wp2_with fail
        refine hK.out _ _ (trivial) (fun hNew => ?_)
        clear hK K hHeld
        have hHeld := hNew
        clear hNew
        refine anyL_ready (rs := [8]) (by kernel_rfl) (by simp) (ReadyL.cons rfl (fun K hK => ?_) (ReadyL.nil))
        · dsimp only [List.getElem_toArray, List.getElem_cons_succ, List.getElem_cons_zero]
          go_simp
          refine (C1.out _ HQ.out).mono ?_
          rintro e V4 ⟨rfl, hq, hw⟩
          replace HG9 := hidW (HG9.out.kept hw)
          replace HQ := hidW hq
          clear hq hw
          go_wp2_with fail
          refine hK.out _ _ (trivial) (fun hNew => ?_)
          clear hK K hHeld
          have hHeld := hNew
          clear hNew
          refine anyL_ready (rs := [10]) (by kernel_rfl) (by simp) (ReadyL.cons rfl (fun K hK => ?_) (ReadyL.nil))
          · dsimp only [List.getElem_toArray, List.getElem_cons_succ, List.getElem_cons_zero]
            go_simp
            refine (C2.out _ _ HQ.out HG9.out).mono ?_
            rintro e V5 ⟨rfl, hq, hw⟩
            replace HQ := hidW hq
            clear hq hw HG9
            go_wp2_with fail
            refine hK.out _ _ (trivial) (fun hNew => ?_)
            clear hK K hHeld
            have hHeld := hNew
            clear hNew
            refine anyL_done (by kernel_rfl) ?_ _
            go_wp2
            refine bodyPost_end (v := .tuple #[]) (by simp [results, Try.results33, go_sem]) rfl ?_
            exact ⟨rfl, by rw [HFIN.out]; exact HQ.out.w, HQ.out.r⟩

set_option maxRecDepth 100000 in
set_option maxHeartbeats 16000000 in
theorem wr_14z {B b z : Nat} (IH : NodeTo B b z) {x : Ws} {W : World} (h : WrAt B b x W) {t : List UInt8} {a : Int} {av : Option Addr} {cap blk off : Nat} {ks : List Nv} (hr : RowB B W av blk off ks) (hz : szL (ndL ks) ≤ z) (hlen : x.l.length + (t.length + 60 + nedL (ndL ks)) ≤ 140737488355328) (_hk : 0 ≤ ks.length) (_hcap : ks.length ≤ cap) (h0 : ks.length = 0) :
    Calls Try.prog 33 #[.pointer (some ⟨b, 0, none⟩), .agg #[.int .i64 14, .string (bs t), .int .i64 a, .slice av ks.length cap]] W fun e W' => e = .returned (.tuple #[]) ∧ WrAt B b (appL (rowP 14 t (txtL (ndL ks))) x) W' ∧ Wrt B b W W' := by
  have hned2 := nedL_split ks 0
  have HFIN := hidW (show appL (rowP 14 t (txtL (ndL ks))) x = (appL [[59]] (appL (txtL (ndL (ks.take 0))) (appL [[114, 101, 116, 117, 114, 110]] x))) from by rw [rowP_14, txt_zero h0, appL_append, appL_append] <;> rfl)
  have L0 : x.l.length + (room [[114, 101, 116, 117, 114, 110]] + (nedL (ndL (ks.take 0)) + (room [[59]] + (0)))) ≤ 140737488355328 := by simp only [room_cons, room_nil, List.length_cons, List.length_nil]; omega
  have L1 := put_room _ _ _ L0
  have L2 := nodes_room _ _ _ L1
  have C0 := hidW (fun (V : World) (g : Nat) (h : Qs B b W 14 t a av cap blk off ks x V) (hg : Rw b g [[114, 101, 116, 117, 114, 110]] V) => h.put [[114, 101, 116, 117, 114, 110]] (by omega) (by simp) hg)
  have C1 := hidW (fun (V : World) (h : Qs B b W 14 t a av cap blk off ks (appL [[114, 101, 116, 117, 114, 110]] x) V) => h.nodes (cap2 := cap) IH (Nat.le_trans (szL_take ks 0) hz) (by omega) (fun _ h => h.take 0) 0 (take_len ks 0 (by omega)))
  have C2 := hidW (fun (V : World) (g : Nat) (h : Qs B b W 14 t a av cap blk off ks (appL (txtL (ndL (ks.take 0))) (appL [[114, 101, 116, 117, 114, 110]] x)) V) (hg : Rw b g [[59]] V) => h.put [[59]] (by omega) (by simp) hg)
  have HQ := hidW (Qs.start (k := 14) (t := t) (a := a) (cap := cap) h hr)
  obtain ⟨q0, -, q3⟩ := HQ.out.n.text
  clear h hr hlen L0 L1 L2 hned2
  have hc2 : min (1 : Int) (ks.length : Int) = 0 := by omega
  clear h0
  go_enter Try.func33, Try.ntmps33
  go_wp2_with fail
  refine region_late (fun _ => True) 99 (by kernel_rfl) ?_
  replace HQ := hidW HQ.out.drew
  clear q0 q3
  generalize (W.alloc (.cells #[.int .i64 14, .string (bs t), .int .i64 a, .slice av ks.length cap] 24)).drew = V0 at *
  have hHeld := trivial
  refine anyL_tk 0 (v := ?_) rfl (by kernel_rfl) (fun _ _ _ h => h) hHeld (by rfl) ?_ ?_
  rotate_left 1
  · intro w hSw; (try dsimp only at hSw); go_simp; try with_reducible rfl
  refine anyL_tk 3 (v := ?_) rfl (by kernel_rfl) (fun _ _ _ h => h) hHeld (by rfl) ?_ ?_
  rotate_left 1
  · intro w hSw; (try dsimp only at hSw); go_simp; try with_reducible rfl
  refine anyL_tk 4 (v := ?_) rfl (by kernel_rfl) (fun _ _ _ h => h) hHeld (by rfl) ?_ ?_
  rotate_left 1
  · intro w hSw; (try dsimp only at hSw); go_simp; try with_reducible rfl
  refine anyL_tk 5 (v := ?_) rfl (by kernel_rfl) (fun _ _ _ h => h) hHeld (by rfl) ?_ ?_
  rotate_left 1
  · intro w hSw; (try dsimp only at hSw); go_simp; try with_reducible rfl
  refine anyL_tk 6 (v := ?_) rfl (by kernel_rfl) (fun _ _ _ h => h) hHeld (by rfl) ?_ ?_
  rotate_left 1
  · intro w hSw; (try dsimp only at hSw); go_simp; try with_reducible rfl
  refine anyL_tk 7 (v := ?_) rfl (by kernel_rfl) (fun _ _ _ h => h) hHeld (by rfl) ?_ ?_
  rotate_left 1
  · intro w hSw; (try dsimp only at hSw); go_simp; try with_reducible rfl
  refine anyL_ready (rs := [1, 9]) (by kernel_rfl) (by simp) (ReadyL.cons rfl (fun K hK => ?_) (ReadyL.cons rfl (fun K hK => ?_) (ReadyL.nil)))
  · dsimp only [List.getElem_toArray, List.getElem_cons_succ, List.getElem_cons_zero]
    go_simp
    have hq : Qs B b W 14 t a av cap blk off ks _ (V0.alloc (.cells #[.string ⟨#[114, 101, 116, 117, 114, 110]⟩] 9)) ∧ Rw b V0.heap.size [[114, 101, 116, 117, 114, 110]] (V0.alloc (.cells #[.string ⟨#[114, 101, 116, 117, 114, 110]⟩] 9)) ∧ Wrt B b V0 (V0.alloc (.cells #[.string ⟨#[114, 101, 116, 117, 114, 110]⟩] 9)) := HQ.out.row [[114, 101, 116, 117, 114, 110]]
    generalize V0.alloc (.cells #[.string ⟨#[114, 101, 116, 117, 114, 110]⟩] 9) = V1 at *
    generalize V0.heap.size = g1 at *
    replace HQ := hidW hq.1
    have HG1 := hidW hq.2.1
    clear hq
    refine hK.out _ _ (trivial) (fun hNew => ?_)
    clear hK K hHeld
    have hHeld := hNew
    clear hNew
    refine anyL_ready (rs := [2, 9]) (by kernel_rfl) (by simp) (ReadyL.cons rfl (fun K hK => ?_) (ReadyL.cons rfl (fun K hK => ?_) (ReadyL.nil)))
    · dsimp only [List.getElem_toArray, List.getElem_cons_succ, List.getElem_cons_zero]
      go_simp
      refine (C0.out _ _ HQ.out HG1.out).mono ?_
      rintro e V2 ⟨rfl, hq, hw⟩
      replace HQ := hidW hq
      clear hq hw HG1
      go_wp2_with fail
      refine hK.out _ _ (trivial) (fun hNew => ?_)
      clear hK K hHeld
      have hHeld := hNew
      clear hNew
      refine anyL_ready (rs := [8, 9]) (by kernel_rfl) (by simp) (ReadyL.cons rfl (fun K hK => ?_) (ReadyL.cons rfl (fun K hK => ?_) (ReadyL.nil)))
      · dsimp only [List.getElem_toArray, List.getElem_cons_succ, List.getElem_cons_zero]
        go_simp
        refine (C1.out _ HQ.out).mono ?_
        rintro e V3 ⟨rfl, hq, hw⟩
        replace HQ := hidW hq
        clear hq hw
        go_wp2_with fail
        refine hK.out _ _ (trivial) (fun hNew => ?_)
        clear hK K hHeld
        have hHeld := hNew
        clear hNew
        refine anyL_ready (rs := [9]) (by kernel_rfl) (by simp) (ReadyL.cons rfl (fun K hK => ?_) (ReadyL.nil))
        · dsimp only [List.getElem_toArray, List.getElem_cons_succ, List.getElem_cons_zero]
          go_simp
          have hq : Qs B b W 14 t a av cap blk off ks _ (V3.alloc (.cells #[.string ⟨#[59]⟩] 9)) ∧ Rw b V3.heap.size [[59]] (V3.alloc (.cells #[.string ⟨#[59]⟩] 9)) ∧ Wrt B b V3 (V3.alloc (.cells #[.string ⟨#[59]⟩] 9)) := HQ.out.row [[59]]
          generalize V3.alloc (.cells #[.string ⟨#[59]⟩] 9) = V4 at *
          generalize V3.heap.size = g9 at *
          replace HQ := hidW hq.1
          have HG9 := hidW hq.2.1
          clear hq
          refine hK.out _ _ (trivial) (fun hNew => ?_)
          clear hK K hHeld
          have hHeld := hNew
          clear hNew
          refine anyL_ready (rs := [10]) (by kernel_rfl) (by simp) (ReadyL.cons rfl (fun K hK => ?_) (ReadyL.nil))
          · dsimp only [List.getElem_toArray, List.getElem_cons_succ, List.getElem_cons_zero]
            go_simp
            refine (C2.out _ _ HQ.out HG9.out).mono ?_
            rintro e V5 ⟨rfl, hq, hw⟩
            replace HQ := hidW hq
            clear hq hw HG9
            go_wp2_with fail
            refine hK.out _ _ (trivial) (fun hNew => ?_)
            clear hK K hHeld
            have hHeld := hNew
            clear hNew
            refine anyL_done (by kernel_rfl) ?_ _
            go_wp2
            refine bodyPost_end (v := .tuple #[]) (by simp [results, Try.results33, go_sem]) rfl ?_
            exact ⟨rfl, by rw [HFIN.out]; exact HQ.out.w, HQ.out.r⟩
      · dsimp only [List.getElem_toArray, List.getElem_cons_succ, List.getElem_cons_zero]
        go_simp
        have hq : Qs B b W 14 t a av cap blk off ks _ (V2.alloc (.cells #[.string ⟨#[59]⟩] 9)) ∧ Rw b V2.heap.size [[59]] (V2.alloc (.cells #[.string ⟨#[59]⟩] 9)) ∧ Wrt B b V2 (V2.alloc (.cells #[.string ⟨#[59]⟩] 9)) := HQ.out.row [[59]]
        generalize V2.alloc (.cells #[.string ⟨#[59]⟩] 9) = V3 at *
        generalize V2.heap.size = g9 at *
        replace HQ := hidW hq.1
        have HG9 := hidW hq.2.1
        clear hq
        refine hK.out _ _ (trivial) (fun hNew => ?_)
        clear hK K hHeld
        have hHeld := hNew
        clear hNew
        refine anyL_ready (rs := [8]) (by kernel_rfl) (by simp) (ReadyL.cons rfl (fun K hK => ?_) (ReadyL.nil))
        · dsimp only [List.getElem_toArray, List.getElem_cons_succ, List.getElem_cons_zero]
          go_simp
          refine (C1.out _ HQ.out).mono ?_
          rintro e V4 ⟨rfl, hq, hw⟩
          replace HG9 := hidW (HG9.out.kept hw)
          replace HQ := hidW hq
          clear hq hw
          go_wp2_with fail
          refine hK.out _ _ (trivial) (fun hNew => ?_)
          clear hK K hHeld
          have hHeld := hNew
          clear hNew
          refine anyL_ready (rs := [10]) (by kernel_rfl) (by simp) (ReadyL.cons rfl (fun K hK => ?_) (ReadyL.nil))
          · dsimp only [List.getElem_toArray, List.getElem_cons_succ, List.getElem_cons_zero]
            go_simp
            refine (C2.out _ _ HQ.out HG9.out).mono ?_
            rintro e V5 ⟨rfl, hq, hw⟩
            replace HQ := hidW hq
            clear hq hw HG9
            go_wp2_with fail
            refine hK.out _ _ (trivial) (fun hNew => ?_)
            clear hK K hHeld
            have hHeld := hNew
            clear hNew
            refine anyL_done (by kernel_rfl) ?_ _
            go_wp2
            refine bodyPost_end (v := .tuple #[]) (by simp [results, Try.results33, go_sem]) rfl ?_
            exact ⟨rfl, by rw [HFIN.out]; exact HQ.out.w, HQ.out.r⟩
    · dsimp only [List.getElem_toArray, List.getElem_cons_succ, List.getElem_cons_zero]
      go_simp
      have hq : Qs B b W 14 t a av cap blk off ks _ (V1.alloc (.cells #[.string ⟨#[59]⟩] 9)) ∧ Rw b V1.heap.size [[59]] (V1.alloc (.cells #[.string ⟨#[59]⟩] 9)) ∧ Wrt B b V1 (V1.alloc (.cells #[.string ⟨#[59]⟩] 9)) := HQ.out.row [[59]]
      generalize V1.alloc (.cells #[.string ⟨#[59]⟩] 9) = V2 at *
      generalize V1.heap.size = g9 at *
      replace HG1 := hidW (HG1.out.kept hq.2.2)
      replace HQ := hidW hq.1
      have HG9 := hidW hq.2.1
      clear hq
      refine hK.out _ _ (trivial) (fun hNew => ?_)
      clear hK K hHeld
      have hHeld := hNew
      clear hNew
      refine anyL_ready (rs := [2]) (by kernel_rfl) (by simp) (ReadyL.cons rfl (fun K hK => ?_) (ReadyL.nil))
      · dsimp only [List.getElem_toArray, List.getElem_cons_succ, List.getElem_cons_zero]
        go_simp
        refine (C0.out _ _ HQ.out HG1.out).mono ?_
        rintro e V3 ⟨rfl, hq, hw⟩
        replace HG9 := hidW (HG9.out.kept hw)
        replace HQ := hidW hq
        clear hq hw HG1
        go_wp2_with fail
        refine hK.out _ _ (trivial) (fun hNew => ?_)
        clear hK K hHeld
        have hHeld := hNew
        clear hNew
        refine anyL_ready (rs := [8]) (by kernel_rfl) (by simp) (ReadyL.cons rfl (fun K hK => ?_) (ReadyL.nil))
        · dsimp only [List.getElem_toArray, List.getElem_cons_succ, List.getElem_cons_zero]
          go_simp
          refine (C1.out _ HQ.out).mono ?_
          rintro e V4 ⟨rfl, hq, hw⟩
          replace HG9 := hidW (HG9.out.kept hw)
          replace HQ := hidW hq
          clear hq hw
          go_wp2_with fail
          refine hK.out _ _ (trivial) (fun hNew => ?_)
          clear hK K hHeld
          have hHeld := hNew
          clear hNew
          refine anyL_ready (rs := [10]) (by kernel_rfl) (by simp) (ReadyL.cons rfl (fun K hK => ?_) (ReadyL.nil))
          · dsimp only [List.getElem_toArray, List.getElem_cons_succ, List.getElem_cons_zero]
            go_simp
            refine (C2.out _ _ HQ.out HG9.out).mono ?_
            rintro e V5 ⟨rfl, hq, hw⟩
            replace HQ := hidW hq
            clear hq hw HG9
            go_wp2_with fail
            refine hK.out _ _ (trivial) (fun hNew => ?_)
            clear hK K hHeld
            have hHeld := hNew
            clear hNew
            refine anyL_done (by kernel_rfl) ?_ _
            go_wp2
            refine bodyPost_end (v := .tuple #[]) (by simp [results, Try.results33, go_sem]) rfl ?_
            exact ⟨rfl, by rw [HFIN.out]; exact HQ.out.w, HQ.out.r⟩
  · dsimp only [List.getElem_toArray, List.getElem_cons_succ, List.getElem_cons_zero]
    go_simp
    have hq : Qs B b W 14 t a av cap blk off ks _ (V0.alloc (.cells #[.string ⟨#[59]⟩] 9)) ∧ Rw b V0.heap.size [[59]] (V0.alloc (.cells #[.string ⟨#[59]⟩] 9)) ∧ Wrt B b V0 (V0.alloc (.cells #[.string ⟨#[59]⟩] 9)) := HQ.out.row [[59]]
    generalize V0.alloc (.cells #[.string ⟨#[59]⟩] 9) = V1 at *
    generalize V0.heap.size = g9 at *
    replace HQ := hidW hq.1
    have HG9 := hidW hq.2.1
    clear hq
    refine hK.out _ _ (trivial) (fun hNew => ?_)
    clear hK K hHeld
    have hHeld := hNew
    clear hNew
    refine anyL_ready (rs := [1]) (by kernel_rfl) (by simp) (ReadyL.cons rfl (fun K hK => ?_) (ReadyL.nil))
    · dsimp only [List.getElem_toArray, List.getElem_cons_succ, List.getElem_cons_zero]
      go_simp
      have hq : Qs B b W 14 t a av cap blk off ks _ (V1.alloc (.cells #[.string ⟨#[114, 101, 116, 117, 114, 110]⟩] 9)) ∧ Rw b V1.heap.size [[114, 101, 116, 117, 114, 110]] (V1.alloc (.cells #[.string ⟨#[114, 101, 116, 117, 114, 110]⟩] 9)) ∧ Wrt B b V1 (V1.alloc (.cells #[.string ⟨#[114, 101, 116, 117, 114, 110]⟩] 9)) := HQ.out.row [[114, 101, 116, 117, 114, 110]]
      generalize V1.alloc (.cells #[.string ⟨#[114, 101, 116, 117, 114, 110]⟩] 9) = V2 at *
      generalize V1.heap.size = g1 at *
      replace HG9 := hidW (HG9.out.kept hq.2.2)
      replace HQ := hidW hq.1
      have HG1 := hidW hq.2.1
      clear hq
      refine hK.out _ _ (trivial) (fun hNew => ?_)
      clear hK K hHeld
      have hHeld := hNew
      clear hNew
      refine anyL_ready (rs := [2]) (by kernel_rfl) (by simp) (ReadyL.cons rfl (fun K hK => ?_) (ReadyL.nil))
      · dsimp only [List.getElem_toArray, List.getElem_cons_succ, List.getElem_cons_zero]
        go_simp
        refine (C0.out _ _ HQ.out HG1.out).mono ?_
        rintro e V3 ⟨rfl, hq, hw⟩
        replace HG9 := hidW (HG9.out.kept hw)
        replace HQ := hidW hq
        clear hq hw HG1
        go_wp2_with fail
        refine hK.out _ _ (trivial) (fun hNew => ?_)
        clear hK K hHeld
        have hHeld := hNew
        clear hNew
        refine anyL_ready (rs := [8]) (by kernel_rfl) (by simp) (ReadyL.cons rfl (fun K hK => ?_) (ReadyL.nil))
        · dsimp only [List.getElem_toArray, List.getElem_cons_succ, List.getElem_cons_zero]
          go_simp
          refine (C1.out _ HQ.out).mono ?_
          rintro e V4 ⟨rfl, hq, hw⟩
          replace HG9 := hidW (HG9.out.kept hw)
          replace HQ := hidW hq
          clear hq hw
          go_wp2_with fail
          refine hK.out _ _ (trivial) (fun hNew => ?_)
          clear hK K hHeld
          have hHeld := hNew
          clear hNew
          refine anyL_ready (rs := [10]) (by kernel_rfl) (by simp) (ReadyL.cons rfl (fun K hK => ?_) (ReadyL.nil))
          · dsimp only [List.getElem_toArray, List.getElem_cons_succ, List.getElem_cons_zero]
            go_simp
            refine (C2.out _ _ HQ.out HG9.out).mono ?_
            rintro e V5 ⟨rfl, hq, hw⟩
            replace HQ := hidW hq
            clear hq hw HG9
            go_wp2_with fail
            refine hK.out _ _ (trivial) (fun hNew => ?_)
            clear hK K hHeld
            have hHeld := hNew
            clear hNew
            refine anyL_done (by kernel_rfl) ?_ _
            go_wp2
            refine bodyPost_end (v := .tuple #[]) (by simp [results, Try.results33, go_sem]) rfl ?_
            exact ⟨rfl, by rw [HFIN.out]; exact HQ.out.w, HQ.out.r⟩

end Go.Proofs.Ytgndnodahlabiaa
