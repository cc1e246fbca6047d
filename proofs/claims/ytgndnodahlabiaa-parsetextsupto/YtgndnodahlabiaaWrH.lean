/-
  A writer (layer 10): declarations and types.
-/
import Derived.Test.YtgndnodahlabiaaMgL
namespace Go.Proofs.Ytgndnodahlabiaa
open Go.ChangeShapes Go.WideShapes Go.ChangeAt Go.RowKit

set_option maxRecDepth 100000 in
set_option maxHeartbeats 16000000 in
theorem wr_1 {B b z : Nat} (IH : NodeTo B b z) {x : Ws} {W : World} (h : WrAt B b x W) {t : List UInt8} {a : Int} {av : Option Addr} {cap blk off : Nat} {ks : List Nv} (hr : RowB B W av blk off ks) (hz : szL (ndL ks) ≤ z) (hlen : x.l.length + (t.length + 60 + nedL (ndL ks)) ≤ 140737488355328) :
    Calls Try.prog 32 #[.pointer (some ⟨b, 0, none⟩), .agg #[.int .i64 1, .string (bs t), .int .i64 a, .slice av ks.length cap]] W fun e W' => e = .returned (.tuple #[]) ∧ WrAt B b (app1 ((txtL (ndL ks)).flatMap (fun s => s ++ [10])) x) W' ∧ Wrt B b W W' := by
  have HQ := hidW (Qs.start (k := 1) (t := t) (a := a) (cap := cap) h hr)
  have hC := hidW (wlines_is (cap := cap) IH HQ.out.w HQ.out.n.row hz (by omega))
  obtain ⟨q0, -, q3⟩ := HQ.out.n.text
  clear h hr hlen
  go_enter Try.func32, Try.ntmps32
  go_wp2_with fail
  refine hC.out.mono ?_; clear hC; rintro e V1 ⟨rfl, hq, hw⟩
  have HF := hidW (And.intro hq (HQ.out.r.trans hw))
  clear hq hw
  go_wp2
  refine bodyPost_end (v := .tuple #[]) (by simp [results, Try.results32, go_sem]) rfl ?_
  exact ⟨rfl, HF.out.1, HF.out.2⟩

set_option maxRecDepth 100000 in
set_option maxHeartbeats 16000000 in
theorem wr_4 {B b : Nat} {x : Ws} {W : World} (h : WrAt B b x W) {t : List UInt8} {a : Int} {av : Option Addr} {cap blk off : Nat} {ks : List Nv} (hr : RowB B W av blk off ks) :
    Calls Try.prog 32 #[.pointer (some ⟨b, 0, none⟩), .agg #[.int .i64 4, .string (bs t), .int .i64 a, .slice av ks.length cap]] W fun e W' => e = .returned (.tuple #[]) ∧ WrAt B b (appL (rowP 4 t (txtL (ndL ks))) x) W' ∧ Wrt B b W W' := by
  have HQ := hidW (Qs.start (k := 4) (t := t) (a := a) (cap := cap) h hr)
  obtain ⟨q0, -, q3⟩ := HQ.out.n.text
  clear h hr
  go_enter Try.func32, Try.ntmps32
  go_wp2
  refine bodyPost_end (v := .tuple #[]) (by simp [results, Try.results32, go_sem]) rfl ?_
  exact ⟨rfl, HQ.out.w, HQ.out.r⟩

set_option maxRecDepth 100000 in
set_option maxHeartbeats 16000000 in
theorem wr_2 {B b z : Nat} (IH : NodeTo B b z) {x : Ws} {W : World} (h : WrAt B b x W) {t : List UInt8} {a : Int} {av : Option Addr} {cap blk off : Nat} {ks : List Nv} (hr : RowB B W av blk off ks) (hz : szL (ndL ks) ≤ z) (hlen : x.l.length + (t.length + 60 + nedL (ndL ks)) ≤ 140737488355328) (hk : 2 ≤ ks.length) (hcap : ks.length ≤ cap) :
    Calls Try.prog 32 #[.pointer (some ⟨b, 0, none⟩), .agg #[.int .i64 2, .string (bs t), .int .i64 a, .slice av ks.length cap]] W fun e W' => e = .returned (.tuple #[]) ∧ WrAt B b (appL (rowP 2 t (txtL (ndL ks))) x) W' ∧ Wrt B b W W' := by
  obtain ⟨M, hM⟩ : ∃ M, M + 2 = ks.length := ⟨ks.length - 2, by omega⟩
  have hMb : M < 4611686018427387904 := by have := hr.len; omega
  have hMw : wrap64 (M : Int) = (M : Int) := by unfold wrap64; omega
  obtain rfl := hr.row.at_ (by omega)
  have hned2 := nedL_split ks M
  have HFIN := hidW (show appL (rowP 2 t (txtL (ndL ks))) x = (appL (txtL (ndL (ks.drop M))) (appL [[41]] (appL (inter (txtL (ndL (ks.take M)))) (appL [[102, 117, 110, 99], t, [40]] x)))) from by rw [rowP_2, txtL_len, ndL_len, ← hM, Nat.add_sub_cancel, txt_take, txt_drop, appL_append, appL_append, appL_append] <;> rfl)
  have L0 : x.l.length + (room [[102, 117, 110, 99], t, [40]] + (nedL (ndL (ks.take M)) + (room [[41]] + (nedL (ndL (ks.drop M)) + (0))))) ≤ 140737488355328 := by simp only [room_cons, room_nil, List.length_cons, List.length_nil]; omega
  have L1 := put_room _ _ _ L0
  have L2 := list_room _ _ _ L1
  have L3 := put_room _ _ _ L2
  have C0 := hidW (fun (V : World) (g : Nat) (h : Qs B b W 2 t a (some ⟨blk, off, none⟩) cap blk off ks x V) (hg : Rw b g [[102, 117, 110, 99], t, [40]] V) => h.put [[102, 117, 110, 99], t, [40]] (by omega) (by simp) hg)
  have C1 := hidW (fun (V : World) (h : Qs B b W 2 t a (some ⟨blk, off, none⟩) cap blk off ks (appL [[102, 117, 110, 99], t, [40]] x) V) => h.list (cap2 := cap) IH (Nat.le_trans (szL_take ks M) hz) (by omega) (fun _ h => h.take M) M (take_len ks M (by omega)))
  have C2 := hidW (fun (V : World) (g : Nat) (h : Qs B b W 2 t a (some ⟨blk, off, none⟩) cap blk off ks (appL (inter (txtL (ndL (ks.take M)))) (appL [[102, 117, 110, 99], t, [40]] x)) V) (hg : Rw b g [[41]] V) => h.put [[41]] (by omega) (by simp) hg)
  have C3 := hidW (fun (V : World) (h : Qs B b W 2 t a (some ⟨blk, off, none⟩) cap blk off ks (appL [[41]] (appL (inter (txtL (ndL (ks.take M)))) (appL [[102, 117, 110, 99], t, [40]] x))) V) => h.nodes (cap2 := cap - M) IH (Nat.le_trans (szL_drop ks M) hz) (by omega) (fun _ h => h.drop M) (ks.length - M) (drop_len ks M))
  have HQ := hidW (Qs.start (k := 2) (t := t) (a := a) (cap := cap) h hr)
  have HS := hidW (fun (V : World) (y : Ws) (hN : Qs B b W 2 t a (some ⟨blk, off, none⟩) cap blk off ks y V) => (show (V.cell? ⟨W.heap.size, 1, none⟩ = some (.string (bs t))) from hN.n.text.2.1))
  obtain ⟨q0, -, q3⟩ := HQ.out.n.text
  clear h hr hlen L0 L1 L2 L3 hned2
  have hc2 : ((M : Int) ≤ (cap : Int)) = True := eq_true (by omega)
  have hc3 : ((M : Int) ≤ (ks.length : Int)) = True := eq_true (by omega)
  have hc4 : (ks.length : Int) - 2 = (M : Int) := by omega
  have hc5 : (cap = M) = False := eq_false (by omega)
  clear hM
  go_enter Try.func32, Try.ntmps32
  go_wp2_with fail
  refine region_late (fun V => (V.cell? ⟨W.heap.size, 1, none⟩ = some (.string (bs t)))) 99 (by kernel_rfl) ?_
  replace HQ := hidW HQ.out.drew
  clear q0 q3
  generalize (W.alloc (.cells #[.int .i64 2, .string (bs t), .int .i64 a, .slice (some ⟨blk, off, none⟩) ks.length cap] 24)).drew = V0 at *
  have hHeld := HS.out _ _ HQ.out
  refine anyL_tk 0 (v := ?_) rfl (by kernel_rfl) (fun _ _ _ h => h) hHeld (by rfl) ?_ ?_
  rotate_left 1
  · intro w hSw; (try dsimp only at hSw); go_simp; try with_reducible rfl
  refine anyL_tk 1 (v := ?_) rfl (by kernel_rfl) (fun _ _ _ h => h) hHeld (by rfl) ?_ ?_
  rotate_left 1
  · intro w hSw; (try dsimp only at hSw); go_simp; try with_reducible rfl
  refine anyL_tk 2 (v := ?_) rfl (by kernel_rfl) (fun _ _ _ h => h) hHeld (by rfl) ?_ ?_
  rotate_left 1
  · intro w hSw; (try dsimp only at hSw); go_simp; try with_reducible rfl
  refine anyL_tk 5 (v := ?_) rfl (by kernel_rfl) (fun _ _ _ h => h) hHeld (by rfl) ?_ ?_
  rotate_left 1
  · intro w hSw; (try dsimp only at hSw); go_simp; try with_reducible rfl
  refine anyL_tk 6 (v := ?_) rfl (by kernel_rfl) (fun _ _ _ h => h) hHeld (by rfl) ?_ ?_
  rotate_left 1
  · intro w hSw; (try dsimp only at hSw); go_simp; try with_reducible rfl
  refine anyL_tk 7 (v := ?_) rfl (by kernel_rfl) (fun _ _ _ h => h) hHeld (by rfl) ?_ ?_
  rotate_left 1
  · intro w hSw; (try dsimp only at hSw); go_simp; try with_reducible rfl
  refine anyL_tk 11 (v := ?_) rfl (by kernel_rfl) (fun _ _ _ h => h) hHeld (by rfl) ?_ ?_
  rotate_left 1
  · intro w hSw; (try dsimp only at hSw); go_simp; try with_reducible rfl
  refine anyL_tk 12 (v := ?_) rfl (by kernel_rfl) (fun _ _ _ h => h) hHeld (by rfl) ?_ ?_
  rotate_left 1
  · intro w hSw; (try dsimp only at hSw); go_simp; try with_reducible rfl
  refine anyL_tk 13 (v := ?_) rfl (by kernel_rfl) (fun _ _ _ h => h) hHeld (by rfl) ?_ ?_
  rotate_left 1
  · intro w hSw; (try dsimp only at hSw); go_simp; try with_reducible rfl
  refine anyL_ready (rs := [3, 9]) (by kernel_rfl) (by simp) (ReadyL.cons rfl (fun K hK => ?_) (ReadyL.cons rfl (fun K hK => ?_) (ReadyL.nil)))
  · dsimp only [List.getElem_toArray, List.getElem_cons_succ, List.getElem_cons_zero]
    go_simp
    have hq : Qs B b W 2 t a (some ⟨blk, off, none⟩) cap blk off ks _ (V0.alloc (.cells #[.string ⟨#[102, 117, 110, 99]⟩, .string (bs t), .string ⟨#[40]⟩] 9)) ∧ Rw b V0.heap.size [[102, 117, 110, 99], t, [40]] (V0.alloc (.cells #[.string ⟨#[102, 117, 110, 99]⟩, .string (bs t), .string ⟨#[40]⟩] 9)) ∧ Wrt B b V0 (V0.alloc (.cells #[.string ⟨#[102, 117, 110, 99]⟩, .string (bs t), .string ⟨#[40]⟩] 9)) := HQ.out.row [[102, 117, 110, 99], t, [40]]
    generalize V0.alloc (.cells #[.string ⟨#[102, 117, 110, 99]⟩, .string (bs t), .string ⟨#[40]⟩] 9) = V1 at *
    generalize V0.heap.size = g3 at *
    replace HQ := hidW hq.1
    have HG3 := hidW hq.2.1
    clear hq
    refine hK.out _ _ (HS.out _ _ HQ.out) (fun hNew => ?_)
    clear hK K hHeld
    have hHeld := hNew
    clear hNew
    refine anyL_ready (rs := [4, 9]) (by kernel_rfl) (by simp) (ReadyL.cons rfl (fun K hK => ?_) (ReadyL.cons rfl (fun K hK => ?_) (ReadyL.nil)))
    · dsimp only [List.getElem_toArray, List.getElem_cons_succ, List.getElem_cons_zero]
      go_simp
      refine (C0.out _ _ HQ.out HG3.out).mono ?_
      rintro e V2 ⟨rfl, hq, hw⟩
      replace HQ := hidW hq
      clear hq hw HG3
      go_wp2_with fail
      refine hK.out _ _ (HS.out _ _ HQ.out) (fun hNew => ?_)
      clear hK K hHeld
      have hHeld := hNew
      clear hNew
      refine anyL_ready (rs := [8, 9]) (by kernel_rfl) (by simp) (ReadyL.cons rfl (fun K hK => ?_) (ReadyL.cons rfl (fun K hK => ?_) (ReadyL.nil)))
      · dsimp only [List.getElem_toArray, List.getElem_cons_succ, List.getElem_cons_zero]
        go_simp
        refine (C1.out _ HQ.out).mono ?_
        rintro e V3 ⟨rfl, hq, hw⟩
        replace HQ := hidW hq
        clear hq hw
        go_wp2_with fail
        refine hK.out _ _ (HS.out _ _ HQ.out) (fun hNew => ?_)
        clear hK K hHeld
        have hHeld := hNew
        clear hNew
        refine anyL_ready (rs := [9]) (by kernel_rfl) (by simp) (ReadyL.cons rfl (fun K hK => ?_) (ReadyL.nil))
        · dsimp only [List.getElem_toArray, List.getElem_cons_succ, List.getElem_cons_zero]
          go_simp
          have hq : Qs B b W 2 t a (some ⟨blk, off, none⟩) cap blk off ks _ (V3.alloc (.cells #[.string ⟨#[41]⟩] 9)) ∧ Rw b V3.heap.size [[41]] (V3.alloc (.cells #[.string ⟨#[41]⟩] 9)) ∧ Wrt B b V3 (V3.alloc (.cells #[.string ⟨#[41]⟩] 9)) := HQ.out.row [[41]]
          generalize V3.alloc (.cells #[.string ⟨#[41]⟩] 9) = V4 at *
          generalize V3.heap.size = g9 at *
          replace HQ := hidW hq.1
          have HG9 := hidW hq.2.1
          clear hq
          refine hK.out _ _ (HS.out _ _ HQ.out) (fun hNew => ?_)
          clear hK K hHeld
          have hHeld := hNew
          clear hNew
          refine anyL_ready (rs := [10]) (by kernel_rfl) (by simp) (ReadyL.cons rfl (fun K hK => ?_) (ReadyL.nil))
          · dsimp only [List.getElem_toArray, List.getElem_cons_succ, List.getElem_cons_zero]
            go_simp
            refine (C2.out _ _ HQ.out HG9.out).mono ?_
            rintro e V5 ⟨rfl, hq, hw⟩
            replace HQ := hidW hq
            clear hq hw HG9
            go_wp2_with fail
            refine hK.out _ _ (HS.out _ _ HQ.out) (fun hNew => ?_)
            clear hK K hHeld
            have hHeld := hNew
            clear hNew
            refine anyL_ready (rs := [14]) (by kernel_rfl) (by simp) (ReadyL.cons rfl (fun K hK => ?_) (ReadyL.nil))
            · dsimp only [List.getElem_toArray, List.getElem_cons_succ, List.getElem_cons_zero]
              go_simp
              refine (C3.out _ HQ.out).mono ?_
              rintro e V6 ⟨rfl, hq, hw⟩
              replace HQ := hidW hq
              clear hq hw
              go_wp2_with fail
              refine hK.out _ _ (HS.out _ _ HQ.out) (fun hNew => ?_)
              clear hK K hHeld
              have hHeld := hNew
              clear hNew
              refine anyL_done (by kernel_rfl) ?_ _
              go_wp2
              refine bodyPost_end (v := .tuple #[]) (by simp [results, Try.results32, go_sem]) rfl ?_
              exact ⟨rfl, by rw [HFIN.out]; exact HQ.out.w, HQ.out.r⟩
      · dsimp only [List.getElem_toArray, List.getElem_cons_succ, List.getElem_cons_zero]
        go_simp
        have hq : Qs B b W 2 t a (some ⟨blk, off, none⟩) cap blk off ks _ (V2.alloc (.cells #[.string ⟨#[41]⟩] 9)) ∧ Rw b V2.heap.size [[41]] (V2.alloc (.cells #[.string ⟨#[41]⟩] 9)) ∧ Wrt B b V2 (V2.alloc (.cells #[.string ⟨#[41]⟩] 9)) := HQ.out.row [[41]]
        generalize V2.alloc (.cells #[.string ⟨#[41]⟩] 9) = V3 at *
        generalize V2.heap.size = g9 at *
        replace HQ := hidW hq.1
        have HG9 := hidW hq.2.1
        clear hq
        refine hK.out _ _ (HS.out _ _ HQ.out) (fun hNew => ?_)
        clear hK K hHeld
        have hHeld := hNew
        clear hNew
        refine anyL_ready (rs := [8]) (by kernel_rfl) (by simp) (ReadyL.cons rfl (fun K hK => ?_) (ReadyL.nil))
        · dsimp only [List.getElem_toArray, List.getElem_cons_succ, List.getElem_cons_zero]
          go_simp
          refine (C1.out _ HQ.out).mono ?_
          rintro e V4 ⟨rfl, hq, hw⟩
          replace HG9 := hidW (HG9.out.kept hw)
          replace HQ := hidW hq
          clear hq hw
          go_wp2_with fail
          refine hK.out _ _ (HS.out _ _ HQ.out) (fun hNew => ?_)
          clear hK K hHeld
          have hHeld := hNew
          clear hNew
          refine anyL_ready (rs := [10]) (by kernel_rfl) (by simp) (ReadyL.cons rfl (fun K hK => ?_) (ReadyL.nil))
          · dsimp only [List.getElem_toArray, List.getElem_cons_succ, List.getElem_cons_zero]
            go_simp
            refine (C2.out _ _ HQ.out HG9.out).mono ?_
            rintro e V5 ⟨rfl, hq, hw⟩
            replace HQ := hidW hq
            clear hq hw HG9
            go_wp2_with fail
            refine hK.out _ _ (HS.out _ _ HQ.out) (fun hNew => ?_)
            clear hK K hHeld
            have hHeld := hNew
            clear hNew
            refine anyL_ready (rs := [14]) (by kernel_rfl) (by simp) (ReadyL.cons rfl (fun K hK => ?_) (ReadyL.nil))
            · dsimp only [List.getElem_toArray, List.getElem_cons_succ, List.getElem_cons_zero]
              go_simp
              refine (C3.out _ HQ.out).mono ?_
              rintro e V6 ⟨rfl, hq, hw⟩
              replace HQ := hidW hq
              clear hq hw
              go_wp2_with fail
              refine hK.out _ _ (HS.out _ _ HQ.out) (fun hNew => ?_)
              clear hK K hHeld
              have hHeld := hNew
              clear hNew
              refine anyL_done (by kernel_rfl) ?_ _
              go_wp2
              refine bodyPost_end (v := .tuple #[]) (by simp [results, Try.results32, go_sem]) rfl ?_
              exact ⟨rfl, by rw [HFIN.out]; exact HQ.out.w, HQ.out.r⟩
    · dsimp only [List.getElem_toArray, List.getElem_cons_succ, List.getElem_cons_zero]
      go_simp
      have hq : Qs B b W 2 t a (some ⟨blk, off, none⟩) cap blk off ks _ (V1.alloc (.cells #[.string ⟨#[41]⟩] 9)) ∧ Rw b V1.heap.size [[41]] (V1.alloc (.cells #[.string ⟨#[41]⟩] 9)) ∧ Wrt B b V1 (V1.alloc (.cells #[.string ⟨#[41]⟩] 9)) := HQ.out.row [[41]]
      generalize V1.alloc (.cells #[.string ⟨#[41]⟩] 9) = V2 at *
      generalize V1.heap.size = g9 at *
      replace HG3 := hidW (HG3.out.kept hq.2.2)
      replace HQ := hidW hq.1
      have HG9 := hidW hq.2.1
      clear hq
      refine hK.out _ _ (HS.out _ _ HQ.out) (fun hNew => ?_)
      clear hK K hHeld
      have hHeld := hNew
      clear hNew
      refine anyL_ready (rs := [4]) (by kernel_rfl) (by simp) (ReadyL.cons rfl (fun K hK => ?_) (ReadyL.nil))
      · dsimp only [List.getElem_toArray, List.getElem_cons_succ, List.getElem_cons_zero]
        go_simp
        refine (C0.out _ _ HQ.out HG3.out).mono ?_
        rintro e V3 ⟨rfl, hq, hw⟩
        replace HG9 := hidW (HG9.out.kept hw)
        replace HQ := hidW hq
        clear hq hw HG3
        go_wp2_with fail
        refine hK.out _ _ (HS.out _ _ HQ.out) (fun hNew => ?_)
        clear hK K hHeld
        have hHeld := hNew
        clear hNew
        refine anyL_ready (rs := [8]) (by kernel_rfl) (by simp) (ReadyL.cons rfl (fun K hK => ?_) (ReadyL.nil))
        · dsimp only [List.getElem_toArray, List.getElem_cons_succ, List.getElem_cons_zero]
          go_simp
          refine (C1.out _ HQ.out).mono ?_
          rintro e V4 ⟨rfl, hq, hw⟩
          replace HG9 := hidW (HG9.out.kept hw)
          replace HQ := hidW hq
          clear hq hw
          go_wp2_with fail
          refine hK.out _ _ (HS.out _ _ HQ.out) (fun hNew => ?_)
          clear hK K hHeld
          have hHeld := hNew
          clear hNew
          refine anyL_ready (rs := [10]) (by kernel_rfl) (by simp) (ReadyL.cons rfl (fun K hK => ?_) (ReadyL.nil))
          · dsimp only [List.getElem_toArray, List.getElem_cons_succ, List.getElem_cons_zero]
            go_simp
            refine (C2.out _ _ HQ.out HG9.out).mono ?_
            rintro e V5 ⟨rfl, hq, hw⟩
            replace HQ := hidW hq
            clear hq hw HG9
            go_wp2_with fail
            refine hK.out _ _ (HS.out _ _ HQ.out) (fun hNew => ?_)
            clear hK K hHeld
            have hHeld := hNew
            clear hNew
            refine anyL_ready (rs := [14]) (by kernel_rfl) (by simp) (ReadyL.cons rfl (fun K hK => ?_) (ReadyL.nil))
            · dsimp only [List.getElem_toArray, List.getElem_cons_succ, List.getElem_cons_zero]
              go_simp
              refine (C3.out _ HQ.out).mono ?_
              rintro e V6 ⟨rfl, hq, hw⟩
              replace HQ := hidW hq
              clear hq hw
              go_wp2_with fail
              refine hK.out _ _ (HS.out _ _ HQ.out) (fun hNew => ?_)
              clear hK K hHeld
              have hHeld := hNew
              clear hNew
              refine anyL_done (by kernel_rfl) ?_ _
              go_wp2
              refine bodyPost_end (v := .tuple #[]) (by simp [results, Try.results32, go_sem]) rfl ?_
              exact ⟨rfl, by rw [HFIN.out]; exact HQ.out.w, HQ.out.r⟩
  · dsimp only [List.getElem_toArray, List.getElem_cons_succ, List.getElem_cons_zero]
    go_simp
    have hq : Qs B b W 2 t a (some ⟨blk, off, none⟩) cap blk off ks _ (V0.alloc (.cells #[.string ⟨#[41]⟩] 9)) ∧ Rw b V0.heap.size [[41]] (V0.alloc (.cells #[.string ⟨#[41]⟩] 9)) ∧ Wrt B b V0 (V0.alloc (.cells #[.string ⟨#[41]⟩] 9)) := HQ.out.row [[41]]
    generalize V0.alloc (.cells #[.string ⟨#[41]⟩] 9) = V1 at *
    generalize V0.heap.size = g9 at *
    replace HQ := hidW hq.1
    have HG9 := hidW hq.2.1
    clear hq
    refine hK.out _ _ (HS.out _ _ HQ.out) (fun hNew => ?_)
    clear hK K hHeld
    have hHeld := hNew
    clear hNew
    refine anyL_ready (rs := [3]) (by kernel_rfl) (by simp) (ReadyL.cons rfl (fun K hK => ?_) (ReadyL.nil))
    · dsimp only [List.getElem_toArray, List.getElem_cons_succ, List.getElem_cons_zero]
      go_simp
      have hq : Qs B b W 2 t a (some ⟨blk, off, none⟩) cap blk off ks _ (V1.alloc (.cells #[.string ⟨#[102, 117, 110, 99]⟩, .string (bs t), .string ⟨#[40]⟩] 9)) ∧ Rw b V1.heap.size [[102, 117, 110, 99], t, [40]] (V1.alloc (.cells #[.string ⟨#[102, 117, 110, 99]⟩, .string (bs t), .string ⟨#[40]⟩] 9)) ∧ Wrt B b V1 (V1.alloc (.cells #[.string ⟨#[102, 117, 110, 99]⟩, .string (bs t), .string ⟨#[40]⟩] 9)) := HQ.out.row [[102, 117, 110, 99], t, [40]]
      generalize V1.alloc (.cells #[.string ⟨#[102, 117, 110, 99]⟩, .string (bs t), .string ⟨#[40]⟩] 9) = V2 at *
      generalize V1.heap.size = g3 at *
      replace HG9 := hidW (HG9.out.kept hq.2.2)
      replace HQ := hidW hq.1
      have HG3 := hidW hq.2.1
      clear hq
      refine hK.out _ _ (HS.out _ _ HQ.out) (fun hNew => ?_)
      clear hK K hHeld
      have hHeld := hNew
      clear hNew
      refine anyL_ready (rs := [4]) (by kernel_rfl) (by simp) (ReadyL.cons rfl (fun K hK => ?_) (ReadyL.nil))
      · dsimp only [List.getElem_toArray, List.getElem_cons_succ, List.getElem_cons_zero]
        go_simp
        refine (C0.out _ _ HQ.out HG3.out).mono ?_
        rintro e V3 ⟨rfl, hq, hw⟩
        replace HG9 := hidW (HG9.out.kept hw)
        replace HQ := hidW hq
        clear hq hw HG3
        go_wp2_with fail
        refine hK.out _ _ (HS.out _ _ HQ.out) (fun hNew => ?_)
        clear hK K hHeld
        have hHeld := hNew
        clear hNew
        refine anyL_ready (rs := [8]) (by kernel_rfl) (by simp) (ReadyL.cons rfl (fun K hK => ?_) (ReadyL.nil))
        · dsimp only [List.getElem_toArray, List.getElem_cons_succ, List.getElem_cons_zero]
          go_simp
          refine (C1.out _ HQ.out).mono ?_
          rintro e V4 ⟨rfl, hq, hw⟩
          replace HG9 := hidW (HG9.out.kept hw)
          replace HQ := hidW hq
          clear hq hw
          go_wp2_with fail
          refine hK.out _ _ (HS.out _ _ HQ.out) (fun hNew => ?_)
          clear hK K hHeld
          have hHeld := hNew
          clear hNew
          refine anyL_ready (rs := [10]) (by kernel_rfl) (by simp) (ReadyL.cons rfl (fun K hK => ?_) (ReadyL.nil))
          · dsimp only [List.getElem_toArray, List.getElem_cons_succ, List.getElem_cons_zero]
            go_simp
            refine (C2.out _ _ HQ.out HG9.out).mono ?_
            rintro e V5 ⟨rfl, hq, hw⟩
            replace HQ := hidW hq
            clear hq hw HG9
            go_wp2_with fail
            refine hK.out _ _ (HS.out _ _ HQ.out) (fun hNew => ?_)
            clear hK K hHeld
            have hHeld := hNew
            clear hNew
            refine anyL_ready (rs := [14]) (by kernel_rfl) (by simp) (ReadyL.cons rfl (fun K hK => ?_) (ReadyL.nil))
            · dsimp only [List.getElem_toArray, List.getElem_cons_succ, List.getElem_cons_zero]
              go_simp
              refine (C3.out _ HQ.out).mono ?_
              rintro e V6 ⟨rfl, hq, hw⟩
              replace HQ := hidW hq
              clear hq hw
              go_wp2_with fail
              refine hK.out _ _ (HS.out _ _ HQ.out) (fun hNew => ?_)
              clear hK K hHeld
              have hHeld := hNew
              clear hNew
              refine anyL_done (by kernel_rfl) ?_ _
              go_wp2
              refine bodyPost_end (v := .tuple #[]) (by simp [results, Try.results32, go_sem]) rfl ?_
              exact ⟨rfl, by rw [HFIN.out]; exact HQ.out.w, HQ.out.r⟩

set_option maxRecDepth 100000 in
set_option maxHeartbeats 16000000 in
theorem wr_3 {B b z : Nat} (IH : NodeTo B b z) {x : Ws} {W : World} (h : WrAt B b x W) {t : List UInt8} {a : Int} {av : Option Addr} {cap blk off : Nat} {ks : List Nv} (hr : RowB B W av blk off ks) (hz : szL (ndL ks) ≤ z) (hlen : x.l.length + (t.length + 60 + nedL (ndL ks)) ≤ 140737488355328) (hk : 1 ≤ ks.length) (_hcap : ks.length ≤ cap) :
    Calls Try.prog 32 #[.pointer (some ⟨b, 0, none⟩), .agg #[.int .i64 3, .string (bs t), .int .i64 a, .slice av ks.length cap]] W fun e W' => e = .returned (.tuple #[]) ∧ WrAt B b (appL (rowP 3 t (txtL (ndL ks))) x) W' ∧ Wrt B b W W' := by
  have hi0 : 0 < ks.length := by omega
  obtain ⟨n0, he0⟩ : ∃ n, ks[0]'hi0 = n := ⟨_, rfl⟩
  have hned := ned_at1 hi0 he0
  have hg0 := txt_at hi0 he0
  obtain ⟨k0, t0, a0, v0, c0, b0, o0, s0⟩ := n0
  obtain rfl := hr.row.at_ (by omega)
  have HFIN := hidW (show appL (rowP 3 t (txtL (ndL ks))) x = (app1 (txt (Nv.mk k0 t0 a0 v0 c0 b0 o0 s0).nd) (appL [t] x)) from by rw [rowP_3, hg0] <;> rfl)
  have L0 : x.l.length + (room [t] + (ned (Nv.mk k0 t0 a0 v0 c0 b0 o0 s0).nd + 4 + (0))) ≤ 140737488355328 := by simp only [room_cons, room_nil]; omega
  have L1 := put_room _ _ _ L0
  have C0 := hidW (fun (V : World) (g : Nat) (h : Qs B b W 3 t a (some ⟨blk, off, none⟩) cap blk off ks x V) (hg : Rw b g [t] V) => h.put [t] (by omega) (by simp) hg)
  have C1 := hidW (fun (V : World) (h : Qs B b W 3 t a (some ⟨blk, off, none⟩) cap blk off ks (appL [t] x) V) => h.node IH hz hi0 he0 (by omega))
  have HQ := hidW (Qs.start (k := 3) (t := t) (a := a) (cap := cap) h hr)
  have HS := hidW (fun (V : World) (y : Ws) (hN : Qs B b W 3 t a (some ⟨blk, off, none⟩) cap blk off ks y V) => (show (V.cell? ⟨W.heap.size, 1, none⟩ = some (.string (bs t))) ∧ (V.cell? ⟨blk, off, none⟩ = some (.int .i64 k0)) ∧ (V.cell? ⟨blk, off + 1, none⟩ = some (.string (bs t0))) ∧ (V.cell? ⟨blk, off + 2, none⟩ = some (.int .i64 a0)) ∧ (V.cell? ⟨blk, off + 3, none⟩ = some (.slice v0 s0.length c0)) from ⟨hN.n.text.2.1, (hN.n.kid0 hi0 he0).1, (hN.n.kid0 hi0 he0).2.1, (hN.n.kid0 hi0 he0).2.2.1, (hN.n.kid0 hi0 he0).2.2.2⟩))
  obtain ⟨q0, -, q3⟩ := HQ.out.n.text
  clear h hr hlen L0 L1 he0 hg0 hned
  go_enter Try.func32, Try.ntmps32
  go_wp2_with fail
  refine region_late (fun V => (V.cell? ⟨W.heap.size, 1, none⟩ = some (.string (bs t))) ∧ (V.cell? ⟨blk, off, none⟩ = some (.int .i64 k0)) ∧ (V.cell? ⟨blk, off + 1, none⟩ = some (.string (bs t0))) ∧ (V.cell? ⟨blk, off + 2, none⟩ = some (.int .i64 a0)) ∧ (V.cell? ⟨blk, off + 3, none⟩ = some (.slice v0 s0.length c0))) 99 (by kernel_rfl) ?_
  replace HQ := hidW HQ.out.drew
  clear q0 q3
  generalize (W.alloc (.cells #[.int .i64 3, .string (bs t), .int .i64 a, .slice (some ⟨blk, off, none⟩) ks.length cap] 24)).drew = V0 at *
  have hHeld := HS.out _ _ HQ.out
  refine anyL_tk 0 (v := ?_) rfl (by kernel_rfl) (fun _ _ _ h => h) hHeld (by rfl) ?_ ?_
  rotate_left 1
  · intro w hSw; (try dsimp only at hSw); go_simp; try with_reducible rfl
  refine anyL_tk 1 (v := ?_) rfl (by kernel_rfl) (fun _ _ _ h => h) hHeld (by rfl) ?_ ?_
  rotate_left 1
  · intro w hSw; (try dsimp only at hSw); go_simp; try with_reducible rfl
  refine anyL_tk 2 (v := ?_) rfl (by kernel_rfl) (fun _ _ _ h => h) hHeld (by rfl) ?_ ?_
  rotate_left 1
  · intro w hSw; (try dsimp only at hSw); go_simp; try with_reducible rfl
  refine anyL_tk 5 (v := ?_) rfl (by kernel_rfl) (fun _ _ _ h => h) hHeld (by rfl) ?_ ?_
  rotate_left 1
  · intro w hSw; (try dsimp only at hSw); go_simp; try with_reducible rfl
  refine anyL_tk 6 (v := ?_) rfl (by kernel_rfl) (fun _ _ _ h => h) hHeld (by rfl) ?_ ?_
  rotate_left 1
  · intro w hSw; (try dsimp only at hSw); go_simp; try with_reducible rfl
  refine anyL_tk 7 (v := ?_) rfl (by kernel_rfl) (fun _ _ _ h => h) hHeld (by rfl) ?_ ?_
  rotate_left 1
  · intro w hSw; (try dsimp only at hSw); go_simp; try with_reducible rfl
  refine anyL_ready (rs := [3]) (by kernel_rfl) (by simp) (ReadyL.cons rfl (fun K hK => ?_) (ReadyL.nil))
  · dsimp only [List.getElem_toArray, List.getElem_cons_succ, List.getElem_cons_zero]
    go_simp
    have hq : Qs B b W 3 t a (some ⟨blk, off, none⟩) cap blk off ks _ (V0.alloc (.cells #[.string (bs t)] 9)) ∧ Rw b V0.heap.size [t] (V0.alloc (.cells #[.string (bs t)] 9)) ∧ Wrt B b V0 (V0.alloc (.cells #[.string (bs t)] 9)) := HQ.out.row [t]
    generalize V0.alloc (.cells #[.string (bs t)] 9) = V1 at *
    generalize V0.heap.size = g3 at *
    replace HQ := hidW hq.1
    have HG3 := hidW hq.2.1
    clear hq
    refine hK.out _ _ (HS.out _ _ HQ.out) (fun hNew => ?_)
    clear hK K hHeld
    have hHeld := hNew
    clear hNew
    refine anyL_ready (rs := [4]) (by kernel_rfl) (by simp) (ReadyL.cons rfl (fun K hK => ?_) (ReadyL.nil))
    · dsimp only [List.getElem_toArray, List.getElem_cons_succ, List.getElem_cons_zero]
      go_simp
      refine (C0.out _ _ HQ.out HG3.out).mono ?_
      rintro e V2 ⟨rfl, hq, hw⟩
      replace HQ := hidW hq
      clear hq hw HG3
      go_wp2_with fail
      refine hK.out _ _ (HS.out _ _ HQ.out) (fun hNew => ?_)
      clear hK K hHeld
      have hHeld := hNew
      clear hNew
      refine anyL_ready (rs := [8]) (by kernel_rfl) (by simp) (ReadyL.cons rfl (fun K hK => ?_) (ReadyL.nil))
      · dsimp only [List.getElem_toArray, List.getElem_cons_succ, List.getElem_cons_zero]
        go_simp
        refine (C1.out _ HQ.out).mono ?_
        rintro e V3 ⟨rfl, hq, hw⟩
        replace HQ := hidW hq
        clear hq hw
        go_wp2_with fail
        refine hK.out _ _ (HS.out _ _ HQ.out) (fun hNew => ?_)
        clear hK K hHeld
        have hHeld := hNew
        clear hNew
        refine anyL_done (by kernel_rfl) ?_ _
        go_wp2
        refine bodyPost_end (v := .tuple #[]) (by simp [results, Try.results32, go_sem]) rfl ?_
        exact ⟨rfl, by rw [HFIN.out]; exact HQ.out.w, HQ.out.r⟩

set_option maxRecDepth 100000 in
set_option maxHeartbeats 16000000 in
theorem wr_5 {B b z : Nat} (_IH : NodeTo B b z) {x : Ws} {W : World} (h : WrAt B b x W) {t : List UInt8} {a : Int} {av : Option Addr} {cap blk off : Nat} {ks : List Nv} (hr : RowB B W av blk off ks) (_hz : szL (ndL ks) ≤ z) (hlen : x.l.length + (t.length + 60 + nedL (ndL ks)) ≤ 140737488355328) (_hk : 0 ≤ ks.length) (_hcap : ks.length ≤ cap) :
    Calls Try.prog 32 #[.pointer (some ⟨b, 0, none⟩), .agg #[.int .i64 5, .string (bs t), .int .i64 a, .slice av ks.length cap]] W fun e W' => e = .returned (.tuple #[]) ∧ WrAt B b (appL (rowP 5 t (txtL (ndL ks))) x) W' ∧ Wrt B b W W' := by
  have HFIN := hidW (show appL (rowP 5 t (txtL (ndL ks))) x = (appL [[105, 110, 116]] x) from by rw [rowP_5] <;> rfl)
  have L0 : x.l.length + (room [[105, 110, 116]] + (0)) ≤ 140737488355328 := by simp only [room_cons, room_nil, List.length_cons, List.length_nil]; omega
  have C0 := hidW (fun (V : World) (g : Nat) (h : Qs B b W 5 t a av cap blk off ks x V) (hg : Rw b g [[105, 110, 116]] V) => h.put [[105, 110, 116]] (by omega) (by simp) hg)
  have HQ := hidW (Qs.start (k := 5) (t := t) (a := a) (cap := cap) h hr)
  obtain ⟨q0, -, q3⟩ := HQ.out.n.text
  clear h hr hlen L0
  go_enter Try.func32, Try.ntmps32
  have hq : Qs B b W 5 t a av cap blk off ks _ ((W.alloc (.cells #[.int .i64 5, .string (bs t), .int .i64 a, .slice av ks.length cap] 24)).alloc (.cells #[.string ⟨#[105, 110, 116]⟩] 9)) ∧ Rw b (W.alloc (.cells #[.int .i64 5, .string (bs t), .int .i64 a, .slice av ks.length cap] 24)).heap.size [[105, 110, 116]] ((W.alloc (.cells #[.int .i64 5, .string (bs t), .int .i64 a, .slice av ks.length cap] 24)).alloc (.cells #[.string ⟨#[105, 110, 116]⟩] 9)) ∧ Wrt B b (W.alloc (.cells #[.int .i64 5, .string (bs t), .int .i64 a, .slice av ks.length cap] 24)) ((W.alloc (.cells #[.int .i64 5, .string (bs t), .int .i64 a, .slice av ks.length cap] 24)).alloc (.cells #[.string ⟨#[105, 110, 116]⟩] 9)) := HQ.out.row [[105, 110, 116]]
  rw [World.size_alloc] at hq
  replace HQ := hidW hq.1
  have HG1 := hidW hq.2.1
  clear hq
  have HC := hidW (C0.out _ _ HQ.out HG1.out)
  go_wp2_with fail
  refine HC.out.mono ?_
  clear HC
  rintro e V1 ⟨rfl, hq, hw⟩
  replace HQ := hidW hq
  clear hq hw
  go_wp2
  refine bodyPost_end (v := .tuple #[]) (by simp [results, Try.results32, go_sem]) rfl ?_
  exact ⟨rfl, by rw [HFIN.out]; exact HQ.out.w, HQ.out.r⟩

set_option maxRecDepth 100000 in
set_option maxHeartbeats 16000000 in
theorem wr_6 {B b z : Nat} (IH : NodeTo B b z) {x : Ws} {W : World} (h : WrAt B b x W) {t : List UInt8} {a : Int} {av : Option Addr} {cap blk off : Nat} {ks : List Nv} (hr : RowB B W av blk off ks) (hz : szL (ndL ks) ≤ z) (hlen : x.l.length + (t.length + 60 + nedL (ndL ks)) ≤ 140737488355328) (hk : 1 ≤ ks.length) (_hcap : ks.length ≤ cap) :
    Calls Try.prog 32 #[.pointer (some ⟨b, 0, none⟩), .agg #[.int .i64 6, .string (bs t), .int .i64 a, .slice av ks.length cap]] W fun e W' => e = .returned (.tuple #[]) ∧ WrAt B b (appL (rowP 6 t (txtL (ndL ks))) x) W' ∧ Wrt B b W W' := by
  have hi0 : 0 < ks.length := by omega
  obtain ⟨n0, he0⟩ : ∃ n, ks[0]'hi0 = n := ⟨_, rfl⟩
  have hned := ned_at1 hi0 he0
  have hg0 := txt_at hi0 he0
  obtain ⟨k0, t0, a0, v0, c0, b0, o0, s0⟩ := n0
  obtain rfl := hr.row.at_ (by omega)
  have HFIN := hidW (show appL (rowP 6 t (txtL (ndL ks))) x = (app1 (txt (Nv.mk k0 t0 a0 v0 c0 b0 o0 s0).nd) (appL [[42]] x)) from by rw [rowP_6, hg0] <;> rfl)
  have L0 : x.l.length + (room [[42]] + (ned (Nv.mk k0 t0 a0 v0 c0 b0 o0 s0).nd + 4 + (0))) ≤ 140737488355328 := by simp only [room_cons, room_nil, List.length_cons, List.length_nil]; omega
  have L1 := put_room _ _ _ L0
  have C0 := hidW (fun (V : World) (g : Nat) (h : Qs B b W 6 t a (some ⟨blk, off, none⟩) cap blk off ks x V) (hg : Rw b g [[42]] V) => h.put [[42]] (by omega) (by simp) hg)
  have C1 := hidW (fun (V : World) (h : Qs B b W 6 t a (some ⟨blk, off, none⟩) cap blk off ks (appL [[42]] x) V) => h.node IH hz hi0 he0 (by omega))
  have HQ := hidW (Qs.start (k := 6) (t := t) (a := a) (cap := cap) h hr)
  have HS := hidW (fun (V : World) (y : Ws) (hN : Qs B b W 6 t a (some ⟨blk, off, none⟩) cap blk off ks y V) => (show (V.cell? ⟨blk, off, none⟩ = some (.int .i64 k0)) ∧ (V.cell? ⟨blk, off + 1, none⟩ = some (.string (bs t0))) ∧ (V.cell? ⟨blk, off + 2, none⟩ = some (.int .i64 a0)) ∧ (V.cell? ⟨blk, off + 3, none⟩ = some (.slice v0 s0.length c0)) from ⟨(hN.n.kid0 hi0 he0).1, (hN.n.kid0 hi0 he0).2.1, (hN.n.kid0 hi0 he0).2.2.1, (hN.n.kid0 hi0 he0).2.2.2⟩))
  obtain ⟨q0, -, q3⟩ := HQ.out.n.text
  clear h hr hlen L0 L1 he0 hg0 hned
  go_enter Try.func32, Try.ntmps32
  go_wp2_with fail
  refine region_late (fun V => (V.cell? ⟨blk, off, none⟩ = some (.int .i64 k0)) ∧ (V.cell? ⟨blk, off + 1, none⟩ = some (.string (bs t0))) ∧ (V.cell? ⟨blk, off + 2, none⟩ = some (.int .i64 a0)) ∧ (V.cell? ⟨blk, off + 3, none⟩ = some (.slice v0 s0.length c0))) 99 (by kernel_rfl) ?_
  replace HQ := hidW HQ.out.drew
  clear q0 q3
  generalize (W.alloc (.cells #[.int .i64 6, .string (bs t), .int .i64 a, .slice (some ⟨blk, off, none⟩) ks.length cap] 24)).drew = V0 at *
  have hHeld := HS.out _ _ HQ.out
  refine anyL_tk 0 (v := ?_) rfl (by kernel_rfl) (fun _ _ _ h => h) hHeld (by rfl) ?_ ?_
  rotate_left 1
  · intro w hSw; (try dsimp only at hSw); go_simp; try with_reducible rfl
  refine anyL_tk 3 (v := ?_) rfl (by kernel_rfl) (fun _ _ _ h => h) hHeld (by rfl) ?_ ?_
  rotate_left 1
  · intro w hSw; (try dsimp only at hSw); go_simp; try with_reducible rfl
  refine anyL_tk 4 (v := ?_) rfl (by kernel_rfl) (fun _ _ _ h => h) hHeld (by rfl) ?_ ?_
  rotate_left 1
  · intro w hSw; (try dsimp only at hSw); go_simp; try with_reducible rfl
  refine anyL_tk 5 (v := ?_) rfl (by kernel_rfl) (fun _ _ _ h => h) hHeld (by rfl) ?_ ?_
  rotate_left 1
  · intro w hSw; (try dsimp only at hSw); go_simp; try with_reducible rfl
  refine anyL_ready (rs := [1]) (by kernel_rfl) (by simp) (ReadyL.cons rfl (fun K hK => ?_) (ReadyL.nil))
  · dsimp only [List.getElem_toArray, List.getElem_cons_succ, List.getElem_cons_zero]
    go_simp
    have hq : Qs B b W 6 t a (some ⟨blk, off, none⟩) cap blk off ks _ (V0.alloc (.cells #[.string ⟨#[42]⟩] 9)) ∧ Rw b V0.heap.size [[42]] (V0.alloc (.cells #[.string ⟨#[42]⟩] 9)) ∧ Wrt B b V0 (V0.alloc (.cells #[.string ⟨#[42]⟩] 9)) := HQ.out.row [[42]]
    generalize V0.alloc (.cells #[.string ⟨#[42]⟩] 9) = V1 at *
    generalize V0.heap.size = g1 at *
    replace HQ := hidW hq.1
    have HG1 := hidW hq.2.1
    clear hq
    refine hK.out _ _ (HS.out _ _ HQ.out) (fun hNew => ?_)
    clear hK K hHeld
    have hHeld := hNew
    clear hNew
    refine anyL_ready (rs := [2]) (by kernel_rfl) (by simp) (ReadyL.cons rfl (fun K hK => ?_) (ReadyL.nil))
    · dsimp only [List.getElem_toArray, List.getElem_cons_succ, List.getElem_cons_zero]
      go_simp
      refine (C0.out _ _ HQ.out HG1.out).mono ?_
      rintro e V2 ⟨rfl, hq, hw⟩
      replace HQ := hidW hq
      clear hq hw HG1
      go_wp2_with fail
      refine hK.out _ _ (HS.out _ _ HQ.out) (fun hNew => ?_)
      clear hK K hHeld
      have hHeld := hNew
      clear hNew
      refine anyL_ready (rs := [6]) (by kernel_rfl) (by simp) (ReadyL.cons rfl (fun K hK => ?_) (ReadyL.nil))
      · dsimp only [List.getElem_toArray, List.getElem_cons_succ, List.getElem_cons_zero]
        go_simp
        refine (C1.out _ HQ.out).mono ?_
        rintro e V3 ⟨rfl, hq, hw⟩
        replace HQ := hidW hq
        clear hq hw
        go_wp2_with fail
        refine hK.out _ _ (HS.out _ _ HQ.out) (fun hNew => ?_)
        clear hK K hHeld
        have hHeld := hNew
        clear hNew
        refine anyL_done (by kernel_rfl) ?_ _
        go_wp2
        refine bodyPost_end (v := .tuple #[]) (by simp [results, Try.results32, go_sem]) rfl ?_
        exact ⟨rfl, by rw [HFIN.out]; exact HQ.out.w, HQ.out.r⟩

set_option maxRecDepth 100000 in
set_option maxHeartbeats 16000000 in
theorem wr_7 {B b z : Nat} (IH : NodeTo B b z) {x : Ws} {W : World} (h : WrAt B b x W) {t : List UInt8} {a : Int} {av : Option Addr} {cap blk off : Nat} {ks : List Nv} (hr : RowB B W av blk off ks) (hz : szL (ndL ks) ≤ z) (hlen : x.l.length + (t.length + 60 + nedL (ndL ks)) ≤ 140737488355328) (hk : 1 ≤ ks.length) (_hcap : ks.length ≤ cap) :
    Calls Try.prog 32 #[.pointer (some ⟨b, 0, none⟩), .agg #[.int .i64 7, .string (bs t), .int .i64 a, .slice av ks.length cap]] W fun e W' => e = .returned (.tuple #[]) ∧ WrAt B b (appL (rowP 7 t (txtL (ndL ks))) x) W' ∧ Wrt B b W W' := by
  have hi0 : 0 < ks.length := by omega
  obtain ⟨n0, he0⟩ : ∃ n, ks[0]'hi0 = n := ⟨_, rfl⟩
  have hned := ned_at1 hi0 he0
  have hg0 := txt_at hi0 he0
  obtain ⟨k0, t0, a0, v0, c0, b0, o0, s0⟩ := n0
  obtain rfl := hr.row.at_ (by omega)
  have HFIN := hidW (show appL (rowP 7 t (txtL (ndL ks))) x = (app1 (txt (Nv.mk k0 t0 a0 v0 c0 b0 o0 s0).nd) (appL [[91], t, [93]] x)) from by rw [rowP_7, hg0] <;> rfl)
  have L0 : x.l.length + (room [[91], t, [93]] + (ned (Nv.mk k0 t0 a0 v0 c0 b0 o0 s0).nd + 4 + (0))) ≤ 140737488355328 := by simp only [room_cons, room_nil, List.length_cons, List.length_nil]; omega
  have L1 := put_room _ _ _ L0
  have C0 := hidW (fun (V : World) (g : Nat) (h : Qs B b W 7 t a (some ⟨blk, off, none⟩) cap blk off ks x V) (hg : Rw b g [[91], t, [93]] V) => h.put [[91], t, [93]] (by omega) (by simp) hg)
  have C1 := hidW (fun (V : World) (h : Qs B b W 7 t a (some ⟨blk, off, none⟩) cap blk off ks (appL [[91], t, [93]] x) V) => h.node IH hz hi0 he0 (by omega))
  have HQ := hidW (Qs.start (k := 7) (t := t) (a := a) (cap := cap) h hr)
  have HS := hidW (fun (V : World) (y : Ws) (hN : Qs B b W 7 t a (some ⟨blk, off, none⟩) cap blk off ks y V) => (show (V.cell? ⟨W.heap.size, 1, none⟩ = some (.string (bs t))) ∧ (V.cell? ⟨blk, off, none⟩ = some (.int .i64 k0)) ∧ (V.cell? ⟨blk, off + 1, none⟩ = some (.string (bs t0))) ∧ (V.cell? ⟨blk, off + 2, none⟩ = some (.int .i64 a0)) ∧ (V.cell? ⟨blk, off + 3, none⟩ = some (.slice v0 s0.length c0)) from ⟨hN.n.text.2.1, (hN.n.kid0 hi0 he0).1, (hN.n.kid0 hi0 he0).2.1, (hN.n.kid0 hi0 he0).2.2.1, (hN.n.kid0 hi0 he0).2.2.2⟩))
  obtain ⟨q0, -, q3⟩ := HQ.out.n.text
  clear h hr hlen L0 L1 he0 hg0 hned
  go_enter Try.func32, Try.ntmps32
  go_wp2_with fail
  refine region_late (fun V => (V.cell? ⟨W.heap.size, 1, none⟩ = some (.string (bs t))) ∧ (V.cell? ⟨blk, off, none⟩ = some (.int .i64 k0)) ∧ (V.cell? ⟨blk, off + 1, none⟩ = some (.string (bs t0))) ∧ (V.cell? ⟨blk, off + 2, none⟩ = some (.int .i64 a0)) ∧ (V.cell? ⟨blk, off + 3, none⟩ = some (.slice v0 s0.length c0))) 99 (by kernel_rfl) ?_
  replace HQ := hidW HQ.out.drew
  clear q0 q3
  generalize (W.alloc (.cells #[.int .i64 7, .string (bs t), .int .i64 a, .slice (some ⟨blk, off, none⟩) ks.length cap] 24)).drew = V0 at *
  have hHeld := HS.out _ _ HQ.out
  refine anyL_tk 0 (v := ?_) rfl (by kernel_rfl) (fun _ _ _ h => h) hHeld (by rfl) ?_ ?_
  rotate_left 1
  · intro w hSw; (try dsimp only at hSw); go_simp; try with_reducible rfl
  refine anyL_tk 1 (v := ?_) rfl (by kernel_rfl) (fun _ _ _ h => h) hHeld (by rfl) ?_ ?_
  rotate_left 1
  · intro w hSw; (try dsimp only at hSw); go_simp; try with_reducible rfl
  refine anyL_tk 2 (v := ?_) rfl (by kernel_rfl) (fun _ _ _ h => h) hHeld (by rfl) ?_ ?_
  rotate_left 1
  · intro w hSw; (try dsimp only at hSw); go_simp; try with_reducible rfl
  refine anyL_tk 5 (v := ?_) rfl (by kernel_rfl) (fun _ _ _ h => h) hHeld (by rfl) ?_ ?_
  rotate_left 1
  · intro w hSw; (try dsimp only at hSw); go_simp; try with_reducible rfl
  refine anyL_tk 6 (v := ?_) rfl (by kernel_rfl) (fun _ _ _ h => h) hHeld (by rfl) ?_ ?_
  rotate_left 1
  · intro w hSw; (try dsimp only at hSw); go_simp; try with_reducible rfl
  refine anyL_tk 7 (v := ?_) rfl (by kernel_rfl) (fun _ _ _ h => h) hHeld (by rfl) ?_ ?_
  rotate_left 1
  · intro w hSw; (try dsimp only at hSw); go_simp; try with_reducible rfl
  refine anyL_ready (rs := [3]) (by kernel_rfl) (by simp) (ReadyL.cons rfl (fun K hK => ?_) (ReadyL.nil))
  · dsimp only [List.getElem_toArray, List.getElem_cons_succ, List.getElem_cons_zero]
    go_simp
    have hq : Qs B b W 7 t a (some ⟨blk, off, none⟩) cap blk off ks _ (V0.alloc (.cells #[.string ⟨#[91]⟩, .string (bs t), .string ⟨#[93]⟩] 9)) ∧ Rw b V0.heap.size [[91], t, [93]] (V0.alloc (.cells #[.string ⟨#[91]⟩, .string (bs t), .string ⟨#[93]⟩] 9)) ∧ Wrt B b V0 (V0.alloc (.cells #[.string ⟨#[91]⟩, .string (bs t), .string ⟨#[93]⟩] 9)) := HQ.out.row [[91], t, [93]]
    generalize V0.alloc (.cells #[.string ⟨#[91]⟩, .string (bs t), .string ⟨#[93]⟩] 9) = V1 at *
    generalize V0.heap.size = g3 at *
    replace HQ := hidW hq.1
    have HG3 := hidW hq.2.1
    clear hq
    refine hK.out _ _ (HS.out _ _ HQ.out) (fun hNew => ?_)
    clear hK K hHeld
    have hHeld := hNew
    clear hNew
    refine anyL_ready (rs := [4]) (by kernel_rfl) (by simp) (ReadyL.cons rfl (fun K hK => ?_) (ReadyL.nil))
    · dsimp only [List.getElem_toArray, List.getElem_cons_succ, List.getElem_cons_zero]
      go_simp
      refine (C0.out _ _ HQ.out HG3.out).mono ?_
      rintro e V2 ⟨rfl, hq, hw⟩
      replace HQ := hidW hq
      clear hq hw HG3
      go_wp2_with fail
      refine hK.out _ _ (HS.out _ _ HQ.out) (fun hNew => ?_)
      clear hK K hHeld
      have hHeld := hNew
      clear hNew
      refine anyL_ready (rs := [8]) (by kernel_rfl) (by simp) (ReadyL.cons rfl (fun K hK => ?_) (ReadyL.nil))
      · dsimp only [List.getElem_toArray, List.getElem_cons_succ, List.getElem_cons_zero]
        go_simp
        refine (C1.out _ HQ.out).mono ?_
        rintro e V3 ⟨rfl, hq, hw⟩
        replace HQ := hidW hq
        clear hq hw
        go_wp2_with fail
        refine hK.out _ _ (HS.out _ _ HQ.out) (fun hNew => ?_)
        clear hK K hHeld
        have hHeld := hNew
        clear hNew
        refine anyL_done (by kernel_rfl) ?_ _
        go_wp2
        refine bodyPost_end (v := .tuple #[]) (by simp [results, Try.results32, go_sem]) rfl ?_
        exact ⟨rfl, by rw [HFIN.out]; exact HQ.out.w, HQ.out.r⟩

set_option maxRecDepth 100000 in
set_option maxHeartbeats 16000000 in
theorem wr_8 {B b z : Nat} (IH : NodeTo B b z) {x : Ws} {W : World} (h : WrAt B b x W) {t : List UInt8} {a : Int} {av : Option Addr} {cap blk off : Nat} {ks : List Nv} (hr : RowB B W av blk off ks) (hz : szL (ndL ks) ≤ z) (hlen : x.l.length + (t.length + 60 + nedL (ndL ks)) ≤ 140737488355328) (_hk : 0 ≤ ks.length) (_hcap : ks.length ≤ cap) :
    Calls Try.prog 32 #[.pointer (some ⟨b, 0, none⟩), .agg #[.int .i64 8, .string (bs t), .int .i64 a, .slice av ks.length cap]] W fun e W' => e = .returned (.tuple #[]) ∧ WrAt B b (appL (rowP 8 t (txtL (ndL ks))) x) W' ∧ Wrt B b W W' := by
  have HFIN := hidW (show appL (rowP 8 t (txtL (ndL ks))) x = (appL [[41]] (appL (inter (txtL (ndL ks))) (appL [[40]] x))) from by rw [rowP_8, appL_append, appL_append] <;> rfl)
  have L0 : x.l.length + (room [[40]] + (nedL (ndL ks) + (room [[41]] + (0)))) ≤ 140737488355328 := by simp only [room_cons, room_nil, List.length_cons, List.length_nil]; omega
  have L1 := put_room _ _ _ L0
  have L2 := list_room _ _ _ L1
  have C0 := hidW (fun (V : World) (g : Nat) (h : Qs B b W 8 t a av cap blk off ks x V) (hg : Rw b g [[40]] V) => h.put [[40]] (by omega) (by simp) hg)
  have C1 := hidW (fun (V : World) (h : Qs B b W 8 t a av cap blk off ks (appL [[40]] x) V) => h.list (cap2 := cap) IH hz (by omega) (fun _ h => h) _ rfl)
  have C2 := hidW (fun (V : World) (g : Nat) (h : Qs B b W 8 t a av cap blk off ks (appL (inter (txtL (ndL ks))) (appL [[40]] x)) V) (hg : Rw b g [[41]] V) => h.put [[41]] (by omega) (by simp) hg)
  have HQ := hidW (Qs.start (k := 8) (t := t) (a := a) (cap := cap) h hr)
  obtain ⟨q0, -, q3⟩ := HQ.out.n.text
  clear h hr hlen L0 L1 L2
  go_enter Try.func32, Try.ntmps32
  have hq : Qs B b W 8 t a av cap blk off ks _ ((W.alloc (.cells #[.int .i64 8, .string (bs t), .int .i64 a, .slice av ks.length cap] 24)).alloc (.cells #[.string ⟨#[40]⟩] 9)) ∧ Rw b (W.alloc (.cells #[.int .i64 8, .string (bs t), .int .i64 a, .slice av ks.length cap] 24)).heap.size [[40]] ((W.alloc (.cells #[.int .i64 8, .string (bs t), .int .i64 a, .slice av ks.length cap] 24)).alloc (.cells #[.string ⟨#[40]⟩] 9)) ∧ Wrt B b (W.alloc (.cells #[.int .i64 8, .string (bs t), .int .i64 a, .slice av ks.length cap] 24)) ((W.alloc (.cells #[.int .i64 8, .string (bs t), .int .i64 a, .slice av ks.length cap] 24)).alloc (.cells #[.string ⟨#[40]⟩] 9)) := HQ.out.row [[40]]
  rw [World.size_alloc] at hq
  replace HQ := hidW hq.1
  have HG1 := hidW hq.2.1
  clear hq
  have HC := hidW (C0.out _ _ HQ.out HG1.out)
  go_wp2_with fail
  refine HC.out.mono ?_
  clear HC
  rintro e V1 ⟨rfl, hq, hw⟩
  replace HQ := hidW hq
  clear hq hw
  have HC := hidW (C1.out _ HQ.out)
  go_wp2_with fail
  refine HC.out.mono ?_
  clear HC
  rintro e V2 ⟨rfl, hq, hw⟩
  replace HQ := hidW hq
  clear hq hw
  have hq : Qs B b W 8 t a av cap blk off ks _ (V2.alloc (.cells #[.string ⟨#[41]⟩] 9)) ∧ Rw b V2.heap.size [[41]] (V2.alloc (.cells #[.string ⟨#[41]⟩] 9)) ∧ Wrt B b V2 (V2.alloc (.cells #[.string ⟨#[41]⟩] 9)) := HQ.out.row [[41]]
  replace HQ := hidW hq.1
  have HG5 := hidW hq.2.1
  clear hq
  have HC := hidW (C2.out _ _ HQ.out HG5.out)
  go_wp2_with fail
  refine HC.out.mono ?_
  clear HC
  rintro e V3 ⟨rfl, hq, hw⟩
  replace HQ := hidW hq
  clear hq hw
  go_wp2
  refine bodyPost_end (v := .tuple #[]) (by simp [results, Try.results32, go_sem]) rfl ?_
  exact ⟨rfl, by rw [HFIN.out]; exact HQ.out.w, HQ.out.r⟩

end Go.Proofs.Ytgndnodahlabiaa
