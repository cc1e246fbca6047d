/-
  Trees (layer 10): the contracts of the laws' count and Few.
  Trees (layer 10): the contracts of Few, each and Size.
  Trees (layer 10): the contracts of Same and slices.EqualFunc of it.
-/
import Derived.Test.YtgndnodahlabiaaMgA
import Derived.Test.YtgndnodahlabiaaMgI

/- Trees (layer 10): the contracts of the laws' count and Few. -/
namespace Go.Proofs.Ytgndnodahlabiaa
open Go.ChangeShapes Go.WideShapes Go.ChangeAt Go.RowKit

theorem ndL_drop (ks : List Nv) (j : Nat) (h : j < ks.length) : ndL (ks.drop j) = (ks[j]'h).nd :: ndL (ks.drop (j + 1)) := by
  rw [List.drop_eq_getElem_cons h, ndL]
/-- The parts of a tree that lies. -/
theorem LiesD.parts {D : Nat → Prop} {W : World} {k : Int} {t : List UInt8} {a : Int} {av : Option Addr} {cap blk off : Nat} {ks : List Nv} (h : LiesD D W (.mk k t a av cap blk off ks)) : RowD D W av blk off ks ∧ ∀ n, n ∈ ks → LiesD D W n := by
  cases h with
  | mk h1 h2 => exact ⟨h1, h2⟩
/-- The cells of a kid. -/
theorem RowD.kid {D : Nat → Prop} {W : World} {av : Option Addr} {blk off : Nat} {ks : List Nv} (h : RowD D W av blk off ks) {j : Nat} (hj : j < ks.length) {k : Int} {t : List UInt8} {a : Int} {kav : Option Addr} {kcap kblk koff : Nat} {kks : List Nv} (he : ks[j]'hj = .mk k t a kav kcap kblk koff kks) :
    W.cell? ⟨blk, off + j * 4, none⟩ = some (.int .i64 k) ∧ W.cell? ⟨blk, off + j * 4 + 1, none⟩ = some (.string (bs t)) ∧ W.cell? ⟨blk, off + j * 4 + 2, none⟩ = some (.int .i64 a) ∧ W.cell? ⟨blk, off + j * 4 + 3, none⟩ = some (.slice kav kks.length kcap) := by
  have h0 := h.has j 0 hj (by decide)
  have h1 := h.has j 1 hj (by decide)
  have h2 := h.has j 2 hj (by decide)
  have h3 := h.has j 3 hj (by decide)
  rw [he] at h0 h1 h2 h3
  exact ⟨h0, h1, h2, h3⟩

theorem ndL_len (ks : List Nv) : (ndL ks).length = ks.length := by rw [ndL_map, List.length_map]
theorem bnd_len {k : Int} {t : List UInt8} {a : Int} {av : Option Addr} {cap blk off : Nat} {ks : List Nv} (h : (Nv.mk k t a av cap blk off ks).nd.bnd) : ks.length < 2 ^ 62 := by
  rw [Nv.nd, Nd.bnd, ndL_len] at h; exact h.1
theorem bnd_kid {k : Int} {t : List UInt8} {a : Int} {av : Option Addr} {cap blk off : Nat} {ks : List Nv} (h : (Nv.mk k t a av cap blk off ks).nd.bnd) {n : Nv} (hn : n ∈ ks) : n.nd.bnd := by
  rw [Nv.nd, Nd.bnd, ndL_map] at h; exact bndL_mem h.2 _ (List.mem_map_of_mem hn)

set_option maxRecDepth 100000 in
set_option maxHeartbeats 4000000 in
theorem kcount_zero (most : Nat) (hm : most ≤ 1000) (n : Nv) (W : World) (D : Nat → Prop) (hl : LiesD D W n) (hbn : n.nd.bnd) :
    Calls Try.prog 19 #[n.val, .int .i64 (most : Int), .int .i64 0] W fun e W' => e = .returned (.int .i64 (cntN most 0 n.nd : Int)) ∧ Below W.heap.size W W' := by
  obtain ⟨k, t, a, av, cap, blk, off, ks⟩ := n
  have hln := bnd_len hbn
  have hR : cntN most 0 (Nv.mk k t a av cap blk off ks).nd = cntL most 0 1 (ndL ks) := by rw [Nv.nd, cntN]
  show Calls Try.prog 19 #[.agg #[.int .i64 k, .string (bs t), .int .i64 a, .slice av ks.length cap], .int .i64 (most : Int), .int .i64 0] W _
  rw [hR]
  have hb0 := bel_new W (.cells #[.int .i64 k, .string (bs t), .int .i64 a, .slice av ks.length cap] 24)
  have hk0 := World.alloc_heap_new W (.cells #[.int .i64 k, .string (bs t), .int .i64 a, .slice av ks.length cap] 24)
  have c3 := cell_of hk0 3
  simp only [List.getElem?_toArray, List.getElem?_cons_zero, List.getElem?_cons_succ] at c3
  have hRR : cntL most 0 1 (ndL ks) = if 0 < ks.length ∧ 1 ≤ most then most + 1 else 1 := by
    cases ks with
    | nil => rw [ndL, cntL, if_neg (by simp)]
    | cons x r =>
      rw [ndL, cntL]
      by_cases h : 1 ≤ most
      · rw [if_pos h, if_pos (by omega), if_pos ⟨by simp, h⟩]
      · rw [if_neg h, if_neg (fun h2 => h h2.2)]
  rw [hRR]
  clear hR hRR hbn hk0
  generalize ks.length = n0 at *
  generalize hRR : (if 0 < n0 ∧ 1 ≤ most then most + 1 else 1) = R
  have HRR := hidW hRR
  clear hRR
  go_enter Try.func19, Try.ntmps19
  go_wp2_with fail
  go_loopw [7, 8] (fun q i wr => ∃ (j kq : Nat), i = .int .i64 (j : Int) ∧ q = .int .i64 (kq : Int) ∧ Hid (j = 0 ∧ kq = 1) ∧ wr = W.alloc (.cells #[.int .i64 k, .string (bs t), .int .i64 a, .slice av n0 cap] 24)) (fun _ _ _ => 0)
  case atStart => exact ⟨0, 1, rfl, rfl, ⟨rfl, rfl⟩, rfl⟩
  case round =>
    obtain ⟨j, kq, rfl, rfl, hjk, rfl⟩ := hrel
    by_cases h1 : j < n0
    · have e1 : ((j : Int) < (n0 : Int)) = True := eq_true (by omega)
      by_cases h2 : kq ≤ most
      · have e2 : ((kq : Int) ≤ (most : Int)) = True := eq_true (by omega)
        have hP : R = most + 1 := by have := hjk.out; rw [← HRR.out, if_pos ⟨by omega, by omega⟩]
        have HP := hidW hP
        clear hP
        go_wp2

        go_ret
        exact ⟨by have h := HP.out; subst h; rfl, hb0⟩
      · have e2 : ((kq : Int) ≤ (most : Int)) = False := by simp; omega
        have hP : R = kq := by have := hjk.out; rw [← HRR.out, if_neg (by omega)]; omega
        have HP := hidW hP
        clear hP
        go_wp2
        go_ret
        exact ⟨by have h := HP.out; subst h; rfl, hb0⟩
    · have e1 : ((j : Int) < (n0 : Int)) = False := by simp; omega
      have hP : R = kq := by have := hjk.out; rw [← HRR.out, if_neg (by omega)]; omega
      have HP := hidW hP
      clear hP
      go_wp2
      go_ret
      exact ⟨by have h := HP.out; subst h; rfl, hb0⟩

set_option maxRecDepth 100000 in
set_option maxHeartbeats 4000000 in
theorem kcount_is (most : Nat) (hm : most ≤ 1000) : ∀ (d : Nat), d ≤ 100 → ∀ (n : Nv) (W : World) (D : Nat → Prop), LiesD D W n → n.nd.bnd →
    Calls Try.prog 19 #[n.val, .int .i64 (most : Int), .int .i64 (d : Int)] W fun e W' => e = .returned (.int .i64 (cntN most d n.nd : Int)) ∧ Below W.heap.size W W' := by
  intro d
  induction d with
  | zero =>
    intro _ n W D hl hbn
    exact kcount_zero most hm n W D hl hbn
  | succ d ih =>
    intro hd n W D hl hbn
    obtain ⟨k, t, a, av, cap, blk, off, ks⟩ := n
    obtain ⟨hrow, hkids⟩ := hl.parts
    have hR : cntN most (d + 1) (Nv.mk k t a av cap blk off ks).nd = cntL most (d + 1) 1 (ndL ks) := by rw [Nv.nd, cntN]
    show Calls Try.prog 19 #[.agg #[.int .i64 k, .string (bs t), .int .i64 a, .slice av ks.length cap], .int .i64 (most : Int), .int .i64 ((d + 1 : Nat) : Int)] W _
    rw [hR]
    generalize hRR : cntL most (d + 1) 1 (ndL ks) = R
    have hb0 := bel_new W (.cells #[.int .i64 k, .string (bs t), .int .i64 a, .slice av ks.length cap] 24)
    have hk0 := World.alloc_heap_new W (.cells #[.int .i64 k, .string (bs t), .int .i64 a, .slice av ks.length cap] 24)
    have H0 := hidW (And.intro hrow (And.intro hkids (And.intro hb0 (And.intro hk0 hRR))))
    have IH := hidW (ih (by omega))
    clear hrow hkids hb0 hk0 hRR hR ih hl
    have hln := bnd_len hbn
    have HBN := hidW (fun (n : Nv) (hn : n ∈ ks) => bnd_kid hbn hn)
    clear hbn
    generalize hn0 : ks.length = n0 at *
    have HN0 := hidW hn0
    clear hn0
    obtain ⟨dz, hdz⟩ : ∃ dz : Int, dz = ((d + 1 : Nat) : Int) := ⟨_, rfl⟩
    rw [← hdz]
    have e3 : (dz < 1) = False := by rw [hdz]; simp; omega
    have e5 : dz - 1 = (d : Int) := by omega
    have e6 : 1 ≤ dz := by omega
    have e7 : dz ≤ 100 := by omega
    clear hdz
    go_enter Try.func19, Try.ntmps19
    go_wp2_with fail
    go_loopw [7, 8] (fun q i wr => ∃ (j kq : Nat), i = .int .i64 (j : Int) ∧ q = .int .i64 (kq : Int) ∧ j ≤ n0 ∧ cntL most (d + 1) kq (ndL (ks.drop j)) = R ∧ kq ≤ 110 * 1001 ∧ Below W.heap.size W wr ∧ wr.heap[W.heap.size]? = some (.cells #[.int .i64 k, .string (bs t), .int .i64 a, .slice av n0 cap] 24 (0, 0))) (fun _ i _ => n0 - (intOf i).toNat)
    case atStart => exact ⟨0, 1, rfl, rfl, Nat.zero_le _, H0.out.2.2.2.2, by decide, H0.out.2.2.1, H0.out.2.2.2.1⟩
    case round =>
      obtain ⟨j, kq, rfl, rfl, hj, hc, hkq, hb, hk⟩ := hrel
      have c3 := cell_of hk 3
      simp only [List.getElem?_toArray, List.getElem?_cons_zero, List.getElem?_cons_succ] at c3
      by_cases h1 : j < n0
      · have hjk : j < ks.length := by have := HN0.out; omega
        have e1 : ((j : Int) < (n0 : Int)) = True := eq_true (by omega)
        by_cases h2 : kq ≤ most
        · have e2 : ((kq : Int) ≤ (most : Int)) = True := eq_true (by omega)
          rw [ndL_drop ks j hjk, cntL, if_pos h2, if_neg (by omega), Nat.add_sub_cancel] at hc
          obtain ⟨x, hx⟩ : ∃ x, ks[j]'hjk = x := ⟨_, rfl⟩
          have hxm : x ∈ ks := hx ▸ List.getElem_mem hjk
          have hlx := (H0.out.2.1 x hxm).turns (turns_b (Q := fun _ => False) hb) (fun _ _ _ h => h)
          have hrw := H0.out.1.turns (turns_b (Q := fun _ => False) hb) (fun _ _ _ h => h)
          obtain rfl := hrw.at_ (by omega)
          have hC := hidW (IH.out x wr D hlx (HBN.out x hxm))
          have hle := cntN_le most x.nd d
          have hmul : (d + 1) * (most + 1) ≤ 101 * 1001 := Nat.mul_le_mul (by omega) (by omega)
          rw [hx] at hc
          obtain ⟨xk, xt, xa, xav, xcap, xblk, xoff, xks⟩ := x
          obtain ⟨k0, k1, k2, k3⟩ := hrw.kid hjk hx
          generalize hcq : cntN most d (Nv.mk xk xt xa xav xcap xblk xoff xks).nd = cq at *
          have HC := hidW (And.intro hc (And.intro hb hk))
          have hcq2 : cq ≤ 101 * 1001 := Nat.le_trans hle hmul
          clear hrw hlx hx hxm hc hb hk hcq hmul hle
          go_wp2_with fail
          refine hC.out.mono ?_; clear hC; rintro e W2 ⟨rfl, hb2⟩
          go_wp2_with fail
          go_roundw
          case rel => exact ⟨j + 1, kq + cq, by go_num, by push_cast; rfl, by omega, HC.out.1, by omega, HC.out.2.1.trans (hb2.mono HC.out.2.1.size), (hb2.block _ (lt_of HC.out.2.2)).trans HC.out.2.2⟩
          case measure => simp [intOf]; omega
        · have e2 : ((kq : Int) ≤ (most : Int)) = False := by simp; omega
          have hR : R = kq := by rw [← hc, ndL_drop ks j hjk, cntL, if_neg h2]
          have HP := hidW hR
          clear hR hc hk
          go_wp2
          go_ret
          exact ⟨by have h := HP.out; subst h; rfl, hb⟩
      · have e1 : ((j : Int) < (n0 : Int)) = False := by simp; omega
        have hR : R = kq := by rw [← hc, List.drop_eq_nil_of_le (by have := HN0.out; omega), ndL, cntL]
        have HP := hidW hR
        clear hR hc hk
        go_wp2
        go_ret
        exact ⟨by have h := HP.out; subst h; rfl, hb⟩

end Go.Proofs.Ytgndnodahlabiaa

/- Trees (layer 10): the contracts of Few, each and Size. -/
namespace Go.Proofs.Ytgndnodahlabiaa
open Go.ChangeShapes Go.WideShapes Go.ChangeAt Go.RowKit

set_option maxRecDepth 100000 in
set_option maxHeartbeats 4000000 in
theorem few_is (n : Nv) (W : World) (D : Nat → Prop) (hl : LiesD D W n) (hbn : n.nd.bnd) :
    Calls Try.prog 8 #[n.val] W fun e W' => e = .returned (.bool (few n.nd)) ∧ Below W.heap.size W W' := by
  obtain ⟨k, t, a, av, cap, blk, off, ks⟩ := n
  show Calls Try.prog 8 #[.agg #[.int .i64 k, .string (bs t), .int .i64 a, .slice av ks.length cap]] W _
  have hb0 := bel_new W (.cells #[.int .i64 k, .string (bs t), .int .i64 a, .slice av ks.length cap] 24)
  have hk0 := World.alloc_heap_new W (.cells #[.int .i64 k, .string (bs t), .int .i64 a, .slice av ks.length cap] 24)
  have c0 := cell_of hk0 0
  have c1 := cell_of hk0 1
  have c2 := cell_of hk0 2
  have c3 := cell_of hk0 3
  simp only [List.getElem?_toArray, List.getElem?_cons_zero, List.getElem?_cons_succ] at c0 c1 c2 c3
  have hC := hidW (kcount_is 400 (by decide) 60 (by decide) (.mk k t a av cap blk off ks) _ D (hl.turns (turns_b (Q := fun _ => False) hb0) (fun _ _ _ h => h)) hbn)
  have HB := hidW hb0
  unfold few
  have hle : cntN 400 60 (Nv.mk k t a av cap blk off ks).nd ≤ 61 * 401 := cntN_le 400 _ 60
  generalize cntN 400 60 (Nv.mk k t a av cap blk off ks).nd = c at *
  have e1 : decide ((c : Int) ≤ 400) = decide (c ≤ 400) := by by_cases h : c ≤ 400 <;> simp [h] <;> omega
  clear hl hbn hb0 hk0
  go_enter Try.func8, Try.ntmps8
  go_wp2_with fail
  refine hC.out.mono ?_; clear hC; rintro e W2 ⟨rfl, hb2⟩
  go_wp2
  go_ret
  exact ⟨rfl, HB.out.trans (hb2.mono HB.out.size)⟩

/-- The counter of Size. -/
abbrev CtrAt (W : World) (c : Nat) (m : Nat) : Prop := W.heap[c]? = some (.cells #[.int .i64 (m : Int)] 3 (0, 0))
abbrev eachF (c : Nat) : Value := .func (.func 26) #[] #[.pointer (some ⟨c, 0, none⟩)]

set_option maxRecDepth 100000 in
set_option maxHeartbeats 4000000 in
theorem one_more {W : World} {c m : Nat} (h : CtrAt W c m) (hm : m < 2 ^ 62) (n : Nv) :
    Calls Try.prog 26 #[n.val, .pointer (some ⟨c, 0, none⟩)] W fun e W' => e = .returned (.tuple #[]) ∧ CtrAt W' c (m + 1) ∧ Turns (fun b => b = c) W W' := by
  obtain ⟨k, t, a, av, cap, blk, off, ks⟩ := n
  show Calls Try.prog 26 #[.agg #[.int .i64 k, .string (bs t), .int .i64 a, .slice av ks.length cap], .pointer (some ⟨c, 0, none⟩)] W _
  have hb0 := bel_new W (.cells #[.int .i64 k, .string (bs t), .int .i64 a, .slice av ks.length cap] 24)
  have hc1 : CtrAt (W.alloc (.cells #[.int .i64 k, .string (bs t), .int .i64 a, .slice av ks.length cap] 24)) c m := (hb0.block c (lt_of h)).trans h
  have c0 := cell_of hc1 0
  have f0 := frozen_of hc1 0
  simp only [List.getElem?_toArray, List.getElem?_cons_zero] at c0
  have HA := hidW (show CtrAt ((W.alloc (.cells #[.int .i64 k, .string (bs t), .int .i64 a, .slice av ks.length cap] 24)).setCell ⟨c, 0, none⟩ (.int .i64 ((m + 1 : Nat) : Int))) c (m + 1) from heap_set_same' hc1 0 _)
  have HT := hidW ((turns_b (Q := fun b => b = c) hb0).trans (turns_p c 0 (.int .i64 ((m + 1 : Nat) : Int)) _))
  clear h hb0 hc1
  go_enter Try.func26, Try.ntmps26
  go_wp2
  refine bodyPost_end (v := .tuple #[]) (by simp [results, Try.results26, go_sem]) rfl ?_
  exact ⟨rfl, HA.out, HT.out⟩

set_option maxRecDepth 100000 in
set_option maxHeartbeats 4000000 in
theorem each_is (c : Nat) : ∀ (z : Nat) (n : Nv), n.nd.sz ≤ z → ∀ (W : World) (D : Nat → Prop) (m : Nat), LiesD D W n → ¬ D c → CtrAt W c m → m + n.nd.sz < 2 ^ 62 →
    Calls Try.prog 25 #[n.val, eachF c] W fun e W' => e = .returned (.tuple #[]) ∧ CtrAt W' c (m + n.nd.sz) ∧ Turns (fun b => b = c) W W' := by
  intro z
  induction z with
  | zero => intro n h; cases n; rw [Nv.nd, Nd.sz] at h; omega
  | succ z ih =>
    intro n hz W D m hl hD hc hm
    obtain ⟨k, t, a, av, cap, blk, off, ks⟩ := n
    obtain ⟨hrow, hkids⟩ := hl.parts
    rw [Nv.nd, Nd.sz] at hz hm ⊢
    show Calls Try.prog 25 #[.agg #[.int .i64 k, .string (bs t), .int .i64 a, .slice av ks.length cap], eachF c] W _
    have hb0 := bel_new W (.cells #[.int .i64 k, .string (bs t), .int .i64 a, .slice av ks.length cap] 24)
    have hk0 := World.alloc_heap_new W (.cells #[.int .i64 k, .string (bs t), .int .i64 a, .slice av ks.length cap] 24)
    have hc0 := (hb0.block c (lt_of hc)).trans hc
    have hcW := lt_of hc
    have c0 := cell_of hk0 0
    have c1 := cell_of hk0 1
    have c2 := cell_of hk0 2
    have c3 := cell_of hk0 3
    simp only [List.getElem?_toArray, List.getElem?_cons_zero, List.getElem?_cons_succ] at c0 c1 c2 c3
    have hO := hidW (one_more hc0 (by omega) (.mk k t a av cap blk off ks))
    have H0 := hidW (And.intro hrow (And.intro hkids (And.intro hb0 hk0)))
    have IH := hidW ih
    have hln : ks.length < 2 ^ 62 := by have := szL_len (ndL ks); rw [ndL_len] at this; omega
    clear hrow hkids hb0 hk0 hl ih hc hc0
    go_enter Try.func25, Try.ntmps25
    go_wp2_with fail
    refine hO.out.mono ?_; clear hO; rintro e W2 ⟨rfl, hc2, t2⟩
    have hk2 := (t2.block W.heap.size (by simp) (by omega)).trans H0.out.2.2.2
    have d3 := cell_of hk2 3
    simp only [List.getElem?_toArray, List.getElem?_cons_zero, List.getElem?_cons_succ] at d3
    have T2 := hidW ((turns_b (Q := fun b => b = c) H0.out.2.2.1).trans t2)
    have HC2 := hidW hc2
    clear hc2 t2 hk2 c0 c1 c2 c3
    go_wp2_with fail
    generalize hn0 : ks.length = n0 at *
    have HN0 := hidW hn0
    clear hn0
    go_loopw [12] (fun i wr => ∃ (j kq : Nat), i = .int .i64 (j : Int) ∧ j ≤ n0 ∧ kq + szL (ndL (ks.drop j)) = m + (szL (ndL ks) + 1) ∧ CtrAt wr c kq ∧ Turns (fun b => b = c) W wr) (fun i _ => n0 - (intOf i).toNat)
    case atStart => exact ⟨0, m + 1, rfl, Nat.zero_le _, by rw [List.drop_zero]; omega, HC2.out, T2.out⟩
    case round =>
      obtain ⟨j, kq, rfl, hj, hq, hcq, tq⟩ := hrel
      by_cases h1 : j < n0
      · have hjk : j < ks.length := by have := HN0.out; omega
        have e1 : ((j : Int) < (n0 : Int)) = True := eq_true (by omega)
        obtain ⟨x, hx⟩ : ∃ x, ks[j]'hjk = x := ⟨_, rfl⟩
        have hxm : x ∈ ks := hx ▸ List.getElem_mem hjk
        rw [ndL_drop ks j hjk, hx, szL] at hq
        have hxz : x.nd.sz ≤ szL (ndL ks) := sz_mem (by rw [ndL_map]; exact List.mem_map_of_mem hxm)
        have hrw := H0.out.1.turns tq (fun b hb _ e => hD (e ▸ hb))
        have hlx := (H0.out.2.1 x hxm).turns tq (fun b hb _ e => hD (e ▸ hb))
        obtain rfl := hrw.at_ (by omega)
        obtain ⟨xk, xt, xa, xav, xcap, xblk, xoff, xks⟩ := x
        obtain ⟨k0, k1, k2, k3⟩ := hrw.kid hjk hx
        have hb3 := bel_new wr (.cells #[.int .i64 xk, .string (bs xt), .int .i64 xa, .slice xav xks.length xcap] 24)
        have hC := hidW (IH.out (.mk xk xt xa xav xcap xblk xoff xks) (by omega) _ D kq (hlx.turns (turns_b (Q := fun _ => False) hb3) (fun _ _ _ h => h)) hD ((hb3.block c (lt_of hcq)).trans hcq) (by omega))
        generalize hzq : (Nv.mk xk xt xa xav xcap xblk xoff xks).nd.sz = zq at *
        have HT := hidW (tq.trans (turns_b hb3))
        have HQ := hidW hq
        clear hrw hlx hx hxm hq hcq tq hb3 hzq hxz
        go_wp2_with fail
        refine hC.out.mono ?_; clear hC; rintro e W4 ⟨rfl, hc4, t4⟩
        have HC4 := hidW (And.intro hc4 t4)
        clear hc4 t4
        go_wp2_with fail
        go_roundw
        case rel => exact ⟨j + 1, kq + zq, by go_num, by omega, by have := HQ.out; omega, HC4.out.1, HT.out.trans HC4.out.2⟩
        case measure => simp [intOf]; omega
      · have e1 : ((j : Int) < (n0 : Int)) = False := by simp; omega
        have hR : kq = m + (szL (ndL ks) + 1) := by rw [← hq, List.drop_eq_nil_of_le (by have := HN0.out; omega), ndL, szL]; omega
        have HF := hidW (And.intro hcq (And.intro tq hR))
        clear hcq tq hR hq
        go_wp2
        refine bodyPost_end (v := .tuple #[]) (by simp [results, Try.results25, go_sem]) rfl ?_
        exact ⟨rfl, by rw [← HF.out.2.2]; exact HF.out.1, HF.out.2.1⟩

set_option maxRecDepth 100000 in
set_option maxHeartbeats 4000000 in
theorem size_is (n : Nv) (W : World) (D : Nat → Prop) (hl : LiesD D W n) (hz : n.nd.sz < 2 ^ 62) :
    Calls Try.prog 11 #[n.val] W fun e W' => e = .returned (.int .i64 (n.nd.sz : Int)) ∧ Below W.heap.size W W' := by
  obtain ⟨k, t, a, av, cap, blk, off, ks⟩ := n
  show Calls Try.prog 11 #[.agg #[.int .i64 k, .string (bs t), .int .i64 a, .slice av ks.length cap]] W _
  have hb0 := bel_new W (.cells #[.int .i64 k, .string (bs t), .int .i64 a, .slice av ks.length cap] 24)
  have hk0 := World.alloc_heap_new W (.cells #[.int .i64 k, .string (bs t), .int .i64 a, .slice av ks.length cap] 24)
  have hb1 := bel_new (W.alloc (.cells #[.int .i64 k, .string (bs t), .int .i64 a, .slice av ks.length cap] 24)) (.cells #[.int .i64 0] 3)
  have hk1 := (hb1.block _ (lt_of hk0)).trans hk0
  have hc1 : CtrAt ((W.alloc (.cells #[.int .i64 k, .string (bs t), .int .i64 a, .slice av ks.length cap] 24)).alloc (.cells #[.int .i64 0] 3)) (W.heap.size + 1) 0 := by
    have := World.alloc_heap_new (W.alloc (.cells #[.int .i64 k, .string (bs t), .int .i64 a, .slice av ks.length cap] 24)) (.cells #[.int .i64 0] 3)
    rw [World.size_alloc] at this
    exact this
  have c0 := cell_of hk1 0
  have c1 := cell_of hk1 1
  have c2 := cell_of hk1 2
  have c3 := cell_of hk1 3
  simp only [List.getElem?_toArray, List.getElem?_cons_zero, List.getElem?_cons_succ] at c0 c1 c2 c3
  have hl1 := (LiesD.mono (D' := fun b => b < W.heap.size) hl (fun b _ h => h)).turns (turns_b (Q := fun _ => False) (bel_two hb0 hb1)) (fun _ _ _ h => h)
  have hE := hidW (each_is (W.heap.size + 1) _ (.mk k t a av cap blk off ks) (Nat.le_refl _) _ _ 0 hl1 (by omega) hc1 (by omega))
  have HB := hidW (bel_two hb0 hb1)
  generalize hzz : (Nv.mk k t a av cap blk off ks).nd.sz = zz at *
  clear hl hb0 hk0 hb1 hk1 hc1 hl1
  go_enter Try.func11, Try.ntmps11
  go_wp2_with fail
  refine hE.out.mono ?_; clear hE; rintro e W2 ⟨rfl, hc2, t2⟩
  rw [Nat.zero_add] at hc2
  have d0 := cell_of hc2 0
  simp only [List.getElem?_toArray, List.getElem?_cons_zero] at d0
  have HF := hidW (Turns.below HB.out HB.out.size t2 (fun b hb e => by omega))
  clear hc2 t2
  go_wp2
  go_ret
  exact ⟨rfl, HF.out⟩

end Go.Proofs.Ytgndnodahlabiaa

/- Trees (layer 10): the contracts of Same and slices.EqualFunc of it. -/
namespace Go.Proofs.Ytgndnodahlabiaa
open Go.ChangeShapes Go.WideShapes Go.ChangeAt Go.RowKit

/-- What Same owes of trees up to a size. -/
def SameTo (z : Nat) : Prop := ∀ (n : Nv), n.nd.sz ≤ z → ∀ (m : Nv) (W : World) (D : Nat → Prop), LiesD D W n → LiesD D W m → n.nd.bnd → m.nd.bnd →
    Calls Try.prog 13 #[n.val, m.val] W fun e W' => e = .returned (.bool (sameB n.nd m.nd)) ∧ Below W.heap.size W W'

theorem sameL_len : ∀ (l m : List Nd), l.length ≠ m.length → sameL l m = false
  | [], [], h => absurd rfl h
  | [], _ :: _, _ => by rw [sameL] <;> simp
  | _ :: _, [], _ => by rw [sameL] <;> simp
  | x :: r, y :: q, h => by rw [sameL, sameL_len r q (by simpa using h), Bool.and_false]

set_option maxRecDepth 100000 in
set_option maxHeartbeats 4000000 in
theorem equal_is {z : Nat} (IH0 : SameTo z) {ks ms : List Nv} (hz : szL (ndL ks) ≤ z) {W : World} {D : Nat → Prop} {av bv : Option Addr} {cap cap2 blk blk2 off off2 : Nat} (hr1 : RowD D W av blk off ks) (hr2 : RowD D W bv blk2 off2 ms) (hk1 : ∀ n, n ∈ ks → LiesD D W n) (hk2 : ∀ n, n ∈ ms → LiesD D W n) (hb1 : ∀ n, n ∈ ks → n.nd.bnd) (hb2 : ∀ n, n ∈ ms → n.nd.bnd) (hln : ks.length < 2 ^ 62) :
    Calls Try.prog 27 #[.slice av ks.length cap, .slice bv ms.length cap2, .func (.func 13) #[] #[]] W fun e W' => e = .returned (.bool (sameL (ndL ks) (ndL ms))) ∧ Below W.heap.size W W' := by
  by_cases hne : ks.length = ms.length
  · have e1 : ((ks.length : Int) != (ms.length : Int)) = false := by simp [hne]
    have H0 := hidW (And.intro hr1 (And.intro hr2 (And.intro hk1 hk2)))
    have HB := hidW (And.intro hb1 hb2)
    have IH := hidW IH0
    clear hr1 hr2 hk1 hk2 hb1 hb2 IH0
    have HNE := hidW hne
    clear hne
    generalize hRR : sameL (ndL ks) (ndL ms) = R
    have HRR := hidW hRR
    clear hRR
    generalize hn0 : ks.length = n0 at *
    generalize hm0 : ms.length = m0 at *
    have HN0 := hidW (And.intro hn0 hm0)
    clear hn0 hm0
    go_enter Try.func27, Try.ntmps27
    go_wp2_with fail
    go_loopw [17] (fun i wr => ∃ (j : Nat), i = .int .i64 (j : Int) ∧ j ≤ n0 ∧ sameL (ndL (ks.drop j)) (ndL (ms.drop j)) = R ∧ Below W.heap.size W wr) (fun i _ => n0 - (intOf i).toNat)
    case atStart => exact ⟨0, rfl, Nat.zero_le _, HRR.out, Below.refl _ _⟩
    case round =>
      obtain ⟨j, rfl, hj, hR, hb⟩ := hrel
      by_cases h1 : j < n0
      · have hjk : j < ks.length := by have := HN0.out; omega
        have hjm : j < ms.length := by have := HN0.out; have := HNE.out; omega
        have e2 : ((j : Int) < (n0 : Int)) = True := eq_true (by omega)
        have e3 : ((j : Int) < (m0 : Int)) = True := eq_true (by have := HN0.out; omega)
        obtain ⟨x, hx⟩ : ∃ x, ks[j]'hjk = x := ⟨_, rfl⟩
        obtain ⟨y, hy⟩ : ∃ y, ms[j]'hjm = y := ⟨_, rfl⟩
        have hxm : x ∈ ks := hx ▸ List.getElem_mem hjk
        have hym : y ∈ ms := hy ▸ List.getElem_mem hjm
        rw [ndL_drop ks j hjk, hx, ndL_drop ms j hjm, hy, sameL] at hR
        have hxz : x.nd.sz ≤ szL (ndL ks) := sz_mem (by rw [ndL_map]; exact List.mem_map_of_mem hxm)
        have hrx := H0.out.1.turns (turns_b (Q := fun _ => False) hb) (fun _ _ _ h => h)
        have hry := H0.out.2.1.turns (turns_b (Q := fun _ => False) hb) (fun _ _ _ h => h)
        have hlx := (H0.out.2.2.1 x hxm).turns (turns_b (Q := fun _ => False) hb) (fun _ _ _ h => h)
        have hly := (H0.out.2.2.2 y hym).turns (turns_b (Q := fun _ => False) hb) (fun _ _ _ h => h)
        obtain rfl := hrx.at_ (by omega)
        obtain rfl := hry.at_ (by omega)
        obtain ⟨xk, xt, xa, xav, xcap, xblk, xoff, xks⟩ := x
        obtain ⟨yk, yt, ya, yav, ycap, yblk, yoff, yks⟩ := y
        obtain ⟨k0, k1, k2, k3⟩ := hrx.kid hjk hx
        have hb3 := bel_new wr (.cells #[.int .i64 xk, .string (bs xt), .int .i64 xa, .slice xav xks.length xcap] 24)
        have hry4 := hry.turns (turns_b (Q := fun _ => False) hb3) (fun _ _ _ h => h)
        obtain ⟨j0, j1, j2, j3⟩ := hry4.kid hjm hy
        have hb4 := bel_two hb3 (bel_new (wr.alloc (.cells #[.int .i64 xk, .string (bs xt), .int .i64 xa, .slice xav xks.length xcap] 24)) (.cells #[.int .i64 yk, .string (bs yt), .int .i64 ya, .slice yav yks.length ycap] 24))
        have hkx : ((wr.alloc (.cells #[.int .i64 xk, .string (bs xt), .int .i64 xa, .slice xav xks.length xcap] 24)).alloc (.cells #[.int .i64 yk, .string (bs yt), .int .i64 ya, .slice yav yks.length ycap] 24)).heap[wr.heap.size]? = some (.cells #[.int .i64 xk, .string (bs xt), .int .i64 xa, .slice xav xks.length xcap] 24 (0, 0)) := ((bel_new _ _).block _ (by simp)).trans (World.alloc_heap_new wr _)
        have x0 := cell_of hkx 0
        have x1 := cell_of hkx 1
        have x2 := cell_of hkx 2
        have x3 := cell_of hkx 3
        simp only [List.getElem?_toArray, List.getElem?_cons_zero, List.getElem?_cons_succ] at x0 x1 x2 x3
        have hC := hidW (IH.out (.mk xk xt xa xav xcap xblk xoff xks) (by omega) (.mk yk yt ya yav ycap yblk yoff yks) _ D (hlx.turns (turns_b (Q := fun _ => False) hb4) (fun _ _ _ h => h)) (hly.turns (turns_b (Q := fun _ => False) hb4) (fun _ _ _ h => h)) (HB.out.1 _ hxm) (HB.out.2 _ hym))
        have HX := hidW (And.intro hR (hb.trans (hb4.mono hb.size)))
        clear hrx hry hry4 hlx hly hx hy hxm hym hR hb hb3 hb4 hkx hxz
        cases hs : sameB (Nv.mk xk xt xa xav xcap xblk xoff xks).nd (Nv.mk yk yt ya yav ycap yblk yoff yks).nd with
        | true =>
          rw [hs] at hC
          rw [hs] at HX
          clear hs
          go_wp2_with fail
          refine hC.out.mono ?_; clear hC; rintro e W4 ⟨rfl, hb4⟩
          go_wp2_with fail
          go_roundw
          case rel => exact ⟨j + 1, by go_num, by omega, by have := HX.out.1; rwa [Bool.true_and] at this, HX.out.2.trans (hb4.mono HX.out.2.size)⟩
          case measure => simp [intOf]; omega
        | false =>
          rw [hs] at hC
          rw [hs] at HX
          clear hs
          go_wp2_with fail
          refine hC.out.mono ?_; clear hC; rintro e W4 ⟨rfl, hb4⟩
          go_wp2
          go_ret
          exact ⟨by have := HX.out.1; rw [Bool.false_and] at this; subst this; rfl, HX.out.2.trans (hb4.mono HX.out.2.size)⟩
      · have e2 : ((j : Int) < (n0 : Int)) = False := by simp; omega
        have hRt : R = true := by rw [← hR, List.drop_eq_nil_of_le (by have := HN0.out; omega), List.drop_eq_nil_of_le (by have := HN0.out; have := HNE.out; omega), ndL, sameL]
        have HF := hidW (And.intro hRt hb)
        clear hRt hR hb
        go_wp2
        go_ret
        exact ⟨by have := HF.out.1; subst this; rfl, HF.out.2⟩
  · have e1 : ((ks.length : Int) != (ms.length : Int)) = true := by simp; omega
    have hf : sameL (ndL ks) (ndL ms) = false := sameL_len _ _ (by rw [ndL_len, ndL_len]; exact hne)
    rw [hf]
    clear hr1 hr2 hk1 hk2 hb1 hb2 IH0 hf hne
    go_enter Try.func27, Try.ntmps27
    go_wp2
    go_ret
    exact ⟨rfl, Below.refl _ _⟩

set_option maxRecDepth 100000 in
set_option maxHeartbeats 4000000 in
theorem same_to : ∀ z, SameTo z := by
  intro z
  induction z with
  | zero => intro n h; cases n; rw [Nv.nd, Nd.sz] at h; omega
  | succ z ih =>
    intro n hz m W D hl1 hl2 hb1 hb2
    obtain ⟨k, t, a, av, cap, blk, off, ks⟩ := n
    obtain ⟨k', t', a', av', cap', blk', off', ks'⟩ := m
    obtain ⟨hr1, hk1⟩ := hl1.parts
    obtain ⟨hr2, hk2⟩ := hl2.parts
    rw [Nv.nd, Nd.sz] at hz
    rw [Nv.nd, Nv.nd, sameB]
    show Calls Try.prog 13 #[.agg #[.int .i64 k, .string (bs t), .int .i64 a, .slice av ks.length cap], .agg #[.int .i64 k', .string (bs t'), .int .i64 a', .slice av' ks'.length cap']] W _
    have hbw := bel_two (bel_new W (.cells #[.int .i64 k, .string (bs t), .int .i64 a, .slice av ks.length cap] 24)) (bel_new (W.alloc (.cells #[.int .i64 k, .string (bs t), .int .i64 a, .slice av ks.length cap] 24)) (.cells #[.int .i64 k', .string (bs t'), .int .i64 a', .slice av' ks'.length cap'] 24))
    have hE := hidW (equal_is (cap := cap) (cap2 := cap') ih (by omega) (hr1.turns (turns_b (Q := fun _ => False) hbw) (fun _ _ _ h => h)) (hr2.turns (turns_b (Q := fun _ => False) hbw) (fun _ _ _ h => h)) (fun n hn => (hk1 n hn).turns (turns_b (Q := fun _ => False) hbw) (fun _ _ _ h => h)) (fun n hn => (hk2 n hn).turns (turns_b (Q := fun _ => False) hbw) (fun _ _ _ h => h)) (fun n hn => bnd_kid hb1 hn) (fun n hn => bnd_kid hb2 hn) (bnd_len hb1))
    have HB := hidW hbw
    have eq1 := bs_toList t
    have eq2 := bs_toList t'
    clear hl1 hl2 hr1 hr2 hk1 hk2 hb1 hb2 ih hbw
    by_cases hk : k = k'
    · have e1 : (k == k') = true := by simp [hk]
      have d1 : decide (k = k') = true := by simp [hk]
      rw [d1, Bool.true_and]
      by_cases ht : t = t'
      · have e2 : (t == t') = true := by simp [ht]
        have d2 : decide (t = t') = true := by simp [ht]
        rw [d2, Bool.true_and]
        generalize sameL (ndL ks) (ndL ks') = R at *
        clear hk ht d1 d2
        go_enter Try.func13, Try.ntmps13
        go_wp2_with fail
        refine hE.out.mono ?_; clear hE; rintro e W4 ⟨rfl, hb4⟩
        go_wp2
        go_ret
        exact ⟨rfl, HB.out.trans (hb4.mono HB.out.size)⟩
      · have e2 : (t == t') = false := by simp [ht]
        have d2 : decide (t = t') = false := by simp [ht]
        rw [d2, Bool.false_and]
        clear hk ht d1 d2 hE
        go_enter Try.func13, Try.ntmps13
        go_wp2
        go_ret
        exact ⟨rfl, HB.out⟩
    · have e1 : (k == k') = false := by simp [hk]
      have d1 : decide (k = k') = false := by simp [hk]
      rw [d1, Bool.false_and]
      clear hk d1 hE
      go_enter Try.func13, Try.ntmps13
      go_wp2
      go_ret
      exact ⟨rfl, HB.out⟩
theorem tsame_is (n m : Nv) (W : World) (D : Nat → Prop) (h1 : LiesD D W n) (h2 : LiesD D W m) (b1 : n.nd.bnd) (b2 : m.nd.bnd) :
    Calls Try.prog 13 #[n.val, m.val] W fun e W' => e = .returned (.bool (sameB n.nd m.nd)) ∧ Below W.heap.size W W' := same_to _ n (Nat.le_refl _) m W D h1 h2 b1 b2

end Go.Proofs.Ytgndnodahlabiaa
