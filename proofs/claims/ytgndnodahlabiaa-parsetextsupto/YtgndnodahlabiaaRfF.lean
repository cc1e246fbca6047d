/-
  What the document answers of trees (layer 10): its Text, kinds 11, 13, 14, 15, 16, 17, 18.
-/
import Derived.Test.YtgndnodahlabiaaRfD
namespace Go.Proofs.Ytgndnodahlabiaa
open Go.ChangeShapes Go.WideShapes Go.ChangeAt Go.RowKit

set_option maxRecDepth 100000 in
set_option maxHeartbeats 16000000 in
theorem rt_11 {z : Nat} {t : List UInt8} {ks : List Nv} (K : Rk z t ks) {D : Nat → Prop} {W : World} {a : Int} {av : Option Addr} {cap blk off : Nat} (hr : RowD D W av blk off ks) (hk : ∀ n, n ∈ ks → LiesD D W n) (hm : 2 ≤ ks.length) : RAns 11 t a av cap ks W := by
  have hi0 : 0 < ks.length := by omega
  obtain ⟨n0, he0⟩ : ∃ n, ks[0]'hi0 = n := ⟨_, rfl⟩
  have hg0 := txt_at hi0 he0
  have hx0 := K.len_kid hi0 he0
  have hi1 : 1 < ks.length := by omega
  obtain ⟨n1, he1⟩ : ∃ n, ks[1]'hi1 = n := ⟨_, rfl⟩
  have hg1 := txt_at hi1 he1
  have hx1 := K.len_kid hi1 he1
  obtain rfl := hr.at_ hi0
  have HQ := hidW (Rs.start (k := 11) (t := t) (a := a) (cap := cap) hr hk)
  obtain ⟨k0, t0, a0, v0, c0, b0, o0, s0⟩ := n0
  have C0 := hidW (fun (V : World) (h : Rs D W 11 t a (some ⟨blk, off, none⟩) cap blk off ks V) => h.call K hi0 he0)
  have HE0 := hidW he0
  obtain ⟨k1, t1, a1, v1, c1_, b1, o1, s1⟩ := n1
  have C1 := hidW (fun (V : World) (h : Rs D W 11 t a (some ⟨blk, off, none⟩) cap blk off ks V) => h.call K hi1 he1)
  have HE1 := hidW he1
  have htl : t.length ≤ 2 ^ 40 := by have := K.ned; omega
  generalize txt (Nv.mk k0 t0 a0 v0 c0 b0 o0 s0).nd = x0 at *
  generalize txt (Nv.mk k1 t1 a1 v1 c1_ b1 o1 s1).nd = x1 at *
  obtain ⟨c1, hc1⟩ : ∃ c, c = wth x0 [61] := ⟨_, rfl⟩
  have hl1 : c1.length ≤ 4 * 2 ^ 40 := by rw [hc1]; have := wth_len x0 [61]; simp only [List.length_cons, List.length_nil] at *; omega
  obtain ⟨c2, hc2⟩ : ∃ c, c = wth c1 x1 := ⟨_, rfl⟩
  have hl2 : c2.length ≤ 16 * 2 ^ 40 := by rw [hc2]; have := wth_len c1 x1; omega
  obtain ⟨c3, hc3⟩ : ∃ c, c = wth c2 [59] := ⟨_, rfl⟩
  have hl3 : c3.length ≤ 64 * 2 ^ 40 := by rw [hc3]; have := wth_len c2 [59]; simp only [List.length_cons, List.length_nil] at *; omega
  have D1 := fun (V : World) => with_is x0 [61] (by simp only [List.length_cons, List.length_nil]; omega) V
  rw [← hc1] at D1
  have HD1 := hidW D1
  have D2 := fun (V : World) => with_is c1 x1 (by omega) V
  rw [← hc2] at D2
  have HD2 := hidW D2
  have D3 := fun (V : World) => with_is c2 [59] (by simp only [List.length_cons, List.length_nil]; omega) V
  rw [← hc3] at D3
  have HD3 := hidW D3
  have HF := hidW (show c3 = wcat (rowP 11 t (txtL (ndL ks))) from by rw [rowP_11, hg0, hg1, wcat_four, hc3, hc2, hc1] <;> (try simp only [wth_assoc]))
  unfold RAns
  rw [node_row (k := 11) (m := 2) rfl (by rw [kids_len]; exact hm) (by decide)]
  obtain ⟨q0, q1, q3⟩ := HQ.out.text
  have HL := hidW (rleast_is 11 (W.alloc (.cells #[.int .i64 11, .string (bs t), .int .i64 a, .slice (some ⟨blk, off, none⟩) ks.length cap] 24)))
  have hLZ : leastZ 11 = 2 := rfl
  rw [hLZ] at HL
  have f0 : ((ks.length : Int) < 2) = False := eq_false (by omega)
  have f1 : ((0 : Int) < (ks.length : Int)) = True := eq_true (by omega)
  have f2 : ((1 : Int) < (ks.length : Int)) = True := eq_true (by omega)
  clear hr hk K hLZ he0 hg0 hx0 he1 hg1 hx1 hl1 D1 hl2 D2 hl3 D3 hc1 hc2 hc3
  go_enter Try.func10, Try.ntmps10
  go_wp2_with fail
  refine HL.out.mono ?_
  clear HL
  rintro e V ⟨rfl, rfl⟩
  obtain ⟨kc0, kc1, kc2, kc3⟩ := HQ.out.kid0 hi0 HE0.out
  have HC := hidW (C0.out _ HQ.out)
  go_wp2_with fail
  refine HC.out.mono ?_
  clear HC kc0 kc1 kc2 kc3 q0 q1 q3
  rintro e V0 ⟨rfl, hb⟩
  replace HQ := hidW (HQ.out.below hb)
  clear hb
  obtain ⟨q0, q1, q3⟩ := HQ.out.text
  obtain ⟨kc0, kc1, kc2, kc3⟩ := HQ.out.kid1 hi1 HE1.out
  have HC := hidW (C1.out _ HQ.out)
  go_wp2_with fail
  refine HC.out.mono ?_
  clear HC kc0 kc1 kc2 kc3 q0 q1 q3
  rintro e V1 ⟨rfl, hb⟩
  replace HQ := hidW (HQ.out.below hb)
  clear hb
  obtain ⟨q0, q1, q3⟩ := HQ.out.text
  have HC := hidW (HD1.out V1)
  go_wp2_with fail
  refine HC.out.mono ?_
  clear HC HD1
  rintro e V ⟨rfl, rfl⟩
  have HC := hidW (HD2.out V)
  go_wp2_with fail
  refine HC.out.mono ?_
  clear HC HD2
  rintro e V ⟨rfl, rfl⟩
  have HC := hidW (HD3.out V)
  go_wp2_with fail
  refine HC.out.mono ?_
  clear HC HD3
  rintro e V ⟨rfl, rfl⟩
  go_wp2
  go_ret
  exact ⟨by first | exact congrArg (fun x => Ending.returned (Value.string (bs x))) HF.out | (rw [← HF.out]; rfl), HQ.out.bel⟩

set_option maxRecDepth 100000 in
set_option maxHeartbeats 16000000 in
theorem rt_13 {z : Nat} {t : List UInt8} {ks : List Nv} (K : Rk z t ks) {D : Nat → Prop} {W : World} {a : Int} {av : Option Addr} {cap blk off : Nat} (hr : RowD D W av blk off ks) (hk : ∀ n, n ∈ ks → LiesD D W n) (hm : 2 ≤ ks.length) : RAns 13 t a av cap ks W := by
  have hi0 : 0 < ks.length := by omega
  obtain ⟨n0, he0⟩ : ∃ n, ks[0]'hi0 = n := ⟨_, rfl⟩
  have hg0 := txt_at hi0 he0
  have hx0 := K.len_kid hi0 he0
  have hi1 : 1 < ks.length := by omega
  obtain ⟨n1, he1⟩ : ∃ n, ks[1]'hi1 = n := ⟨_, rfl⟩
  have hg1 := txt_at hi1 he1
  have hx1 := K.len_kid hi1 he1
  obtain rfl := hr.at_ hi0
  have HQ := hidW (Rs.start (k := 13) (t := t) (a := a) (cap := cap) hr hk)
  obtain ⟨k0, t0, a0, v0, c0, b0, o0, s0⟩ := n0
  have C0 := hidW (fun (V : World) (h : Rs D W 13 t a (some ⟨blk, off, none⟩) cap blk off ks V) => h.call K hi0 he0)
  have HE0 := hidW he0
  obtain ⟨k1, t1, a1, v1, c1_, b1, o1, s1⟩ := n1
  have C1 := hidW (fun (V : World) (h : Rs D W 13 t a (some ⟨blk, off, none⟩) cap blk off ks V) => h.call K hi1 he1)
  have HE1 := hidW he1
  have htl : t.length ≤ 2 ^ 40 := by have := K.ned; omega
  generalize txt (Nv.mk k0 t0 a0 v0 c0 b0 o0 s0).nd = x0 at *
  generalize txt (Nv.mk k1 t1 a1 v1 c1_ b1 o1 s1).nd = x1 at *
  obtain ⟨c1, hc1⟩ : ∃ c, c = wth [102, 111, 114] x0 := ⟨_, rfl⟩
  have hl1 : c1.length ≤ 4 * 2 ^ 40 := by rw [hc1]; have := wth_len [102, 111, 114] x0; simp only [List.length_cons, List.length_nil] at *; omega
  obtain ⟨c2, hc2⟩ : ∃ c, c = wth c1 x1 := ⟨_, rfl⟩
  have hl2 : c2.length ≤ 16 * 2 ^ 40 := by rw [hc2]; have := wth_len c1 x1; omega
  have D1 := fun (V : World) => with_is [102, 111, 114] x0 (by simp only [List.length_cons, List.length_nil]; omega) V
  rw [← hc1] at D1
  have HD1 := hidW D1
  have D2 := fun (V : World) => with_is c1 x1 (by omega) V
  rw [← hc2] at D2
  have HD2 := hidW D2
  have HF := hidW (show c2 = wcat (rowP 13 t (txtL (ndL ks))) from by rw [rowP_13, hg0, hg1, wcat_three, hc2, hc1] <;> (try simp only [wth_assoc]))
  unfold RAns
  rw [node_row (k := 13) (m := 2) rfl (by rw [kids_len]; exact hm) (by decide)]
  obtain ⟨q0, q1, q3⟩ := HQ.out.text
  have HL := hidW (rleast_is 13 (W.alloc (.cells #[.int .i64 13, .string (bs t), .int .i64 a, .slice (some ⟨blk, off, none⟩) ks.length cap] 24)))
  have hLZ : leastZ 13 = 2 := rfl
  rw [hLZ] at HL
  have f0 : ((ks.length : Int) < 2) = False := eq_false (by omega)
  have f1 : ((0 : Int) < (ks.length : Int)) = True := eq_true (by omega)
  have f2 : ((1 : Int) < (ks.length : Int)) = True := eq_true (by omega)
  clear hr hk K hLZ he0 hg0 hx0 he1 hg1 hx1 hl1 D1 hl2 D2 hc1 hc2
  go_enter Try.func10, Try.ntmps10
  go_wp2_with fail
  refine HL.out.mono ?_
  clear HL
  rintro e V ⟨rfl, rfl⟩
  obtain ⟨kc0, kc1, kc2, kc3⟩ := HQ.out.kid0 hi0 HE0.out
  have HC := hidW (C0.out _ HQ.out)
  go_wp2_with fail
  refine HC.out.mono ?_
  clear HC kc0 kc1 kc2 kc3 q0 q1 q3
  rintro e V0 ⟨rfl, hb⟩
  replace HQ := hidW (HQ.out.below hb)
  clear hb
  obtain ⟨q0, q1, q3⟩ := HQ.out.text
  obtain ⟨kc0, kc1, kc2, kc3⟩ := HQ.out.kid1 hi1 HE1.out
  have HC := hidW (C1.out _ HQ.out)
  go_wp2_with fail
  refine HC.out.mono ?_
  clear HC kc0 kc1 kc2 kc3 q0 q1 q3
  rintro e V1 ⟨rfl, hb⟩
  replace HQ := hidW (HQ.out.below hb)
  clear hb
  obtain ⟨q0, q1, q3⟩ := HQ.out.text
  have HC := hidW (HD1.out V1)
  go_wp2_with fail
  refine HC.out.mono ?_
  clear HC HD1
  rintro e V ⟨rfl, rfl⟩
  have HC := hidW (HD2.out V)
  go_wp2_with fail
  refine HC.out.mono ?_
  clear HC HD2
  rintro e V ⟨rfl, rfl⟩
  go_wp2
  go_ret
  exact ⟨by first | exact congrArg (fun x => Ending.returned (Value.string (bs x))) HF.out | (rw [← HF.out]; rfl), HQ.out.bel⟩

set_option maxRecDepth 100000 in
set_option maxHeartbeats 16000000 in
theorem rt_14 {z : Nat} {t : List UInt8} {ks : List Nv} (K : Rk z t ks) {D : Nat → Prop} {W : World} {a : Int} {av : Option Addr} {cap blk off : Nat} (hr : RowD D W av blk off ks) (hk : ∀ n, n ∈ ks → LiesD D W n) (hm : 0 ≤ ks.length) : RAns 14 t a av cap ks W := by
  by_cases h1 : 1 < ks.length
  · have hi0 : 0 < ks.length := by omega
    obtain ⟨n0, he0⟩ : ∃ n, ks[0]'hi0 = n := ⟨_, rfl⟩
    have hg0 := txt_at hi0 he0
    have hx0 := K.len_kid hi0 he0
    have hi1 : 1 < ks.length := by omega
    obtain ⟨n1, he1⟩ : ∃ n, ks[1]'hi1 = n := ⟨_, rfl⟩
    have hg1 := txt_at hi1 he1
    have hx1 := K.len_kid hi1 he1
    obtain rfl := hr.at_ hi0
    have HQ := hidW (Rs.start (k := 14) (t := t) (a := a) (cap := cap) hr hk)
    obtain ⟨k0, t0, a0, v0, c0, b0, o0, s0⟩ := n0
    have C0 := hidW (fun (V : World) (h : Rs D W 14 t a (some ⟨blk, off, none⟩) cap blk off ks V) => h.call K hi0 he0)
    have HE0 := hidW he0
    obtain ⟨k1, t1, a1, v1, c1_, b1, o1, s1⟩ := n1
    have C1 := hidW (fun (V : World) (h : Rs D W 14 t a (some ⟨blk, off, none⟩) cap blk off ks V) => h.call K hi1 he1)
    have HE1 := hidW he1
    have htl : t.length ≤ 2 ^ 40 := by have := K.ned; omega
    generalize txt (Nv.mk k0 t0 a0 v0 c0 b0 o0 s0).nd = x0 at *
    generalize txt (Nv.mk k1 t1 a1 v1 c1_ b1 o1 s1).nd = x1 at *
    obtain ⟨c1, hc1⟩ : ∃ c, c = wth [114, 101, 116, 117, 114, 110] x0 := ⟨_, rfl⟩
    have hl1 : c1.length ≤ 4 * 2 ^ 40 := by rw [hc1]; have := wth_len [114, 101, 116, 117, 114, 110] x0; simp only [List.length_cons, List.length_nil] at *; omega
    obtain ⟨c2, hc2⟩ : ∃ c, c = wth c1 [59] := ⟨_, rfl⟩
    have hl2 : c2.length ≤ 16 * 2 ^ 40 := by rw [hc2]; have := wth_len c1 [59]; simp only [List.length_cons, List.length_nil] at *; omega
    have D1 := fun (V : World) => with_is [114, 101, 116, 117, 114, 110] x0 (by simp only [List.length_cons, List.length_nil]; omega) V
    rw [← hc1] at D1
    have HD1 := hidW D1
    have D2 := fun (V : World) => with_is c1 [59] (by simp only [List.length_cons, List.length_nil]; omega) V
    rw [← hc2] at D2
    have HD2 := hidW D2
    have HF := hidW (show c2 = wcat (rowP 14 t (txtL (ndL ks))) from by rw [rowP_14, txt_first hi0, hg0, hc2, hc1]; exact (wth_assoc _ _ _).trans (wcat_three _ _ _).symm)
    unfold RAns
    rw [node_row (k := 14) (m := 0) rfl (by rw [kids_len]; exact hm) (by decide)]
    obtain ⟨q0, q1, q3⟩ := HQ.out.text
    have HL := hidW (rleast_is 14 (W.alloc (.cells #[.int .i64 14, .string (bs t), .int .i64 a, .slice (some ⟨blk, off, none⟩) ks.length cap] 24)))
    have hLZ : leastZ 14 = 0 := rfl
    rw [hLZ] at HL
    have f0 : ((ks.length : Int) < 0) = False := eq_false (by omega)
    have f1 : ((0 : Int) < (ks.length : Int)) = True := eq_true (by omega)
    have f2 : ((1 : Int) < (ks.length : Int)) = True := eq_true (by omega)
    clear hr hk K hLZ he0 hg0 hx0 he1 hg1 hx1 hl1 D1 hl2 D2 hc1 hc2
    go_enter Try.func10, Try.ntmps10
    go_wp2_with fail
    refine HL.out.mono ?_
    clear HL
    rintro e V ⟨rfl, rfl⟩
    obtain ⟨kc0, kc1, kc2, kc3⟩ := HQ.out.kid0 hi0 HE0.out
    have HC := hidW (C0.out _ HQ.out)
    go_wp2_with fail
    refine HC.out.mono ?_
    clear HC kc0 kc1 kc2 kc3 q0 q1 q3
    rintro e V0 ⟨rfl, hb⟩
    replace HQ := hidW (HQ.out.below hb)
    clear hb
    obtain ⟨q0, q1, q3⟩ := HQ.out.text
    obtain ⟨kc0, kc1, kc2, kc3⟩ := HQ.out.kid1 hi1 HE1.out
    have HC := hidW (C1.out _ HQ.out)
    go_wp2_with fail
    refine HC.out.mono ?_
    clear HC kc0 kc1 kc2 kc3 q0 q1 q3
    rintro e V1 ⟨rfl, hb⟩
    replace HQ := hidW (HQ.out.below hb)
    clear hb
    obtain ⟨q0, q1, q3⟩ := HQ.out.text
    have HC := hidW (HD1.out V1)
    go_wp2_with fail
    refine HC.out.mono ?_
    clear HC HD1
    rintro e V ⟨rfl, rfl⟩
    have HC := hidW (HD2.out V)
    go_wp2_with fail
    refine HC.out.mono ?_
    clear HC HD2
    rintro e V ⟨rfl, rfl⟩
    go_wp2
    go_ret
    exact ⟨by first | exact congrArg (fun x => Ending.returned (Value.string (bs x))) HF.out | (rw [← HF.out]; rfl), HQ.out.bel⟩
  · by_cases h2 : 0 < ks.length
    · have hm1 : ks.length = 1 := by omega
      have hi0 : 0 < ks.length := by omega
      obtain ⟨n0, he0⟩ : ∃ n, ks[0]'hi0 = n := ⟨_, rfl⟩
      have hg0 := txt_at hi0 he0
      have hx0 := K.len_kid hi0 he0
      obtain rfl := hr.at_ hi0
      have HQ := hidW (Rs.start (k := 14) (t := t) (a := a) (cap := cap) hr hk)
      obtain ⟨k0, t0, a0, v0, c0, b0, o0, s0⟩ := n0
      have C0 := hidW (fun (V : World) (h : Rs D W 14 t a (some ⟨blk, off, none⟩) cap blk off ks V) => h.call K hi0 he0)
      have HE0 := hidW he0
      have htl : t.length ≤ 2 ^ 40 := by have := K.ned; omega
      generalize txt (Nv.mk k0 t0 a0 v0 c0 b0 o0 s0).nd = x0 at *
      obtain ⟨c1, hc1⟩ : ∃ c, c = wth [114, 101, 116, 117, 114, 110] x0 := ⟨_, rfl⟩
      have hl1 : c1.length ≤ 4 * 2 ^ 40 := by rw [hc1]; have := wth_len [114, 101, 116, 117, 114, 110] x0; simp only [List.length_cons, List.length_nil] at *; omega
      obtain ⟨c2, hc2⟩ : ∃ c, c = wth c1 [59] := ⟨_, rfl⟩
      have hl2 : c2.length ≤ 16 * 2 ^ 40 := by rw [hc2]; have := wth_len c1 [59]; simp only [List.length_cons, List.length_nil] at *; omega
      have D1 := fun (V : World) => with_is [114, 101, 116, 117, 114, 110] x0 (by simp only [List.length_cons, List.length_nil]; omega) V
      rw [← hc1] at D1
      have HD1 := hidW D1
      have D2 := fun (V : World) => with_is c1 [59] (by simp only [List.length_cons, List.length_nil]; omega) V
      rw [← hc2] at D2
      have HD2 := hidW D2
      have HF := hidW (show c2 = wcat (rowP 14 t (txtL (ndL ks))) from by rw [rowP_14, txt_first hi0, hg0, hc2, hc1]; exact (wth_assoc _ _ _).trans (wcat_three _ _ _).symm)
      unfold RAns
      rw [node_row (k := 14) (m := 0) rfl (by rw [kids_len]; exact hm) (by decide)]
      obtain ⟨q0, q1, q3⟩ := HQ.out.text
      have HL := hidW (rleast_is 14 (W.alloc (.cells #[.int .i64 14, .string (bs t), .int .i64 a, .slice (some ⟨blk, off, none⟩) ks.length cap] 24)))
      have hLZ : leastZ 14 = 0 := rfl
      rw [hLZ] at HL
      have f0 : ((ks.length : Int) < 0) = False := eq_false (by omega)
      have f1 : ((0 : Int) < (ks.length : Int)) = True := eq_true (by omega)
      have f2 : ((1 : Int) < (ks.length : Int)) = False := eq_false (by omega)
      clear hr hk K hLZ hm1 h1 he0 hg0 hx0 hl1 D1 hl2 D2 hc1 hc2
      go_enter Try.func10, Try.ntmps10
      go_wp2_with fail
      refine HL.out.mono ?_
      clear HL
      rintro e V ⟨rfl, rfl⟩
      obtain ⟨kc0, kc1, kc2, kc3⟩ := HQ.out.kid0 hi0 HE0.out
      have HC := hidW (C0.out _ HQ.out)
      go_wp2_with fail
      refine HC.out.mono ?_
      clear HC kc0 kc1 kc2 kc3 q0 q1 q3
      rintro e V0 ⟨rfl, hb⟩
      replace HQ := hidW (HQ.out.below hb)
      clear hb
      obtain ⟨q0, q1, q3⟩ := HQ.out.text
      have HC := hidW (HD1.out V0)
      go_wp2_with fail
      refine HC.out.mono ?_
      clear HC HD1
      rintro e V ⟨rfl, rfl⟩
      have HC := hidW (HD2.out V)
      go_wp2_with fail
      refine HC.out.mono ?_
      clear HC HD2
      rintro e V ⟨rfl, rfl⟩
      go_wp2
      go_ret
      exact ⟨by first | exact congrArg (fun x => Ending.returned (Value.string (bs x))) HF.out | (rw [← HF.out]; rfl), HQ.out.bel⟩
    · have hm0 : ks.length = 0 := by omega
      have HQ := hidW (Rs.start (k := 14) (t := t) (a := a) (cap := cap) hr hk)
      have htl : t.length ≤ 2 ^ 40 := by have := K.ned; omega
      obtain ⟨c1, hc1⟩ : ∃ c, c = wth [114, 101, 116, 117, 114, 110] [] := ⟨_, rfl⟩
      have hl1 : c1.length ≤ 4 * 2 ^ 40 := by rw [hc1]; have := wth_len [114, 101, 116, 117, 114, 110] []; simp only [List.length_cons, List.length_nil] at *; omega
      obtain ⟨c2, hc2⟩ : ∃ c, c = wth c1 [59] := ⟨_, rfl⟩
      have hl2 : c2.length ≤ 16 * 2 ^ 40 := by rw [hc2]; have := wth_len c1 [59]; simp only [List.length_cons, List.length_nil] at *; omega
      have D1 := fun (V : World) => with_is [114, 101, 116, 117, 114, 110] [] (by simp only [List.length_cons, List.length_nil]; omega) V
      rw [← hc1] at D1
      have HD1 := hidW D1
      have D2 := fun (V : World) => with_is c1 [59] (by simp only [List.length_cons, List.length_nil]; omega) V
      rw [← hc2] at D2
      have HD2 := hidW D2
      have HF := hidW (show c2 = wcat (rowP 14 t (txtL (ndL ks))) from by rw [rowP_14, txt_nokid (by omega), hc2, hc1, wth_nil]; exact (wcat_two _ _).symm)
      unfold RAns
      rw [node_row (k := 14) (m := 0) rfl (by rw [kids_len]; exact hm) (by decide)]
      obtain ⟨q0, q1, q3⟩ := HQ.out.text
      have HL := hidW (rleast_is 14 (W.alloc (.cells #[.int .i64 14, .string (bs t), .int .i64 a, .slice av ks.length cap] 24)))
      have hLZ : leastZ 14 = 0 := rfl
      rw [hLZ] at HL
      have f0 : ((ks.length : Int) < 0) = False := eq_false (by omega)
      have f1 : ((0 : Int) < (ks.length : Int)) = False := eq_false (by omega)
      have fN : (0 < ks.length) = False := eq_false (by omega)
      clear hr hk K hLZ hm0 h1 h2 hl1 D1 hl2 D2 hc1 hc2
      go_enter Try.func10, Try.ntmps10
      go_wp2_with fail
      refine HL.out.mono ?_
      clear HL
      rintro e V ⟨rfl, rfl⟩
      have HC := hidW (HD1.out (W.alloc (.cells #[.int .i64 14, .string (bs t), .int .i64 a, .slice av ks.length cap] 24)))
      go_wp2_with fail
      refine HC.out.mono ?_
      clear HC HD1
      rintro e V ⟨rfl, rfl⟩
      have HC := hidW (HD2.out (W.alloc (.cells #[.int .i64 14, .string (bs t), .int .i64 a, .slice av ks.length cap] 24)))
      go_wp2_with fail
      refine HC.out.mono ?_
      clear HC HD2
      rintro e V ⟨rfl, rfl⟩
      go_wp2
      go_ret
      exact ⟨by first | exact congrArg (fun x => Ending.returned (Value.string (bs x))) HF.out | (rw [← HF.out]; rfl), HQ.out.bel⟩

set_option maxRecDepth 100000 in
set_option maxHeartbeats 16000000 in
theorem rt_15 {z : Nat} {t : List UInt8} {ks : List Nv} (K : Rk z t ks) {D : Nat → Prop} {W : World} {a : Int} {av : Option Addr} {cap blk off : Nat} (hr : RowD D W av blk off ks) (hk : ∀ n, n ∈ ks → LiesD D W n) (hm : 1 ≤ ks.length) : RAns 15 t a av cap ks W := by
  by_cases h1 : 1 < ks.length
  · clear hm
    have hm : 1 ≤ ks.length := by omega
    have hi0 : 0 < ks.length := by omega
    obtain ⟨n0, he0⟩ : ∃ n, ks[0]'hi0 = n := ⟨_, rfl⟩
    have hg0 := txt_at hi0 he0
    have hx0 := K.len_kid hi0 he0
    have hi1 : 1 < ks.length := by omega
    obtain ⟨n1, he1⟩ : ∃ n, ks[1]'hi1 = n := ⟨_, rfl⟩
    have hg1 := txt_at hi1 he1
    have hx1 := K.len_kid hi1 he1
    obtain rfl := hr.at_ hi0
    have HQ := hidW (Rs.start (k := 15) (t := t) (a := a) (cap := cap) hr hk)
    obtain ⟨k0, t0, a0, v0, c0, b0, o0, s0⟩ := n0
    have C0 := hidW (fun (V : World) (h : Rs D W 15 t a (some ⟨blk, off, none⟩) cap blk off ks V) => h.call K hi0 he0)
    have HE0 := hidW he0
    obtain ⟨k1, t1, a1, v1, c1_, b1, o1, s1⟩ := n1
    have C1 := hidW (fun (V : World) (h : Rs D W 15 t a (some ⟨blk, off, none⟩) cap blk off ks V) => h.call K hi1 he1)
    have HE1 := hidW he1
    have htl : t.length ≤ 2 ^ 40 := by have := K.ned; omega
    generalize txt (Nv.mk k0 t0 a0 v0 c0 b0 o0 s0).nd = x0 at *
    generalize txt (Nv.mk k1 t1 a1 v1 c1_ b1 o1 s1).nd = x1 at *
    obtain ⟨c1, hc1⟩ : ∃ c, c = wth [112, 114, 105, 110, 116] x0 := ⟨_, rfl⟩
    have hl1 : c1.length ≤ 4 * 2 ^ 40 := by rw [hc1]; have := wth_len [112, 114, 105, 110, 116] x0; simp only [List.length_cons, List.length_nil] at *; omega
    obtain ⟨c2, hc2⟩ : ∃ c, c = wth c1 [59] := ⟨_, rfl⟩
    have hl2 : c2.length ≤ 16 * 2 ^ 40 := by rw [hc2]; have := wth_len c1 [59]; simp only [List.length_cons, List.length_nil] at *; omega
    have D1 := fun (V : World) => with_is [112, 114, 105, 110, 116] x0 (by simp only [List.length_cons, List.length_nil]; omega) V
    rw [← hc1] at D1
    have HD1 := hidW D1
    have D2 := fun (V : World) => with_is c1 [59] (by simp only [List.length_cons, List.length_nil]; omega) V
    rw [← hc2] at D2
    have HD2 := hidW D2
    have HF := hidW (show c2 = wcat (rowP 15 t (txtL (ndL ks))) from by rw [rowP_15, hg0, wcat_three, hc2, hc1] <;> (try simp only [wth_assoc]))
    unfold RAns
    rw [node_row (k := 15) (m := 1) rfl (by rw [kids_len]; exact hm) (by decide)]
    obtain ⟨q0, q1, q3⟩ := HQ.out.text
    have HL := hidW (rleast_is 15 (W.alloc (.cells #[.int .i64 15, .string (bs t), .int .i64 a, .slice (some ⟨blk, off, none⟩) ks.length cap] 24)))
    have hLZ : leastZ 15 = 1 := rfl
    rw [hLZ] at HL
    have f0 : ((ks.length : Int) < 1) = False := eq_false (by omega)
    have f1 : ((0 : Int) < (ks.length : Int)) = True := eq_true (by omega)
    have f2 : ((1 : Int) < (ks.length : Int)) = True := eq_true (by omega)
    clear hr hk K hLZ he0 hg0 hx0 he1 hg1 hx1 hl1 D1 hl2 D2 hc1 hc2
    go_enter Try.func10, Try.ntmps10
    go_wp2_with fail
    refine HL.out.mono ?_
    clear HL
    rintro e V ⟨rfl, rfl⟩
    obtain ⟨kc0, kc1, kc2, kc3⟩ := HQ.out.kid0 hi0 HE0.out
    have HC := hidW (C0.out _ HQ.out)
    go_wp2_with fail
    refine HC.out.mono ?_
    clear HC kc0 kc1 kc2 kc3 q0 q1 q3
    rintro e V0 ⟨rfl, hb⟩
    replace HQ := hidW (HQ.out.below hb)
    clear hb
    obtain ⟨q0, q1, q3⟩ := HQ.out.text
    obtain ⟨kc0, kc1, kc2, kc3⟩ := HQ.out.kid1 hi1 HE1.out
    have HC := hidW (C1.out _ HQ.out)
    go_wp2_with fail
    refine HC.out.mono ?_
    clear HC kc0 kc1 kc2 kc3 q0 q1 q3
    rintro e V1 ⟨rfl, hb⟩
    replace HQ := hidW (HQ.out.below hb)
    clear hb
    obtain ⟨q0, q1, q3⟩ := HQ.out.text
    have HC := hidW (HD1.out V1)
    go_wp2_with fail
    refine HC.out.mono ?_
    clear HC HD1
    rintro e V ⟨rfl, rfl⟩
    have HC := hidW (HD2.out V)
    go_wp2_with fail
    refine HC.out.mono ?_
    clear HC HD2
    rintro e V ⟨rfl, rfl⟩
    go_wp2
    go_ret
    exact ⟨by first | exact congrArg (fun x => Ending.returned (Value.string (bs x))) HF.out | (rw [← HF.out]; rfl), HQ.out.bel⟩
  · have hm1 : ks.length = 1 := by omega
    have hi0 : 0 < ks.length := by omega
    obtain ⟨n0, he0⟩ : ∃ n, ks[0]'hi0 = n := ⟨_, rfl⟩
    have hg0 := txt_at hi0 he0
    have hx0 := K.len_kid hi0 he0
    obtain rfl := hr.at_ hi0
    have HQ := hidW (Rs.start (k := 15) (t := t) (a := a) (cap := cap) hr hk)
    obtain ⟨k0, t0, a0, v0, c0, b0, o0, s0⟩ := n0
    have C0 := hidW (fun (V : World) (h : Rs D W 15 t a (some ⟨blk, off, none⟩) cap blk off ks V) => h.call K hi0 he0)
    have HE0 := hidW he0
    have htl : t.length ≤ 2 ^ 40 := by have := K.ned; omega
    generalize txt (Nv.mk k0 t0 a0 v0 c0 b0 o0 s0).nd = x0 at *
    obtain ⟨c1, hc1⟩ : ∃ c, c = wth [112, 114, 105, 110, 116] x0 := ⟨_, rfl⟩
    have hl1 : c1.length ≤ 4 * 2 ^ 40 := by rw [hc1]; have := wth_len [112, 114, 105, 110, 116] x0; simp only [List.length_cons, List.length_nil] at *; omega
    obtain ⟨c2, hc2⟩ : ∃ c, c = wth c1 [59] := ⟨_, rfl⟩
    have hl2 : c2.length ≤ 16 * 2 ^ 40 := by rw [hc2]; have := wth_len c1 [59]; simp only [List.length_cons, List.length_nil] at *; omega
    have D1 := fun (V : World) => with_is [112, 114, 105, 110, 116] x0 (by simp only [List.length_cons, List.length_nil]; omega) V
    rw [← hc1] at D1
    have HD1 := hidW D1
    have D2 := fun (V : World) => with_is c1 [59] (by simp only [List.length_cons, List.length_nil]; omega) V
    rw [← hc2] at D2
    have HD2 := hidW D2
    have HF := hidW (show c2 = wcat (rowP 15 t (txtL (ndL ks))) from by rw [rowP_15, hg0, wcat_three, hc2, hc1] <;> (try simp only [wth_assoc]))
    unfold RAns
    rw [node_row (k := 15) (m := 1) rfl (by rw [kids_len]; exact hm) (by decide)]
    obtain ⟨q0, q1, q3⟩ := HQ.out.text
    have HL := hidW (rleast_is 15 (W.alloc (.cells #[.int .i64 15, .string (bs t), .int .i64 a, .slice (some ⟨blk, off, none⟩) ks.length cap] 24)))
    have hLZ : leastZ 15 = 1 := rfl
    rw [hLZ] at HL
    have f0 : ((ks.length : Int) < 1) = False := eq_false (by omega)
    have f1 : ((0 : Int) < (ks.length : Int)) = True := eq_true (by omega)
    have f2 : ((1 : Int) < (ks.length : Int)) = False := eq_false (by omega)
    clear hr hk K hLZ hm1 h1 he0 hg0 hx0 hl1 D1 hl2 D2 hc1 hc2
    go_enter Try.func10, Try.ntmps10
    go_wp2_with fail
    refine HL.out.mono ?_
    clear HL
    rintro e V ⟨rfl, rfl⟩
    obtain ⟨kc0, kc1, kc2, kc3⟩ := HQ.out.kid0 hi0 HE0.out
    have HC := hidW (C0.out _ HQ.out)
    go_wp2_with fail
    refine HC.out.mono ?_
    clear HC kc0 kc1 kc2 kc3 q0 q1 q3
    rintro e V0 ⟨rfl, hb⟩
    replace HQ := hidW (HQ.out.below hb)
    clear hb
    obtain ⟨q0, q1, q3⟩ := HQ.out.text
    have HC := hidW (HD1.out V0)
    go_wp2_with fail
    refine HC.out.mono ?_
    clear HC HD1
    rintro e V ⟨rfl, rfl⟩
    have HC := hidW (HD2.out V)
    go_wp2_with fail
    refine HC.out.mono ?_
    clear HC HD2
    rintro e V ⟨rfl, rfl⟩
    go_wp2
    go_ret
    exact ⟨by first | exact congrArg (fun x => Ending.returned (Value.string (bs x))) HF.out | (rw [← HF.out]; rfl), HQ.out.bel⟩

set_option maxRecDepth 100000 in
set_option maxHeartbeats 16000000 in
theorem rt_16 {z : Nat} {t : List UInt8} {ks : List Nv} (K : Rk z t ks) {D : Nat → Prop} {W : World} {a : Int} {av : Option Addr} {cap blk off : Nat} (hr : RowD D W av blk off ks) (hk : ∀ n, n ∈ ks → LiesD D W n) (hm : 1 ≤ ks.length) : RAns 16 t a av cap ks W := by
  by_cases h1 : 1 < ks.length
  · clear hm
    have hm : 1 ≤ ks.length := by omega
    have hi0 : 0 < ks.length := by omega
    obtain ⟨n0, he0⟩ : ∃ n, ks[0]'hi0 = n := ⟨_, rfl⟩
    have hg0 := txt_at hi0 he0
    have hx0 := K.len_kid hi0 he0
    have hi1 : 1 < ks.length := by omega
    obtain ⟨n1, he1⟩ : ∃ n, ks[1]'hi1 = n := ⟨_, rfl⟩
    have hg1 := txt_at hi1 he1
    have hx1 := K.len_kid hi1 he1
    obtain rfl := hr.at_ hi0
    have HQ := hidW (Rs.start (k := 16) (t := t) (a := a) (cap := cap) hr hk)
    obtain ⟨k0, t0, a0, v0, c0, b0, o0, s0⟩ := n0
    have C0 := hidW (fun (V : World) (h : Rs D W 16 t a (some ⟨blk, off, none⟩) cap blk off ks V) => h.call K hi0 he0)
    have HE0 := hidW he0
    obtain ⟨k1, t1, a1, v1, c1_, b1, o1, s1⟩ := n1
    have C1 := hidW (fun (V : World) (h : Rs D W 16 t a (some ⟨blk, off, none⟩) cap blk off ks V) => h.call K hi1 he1)
    have HE1 := hidW he1
    have htl : t.length ≤ 2 ^ 40 := by have := K.ned; omega
    generalize txt (Nv.mk k0 t0 a0 v0 c0 b0 o0 s0).nd = x0 at *
    generalize txt (Nv.mk k1 t1 a1 v1 c1_ b1 o1 s1).nd = x1 at *
    obtain ⟨c1, hc1⟩ : ∃ c, c = wth x0 [59] := ⟨_, rfl⟩
    have hl1 : c1.length ≤ 4 * 2 ^ 40 := by rw [hc1]; have := wth_len x0 [59]; simp only [List.length_cons, List.length_nil] at *; omega
    have D1 := fun (V : World) => with_is x0 [59] (by simp only [List.length_cons, List.length_nil]; omega) V
    rw [← hc1] at D1
    have HD1 := hidW D1
    have HF := hidW (show c1 = wcat (rowP 16 t (txtL (ndL ks))) from by rw [rowP_16, hg0, wcat_two, hc1] <;> (try simp only [wth_assoc]))
    unfold RAns
    rw [node_row (k := 16) (m := 1) rfl (by rw [kids_len]; exact hm) (by decide)]
    obtain ⟨q0, q1, q3⟩ := HQ.out.text
    have HL := hidW (rleast_is 16 (W.alloc (.cells #[.int .i64 16, .string (bs t), .int .i64 a, .slice (some ⟨blk, off, none⟩) ks.length cap] 24)))
    have hLZ : leastZ 16 = 1 := rfl
    rw [hLZ] at HL
    have f0 : ((ks.length : Int) < 1) = False := eq_false (by omega)
    have f1 : ((0 : Int) < (ks.length : Int)) = True := eq_true (by omega)
    have f2 : ((1 : Int) < (ks.length : Int)) = True := eq_true (by omega)
    clear hr hk K hLZ he0 hg0 hx0 he1 hg1 hx1 hl1 D1 hc1
    go_enter Try.func10, Try.ntmps10
    go_wp2_with fail
    refine HL.out.mono ?_
    clear HL
    rintro e V ⟨rfl, rfl⟩
    obtain ⟨kc0, kc1, kc2, kc3⟩ := HQ.out.kid0 hi0 HE0.out
    have HC := hidW (C0.out _ HQ.out)
    go_wp2_with fail
    refine HC.out.mono ?_
    clear HC kc0 kc1 kc2 kc3 q0 q1 q3
    rintro e V0 ⟨rfl, hb⟩
    replace HQ := hidW (HQ.out.below hb)
    clear hb
    obtain ⟨q0, q1, q3⟩ := HQ.out.text
    obtain ⟨kc0, kc1, kc2, kc3⟩ := HQ.out.kid1 hi1 HE1.out
    have HC := hidW (C1.out _ HQ.out)
    go_wp2_with fail
    refine HC.out.mono ?_
    clear HC kc0 kc1 kc2 kc3 q0 q1 q3
    rintro e V1 ⟨rfl, hb⟩
    replace HQ := hidW (HQ.out.below hb)
    clear hb
    obtain ⟨q0, q1, q3⟩ := HQ.out.text
    have HC := hidW (HD1.out V1)
    go_wp2_with fail
    refine HC.out.mono ?_
    clear HC HD1
    rintro e V ⟨rfl, rfl⟩
    go_wp2
    go_ret
    exact ⟨by first | exact congrArg (fun x => Ending.returned (Value.string (bs x))) HF.out | (rw [← HF.out]; rfl), HQ.out.bel⟩
  · have hm1 : ks.length = 1 := by omega
    have hi0 : 0 < ks.length := by omega
    obtain ⟨n0, he0⟩ : ∃ n, ks[0]'hi0 = n := ⟨_, rfl⟩
    have hg0 := txt_at hi0 he0
    have hx0 := K.len_kid hi0 he0
    obtain rfl := hr.at_ hi0
    have HQ := hidW (Rs.start (k := 16) (t := t) (a := a) (cap := cap) hr hk)
    obtain ⟨k0, t0, a0, v0, c0, b0, o0, s0⟩ := n0
    have C0 := hidW (fun (V : World) (h : Rs D W 16 t a (some ⟨blk, off, none⟩) cap blk off ks V) => h.call K hi0 he0)
    have HE0 := hidW he0
    have htl : t.length ≤ 2 ^ 40 := by have := K.ned; omega
    generalize txt (Nv.mk k0 t0 a0 v0 c0 b0 o0 s0).nd = x0 at *
    obtain ⟨c1, hc1⟩ : ∃ c, c = wth x0 [59] := ⟨_, rfl⟩
    have hl1 : c1.length ≤ 4 * 2 ^ 40 := by rw [hc1]; have := wth_len x0 [59]; simp only [List.length_cons, List.length_nil] at *; omega
    have D1 := fun (V : World) => with_is x0 [59] (by simp only [List.length_cons, List.length_nil]; omega) V
    rw [← hc1] at D1
    have HD1 := hidW D1
    have HF := hidW (show c1 = wcat (rowP 16 t (txtL (ndL ks))) from by rw [rowP_16, hg0, wcat_two, hc1] <;> (try simp only [wth_assoc]))
    unfold RAns
    rw [node_row (k := 16) (m := 1) rfl (by rw [kids_len]; exact hm) (by decide)]
    obtain ⟨q0, q1, q3⟩ := HQ.out.text
    have HL := hidW (rleast_is 16 (W.alloc (.cells #[.int .i64 16, .string (bs t), .int .i64 a, .slice (some ⟨blk, off, none⟩) ks.length cap] 24)))
    have hLZ : leastZ 16 = 1 := rfl
    rw [hLZ] at HL
    have f0 : ((ks.length : Int) < 1) = False := eq_false (by omega)
    have f1 : ((0 : Int) < (ks.length : Int)) = True := eq_true (by omega)
    have f2 : ((1 : Int) < (ks.length : Int)) = False := eq_false (by omega)
    clear hr hk K hLZ hm1 h1 he0 hg0 hx0 hl1 D1 hc1
    go_enter Try.func10, Try.ntmps10
    go_wp2_with fail
    refine HL.out.mono ?_
    clear HL
    rintro e V ⟨rfl, rfl⟩
    obtain ⟨kc0, kc1, kc2, kc3⟩ := HQ.out.kid0 hi0 HE0.out
    have HC := hidW (C0.out _ HQ.out)
    go_wp2_with fail
    refine HC.out.mono ?_
    clear HC kc0 kc1 kc2 kc3 q0 q1 q3
    rintro e V0 ⟨rfl, hb⟩
    replace HQ := hidW (HQ.out.below hb)
    clear hb
    obtain ⟨q0, q1, q3⟩ := HQ.out.text
    have HC := hidW (HD1.out V0)
    go_wp2_with fail
    refine HC.out.mono ?_
    clear HC HD1
    rintro e V ⟨rfl, rfl⟩
    go_wp2
    go_ret
    exact ⟨by first | exact congrArg (fun x => Ending.returned (Value.string (bs x))) HF.out | (rw [← HF.out]; rfl), HQ.out.bel⟩

set_option maxRecDepth 100000 in
set_option maxHeartbeats 16000000 in
theorem rt_17 {z : Nat} {t : List UInt8} {ks : List Nv} (K : Rk z t ks) {D : Nat → Prop} {W : World} {a : Int} {av : Option Addr} {cap blk off : Nat} (hr : RowD D W av blk off ks) (hk : ∀ n, n ∈ ks → LiesD D W n) (hm : 0 ≤ ks.length) : RAns 17 t a av cap ks W := by
  by_cases h1 : 1 < ks.length
  · have hi0 : 0 < ks.length := by omega
    obtain ⟨n0, he0⟩ : ∃ n, ks[0]'hi0 = n := ⟨_, rfl⟩
    have hg0 := txt_at hi0 he0
    have hx0 := K.len_kid hi0 he0
    have hi1 : 1 < ks.length := by omega
    obtain ⟨n1, he1⟩ : ∃ n, ks[1]'hi1 = n := ⟨_, rfl⟩
    have hg1 := txt_at hi1 he1
    have hx1 := K.len_kid hi1 he1
    obtain rfl := hr.at_ hi0
    have HQ := hidW (Rs.start (k := 17) (t := t) (a := a) (cap := cap) hr hk)
    obtain ⟨k0, t0, a0, v0, c0, b0, o0, s0⟩ := n0
    have C0 := hidW (fun (V : World) (h : Rs D W 17 t a (some ⟨blk, off, none⟩) cap blk off ks V) => h.call K hi0 he0)
    have HE0 := hidW he0
    obtain ⟨k1, t1, a1, v1, c1_, b1, o1, s1⟩ := n1
    have C1 := hidW (fun (V : World) (h : Rs D W 17 t a (some ⟨blk, off, none⟩) cap blk off ks V) => h.call K hi1 he1)
    have HE1 := hidW he1
    have htl : t.length ≤ 2 ^ 40 := by have := K.ned; omega
    generalize txt (Nv.mk k0 t0 a0 v0 c0 b0 o0 s0).nd = x0 at *
    generalize txt (Nv.mk k1 t1 a1 v1 c1_ b1 o1 s1).nd = x1 at *
    have HF := hidW (show t = wcat (rowP 17 t (txtL (ndL ks))) from by rw [rowP_17]; exact (wcat_one t).symm)
    unfold RAns
    rw [node_row (k := 17) (m := 0) rfl (by rw [kids_len]; exact hm) (by decide)]
    obtain ⟨q0, q1, q3⟩ := HQ.out.text
    have HL := hidW (rleast_is 17 (W.alloc (.cells #[.int .i64 17, .string (bs t), .int .i64 a, .slice (some ⟨blk, off, none⟩) ks.length cap] 24)))
    have hLZ : leastZ 17 = 0 := rfl
    rw [hLZ] at HL
    have f0 : ((ks.length : Int) < 0) = False := eq_false (by omega)
    have f1 : ((0 : Int) < (ks.length : Int)) = True := eq_true (by omega)
    have f2 : ((1 : Int) < (ks.length : Int)) = True := eq_true (by omega)
    clear hr hk K hLZ he0 hg0 hx0 he1 hg1 hx1
    go_enter Try.func10, Try.ntmps10
    go_wp2_with fail
    refine HL.out.mono ?_
    clear HL
    rintro e V ⟨rfl, rfl⟩
    obtain ⟨kc0, kc1, kc2, kc3⟩ := HQ.out.kid0 hi0 HE0.out
    have HC := hidW (C0.out _ HQ.out)
    go_wp2_with fail
    refine HC.out.mono ?_
    clear HC kc0 kc1 kc2 kc3 q0 q1 q3
    rintro e V0 ⟨rfl, hb⟩
    replace HQ := hidW (HQ.out.below hb)
    clear hb
    obtain ⟨q0, q1, q3⟩ := HQ.out.text
    obtain ⟨kc0, kc1, kc2, kc3⟩ := HQ.out.kid1 hi1 HE1.out
    have HC := hidW (C1.out _ HQ.out)
    go_wp2_with fail
    refine HC.out.mono ?_
    clear HC kc0 kc1 kc2 kc3 q0 q1 q3
    rintro e V1 ⟨rfl, hb⟩
    replace HQ := hidW (HQ.out.below hb)
    clear hb
    obtain ⟨q0, q1, q3⟩ := HQ.out.text
    go_wp2
    go_ret
    exact ⟨by first | exact congrArg (fun x => Ending.returned (Value.string (bs x))) HF.out | (rw [← HF.out]; rfl), HQ.out.bel⟩
  · by_cases h2 : 0 < ks.length
    · have hm1 : ks.length = 1 := by omega
      have hi0 : 0 < ks.length := by omega
      obtain ⟨n0, he0⟩ : ∃ n, ks[0]'hi0 = n := ⟨_, rfl⟩
      have hg0 := txt_at hi0 he0
      have hx0 := K.len_kid hi0 he0
      obtain rfl := hr.at_ hi0
      have HQ := hidW (Rs.start (k := 17) (t := t) (a := a) (cap := cap) hr hk)
      obtain ⟨k0, t0, a0, v0, c0, b0, o0, s0⟩ := n0
      have C0 := hidW (fun (V : World) (h : Rs D W 17 t a (some ⟨blk, off, none⟩) cap blk off ks V) => h.call K hi0 he0)
      have HE0 := hidW he0
      have htl : t.length ≤ 2 ^ 40 := by have := K.ned; omega
      generalize txt (Nv.mk k0 t0 a0 v0 c0 b0 o0 s0).nd = x0 at *
      have HF := hidW (show t = wcat (rowP 17 t (txtL (ndL ks))) from by rw [rowP_17]; exact (wcat_one t).symm)
      unfold RAns
      rw [node_row (k := 17) (m := 0) rfl (by rw [kids_len]; exact hm) (by decide)]
      obtain ⟨q0, q1, q3⟩ := HQ.out.text
      have HL := hidW (rleast_is 17 (W.alloc (.cells #[.int .i64 17, .string (bs t), .int .i64 a, .slice (some ⟨blk, off, none⟩) ks.length cap] 24)))
      have hLZ : leastZ 17 = 0 := rfl
      rw [hLZ] at HL
      have f0 : ((ks.length : Int) < 0) = False := eq_false (by omega)
      have f1 : ((0 : Int) < (ks.length : Int)) = True := eq_true (by omega)
      have f2 : ((1 : Int) < (ks.length : Int)) = False := eq_false (by omega)
      clear hr hk K hLZ hm1 h1 he0 hg0 hx0
      go_enter Try.func10, Try.ntmps10
      go_wp2_with fail
      refine HL.out.mono ?_
      clear HL
      rintro e V ⟨rfl, rfl⟩
      obtain ⟨kc0, kc1, kc2, kc3⟩ := HQ.out.kid0 hi0 HE0.out
      have HC := hidW (C0.out _ HQ.out)
      go_wp2_with fail
      refine HC.out.mono ?_
      clear HC kc0 kc1 kc2 kc3 q0 q1 q3
      rintro e V0 ⟨rfl, hb⟩
      replace HQ := hidW (HQ.out.below hb)
      clear hb
      obtain ⟨q0, q1, q3⟩ := HQ.out.text
      go_wp2
      go_ret
      exact ⟨by first | exact congrArg (fun x => Ending.returned (Value.string (bs x))) HF.out | (rw [← HF.out]; rfl), HQ.out.bel⟩
    · have hm0 : ks.length = 0 := by omega
      have HQ := hidW (Rs.start (k := 17) (t := t) (a := a) (cap := cap) hr hk)
      have htl : t.length ≤ 2 ^ 40 := by have := K.ned; omega
      have HF := hidW (show t = wcat (rowP 17 t (txtL (ndL ks))) from by rw [rowP_17]; exact (wcat_one t).symm)
      unfold RAns
      rw [node_row (k := 17) (m := 0) rfl (by rw [kids_len]; exact hm) (by decide)]
      obtain ⟨q0, q1, q3⟩ := HQ.out.text
      have HL := hidW (rleast_is 17 (W.alloc (.cells #[.int .i64 17, .string (bs t), .int .i64 a, .slice av ks.length cap] 24)))
      have hLZ : leastZ 17 = 0 := rfl
      rw [hLZ] at HL
      have f0 : ((ks.length : Int) < 0) = False := eq_false (by omega)
      have f1 : ((0 : Int) < (ks.length : Int)) = False := eq_false (by omega)
      have fN : (0 < ks.length) = False := eq_false (by omega)
      clear hr hk K hLZ hm0 h1 h2
      go_enter Try.func10, Try.ntmps10
      go_wp2_with fail
      refine HL.out.mono ?_
      clear HL
      rintro e V ⟨rfl, rfl⟩
      go_wp2
      go_ret
      exact ⟨by first | exact congrArg (fun x => Ending.returned (Value.string (bs x))) HF.out | (rw [← HF.out]; rfl), HQ.out.bel⟩

set_option maxRecDepth 100000 in
set_option maxHeartbeats 16000000 in
theorem rt_18 {z : Nat} {t : List UInt8} {ks : List Nv} (K : Rk z t ks) {D : Nat → Prop} {W : World} {a : Int} {av : Option Addr} {cap blk off : Nat} (hr : RowD D W av blk off ks) (hk : ∀ n, n ∈ ks → LiesD D W n) (hm : 0 ≤ ks.length) : RAns 18 t a av cap ks W := by
  by_cases h1 : 1 < ks.length
  · have hi0 : 0 < ks.length := by omega
    obtain ⟨n0, he0⟩ : ∃ n, ks[0]'hi0 = n := ⟨_, rfl⟩
    have hg0 := txt_at hi0 he0
    have hx0 := K.len_kid hi0 he0
    have hi1 : 1 < ks.length := by omega
    obtain ⟨n1, he1⟩ : ∃ n, ks[1]'hi1 = n := ⟨_, rfl⟩
    have hg1 := txt_at hi1 he1
    have hx1 := K.len_kid hi1 he1
    obtain rfl := hr.at_ hi0
    have HQ := hidW (Rs.start (k := 18) (t := t) (a := a) (cap := cap) hr hk)
    obtain ⟨k0, t0, a0, v0, c0, b0, o0, s0⟩ := n0
    have C0 := hidW (fun (V : World) (h : Rs D W 18 t a (some ⟨blk, off, none⟩) cap blk off ks V) => h.call K hi0 he0)
    have HE0 := hidW he0
    obtain ⟨k1, t1, a1, v1, c1_, b1, o1, s1⟩ := n1
    have C1 := hidW (fun (V : World) (h : Rs D W 18 t a (some ⟨blk, off, none⟩) cap blk off ks V) => h.call K hi1 he1)
    have HE1 := hidW he1
    have htl : t.length ≤ 2 ^ 40 := by have := K.ned; omega
    generalize txt (Nv.mk k0 t0 a0 v0 c0 b0 o0 s0).nd = x0 at *
    generalize txt (Nv.mk k1 t1 a1 v1 c1_ b1 o1 s1).nd = x1 at *
    have HF := hidW (show t = wcat (rowP 18 t (txtL (ndL ks))) from by rw [rowP_18]; exact (wcat_one t).symm)
    unfold RAns
    rw [node_row (k := 18) (m := 0) rfl (by rw [kids_len]; exact hm) (by decide)]
    obtain ⟨q0, q1, q3⟩ := HQ.out.text
    have HL := hidW (rleast_is 18 (W.alloc (.cells #[.int .i64 18, .string (bs t), .int .i64 a, .slice (some ⟨blk, off, none⟩) ks.length cap] 24)))
    have hLZ : leastZ 18 = 0 := rfl
    rw [hLZ] at HL
    have f0 : ((ks.length : Int) < 0) = False := eq_false (by omega)
    have f1 : ((0 : Int) < (ks.length : Int)) = True := eq_true (by omega)
    have f2 : ((1 : Int) < (ks.length : Int)) = True := eq_true (by omega)
    clear hr hk K hLZ he0 hg0 hx0 he1 hg1 hx1
    go_enter Try.func10, Try.ntmps10
    go_wp2_with fail
    refine HL.out.mono ?_
    clear HL
    rintro e V ⟨rfl, rfl⟩
    obtain ⟨kc0, kc1, kc2, kc3⟩ := HQ.out.kid0 hi0 HE0.out
    have HC := hidW (C0.out _ HQ.out)
    go_wp2_with fail
    refine HC.out.mono ?_
    clear HC kc0 kc1 kc2 kc3 q0 q1 q3
    rintro e V0 ⟨rfl, hb⟩
    replace HQ := hidW (HQ.out.below hb)
    clear hb
    obtain ⟨q0, q1, q3⟩ := HQ.out.text
    obtain ⟨kc0, kc1, kc2, kc3⟩ := HQ.out.kid1 hi1 HE1.out
    have HC := hidW (C1.out _ HQ.out)
    go_wp2_with fail
    refine HC.out.mono ?_
    clear HC kc0 kc1 kc2 kc3 q0 q1 q3
    rintro e V1 ⟨rfl, hb⟩
    replace HQ := hidW (HQ.out.below hb)
    clear hb
    obtain ⟨q0, q1, q3⟩ := HQ.out.text
    go_wp2
    go_ret
    exact ⟨by first | exact congrArg (fun x => Ending.returned (Value.string (bs x))) HF.out | (rw [← HF.out]; rfl), HQ.out.bel⟩
  · by_cases h2 : 0 < ks.length
    · have hm1 : ks.length = 1 := by omega
      have hi0 : 0 < ks.length := by omega
      obtain ⟨n0, he0⟩ : ∃ n, ks[0]'hi0 = n := ⟨_, rfl⟩
      have hg0 := txt_at hi0 he0
      have hx0 := K.len_kid hi0 he0
      obtain rfl := hr.at_ hi0
      have HQ := hidW (Rs.start (k := 18) (t := t) (a := a) (cap := cap) hr hk)
      obtain ⟨k0, t0, a0, v0, c0, b0, o0, s0⟩ := n0
      have C0 := hidW (fun (V : World) (h : Rs D W 18 t a (some ⟨blk, off, none⟩) cap blk off ks V) => h.call K hi0 he0)
      have HE0 := hidW he0
      have htl : t.length ≤ 2 ^ 40 := by have := K.ned; omega
      generalize txt (Nv.mk k0 t0 a0 v0 c0 b0 o0 s0).nd = x0 at *
      have HF := hidW (show t = wcat (rowP 18 t (txtL (ndL ks))) from by rw [rowP_18]; exact (wcat_one t).symm)
      unfold RAns
      rw [node_row (k := 18) (m := 0) rfl (by rw [kids_len]; exact hm) (by decide)]
      obtain ⟨q0, q1, q3⟩ := HQ.out.text
      have HL := hidW (rleast_is 18 (W.alloc (.cells #[.int .i64 18, .string (bs t), .int .i64 a, .slice (some ⟨blk, off, none⟩) ks.length cap] 24)))
      have hLZ : leastZ 18 = 0 := rfl
      rw [hLZ] at HL
      have f0 : ((ks.length : Int) < 0) = False := eq_false (by omega)
      have f1 : ((0 : Int) < (ks.length : Int)) = True := eq_true (by omega)
      have f2 : ((1 : Int) < (ks.length : Int)) = False := eq_false (by omega)
      clear hr hk K hLZ hm1 h1 he0 hg0 hx0
      go_enter Try.func10, Try.ntmps10
      go_wp2_with fail
      refine HL.out.mono ?_
      clear HL
      rintro e V ⟨rfl, rfl⟩
      obtain ⟨kc0, kc1, kc2, kc3⟩ := HQ.out.kid0 hi0 HE0.out
      have HC := hidW (C0.out _ HQ.out)
      go_wp2_with fail
      refine HC.out.mono ?_
      clear HC kc0 kc1 kc2 kc3 q0 q1 q3
      rintro e V0 ⟨rfl, hb⟩
      replace HQ := hidW (HQ.out.below hb)
      clear hb
      obtain ⟨q0, q1, q3⟩ := HQ.out.text
      go_wp2
      go_ret
      exact ⟨by first | exact congrArg (fun x => Ending.returned (Value.string (bs x))) HF.out | (rw [← HF.out]; rfl), HQ.out.bel⟩
    · have hm0 : ks.length = 0 := by omega
      have HQ := hidW (Rs.start (k := 18) (t := t) (a := a) (cap := cap) hr hk)
      have htl : t.length ≤ 2 ^ 40 := by have := K.ned; omega
      have HF := hidW (show t = wcat (rowP 18 t (txtL (ndL ks))) from by rw [rowP_18]; exact (wcat_one t).symm)
      unfold RAns
      rw [node_row (k := 18) (m := 0) rfl (by rw [kids_len]; exact hm) (by decide)]
      obtain ⟨q0, q1, q3⟩ := HQ.out.text
      have HL := hidW (rleast_is 18 (W.alloc (.cells #[.int .i64 18, .string (bs t), .int .i64 a, .slice av ks.length cap] 24)))
      have hLZ : leastZ 18 = 0 := rfl
      rw [hLZ] at HL
      have f0 : ((ks.length : Int) < 0) = False := eq_false (by omega)
      have f1 : ((0 : Int) < (ks.length : Int)) = False := eq_false (by omega)
      have fN : (0 < ks.length) = False := eq_false (by omega)
      clear hr hk K hLZ hm0 h1 h2
      go_enter Try.func10, Try.ntmps10
      go_wp2_with fail
      refine HL.out.mono ?_
      clear HL
      rintro e V ⟨rfl, rfl⟩
      go_wp2
      go_ret
      exact ⟨by first | exact congrArg (fun x => Ending.returned (Value.string (bs x))) HF.out | (rw [← HF.out]; rfl), HQ.out.bel⟩

end Go.Proofs.Ytgndnodahlabiaa
