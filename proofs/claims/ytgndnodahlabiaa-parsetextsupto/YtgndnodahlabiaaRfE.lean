/-
  What the document answers of trees (layer 10): its Text, kinds 3, 4, 5, 6, 7, 10.
-/
import Derived.Test.YtgndnodahlabiaaRfD
namespace Go.Proofs.Ytgndnodahlabiaa
open Go.ChangeShapes Go.WideShapes Go.ChangeAt Go.RowKit

set_option maxRecDepth 100000 in
set_option maxHeartbeats 16000000 in
theorem rt_3 {z : Nat} {t : List UInt8} {ks : List Nv} (K : Rk z t ks) {D : Nat → Prop} {W : World} {a : Int} {av : Option Addr} {cap blk off : Nat} (hr : RowD D W av blk off ks) (hk : ∀ n, n ∈ ks → LiesD D W n) (hm : 1 ≤ ks.length) : RAns 3 t a av cap ks W := by
  by_cases h1 : 1 < ks.length
  · clear hm
    have hm : 1 ≤ ks.length := by omega
    have hi0 : 0 < ks.length := by omega
    obtain ⟨n0, he0⟩ : ∃ n, ks[0]'hi0 = n := ⟨_, rfl⟩
    have hg0 := txt_at hi0 he0
    have hx0 := K.len_kid hi0 he0
    have hi1 : 1 < ks.length := by omega
    obtain ⟨n1, he1⟩ : ∃ n, ks[1]'hi1 = n := ⟨_, rfl⟩
    have hg1 := txt_at hi1 he1
    have hx1 := K.len_kid hi1 he1
    obtain rfl := hr.at_ hi0
    have HQ := hidW (Rs.start (k := 3) (t := t) (a := a) (cap := cap) hr hk)
    obtain ⟨k0, t0, a0, v0, c0, b0, o0, s0⟩ := n0
    have C0 := hidW (fun (V : World) (h : Rs D W 3 t a (some ⟨blk, off, none⟩) cap blk off ks V) => h.call K hi0 he0)
    have HE0 := hidW he0
    obtain ⟨k1, t1, a1, v1, c1_, b1, o1, s1⟩ := n1
    have C1 := hidW (fun (V : World) (h : Rs D W 3 t a (some ⟨blk, off, none⟩) cap blk off ks V) => h.call K hi1 he1)
    have HE1 := hidW he1
    have htl : t.length ≤ 2 ^ 40 := by have := K.ned; omega
    generalize txt (Nv.mk k0 t0 a0 v0 c0 b0 o0 s0).nd = x0 at *
    generalize txt (Nv.mk k1 t1 a1 v1 c1_ b1 o1 s1).nd = x1 at *
    obtain ⟨c1, hc1⟩ : ∃ c, c = wth t x0 := ⟨_, rfl⟩
    have hl1 : c1.length ≤ 4 * 2 ^ 40 := by rw [hc1]; have := wth_len t x0; omega
    have D1 := fun (V : World) => with_is t x0 (by omega) V
    rw [← hc1] at D1
    have HD1 := hidW D1
    have HF := hidW (show c1 = wcat (rowP 3 t (txtL (ndL ks))) from by rw [rowP_3, hg0, wcat_two, hc1] <;> (try simp only [wth_assoc]))
    unfold RAns
    rw [node_row (k := 3) (m := 1) rfl (by rw [kids_len]; exact hm) (by decide)]
    obtain ⟨q0, q1, q3⟩ := HQ.out.text
    have HL := hidW (rleast_is 3 (W.alloc (.cells #[.int .i64 3, .string (bs t), .int .i64 a, .slice (some ⟨blk, off, none⟩) ks.length cap] 24)))
    have hLZ : leastZ 3 = 1 := rfl
    rw [hLZ] at HL
    have f0 : ((ks.length : Int) < 1) = False := eq_false (by omega)
    have f1 : ((0 : Int) < (ks.length : Int)) = True := eq_true (by omega)
    have f2 : ((1 : Int) < (ks.length : Int)) = True := eq_true (by omega)
    clear hr hk K hLZ he0 hg0 hx0 he1 hg1 hx1 hl1 D1 hc1
    go_enter Try.func10, Try.ntmps10
    go_wp2_with fail
    refine HL.out.mono ?_
    clear HL
    rintro e V ⟨rfl, rfl⟩
    obtain ⟨kc0, kc1, kc2, kc3⟩ := HQ.out.kid0 hi0 HE0.out
    have HC := hidW (C0.out _ HQ.out)
    go_wp2_with fail
    refine HC.out.mono ?_
    clear HC kc0 kc1 kc2 kc3 q0 q1 q3
    rintro e V0 ⟨rfl, hb⟩
    replace HQ := hidW (HQ.out.below hb)
    clear hb
    obtain ⟨q0, q1, q3⟩ := HQ.out.text
    obtain ⟨kc0, kc1, kc2, kc3⟩ := HQ.out.kid1 hi1 HE1.out
    have HC := hidW (C1.out _ HQ.out)
    go_wp2_with fail
    refine HC.out.mono ?_
    clear HC kc0 kc1 kc2 kc3 q0 q1 q3
    rintro e V1 ⟨rfl, hb⟩
    replace HQ := hidW (HQ.out.below hb)
    clear hb
    obtain ⟨q0, q1, q3⟩ := HQ.out.text
    have HC := hidW (HD1.out V1)
    go_wp2_with fail
    refine HC.out.mono ?_
    clear HC HD1
    rintro e V ⟨rfl, rfl⟩
    go_wp2
    go_ret
    exact ⟨by first | exact congrArg (fun x => Ending.returned (Value.string (bs x))) HF.out | (rw [← HF.out]; rfl), HQ.out.bel⟩
  · have hm1 : ks.length = 1 := by omega
    have hi0 : 0 < ks.length := by omega
    obtain ⟨n0, he0⟩ : ∃ n, ks[0]'hi0 = n := ⟨_, rfl⟩
    have hg0 := txt_at hi0 he0
    have hx0 := K.len_kid hi0 he0
    obtain rfl := hr.at_ hi0
    have HQ := hidW (Rs.start (k := 3) (t := t) (a := a) (cap := cap) hr hk)
    obtain ⟨k0, t0, a0, v0, c0, b0, o0, s0⟩ := n0
    have C0 := hidW (fun (V : World) (h : Rs D W 3 t a (some ⟨blk, off, none⟩) cap blk off ks V) => h.call K hi0 he0)
    have HE0 := hidW he0
    have htl : t.length ≤ 2 ^ 40 := by have := K.ned; omega
    generalize txt (Nv.mk k0 t0 a0 v0 c0 b0 o0 s0).nd = x0 at *
    obtain ⟨c1, hc1⟩ : ∃ c, c = wth t x0 := ⟨_, rfl⟩
    have hl1 : c1.length ≤ 4 * 2 ^ 40 := by rw [hc1]; have := wth_len t x0; omega
    have D1 := fun (V : World) => with_is t x0 (by omega) V
    rw [← hc1] at D1
    have HD1 := hidW D1
    have HF := hidW (show c1 = wcat (rowP 3 t (txtL (ndL ks))) from by rw [rowP_3, hg0, wcat_two, hc1] <;> (try simp only [wth_assoc]))
    unfold RAns
    rw [node_row (k := 3) (m := 1) rfl (by rw [kids_len]; exact hm) (by decide)]
    obtain ⟨q0, q1, q3⟩ := HQ.out.text
    have HL := hidW (rleast_is 3 (W.alloc (.cells #[.int .i64 3, .string (bs t), .int .i64 a, .slice (some ⟨blk, off, none⟩) ks.length cap] 24)))
    have hLZ : leastZ 3 = 1 := rfl
    rw [hLZ] at HL
    have f0 : ((ks.length : Int) < 1) = False := eq_false (by omega)
    have f1 : ((0 : Int) < (ks.length : Int)) = True := eq_true (by omega)
    have f2 : ((1 : Int) < (ks.length : Int)) = False := eq_false (by omega)
    clear hr hk K hLZ hm1 h1 he0 hg0 hx0 hl1 D1 hc1
    go_enter Try.func10, Try.ntmps10
    go_wp2_with fail
    refine HL.out.mono ?_
    clear HL
    rintro e V ⟨rfl, rfl⟩
    obtain ⟨kc0, kc1, kc2, kc3⟩ := HQ.out.kid0 hi0 HE0.out
    have HC := hidW (C0.out _ HQ.out)
    go_wp2_with fail
    refine HC.out.mono ?_
    clear HC kc0 kc1 kc2 kc3 q0 q1 q3
    rintro e V0 ⟨rfl, hb⟩
    replace HQ := hidW (HQ.out.below hb)
    clear hb
    obtain ⟨q0, q1, q3⟩ := HQ.out.text
    have HC := hidW (HD1.out V0)
    go_wp2_with fail
    refine HC.out.mono ?_
    clear HC HD1
    rintro e V ⟨rfl, rfl⟩
    go_wp2
    go_ret
    exact ⟨by first | exact congrArg (fun x => Ending.returned (Value.string (bs x))) HF.out | (rw [← HF.out]; rfl), HQ.out.bel⟩

set_option maxRecDepth 100000 in
set_option maxHeartbeats 16000000 in
theorem rt_4 {z : Nat} {t : List UInt8} {ks : List Nv} (K : Rk z t ks) {D : Nat → Prop} {W : World} {a : Int} {av : Option Addr} {cap blk off : Nat} (hr : RowD D W av blk off ks) (hk : ∀ n, n ∈ ks → LiesD D W n) (hm : 0 ≤ ks.length) : RAns 4 t a av cap ks W := by
  by_cases h1 : 1 < ks.length
  · have hi0 : 0 < ks.length := by omega
    obtain ⟨n0, he0⟩ : ∃ n, ks[0]'hi0 = n := ⟨_, rfl⟩
    have hg0 := txt_at hi0 he0
    have hx0 := K.len_kid hi0 he0
    have hi1 : 1 < ks.length := by omega
    obtain ⟨n1, he1⟩ : ∃ n, ks[1]'hi1 = n := ⟨_, rfl⟩
    have hg1 := txt_at hi1 he1
    have hx1 := K.len_kid hi1 he1
    obtain rfl := hr.at_ hi0
    have HQ := hidW (Rs.start (k := 4) (t := t) (a := a) (cap := cap) hr hk)
    obtain ⟨k0, t0, a0, v0, c0, b0, o0, s0⟩ := n0
    have C0 := hidW (fun (V : World) (h : Rs D W 4 t a (some ⟨blk, off, none⟩) cap blk off ks V) => h.call K hi0 he0)
    have HE0 := hidW he0
    obtain ⟨k1, t1, a1, v1, c1_, b1, o1, s1⟩ := n1
    have C1 := hidW (fun (V : World) (h : Rs D W 4 t a (some ⟨blk, off, none⟩) cap blk off ks V) => h.call K hi1 he1)
    have HE1 := hidW he1
    have htl : t.length ≤ 2 ^ 40 := by have := K.ned; omega
    generalize txt (Nv.mk k0 t0 a0 v0 c0 b0 o0 s0).nd = x0 at *
    generalize txt (Nv.mk k1 t1 a1 v1 c1_ b1 o1 s1).nd = x1 at *
    have HF := hidW (show [] = wcat (rowP 4 t (txtL (ndL ks))) from by rw [rowP_4]; rfl)
    unfold RAns
    rw [node_row (k := 4) (m := 0) rfl (by rw [kids_len]; exact hm) (by decide)]
    obtain ⟨q0, q1, q3⟩ := HQ.out.text
    have HL := hidW (rleast_is 4 (W.alloc (.cells #[.int .i64 4, .string (bs t), .int .i64 a, .slice (some ⟨blk, off, none⟩) ks.length cap] 24)))
    have hLZ : leastZ 4 = 0 := rfl
    rw [hLZ] at HL
    have f0 : ((ks.length : Int) < 0) = False := eq_false (by omega)
    have f1 : ((0 : Int) < (ks.length : Int)) = True := eq_true (by omega)
    have f2 : ((1 : Int) < (ks.length : Int)) = True := eq_true (by omega)
    clear hr hk K hLZ he0 hg0 hx0 he1 hg1 hx1
    go_enter Try.func10, Try.ntmps10
    go_wp2_with fail
    refine HL.out.mono ?_
    clear HL
    rintro e V ⟨rfl, rfl⟩
    obtain ⟨kc0, kc1, kc2, kc3⟩ := HQ.out.kid0 hi0 HE0.out
    have HC := hidW (C0.out _ HQ.out)
    go_wp2_with fail
    refine HC.out.mono ?_
    clear HC kc0 kc1 kc2 kc3 q0 q1 q3
    rintro e V0 ⟨rfl, hb⟩
    replace HQ := hidW (HQ.out.below hb)
    clear hb
    obtain ⟨q0, q1, q3⟩ := HQ.out.text
    obtain ⟨kc0, kc1, kc2, kc3⟩ := HQ.out.kid1 hi1 HE1.out
    have HC := hidW (C1.out _ HQ.out)
    go_wp2_with fail
    refine HC.out.mono ?_
    clear HC kc0 kc1 kc2 kc3 q0 q1 q3
    rintro e V1 ⟨rfl, hb⟩
    replace HQ := hidW (HQ.out.below hb)
    clear hb
    obtain ⟨q0, q1, q3⟩ := HQ.out.text
    go_wp2
    go_ret
    exact ⟨by first | exact congrArg (fun x => Ending.returned (Value.string (bs x))) HF.out | (rw [← HF.out]; rfl), HQ.out.bel⟩
  · by_cases h2 : 0 < ks.length
    · have hm1 : ks.length = 1 := by omega
      have hi0 : 0 < ks.length := by omega
      obtain ⟨n0, he0⟩ : ∃ n, ks[0]'hi0 = n := ⟨_, rfl⟩
      have hg0 := txt_at hi0 he0
      have hx0 := K.len_kid hi0 he0
      obtain rfl := hr.at_ hi0
      have HQ := hidW (Rs.start (k := 4) (t := t) (a := a) (cap := cap) hr hk)
      obtain ⟨k0, t0, a0, v0, c0, b0, o0, s0⟩ := n0
      have C0 := hidW (fun (V : World) (h : Rs D W 4 t a (some ⟨blk, off, none⟩) cap blk off ks V) => h.call K hi0 he0)
      have HE0 := hidW he0
      have htl : t.length ≤ 2 ^ 40 := by have := K.ned; omega
      generalize txt (Nv.mk k0 t0 a0 v0 c0 b0 o0 s0).nd = x0 at *
      have HF := hidW (show [] = wcat (rowP 4 t (txtL (ndL ks))) from by rw [rowP_4]; rfl)
      unfold RAns
      rw [node_row (k := 4) (m := 0) rfl (by rw [kids_len]; exact hm) (by decide)]
      obtain ⟨q0, q1, q3⟩ := HQ.out.text
      have HL := hidW (rleast_is 4 (W.alloc (.cells #[.int .i64 4, .string (bs t), .int .i64 a, .slice (some ⟨blk, off, none⟩) ks.length cap] 24)))
      have hLZ : leastZ 4 = 0 := rfl
      rw [hLZ] at HL
      have f0 : ((ks.length : Int) < 0) = False := eq_false (by omega)
      have f1 : ((0 : Int) < (ks.length : Int)) = True := eq_true (by omega)
      have f2 : ((1 : Int) < (ks.length : Int)) = False := eq_false (by omega)
      clear hr hk K hLZ hm1 h1 he0 hg0 hx0
      go_enter Try.func10, Try.ntmps10
      go_wp2_with fail
      refine HL.out.mono ?_
      clear HL
      rintro e V ⟨rfl, rfl⟩
      obtain ⟨kc0, kc1, kc2, kc3⟩ := HQ.out.kid0 hi0 HE0.out
      have HC := hidW (C0.out _ HQ.out)
      go_wp2_with fail
      refine HC.out.mono ?_
      clear HC kc0 kc1 kc2 kc3 q0 q1 q3
      rintro e V0 ⟨rfl, hb⟩
      replace HQ := hidW (HQ.out.below hb)
      clear hb
      obtain ⟨q0, q1, q3⟩ := HQ.out.text
      go_wp2
      go_ret
      exact ⟨by first | exact congrArg (fun x => Ending.returned (Value.string (bs x))) HF.out | (rw [← HF.out]; rfl), HQ.out.bel⟩
    · have hm0 : ks.length = 0 := by omega
      have HQ := hidW (Rs.start (k := 4) (t := t) (a := a) (cap := cap) hr hk)
      have htl : t.length ≤ 2 ^ 40 := by have := K.ned; omega
      have HF := hidW (show [] = wcat (rowP 4 t (txtL (ndL ks))) from by rw [rowP_4]; rfl)
      unfold RAns
      rw [node_row (k := 4) (m := 0) rfl (by rw [kids_len]; exact hm) (by decide)]
      obtain ⟨q0, q1, q3⟩ := HQ.out.text
      have HL := hidW (rleast_is 4 (W.alloc (.cells #[.int .i64 4, .string (bs t), .int .i64 a, .slice av ks.length cap] 24)))
      have hLZ : leastZ 4 = 0 := rfl
      rw [hLZ] at HL
      have f0 : ((ks.length : Int) < 0) = False := eq_false (by omega)
      have f1 : ((0 : Int) < (ks.length : Int)) = False := eq_false (by omega)
      have fN : (0 < ks.length) = False := eq_false (by omega)
      clear hr hk K hLZ hm0 h1 h2
      go_enter Try.func10, Try.ntmps10
      go_wp2_with fail
      refine HL.out.mono ?_
      clear HL
      rintro e V ⟨rfl, rfl⟩
      go_wp2
      go_ret
      exact ⟨by first | exact congrArg (fun x => Ending.returned (Value.string (bs x))) HF.out | (rw [← HF.out]; rfl), HQ.out.bel⟩

set_option maxRecDepth 100000 in
set_option maxHeartbeats 16000000 in
theorem rt_5 {z : Nat} {t : List UInt8} {ks : List Nv} (K : Rk z t ks) {D : Nat → Prop} {W : World} {a : Int} {av : Option Addr} {cap blk off : Nat} (hr : RowD D W av blk off ks) (hk : ∀ n, n ∈ ks → LiesD D W n) (hm : 0 ≤ ks.length) : RAns 5 t a av cap ks W := by
  by_cases h1 : 1 < ks.length
  · have hi0 : 0 < ks.length := by omega
    obtain ⟨n0, he0⟩ : ∃ n, ks[0]'hi0 = n := ⟨_, rfl⟩
    have hg0 := txt_at hi0 he0
    have hx0 := K.len_kid hi0 he0
    have hi1 : 1 < ks.length := by omega
    obtain ⟨n1, he1⟩ : ∃ n, ks[1]'hi1 = n := ⟨_, rfl⟩
    have hg1 := txt_at hi1 he1
    have hx1 := K.len_kid hi1 he1
    obtain rfl := hr.at_ hi0
    have HQ := hidW (Rs.start (k := 5) (t := t) (a := a) (cap := cap) hr hk)
    obtain ⟨k0, t0, a0, v0, c0, b0, o0, s0⟩ := n0
    have C0 := hidW (fun (V : World) (h : Rs D W 5 t a (some ⟨blk, off, none⟩) cap blk off ks V) => h.call K hi0 he0)
    have HE0 := hidW he0
    obtain ⟨k1, t1, a1, v1, c1_, b1, o1, s1⟩ := n1
    have C1 := hidW (fun (V : World) (h : Rs D W 5 t a (some ⟨blk, off, none⟩) cap blk off ks V) => h.call K hi1 he1)
    have HE1 := hidW he1
    have htl : t.length ≤ 2 ^ 40 := by have := K.ned; omega
    generalize txt (Nv.mk k0 t0 a0 v0 c0 b0 o0 s0).nd = x0 at *
    generalize txt (Nv.mk k1 t1 a1 v1 c1_ b1 o1 s1).nd = x1 at *
    have HF := hidW (show [105, 110, 116] = wcat (rowP 5 t (txtL (ndL ks))) from by rw [rowP_5]; rfl)
    unfold RAns
    rw [node_row (k := 5) (m := 0) rfl (by rw [kids_len]; exact hm) (by decide)]
    obtain ⟨q0, q1, q3⟩ := HQ.out.text
    have HL := hidW (rleast_is 5 (W.alloc (.cells #[.int .i64 5, .string (bs t), .int .i64 a, .slice (some ⟨blk, off, none⟩) ks.length cap] 24)))
    have hLZ : leastZ 5 = 0 := rfl
    rw [hLZ] at HL
    have f0 : ((ks.length : Int) < 0) = False := eq_false (by omega)
    have f1 : ((0 : Int) < (ks.length : Int)) = True := eq_true (by omega)
    have f2 : ((1 : Int) < (ks.length : Int)) = True := eq_true (by omega)
    clear hr hk K hLZ he0 hg0 hx0 he1 hg1 hx1
    go_enter Try.func10, Try.ntmps10
    go_wp2_with fail
    refine HL.out.mono ?_
    clear HL
    rintro e V ⟨rfl, rfl⟩
    obtain ⟨kc0, kc1, kc2, kc3⟩ := HQ.out.kid0 hi0 HE0.out
    have HC := hidW (C0.out _ HQ.out)
    go_wp2_with fail
    refine HC.out.mono ?_
    clear HC kc0 kc1 kc2 kc3 q0 q1 q3
    rintro e V0 ⟨rfl, hb⟩
    replace HQ := hidW (HQ.out.below hb)
    clear hb
    obtain ⟨q0, q1, q3⟩ := HQ.out.text
    obtain ⟨kc0, kc1, kc2, kc3⟩ := HQ.out.kid1 hi1 HE1.out
    have HC := hidW (C1.out _ HQ.out)
    go_wp2_with fail
    refine HC.out.mono ?_
    clear HC kc0 kc1 kc2 kc3 q0 q1 q3
    rintro e V1 ⟨rfl, hb⟩
    replace HQ := hidW (HQ.out.below hb)
    clear hb
    obtain ⟨q0, q1, q3⟩ := HQ.out.text
    go_wp2
    go_ret
    exact ⟨by first | exact congrArg (fun x => Ending.returned (Value.string (bs x))) HF.out | (rw [← HF.out]; rfl), HQ.out.bel⟩
  · by_cases h2 : 0 < ks.length
    · have hm1 : ks.length = 1 := by omega
      have hi0 : 0 < ks.length := by omega
      obtain ⟨n0, he0⟩ : ∃ n, ks[0]'hi0 = n := ⟨_, rfl⟩
      have hg0 := txt_at hi0 he0
      have hx0 := K.len_kid hi0 he0
      obtain rfl := hr.at_ hi0
      have HQ := hidW (Rs.start (k := 5) (t := t) (a := a) (cap := cap) hr hk)
      obtain ⟨k0, t0, a0, v0, c0, b0, o0, s0⟩ := n0
      have C0 := hidW (fun (V : World) (h : Rs D W 5 t a (some ⟨blk, off, none⟩) cap blk off ks V) => h.call K hi0 he0)
      have HE0 := hidW he0
      have htl : t.length ≤ 2 ^ 40 := by have := K.ned; omega
      generalize txt (Nv.mk k0 t0 a0 v0 c0 b0 o0 s0).nd = x0 at *
      have HF := hidW (show [105, 110, 116] = wcat (rowP 5 t (txtL (ndL ks))) from by rw [rowP_5]; rfl)
      unfold RAns
      rw [node_row (k := 5) (m := 0) rfl (by rw [kids_len]; exact hm) (by decide)]
      obtain ⟨q0, q1, q3⟩ := HQ.out.text
      have HL := hidW (rleast_is 5 (W.alloc (.cells #[.int .i64 5, .string (bs t), .int .i64 a, .slice (some ⟨blk, off, none⟩) ks.length cap] 24)))
      have hLZ : leastZ 5 = 0 := rfl
      rw [hLZ] at HL
      have f0 : ((ks.length : Int) < 0) = False := eq_false (by omega)
      have f1 : ((0 : Int) < (ks.length : Int)) = True := eq_true (by omega)
      have f2 : ((1 : Int) < (ks.length : Int)) = False := eq_false (by omega)
      clear hr hk K hLZ hm1 h1 he0 hg0 hx0
      go_enter Try.func10, Try.ntmps10
      go_wp2_with fail
      refine HL.out.mono ?_
      clear HL
      rintro e V ⟨rfl, rfl⟩
      obtain ⟨kc0, kc1, kc2, kc3⟩ := HQ.out.kid0 hi0 HE0.out
      have HC := hidW (C0.out _ HQ.out)
      go_wp2_with fail
      refine HC.out.mono ?_
      clear HC kc0 kc1 kc2 kc3 q0 q1 q3
      rintro e V0 ⟨rfl, hb⟩
      replace HQ := hidW (HQ.out.below hb)
      clear hb
      obtain ⟨q0, q1, q3⟩ := HQ.out.text
      go_wp2
      go_ret
      exact ⟨by first | exact congrArg (fun x => Ending.returned (Value.string (bs x))) HF.out | (rw [← HF.out]; rfl), HQ.out.bel⟩
    · have hm0 : ks.length = 0 := by omega
      have HQ := hidW (Rs.start (k := 5) (t := t) (a := a) (cap := cap) hr hk)
      have htl : t.length ≤ 2 ^ 40 := by have := K.ned; omega
      have HF := hidW (show [105, 110, 116] = wcat (rowP 5 t (txtL (ndL ks))) from by rw [rowP_5]; rfl)
      unfold RAns
      rw [node_row (k := 5) (m := 0) rfl (by rw [kids_len]; exact hm) (by decide)]
      obtain ⟨q0, q1, q3⟩ := HQ.out.text
      have HL := hidW (rleast_is 5 (W.alloc (.cells #[.int .i64 5, .string (bs t), .int .i64 a, .slice av ks.length cap] 24)))
      have hLZ : leastZ 5 = 0 := rfl
      rw [hLZ] at HL
      have f0 : ((ks.length : Int) < 0) = False := eq_false (by omega)
      have f1 : ((0 : Int) < (ks.length : Int)) = False := eq_false (by omega)
      have fN : (0 < ks.length) = False := eq_false (by omega)
      clear hr hk K hLZ hm0 h1 h2
      go_enter Try.func10, Try.ntmps10
      go_wp2_with fail
      refine HL.out.mono ?_
      clear HL
      rintro e V ⟨rfl, rfl⟩
      go_wp2
      go_ret
      exact ⟨by first | exact congrArg (fun x => Ending.returned (Value.string (bs x))) HF.out | (rw [← HF.out]; rfl), HQ.out.bel⟩

set_option maxRecDepth 100000 in
set_option maxHeartbeats 16000000 in
theorem rt_6 {z : Nat} {t : List UInt8} {ks : List Nv} (K : Rk z t ks) {D : Nat → Prop} {W : World} {a : Int} {av : Option Addr} {cap blk off : Nat} (hr : RowD D W av blk off ks) (hk : ∀ n, n ∈ ks → LiesD D W n) (hm : 1 ≤ ks.length) : RAns 6 t a av cap ks W := by
  by_cases h1 : 1 < ks.length
  · clear hm
    have hm : 1 ≤ ks.length := by omega
    have hi0 : 0 < ks.length := by omega
    obtain ⟨n0, he0⟩ : ∃ n, ks[0]'hi0 = n := ⟨_, rfl⟩
    have hg0 := txt_at hi0 he0
    have hx0 := K.len_kid hi0 he0
    have hi1 : 1 < ks.length := by omega
    obtain ⟨n1, he1⟩ : ∃ n, ks[1]'hi1 = n := ⟨_, rfl⟩
    have hg1 := txt_at hi1 he1
    have hx1 := K.len_kid hi1 he1
    obtain rfl := hr.at_ hi0
    have HQ := hidW (Rs.start (k := 6) (t := t) (a := a) (cap := cap) hr hk)
    obtain ⟨k0, t0, a0, v0, c0, b0, o0, s0⟩ := n0
    have C0 := hidW (fun (V : World) (h : Rs D W 6 t a (some ⟨blk, off, none⟩) cap blk off ks V) => h.call K hi0 he0)
    have HE0 := hidW he0
    obtain ⟨k1, t1, a1, v1, c1_, b1, o1, s1⟩ := n1
    have C1 := hidW (fun (V : World) (h : Rs D W 6 t a (some ⟨blk, off, none⟩) cap blk off ks V) => h.call K hi1 he1)
    have HE1 := hidW he1
    have htl : t.length ≤ 2 ^ 40 := by have := K.ned; omega
    generalize txt (Nv.mk k0 t0 a0 v0 c0 b0 o0 s0).nd = x0 at *
    generalize txt (Nv.mk k1 t1 a1 v1 c1_ b1 o1 s1).nd = x1 at *
    obtain ⟨c1, hc1⟩ : ∃ c, c = wth [42] x0 := ⟨_, rfl⟩
    have hl1 : c1.length ≤ 4 * 2 ^ 40 := by rw [hc1]; have := wth_len [42] x0; simp only [List.length_cons, List.length_nil] at *; omega
    have D1 := fun (V : World) => with_is [42] x0 (by simp only [List.length_cons, List.length_nil]; omega) V
    rw [← hc1] at D1
    have HD1 := hidW D1
    have HF := hidW (show c1 = wcat (rowP 6 t (txtL (ndL ks))) from by rw [rowP_6, hg0, wcat_two, hc1] <;> (try simp only [wth_assoc]))
    unfold RAns
    rw [node_row (k := 6) (m := 1) rfl (by rw [kids_len]; exact hm) (by decide)]
    obtain ⟨q0, q1, q3⟩ := HQ.out.text
    have HL := hidW (rleast_is 6 (W.alloc (.cells #[.int .i64 6, .string (bs t), .int .i64 a, .slice (some ⟨blk, off, none⟩) ks.length cap] 24)))
    have hLZ : leastZ 6 = 1 := rfl
    rw [hLZ] at HL
    have f0 : ((ks.length : Int) < 1) = False := eq_false (by omega)
    have f1 : ((0 : Int) < (ks.length : Int)) = True := eq_true (by omega)
    have f2 : ((1 : Int) < (ks.length : Int)) = True := eq_true (by omega)
    clear hr hk K hLZ he0 hg0 hx0 he1 hg1 hx1 hl1 D1 hc1
    go_enter Try.func10, Try.ntmps10
    go_wp2_with fail
    refine HL.out.mono ?_
    clear HL
    rintro e V ⟨rfl, rfl⟩
    obtain ⟨kc0, kc1, kc2, kc3⟩ := HQ.out.kid0 hi0 HE0.out
    have HC := hidW (C0.out _ HQ.out)
    go_wp2_with fail
    refine HC.out.mono ?_
    clear HC kc0 kc1 kc2 kc3 q0 q1 q3
    rintro e V0 ⟨rfl, hb⟩
    replace HQ := hidW (HQ.out.below hb)
    clear hb
    obtain ⟨q0, q1, q3⟩ := HQ.out.text
    obtain ⟨kc0, kc1, kc2, kc3⟩ := HQ.out.kid1 hi1 HE1.out
    have HC := hidW (C1.out _ HQ.out)
    go_wp2_with fail
    refine HC.out.mono ?_
    clear HC kc0 kc1 kc2 kc3 q0 q1 q3
    rintro e V1 ⟨rfl, hb⟩
    replace HQ := hidW (HQ.out.below hb)
    clear hb
    obtain ⟨q0, q1, q3⟩ := HQ.out.text
    have HC := hidW (HD1.out V1)
    go_wp2_with fail
    refine HC.out.mono ?_
    clear HC HD1
    rintro e V ⟨rfl, rfl⟩
    go_wp2
    go_ret
    exact ⟨by first | exact congrArg (fun x => Ending.returned (Value.string (bs x))) HF.out | (rw [← HF.out]; rfl), HQ.out.bel⟩
  · have hm1 : ks.length = 1 := by omega
    have hi0 : 0 < ks.length := by omega
    obtain ⟨n0, he0⟩ : ∃ n, ks[0]'hi0 = n := ⟨_, rfl⟩
    have hg0 := txt_at hi0 he0
    have hx0 := K.len_kid hi0 he0
    obtain rfl := hr.at_ hi0
    have HQ := hidW (Rs.start (k := 6) (t := t) (a := a) (cap := cap) hr hk)
    obtain ⟨k0, t0, a0, v0, c0, b0, o0, s0⟩ := n0
    have C0 := hidW (fun (V : World) (h : Rs D W 6 t a (some ⟨blk, off, none⟩) cap blk off ks V) => h.call K hi0 he0)
    have HE0 := hidW he0
    have htl : t.length ≤ 2 ^ 40 := by have := K.ned; omega
    generalize txt (Nv.mk k0 t0 a0 v0 c0 b0 o0 s0).nd = x0 at *
    obtain ⟨c1, hc1⟩ : ∃ c, c = wth [42] x0 := ⟨_, rfl⟩
    have hl1 : c1.length ≤ 4 * 2 ^ 40 := by rw [hc1]; have := wth_len [42] x0; simp only [List.length_cons, List.length_nil] at *; omega
    have D1 := fun (V : World) => with_is [42] x0 (by simp only [List.length_cons, List.length_nil]; omega) V
    rw [← hc1] at D1
    have HD1 := hidW D1
    have HF := hidW (show c1 = wcat (rowP 6 t (txtL (ndL ks))) from by rw [rowP_6, hg0, wcat_two, hc1] <;> (try simp only [wth_assoc]))
    unfold RAns
    rw [node_row (k := 6) (m := 1) rfl (by rw [kids_len]; exact hm) (by decide)]
    obtain ⟨q0, q1, q3⟩ := HQ.out.text
    have HL := hidW (rleast_is 6 (W.alloc (.cells #[.int .i64 6, .string (bs t), .int .i64 a, .slice (some ⟨blk, off, none⟩) ks.length cap] 24)))
    have hLZ : leastZ 6 = 1 := rfl
    rw [hLZ] at HL
    have f0 : ((ks.length : Int) < 1) = False := eq_false (by omega)
    have f1 : ((0 : Int) < (ks.length : Int)) = True := eq_true (by omega)
    have f2 : ((1 : Int) < (ks.length : Int)) = False := eq_false (by omega)
    clear hr hk K hLZ hm1 h1 he0 hg0 hx0 hl1 D1 hc1
    go_enter Try.func10, Try.ntmps10
    go_wp2_with fail
    refine HL.out.mono ?_
    clear HL
    rintro e V ⟨rfl, rfl⟩
    obtain ⟨kc0, kc1, kc2, kc3⟩ := HQ.out.kid0 hi0 HE0.out
    have HC := hidW (C0.out _ HQ.out)
    go_wp2_with fail
    refine HC.out.mono ?_
    clear HC kc0 kc1 kc2 kc3 q0 q1 q3
    rintro e V0 ⟨rfl, hb⟩
    replace HQ := hidW (HQ.out.below hb)
    clear hb
    obtain ⟨q0, q1, q3⟩ := HQ.out.text
    have HC := hidW (HD1.out V0)
    go_wp2_with fail
    refine HC.out.mono ?_
    clear HC HD1
    rintro e V ⟨rfl, rfl⟩
    go_wp2
    go_ret
    exact ⟨by first | exact congrArg (fun x => Ending.returned (Value.string (bs x))) HF.out | (rw [← HF.out]; rfl), HQ.out.bel⟩

set_option maxRecDepth 100000 in
set_option maxHeartbeats 16000000 in
theorem rt_7 {z : Nat} {t : List UInt8} {ks : List Nv} (K : Rk z t ks) {D : Nat → Prop} {W : World} {a : Int} {av : Option Addr} {cap blk off : Nat} (hr : RowD D W av blk off ks) (hk : ∀ n, n ∈ ks → LiesD D W n) (hm : 1 ≤ ks.length) : RAns 7 t a av cap ks W := by
  by_cases h1 : 1 < ks.length
  · clear hm
    have hm : 1 ≤ ks.length := by omega
    have hi0 : 0 < ks.length := by omega
    obtain ⟨n0, he0⟩ : ∃ n, ks[0]'hi0 = n := ⟨_, rfl⟩
    have hg0 := txt_at hi0 he0
    have hx0 := K.len_kid hi0 he0
    have hi1 : 1 < ks.length := by omega
    obtain ⟨n1, he1⟩ : ∃ n, ks[1]'hi1 = n := ⟨_, rfl⟩
    have hg1 := txt_at hi1 he1
    have hx1 := K.len_kid hi1 he1
    obtain rfl := hr.at_ hi0
    have HQ := hidW (Rs.start (k := 7) (t := t) (a := a) (cap := cap) hr hk)
    obtain ⟨k0, t0, a0, v0, c0, b0, o0, s0⟩ := n0
    have C0 := hidW (fun (V : World) (h : Rs D W 7 t a (some ⟨blk, off, none⟩) cap blk off ks V) => h.call K hi0 he0)
    have HE0 := hidW he0
    obtain ⟨k1, t1, a1, v1, c1_, b1, o1, s1⟩ := n1
    have C1 := hidW (fun (V : World) (h : Rs D W 7 t a (some ⟨blk, off, none⟩) cap blk off ks V) => h.call K hi1 he1)
    have HE1 := hidW he1
    have htl : t.length ≤ 2 ^ 40 := by have := K.ned; omega
    generalize txt (Nv.mk k0 t0 a0 v0 c0 b0 o0 s0).nd = x0 at *
    generalize txt (Nv.mk k1 t1 a1 v1 c1_ b1 o1 s1).nd = x1 at *
    obtain ⟨c1, hc1⟩ : ∃ c, c = wth [91] t := ⟨_, rfl⟩
    have hl1 : c1.length ≤ 4 * 2 ^ 40 := by rw [hc1]; have := wth_len [91] t; simp only [List.length_cons, List.length_nil] at *; omega
    obtain ⟨c2, hc2⟩ : ∃ c, c = wth c1 [93] := ⟨_, rfl⟩
    have hl2 : c2.length ≤ 16 * 2 ^ 40 := by rw [hc2]; have := wth_len c1 [93]; simp only [List.length_cons, List.length_nil] at *; omega
    obtain ⟨c3, hc3⟩ : ∃ c, c = wth c2 x0 := ⟨_, rfl⟩
    have hl3 : c3.length ≤ 64 * 2 ^ 40 := by rw [hc3]; have := wth_len c2 x0; omega
    have D1 := fun (V : World) => with_is [91] t (by simp only [List.length_cons, List.length_nil]; omega) V
    rw [← hc1] at D1
    have HD1 := hidW D1
    have D2 := fun (V : World) => with_is c1 [93] (by simp only [List.length_cons, List.length_nil]; omega) V
    rw [← hc2] at D2
    have HD2 := hidW D2
    have D3 := fun (V : World) => with_is c2 x0 (by omega) V
    rw [← hc3] at D3
    have HD3 := hidW D3
    have HF := hidW (show c3 = wcat (rowP 7 t (txtL (ndL ks))) from by rw [rowP_7, hg0, wcat_four, hc3, hc2, hc1] <;> (try simp only [wth_assoc]))
    unfold RAns
    rw [node_row (k := 7) (m := 1) rfl (by rw [kids_len]; exact hm) (by decide)]
    obtain ⟨q0, q1, q3⟩ := HQ.out.text
    have HL := hidW (rleast_is 7 (W.alloc (.cells #[.int .i64 7, .string (bs t), .int .i64 a, .slice (some ⟨blk, off, none⟩) ks.length cap] 24)))
    have hLZ : leastZ 7 = 1 := rfl
    rw [hLZ] at HL
    have f0 : ((ks.length : Int) < 1) = False := eq_false (by omega)
    have f1 : ((0 : Int) < (ks.length : Int)) = True := eq_true (by omega)
    have f2 : ((1 : Int) < (ks.length : Int)) = True := eq_true (by omega)
    clear hr hk K hLZ he0 hg0 hx0 he1 hg1 hx1 hl1 D1 hl2 D2 hl3 D3 hc1 hc2 hc3
    go_enter Try.func10, Try.ntmps10
    go_wp2_with fail
    refine HL.out.mono ?_
    clear HL
    rintro e V ⟨rfl, rfl⟩
    obtain ⟨kc0, kc1, kc2, kc3⟩ := HQ.out.kid0 hi0 HE0.out
    have HC := hidW (C0.out _ HQ.out)
    go_wp2_with fail
    refine HC.out.mono ?_
    clear HC kc0 kc1 kc2 kc3 q0 q1 q3
    rintro e V0 ⟨rfl, hb⟩
    replace HQ := hidW (HQ.out.below hb)
    clear hb
    obtain ⟨q0, q1, q3⟩ := HQ.out.text
    obtain ⟨kc0, kc1, kc2, kc3⟩ := HQ.out.kid1 hi1 HE1.out
    have HC := hidW (C1.out _ HQ.out)
    go_wp2_with fail
    refine HC.out.mono ?_
    clear HC kc0 kc1 kc2 kc3 q0 q1 q3
    rintro e V1 ⟨rfl, hb⟩
    replace HQ := hidW (HQ.out.below hb)
    clear hb
    obtain ⟨q0, q1, q3⟩ := HQ.out.text
    have HC := hidW (HD1.out V1)
    go_wp2_with fail
    refine HC.out.mono ?_
    clear HC HD1
    rintro e V ⟨rfl, rfl⟩
    have HC := hidW (HD2.out V)
    go_wp2_with fail
    refine HC.out.mono ?_
    clear HC HD2
    rintro e V ⟨rfl, rfl⟩
    have HC := hidW (HD3.out V)
    go_wp2_with fail
    refine HC.out.mono ?_
    clear HC HD3
    rintro e V ⟨rfl, rfl⟩
    go_wp2
    go_ret
    exact ⟨by first | exact congrArg (fun x => Ending.returned (Value.string (bs x))) HF.out | (rw [← HF.out]; rfl), HQ.out.bel⟩
  · have hm1 : ks.length = 1 := by omega
    have hi0 : 0 < ks.length := by omega
    obtain ⟨n0, he0⟩ : ∃ n, ks[0]'hi0 = n := ⟨_, rfl⟩
    have hg0 := txt_at hi0 he0
    have hx0 := K.len_kid hi0 he0
    obtain rfl := hr.at_ hi0
    have HQ := hidW (Rs.start (k := 7) (t := t) (a := a) (cap := cap) hr hk)
    obtain ⟨k0, t0, a0, v0, c0, b0, o0, s0⟩ := n0
    have C0 := hidW (fun (V : World) (h : Rs D W 7 t a (some ⟨blk, off, none⟩) cap blk off ks V) => h.call K hi0 he0)
    have HE0 := hidW he0
    have htl : t.length ≤ 2 ^ 40 := by have := K.ned; omega
    generalize txt (Nv.mk k0 t0 a0 v0 c0 b0 o0 s0).nd = x0 at *
    obtain ⟨c1, hc1⟩ : ∃ c, c = wth [91] t := ⟨_, rfl⟩
    have hl1 : c1.length ≤ 4 * 2 ^ 40 := by rw [hc1]; have := wth_len [91] t; simp only [List.length_cons, List.length_nil] at *; omega
    obtain ⟨c2, hc2⟩ : ∃ c, c = wth c1 [93] := ⟨_, rfl⟩
    have hl2 : c2.length ≤ 16 * 2 ^ 40 := by rw [hc2]; have := wth_len c1 [93]; simp only [List.length_cons, List.length_nil] at *; omega
    obtain ⟨c3, hc3⟩ : ∃ c, c = wth c2 x0 := ⟨_, rfl⟩
    have hl3 : c3.length ≤ 64 * 2 ^ 40 := by rw [hc3]; have := wth_len c2 x0; omega
    have D1 := fun (V : World) => with_is [91] t (by simp only [List.length_cons, List.length_nil]; omega) V
    rw [← hc1] at D1
    have HD1 := hidW D1
    have D2 := fun (V : World) => with_is c1 [93] (by simp only [List.length_cons, List.length_nil]; omega) V
    rw [← hc2] at D2
    have HD2 := hidW D2
    have D3 := fun (V : World) => with_is c2 x0 (by omega) V
    rw [← hc3] at D3
    have HD3 := hidW D3
    have HF := hidW (show c3 = wcat (rowP 7 t (txtL (ndL ks))) from by rw [rowP_7, hg0, wcat_four, hc3, hc2, hc1] <;> (try simp only [wth_assoc]))
    unfold RAns
    rw [node_row (k := 7) (m := 1) rfl (by rw [kids_len]; exact hm) (by decide)]
    obtain ⟨q0, q1, q3⟩ := HQ.out.text
    have HL := hidW (rleast_is 7 (W.alloc (.cells #[.int .i64 7, .string (bs t), .int .i64 a, .slice (some ⟨blk, off, none⟩) ks.length cap] 24)))
    have hLZ : leastZ 7 = 1 := rfl
    rw [hLZ] at HL
    have f0 : ((ks.length : Int) < 1) = False := eq_false (by omega)
    have f1 : ((0 : Int) < (ks.length : Int)) = True := eq_true (by omega)
    have f2 : ((1 : Int) < (ks.length : Int)) = False := eq_false (by omega)
    clear hr hk K hLZ hm1 h1 he0 hg0 hx0 hl1 D1 hl2 D2 hl3 D3 hc1 hc2 hc3
    go_enter Try.func10, Try.ntmps10
    go_wp2_with fail
    refine HL.out.mono ?_
    clear HL
    rintro e V ⟨rfl, rfl⟩
    obtain ⟨kc0, kc1, kc2, kc3⟩ := HQ.out.kid0 hi0 HE0.out
    have HC := hidW (C0.out _ HQ.out)
    go_wp2_with fail
    refine HC.out.mono ?_
    clear HC kc0 kc1 kc2 kc3 q0 q1 q3
    rintro e V0 ⟨rfl, hb⟩
    replace HQ := hidW (HQ.out.below hb)
    clear hb
    obtain ⟨q0, q1, q3⟩ := HQ.out.text
    have HC := hidW (HD1.out V0)
    go_wp2_with fail
    refine HC.out.mono ?_
    clear HC HD1
    rintro e V ⟨rfl, rfl⟩
    have HC := hidW (HD2.out V)
    go_wp2_with fail
    refine HC.out.mono ?_
    clear HC HD2
    rintro e V ⟨rfl, rfl⟩
    have HC := hidW (HD3.out V)
    go_wp2_with fail
    refine HC.out.mono ?_
    clear HC HD3
    rintro e V ⟨rfl, rfl⟩
    go_wp2
    go_ret
    exact ⟨by first | exact congrArg (fun x => Ending.returned (Value.string (bs x))) HF.out | (rw [← HF.out]; rfl), HQ.out.bel⟩

set_option maxRecDepth 100000 in
set_option maxHeartbeats 16000000 in
theorem rt_10 {z : Nat} {t : List UInt8} {ks : List Nv} (K : Rk z t ks) {D : Nat → Prop} {W : World} {a : Int} {av : Option Addr} {cap blk off : Nat} (hr : RowD D W av blk off ks) (hk : ∀ n, n ∈ ks → LiesD D W n) (hm : 1 ≤ ks.length) : RAns 10 t a av cap ks W := by
  by_cases h1 : 1 < ks.length
  · clear hm
    have hm : 1 ≤ ks.length := by omega
    have hi0 : 0 < ks.length := by omega
    obtain ⟨n0, he0⟩ : ∃ n, ks[0]'hi0 = n := ⟨_, rfl⟩
    have hg0 := txt_at hi0 he0
    have hx0 := K.len_kid hi0 he0
    have hi1 : 1 < ks.length := by omega
    obtain ⟨n1, he1⟩ : ∃ n, ks[1]'hi1 = n := ⟨_, rfl⟩
    have hg1 := txt_at hi1 he1
    have hx1 := K.len_kid hi1 he1
    obtain rfl := hr.at_ hi0
    have HQ := hidW (Rs.start (k := 10) (t := t) (a := a) (cap := cap) hr hk)
    obtain ⟨k0, t0, a0, v0, c0, b0, o0, s0⟩ := n0
    have C0 := hidW (fun (V : World) (h : Rs D W 10 t a (some ⟨blk, off, none⟩) cap blk off ks V) => h.call K hi0 he0)
    have HE0 := hidW he0
    obtain ⟨k1, t1, a1, v1, c1_, b1, o1, s1⟩ := n1
    have C1 := hidW (fun (V : World) (h : Rs D W 10 t a (some ⟨blk, off, none⟩) cap blk off ks V) => h.call K hi1 he1)
    have HE1 := hidW he1
    have htl : t.length ≤ 2 ^ 40 := by have := K.ned; omega
    generalize txt (Nv.mk k0 t0 a0 v0 c0 b0 o0 s0).nd = x0 at *
    generalize txt (Nv.mk k1 t1 a1 v1 c1_ b1 o1 s1).nd = x1 at *
    obtain ⟨c1, hc1⟩ : ∃ c, c = wth [118, 97, 114] t := ⟨_, rfl⟩
    have hl1 : c1.length ≤ 4 * 2 ^ 40 := by rw [hc1]; have := wth_len [118, 97, 114] t; simp only [List.length_cons, List.length_nil] at *; omega
    obtain ⟨c2, hc2⟩ : ∃ c, c = wth c1 x0 := ⟨_, rfl⟩
    have hl2 : c2.length ≤ 16 * 2 ^ 40 := by rw [hc2]; have := wth_len c1 x0; omega
    obtain ⟨c3, hc3⟩ : ∃ c, c = wth c2 [59] := ⟨_, rfl⟩
    have hl3 : c3.length ≤ 64 * 2 ^ 40 := by rw [hc3]; have := wth_len c2 [59]; simp only [List.length_cons, List.length_nil] at *; omega
    have D1 := fun (V : World) => with_is [118, 97, 114] t (by simp only [List.length_cons, List.length_nil]; omega) V
    rw [← hc1] at D1
    have HD1 := hidW D1
    have D2 := fun (V : World) => with_is c1 x0 (by omega) V
    rw [← hc2] at D2
    have HD2 := hidW D2
    have D3 := fun (V : World) => with_is c2 [59] (by simp only [List.length_cons, List.length_nil]; omega) V
    rw [← hc3] at D3
    have HD3 := hidW D3
    have HF := hidW (show c3 = wcat (rowP 10 t (txtL (ndL ks))) from by rw [rowP_10, hg0, wcat_four, hc3, hc2, hc1] <;> (try simp only [wth_assoc]))
    unfold RAns
    rw [node_row (k := 10) (m := 1) rfl (by rw [kids_len]; exact hm) (by decide)]
    obtain ⟨q0, q1, q3⟩ := HQ.out.text
    have HL := hidW (rleast_is 10 (W.alloc (.cells #[.int .i64 10, .string (bs t), .int .i64 a, .slice (some ⟨blk, off, none⟩) ks.length cap] 24)))
    have hLZ : leastZ 10 = 1 := rfl
    rw [hLZ] at HL
    have f0 : ((ks.length : Int) < 1) = False := eq_false (by omega)
    have f1 : ((0 : Int) < (ks.length : Int)) = True := eq_true (by omega)
    have f2 : ((1 : Int) < (ks.length : Int)) = True := eq_true (by omega)
    clear hr hk K hLZ he0 hg0 hx0 he1 hg1 hx1 hl1 D1 hl2 D2 hl3 D3 hc1 hc2 hc3
    go_enter Try.func10, Try.ntmps10
    go_wp2_with fail
    refine HL.out.mono ?_
    clear HL
    rintro e V ⟨rfl, rfl⟩
    obtain ⟨kc0, kc1, kc2, kc3⟩ := HQ.out.kid0 hi0 HE0.out
    have HC := hidW (C0.out _ HQ.out)
    go_wp2_with fail
    refine HC.out.mono ?_
    clear HC kc0 kc1 kc2 kc3 q0 q1 q3
    rintro e V0 ⟨rfl, hb⟩
    replace HQ := hidW (HQ.out.below hb)
    clear hb
    obtain ⟨q0, q1, q3⟩ := HQ.out.text
    obtain ⟨kc0, kc1, kc2, kc3⟩ := HQ.out.kid1 hi1 HE1.out
    have HC := hidW (C1.out _ HQ.out)
    go_wp2_with fail
    refine HC.out.mono ?_
    clear HC kc0 kc1 kc2 kc3 q0 q1 q3
    rintro e V1 ⟨rfl, hb⟩
    replace HQ := hidW (HQ.out.below hb)
    clear hb
    obtain ⟨q0, q1, q3⟩ := HQ.out.text
    have HC := hidW (HD1.out V1)
    go_wp2_with fail
    refine HC.out.mono ?_
    clear HC HD1
    rintro e V ⟨rfl, rfl⟩
    have HC := hidW (HD2.out V)
    go_wp2_with fail
    refine HC.out.mono ?_
    clear HC HD2
    rintro e V ⟨rfl, rfl⟩
    have HC := hidW (HD3.out V)
    go_wp2_with fail
    refine HC.out.mono ?_
    clear HC HD3
    rintro e V ⟨rfl, rfl⟩
    go_wp2
    go_ret
    exact ⟨by first | exact congrArg (fun x => Ending.returned (Value.string (bs x))) HF.out | (rw [← HF.out]; rfl), HQ.out.bel⟩
  · have hm1 : ks.length = 1 := by omega
    have hi0 : 0 < ks.length := by omega
    obtain ⟨n0, he0⟩ : ∃ n, ks[0]'hi0 = n := ⟨_, rfl⟩
    have hg0 := txt_at hi0 he0
    have hx0 := K.len_kid hi0 he0
    obtain rfl := hr.at_ hi0
    have HQ := hidW (Rs.start (k := 10) (t := t) (a := a) (cap := cap) hr hk)
    obtain ⟨k0, t0, a0, v0, c0, b0, o0, s0⟩ := n0
    have C0 := hidW (fun (V : World) (h : Rs D W 10 t a (some ⟨blk, off, none⟩) cap blk off ks V) => h.call K hi0 he0)
    have HE0 := hidW he0
    have htl : t.length ≤ 2 ^ 40 := by have := K.ned; omega
    generalize txt (Nv.mk k0 t0 a0 v0 c0 b0 o0 s0).nd = x0 at *
    obtain ⟨c1, hc1⟩ : ∃ c, c = wth [118, 97, 114] t := ⟨_, rfl⟩
    have hl1 : c1.length ≤ 4 * 2 ^ 40 := by rw [hc1]; have := wth_len [118, 97, 114] t; simp only [List.length_cons, List.length_nil] at *; omega
    obtain ⟨c2, hc2⟩ : ∃ c, c = wth c1 x0 := ⟨_, rfl⟩
    have hl2 : c2.length ≤ 16 * 2 ^ 40 := by rw [hc2]; have := wth_len c1 x0; omega
    obtain ⟨c3, hc3⟩ : ∃ c, c = wth c2 [59] := ⟨_, rfl⟩
    have hl3 : c3.length ≤ 64 * 2 ^ 40 := by rw [hc3]; have := wth_len c2 [59]; simp only [List.length_cons, List.length_nil] at *; omega
    have D1 := fun (V : World) => with_is [118, 97, 114] t (by simp only [List.length_cons, List.length_nil]; omega) V
    rw [← hc1] at D1
    have HD1 := hidW D1
    have D2 := fun (V : World) => with_is c1 x0 (by omega) V
    rw [← hc2] at D2
    have HD2 := hidW D2
    have D3 := fun (V : World) => with_is c2 [59] (by simp only [List.length_cons, List.length_nil]; omega) V
    rw [← hc3] at D3
    have HD3 := hidW D3
    have HF := hidW (show c3 = wcat (rowP 10 t (txtL (ndL ks))) from by rw [rowP_10, hg0, wcat_four, hc3, hc2, hc1] <;> (try simp only [wth_assoc]))
    unfold RAns
    rw [node_row (k := 10) (m := 1) rfl (by rw [kids_len]; exact hm) (by decide)]
    obtain ⟨q0, q1, q3⟩ := HQ.out.text
    have HL := hidW (rleast_is 10 (W.alloc (.cells #[.int .i64 10, .string (bs t), .int .i64 a, .slice (some ⟨blk, off, none⟩) ks.length cap] 24)))
    have hLZ : leastZ 10 = 1 := rfl
    rw [hLZ] at HL
    have f0 : ((ks.length : Int) < 1) = False := eq_false (by omega)
    have f1 : ((0 : Int) < (ks.length : Int)) = True := eq_true (by omega)
    have f2 : ((1 : Int) < (ks.length : Int)) = False := eq_false (by omega)
    clear hr hk K hLZ hm1 h1 he0 hg0 hx0 hl1 D1 hl2 D2 hl3 D3 hc1 hc2 hc3
    go_enter Try.func10, Try.ntmps10
    go_wp2_with fail
    refine HL.out.mono ?_
    clear HL
    rintro e V ⟨rfl, rfl⟩
    obtain ⟨kc0, kc1, kc2, kc3⟩ := HQ.out.kid0 hi0 HE0.out
    have HC := hidW (C0.out _ HQ.out)
    go_wp2_with fail
    refine HC.out.mono ?_
    clear HC kc0 kc1 kc2 kc3 q0 q1 q3
    rintro e V0 ⟨rfl, hb⟩
    replace HQ := hidW (HQ.out.below hb)
    clear hb
    obtain ⟨q0, q1, q3⟩ := HQ.out.text
    have HC := hidW (HD1.out V0)
    go_wp2_with fail
    refine HC.out.mono ?_
    clear HC HD1
    rintro e V ⟨rfl, rfl⟩
    have HC := hidW (HD2.out V)
    go_wp2_with fail
    refine HC.out.mono ?_
    clear HC HD2
    rintro e V ⟨rfl, rfl⟩
    have HC := hidW (HD3.out V)
    go_wp2_with fail
    refine HC.out.mono ?_
    clear HC HD3
    rintro e V ⟨rfl, rfl⟩
    go_wp2
    go_ret
    exact ⟨by first | exact congrArg (fun x => Ending.returned (Value.string (bs x))) HF.out | (rw [← HF.out]; rfl), HQ.out.bel⟩

end Go.Proofs.Ytgndnodahlabiaa
