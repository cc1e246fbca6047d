/-
  What the document answers of trees (layer 10): its Text, kinds 20, 21, 22, 23, 26, 27.
-/
import Derived.Test.YtgndnodahlabiaaRfD
namespace Go.Proofs.Ytgndnodahlabiaa
open Go.ChangeShapes Go.WideShapes Go.ChangeAt Go.RowKit

set_option maxRecDepth 100000 in
set_option maxHeartbeats 16000000 in
theorem rt_20 {z : Nat} {t : List UInt8} {ks : List Nv} (K : Rk z t ks) {D : Nat → Prop} {W : World} {a : Int} {av : Option Addr} {cap blk off : Nat} (hr : RowD D W av blk off ks) (hk : ∀ n, n ∈ ks → LiesD D W n) (hm : 1 ≤ ks.length) : RAns 20 t a av cap ks W := by
  by_cases h1 : 1 < ks.length
  · clear hm
    have hm : 1 ≤ ks.length := by omega
    have hi0 : 0 < ks.length := by omega
    obtain ⟨n0, he0⟩ : ∃ n, ks[0]'hi0 = n := ⟨_, rfl⟩
    have hg0 := txt_at hi0 he0
    have hx0 := K.len_kid hi0 he0
    have hi1 : 1 < ks.length := by omega
    obtain ⟨n1, he1⟩ : ∃ n, ks[1]'hi1 = n := ⟨_, rfl⟩
    have hg1 := txt_at hi1 he1
    have hx1 := K.len_kid hi1 he1
    obtain rfl := hr.at_ hi0
    have HQ := hidW (Rs.start (k := 20) (t := t) (a := a) (cap := cap) hr hk)
    obtain ⟨k0, t0, a0, v0, c0, b0, o0, s0⟩ := n0
    have C0 := hidW (fun (V : World) (h : Rs D W 20 t a (some ⟨blk, off, none⟩) cap blk off ks V) => h.call K hi0 he0)
    have HE0 := hidW he0
    obtain ⟨k1, t1, a1, v1, c1_, b1, o1, s1⟩ := n1
    have C1 := hidW (fun (V : World) (h : Rs D W 20 t a (some ⟨blk, off, none⟩) cap blk off ks V) => h.call K hi1 he1)
    have HE1 := hidW he1
    have htl : t.length ≤ 2 ^ 40 := by have := K.ned; omega
    generalize txt (Nv.mk k0 t0 a0 v0 c0 b0 o0 s0).nd = x0 at *
    generalize txt (Nv.mk k1 t1 a1 v1 c1_ b1 o1 s1).nd = x1 at *
    obtain ⟨c1, hc1⟩ : ∃ c, c = wth [40] [45] := ⟨_, rfl⟩
    have hl1 : c1.length ≤ 4 * 2 ^ 40 := by rw [hc1]; have := wth_len [40] [45]; simp only [List.length_cons, List.length_nil] at *; omega
    obtain ⟨c2, hc2⟩ : ∃ c, c = wth x0 [41] := ⟨_, rfl⟩
    have hl2 : c2.length ≤ 16 * 2 ^ 40 := by rw [hc2]; have := wth_len x0 [41]; simp only [List.length_cons, List.length_nil] at *; omega
    obtain ⟨c3, hc3⟩ : ∃ c, c = wth c1 c2 := ⟨_, rfl⟩
    have hl3 : c3.length ≤ 64 * 2 ^ 40 := by rw [hc3]; have := wth_len c1 c2; omega
    have D1 := fun (V : World) => with_is [40] [45] (by simp only [List.length_cons, List.length_nil]; omega) V
    rw [← hc1] at D1
    have HD1 := hidW D1
    have D2 := fun (V : World) => with_is x0 [41] (by simp only [List.length_cons, List.length_nil]; omega) V
    rw [← hc2] at D2
    have HD2 := hidW D2
    have D3 := fun (V : World) => with_is c1 c2 (by omega) V
    rw [← hc3] at D3
    have HD3 := hidW D3
    have HF := hidW (show c3 = wcat (rowP 20 t (txtL (ndL ks))) from by rw [rowP_20, hg0, wcat_four, hc3, hc2, hc1] <;> (try simp only [wth_assoc]))
    unfold RAns
    rw [node_row (k := 20) (m := 1) rfl (by rw [kids_len]; exact hm) (by decide)]
    obtain ⟨q0, q1, q3⟩ := HQ.out.text
    have HL := hidW (rleast_is 20 (W.alloc (.cells #[.int .i64 20, .string (bs t), .int .i64 a, .slice (some ⟨blk, off, none⟩) ks.length cap] 24)))
    have hLZ : leastZ 20 = 1 := rfl
    rw [hLZ] at HL
    have f0 : ((ks.length : Int) < 1) = False := eq_false (by omega)
    have f1 : ((0 : Int) < (ks.length : Int)) = True := eq_true (by omega)
    have f2 : ((1 : Int) < (ks.length : Int)) = True := eq_true (by omega)
    clear hr hk K hLZ he0 hg0 hx0 he1 hg1 hx1 hl1 D1 hl2 D2 hl3 D3 hc1 hc2 hc3
    go_enter Try.func10, Try.ntmps10
    go_wp2_with fail
    refine HL.out.mono ?_
    clear HL
    rintro e V ⟨rfl, rfl⟩
    obtain ⟨kc0, kc1, kc2, kc3⟩ := HQ.out.kid0 hi0 HE0.out
    have HC := hidW (C0.out _ HQ.out)
    go_wp2_with fail
    refine HC.out.mono ?_
    clear HC kc0 kc1 kc2 kc3 q0 q1 q3
    rintro e V0 ⟨rfl, hb⟩
    replace HQ := hidW (HQ.out.below hb)
    clear hb
    obtain ⟨q0, q1, q3⟩ := HQ.out.text
    obtain ⟨kc0, kc1, kc2, kc3⟩ := HQ.out.kid1 hi1 HE1.out
    have HC := hidW (C1.out _ HQ.out)
    go_wp2_with fail
    refine HC.out.mono ?_
    clear HC kc0 kc1 kc2 kc3 q0 q1 q3
    rintro e V1 ⟨rfl, hb⟩
    replace HQ := hidW (HQ.out.below hb)
    clear hb
    obtain ⟨q0, q1, q3⟩ := HQ.out.text
    have HC := hidW (HD1.out V1)
    go_wp2_with fail
    refine HC.out.mono ?_
    clear HC HD1
    rintro e V ⟨rfl, rfl⟩
    have HC := hidW (HD2.out V)
    go_wp2_with fail
    refine HC.out.mono ?_
    clear HC HD2
    rintro e V ⟨rfl, rfl⟩
    have HC := hidW (HD3.out V)
    go_wp2_with fail
    refine HC.out.mono ?_
    clear HC HD3
    rintro e V ⟨rfl, rfl⟩
    go_wp2
    go_ret
    exact ⟨by first | exact congrArg (fun x => Ending.returned (Value.string (bs x))) HF.out | (rw [← HF.out]; rfl), HQ.out.bel⟩
  · have hm1 : ks.length = 1 := by omega
    have hi0 : 0 < ks.length := by omega
    obtain ⟨n0, he0⟩ : ∃ n, ks[0]'hi0 = n := ⟨_, rfl⟩
    have hg0 := txt_at hi0 he0
    have hx0 := K.len_kid hi0 he0
    obtain rfl := hr.at_ hi0
    have HQ := hidW (Rs.start (k := 20) (t := t) (a := a) (cap := cap) hr hk)
    obtain ⟨k0, t0, a0, v0, c0, b0, o0, s0⟩ := n0
    have C0 := hidW (fun (V : World) (h : Rs D W 20 t a (some ⟨blk, off, none⟩) cap blk off ks V) => h.call K hi0 he0)
    have HE0 := hidW he0
    have htl : t.length ≤ 2 ^ 40 := by have := K.ned; omega
    generalize txt (Nv.mk k0 t0 a0 v0 c0 b0 o0 s0).nd = x0 at *
    obtain ⟨c1, hc1⟩ : ∃ c, c = wth [40] [45] := ⟨_, rfl⟩
    have hl1 : c1.length ≤ 4 * 2 ^ 40 := by rw [hc1]; have := wth_len [40] [45]; simp only [List.length_cons, List.length_nil] at *; omega
    obtain ⟨c2, hc2⟩ : ∃ c, c = wth x0 [41] := ⟨_, rfl⟩
    have hl2 : c2.length ≤ 16 * 2 ^ 40 := by rw [hc2]; have := wth_len x0 [41]; simp only [List.length_cons, List.length_nil] at *; omega
    obtain ⟨c3, hc3⟩ : ∃ c, c = wth c1 c2 := ⟨_, rfl⟩
    have hl3 : c3.length ≤ 64 * 2 ^ 40 := by rw [hc3]; have := wth_len c1 c2; omega
    have D1 := fun (V : World) => with_is [40] [45] (by simp only [List.length_cons, List.length_nil]; omega) V
    rw [← hc1] at D1
    have HD1 := hidW D1
    have D2 := fun (V : World) => with_is x0 [41] (by simp only [List.length_cons, List.length_nil]; omega) V
    rw [← hc2] at D2
    have HD2 := hidW D2
    have D3 := fun (V : World) => with_is c1 c2 (by omega) V
    rw [← hc3] at D3
    have HD3 := hidW D3
    have HF := hidW (show c3 = wcat (rowP 20 t (txtL (ndL ks))) from by rw [rowP_20, hg0, wcat_four, hc3, hc2, hc1] <;> (try simp only [wth_assoc]))
    unfold RAns
    rw [node_row (k := 20) (m := 1) rfl (by rw [kids_len]; exact hm) (by decide)]
    obtain ⟨q0, q1, q3⟩ := HQ.out.text
    have HL := hidW (rleast_is 20 (W.alloc (.cells #[.int .i64 20, .string (bs t), .int .i64 a, .slice (some ⟨blk, off, none⟩) ks.length cap] 24)))
    have hLZ : leastZ 20 = 1 := rfl
    rw [hLZ] at HL
    have f0 : ((ks.length : Int) < 1) = False := eq_false (by omega)
    have f1 : ((0 : Int) < (ks.length : Int)) = True := eq_true (by omega)
    have f2 : ((1 : Int) < (ks.length : Int)) = False := eq_false (by omega)
    clear hr hk K hLZ hm1 h1 he0 hg0 hx0 hl1 D1 hl2 D2 hl3 D3 hc1 hc2 hc3
    go_enter Try.func10, Try.ntmps10
    go_wp2_with fail
    refine HL.out.mono ?_
    clear HL
    rintro e V ⟨rfl, rfl⟩
    obtain ⟨kc0, kc1, kc2, kc3⟩ := HQ.out.kid0 hi0 HE0.out
    have HC := hidW (C0.out _ HQ.out)
    go_wp2_with fail
    refine HC.out.mono ?_
    clear HC kc0 kc1 kc2 kc3 q0 q1 q3
    rintro e V0 ⟨rfl, hb⟩
    replace HQ := hidW (HQ.out.below hb)
    clear hb
    obtain ⟨q0, q1, q3⟩ := HQ.out.text
    have HC := hidW (HD1.out V0)
    go_wp2_with fail
    refine HC.out.mono ?_
    clear HC HD1
    rintro e V ⟨rfl, rfl⟩
    have HC := hidW (HD2.out V)
    go_wp2_with fail
    refine HC.out.mono ?_
    clear HC HD2
    rintro e V ⟨rfl, rfl⟩
    have HC := hidW (HD3.out V)
    go_wp2_with fail
    refine HC.out.mono ?_
    clear HC HD3
    rintro e V ⟨rfl, rfl⟩
    go_wp2
    go_ret
    exact ⟨by first | exact congrArg (fun x => Ending.returned (Value.string (bs x))) HF.out | (rw [← HF.out]; rfl), HQ.out.bel⟩

set_option maxRecDepth 100000 in
set_option maxHeartbeats 16000000 in
theorem rt_21 {z : Nat} {t : List UInt8} {ks : List Nv} (K : Rk z t ks) {D : Nat → Prop} {W : World} {a : Int} {av : Option Addr} {cap blk off : Nat} (hr : RowD D W av blk off ks) (hk : ∀ n, n ∈ ks → LiesD D W n) (hm : 1 ≤ ks.length) : RAns 21 t a av cap ks W := by
  by_cases h1 : 1 < ks.length
  · clear hm
    have hm : 1 ≤ ks.length := by omega
    have hi0 : 0 < ks.length := by omega
    obtain ⟨n0, he0⟩ : ∃ n, ks[0]'hi0 = n := ⟨_, rfl⟩
    have hg0 := txt_at hi0 he0
    have hx0 := K.len_kid hi0 he0
    have hi1 : 1 < ks.length := by omega
    obtain ⟨n1, he1⟩ : ∃ n, ks[1]'hi1 = n := ⟨_, rfl⟩
    have hg1 := txt_at hi1 he1
    have hx1 := K.len_kid hi1 he1
    obtain rfl := hr.at_ hi0
    have HQ := hidW (Rs.start (k := 21) (t := t) (a := a) (cap := cap) hr hk)
    obtain ⟨k0, t0, a0, v0, c0, b0, o0, s0⟩ := n0
    have C0 := hidW (fun (V : World) (h : Rs D W 21 t a (some ⟨blk, off, none⟩) cap blk off ks V) => h.call K hi0 he0)
    have HE0 := hidW he0
    obtain ⟨k1, t1, a1, v1, c1_, b1, o1, s1⟩ := n1
    have C1 := hidW (fun (V : World) (h : Rs D W 21 t a (some ⟨blk, off, none⟩) cap blk off ks V) => h.call K hi1 he1)
    have HE1 := hidW he1
    have htl : t.length ≤ 2 ^ 40 := by have := K.ned; omega
    generalize txt (Nv.mk k0 t0 a0 v0 c0 b0 o0 s0).nd = x0 at *
    generalize txt (Nv.mk k1 t1 a1 v1 c1_ b1 o1 s1).nd = x1 at *
    obtain ⟨c1, hc1⟩ : ∃ c, c = wth [40] [42] := ⟨_, rfl⟩
    have hl1 : c1.length ≤ 4 * 2 ^ 40 := by rw [hc1]; have := wth_len [40] [42]; simp only [List.length_cons, List.length_nil] at *; omega
    obtain ⟨c2, hc2⟩ : ∃ c, c = wth x0 [41] := ⟨_, rfl⟩
    have hl2 : c2.length ≤ 16 * 2 ^ 40 := by rw [hc2]; have := wth_len x0 [41]; simp only [List.length_cons, List.length_nil] at *; omega
    obtain ⟨c3, hc3⟩ : ∃ c, c = wth c1 c2 := ⟨_, rfl⟩
    have hl3 : c3.length ≤ 64 * 2 ^ 40 := by rw [hc3]; have := wth_len c1 c2; omega
    have D1 := fun (V : World) => with_is [40] [42] (by simp only [List.length_cons, List.length_nil]; omega) V
    rw [← hc1] at D1
    have HD1 := hidW D1
    have D2 := fun (V : World) => with_is x0 [41] (by simp only [List.length_cons, List.length_nil]; omega) V
    rw [← hc2] at D2
    have HD2 := hidW D2
    have D3 := fun (V : World) => with_is c1 c2 (by omega) V
    rw [← hc3] at D3
    have HD3 := hidW D3
    have HF := hidW (show c3 = wcat (rowP 21 t (txtL (ndL ks))) from by rw [rowP_21, hg0, wcat_four, hc3, hc2, hc1] <;> (try simp only [wth_assoc]))
    unfold RAns
    rw [node_row (k := 21) (m := 1) rfl (by rw [kids_len]; exact hm) (by decide)]
    obtain ⟨q0, q1, q3⟩ := HQ.out.text
    have HL := hidW (rleast_is 21 (W.alloc (.cells #[.int .i64 21, .string (bs t), .int .i64 a, .slice (some ⟨blk, off, none⟩) ks.length cap] 24)))
    have hLZ : leastZ 21 = 1 := rfl
    rw [hLZ] at HL
    have f0 : ((ks.length : Int) < 1) = False := eq_false (by omega)
    have f1 : ((0 : Int) < (ks.length : Int)) = True := eq_true (by omega)
    have f2 : ((1 : Int) < (ks.length : Int)) = True := eq_true (by omega)
    clear hr hk K hLZ he0 hg0 hx0 he1 hg1 hx1 hl1 D1 hl2 D2 hl3 D3 hc1 hc2 hc3
    go_enter Try.func10, Try.ntmps10
    go_wp2_with fail
    refine HL.out.mono ?_
    clear HL
    rintro e V ⟨rfl, rfl⟩
    obtain ⟨kc0, kc1, kc2, kc3⟩ := HQ.out.kid0 hi0 HE0.out
    have HC := hidW (C0.out _ HQ.out)
    go_wp2_with fail
    refine HC.out.mono ?_
    clear HC kc0 kc1 kc2 kc3 q0 q1 q3
    rintro e V0 ⟨rfl, hb⟩
    replace HQ := hidW (HQ.out.below hb)
    clear hb
    obtain ⟨q0, q1, q3⟩ := HQ.out.text
    obtain ⟨kc0, kc1, kc2, kc3⟩ := HQ.out.kid1 hi1 HE1.out
    have HC := hidW (C1.out _ HQ.out)
    go_wp2_with fail
    refine HC.out.mono ?_
    clear HC kc0 kc1 kc2 kc3 q0 q1 q3
    rintro e V1 ⟨rfl, hb⟩
    replace HQ := hidW (HQ.out.below hb)
    clear hb
    obtain ⟨q0, q1, q3⟩ := HQ.out.text
    have HC := hidW (HD1.out V1)
    go_wp2_with fail
    refine HC.out.mono ?_
    clear HC HD1
    rintro e V ⟨rfl, rfl⟩
    have HC := hidW (HD2.out V)
    go_wp2_with fail
    refine HC.out.mono ?_
    clear HC HD2
    rintro e V ⟨rfl, rfl⟩
    have HC := hidW (HD3.out V)
    go_wp2_with fail
    refine HC.out.mono ?_
    clear HC HD3
    rintro e V ⟨rfl, rfl⟩
    go_wp2
    go_ret
    exact ⟨by first | exact congrArg (fun x => Ending.returned (Value.string (bs x))) HF.out | (rw [← HF.out]; rfl), HQ.out.bel⟩
  · have hm1 : ks.length = 1 := by omega
    have hi0 : 0 < ks.length := by omega
    obtain ⟨n0, he0⟩ : ∃ n, ks[0]'hi0 = n := ⟨_, rfl⟩
    have hg0 := txt_at hi0 he0
    have hx0 := K.len_kid hi0 he0
    obtain rfl := hr.at_ hi0
    have HQ := hidW (Rs.start (k := 21) (t := t) (a := a) (cap := cap) hr hk)
    obtain ⟨k0, t0, a0, v0, c0, b0, o0, s0⟩ := n0
    have C0 := hidW (fun (V : World) (h : Rs D W 21 t a (some ⟨blk, off, none⟩) cap blk off ks V) => h.call K hi0 he0)
    have HE0 := hidW he0
    have htl : t.length ≤ 2 ^ 40 := by have := K.ned; omega
    generalize txt (Nv.mk k0 t0 a0 v0 c0 b0 o0 s0).nd = x0 at *
    obtain ⟨c1, hc1⟩ : ∃ c, c = wth [40] [42] := ⟨_, rfl⟩
    have hl1 : c1.length ≤ 4 * 2 ^ 40 := by rw [hc1]; have := wth_len [40] [42]; simp only [List.length_cons, List.length_nil] at *; omega
    obtain ⟨c2, hc2⟩ : ∃ c, c = wth x0 [41] := ⟨_, rfl⟩
    have hl2 : c2.length ≤ 16 * 2 ^ 40 := by rw [hc2]; have := wth_len x0 [41]; simp only [List.length_cons, List.length_nil] at *; omega
    obtain ⟨c3, hc3⟩ : ∃ c, c = wth c1 c2 := ⟨_, rfl⟩
    have hl3 : c3.length ≤ 64 * 2 ^ 40 := by rw [hc3]; have := wth_len c1 c2; omega
    have D1 := fun (V : World) => with_is [40] [42] (by simp only [List.length_cons, List.length_nil]; omega) V
    rw [← hc1] at D1
    have HD1 := hidW D1
    have D2 := fun (V : World) => with_is x0 [41] (by simp only [List.length_cons, List.length_nil]; omega) V
    rw [← hc2] at D2
    have HD2 := hidW D2
    have D3 := fun (V : World) => with_is c1 c2 (by omega) V
    rw [← hc3] at D3
    have HD3 := hidW D3
    have HF := hidW (show c3 = wcat (rowP 21 t (txtL (ndL ks))) from by rw [rowP_21, hg0, wcat_four, hc3, hc2, hc1] <;> (try simp only [wth_assoc]))
    unfold RAns
    rw [node_row (k := 21) (m := 1) rfl (by rw [kids_len]; exact hm) (by decide)]
    obtain ⟨q0, q1, q3⟩ := HQ.out.text
    have HL := hidW (rleast_is 21 (W.alloc (.cells #[.int .i64 21, .string (bs t), .int .i64 a, .slice (some ⟨blk, off, none⟩) ks.length cap] 24)))
    have hLZ : leastZ 21 = 1 := rfl
    rw [hLZ] at HL
    have f0 : ((ks.length : Int) < 1) = False := eq_false (by omega)
    have f1 : ((0 : Int) < (ks.length : Int)) = True := eq_true (by omega)
    have f2 : ((1 : Int) < (ks.length : Int)) = False := eq_false (by omega)
    clear hr hk K hLZ hm1 h1 he0 hg0 hx0 hl1 D1 hl2 D2 hl3 D3 hc1 hc2 hc3
    go_enter Try.func10, Try.ntmps10
    go_wp2_with fail
    refine HL.out.mono ?_
    clear HL
    rintro e V ⟨rfl, rfl⟩
    obtain ⟨kc0, kc1, kc2, kc3⟩ := HQ.out.kid0 hi0 HE0.out
    have HC := hidW (C0.out _ HQ.out)
    go_wp2_with fail
    refine HC.out.mono ?_
    clear HC kc0 kc1 kc2 kc3 q0 q1 q3
    rintro e V0 ⟨rfl, hb⟩
    replace HQ := hidW (HQ.out.below hb)
    clear hb
    obtain ⟨q0, q1, q3⟩ := HQ.out.text
    have HC := hidW (HD1.out V0)
    go_wp2_with fail
    refine HC.out.mono ?_
    clear HC HD1
    rintro e V ⟨rfl, rfl⟩
    have HC := hidW (HD2.out V)
    go_wp2_with fail
    refine HC.out.mono ?_
    clear HC HD2
    rintro e V ⟨rfl, rfl⟩
    have HC := hidW (HD3.out V)
    go_wp2_with fail
    refine HC.out.mono ?_
    clear HC HD3
    rintro e V ⟨rfl, rfl⟩
    go_wp2
    go_ret
    exact ⟨by first | exact congrArg (fun x => Ending.returned (Value.string (bs x))) HF.out | (rw [← HF.out]; rfl), HQ.out.bel⟩

set_option maxRecDepth 100000 in
set_option maxHeartbeats 16000000 in
theorem rt_22 {z : Nat} {t : List UInt8} {ks : List Nv} (K : Rk z t ks) {D : Nat → Prop} {W : World} {a : Int} {av : Option Addr} {cap blk off : Nat} (hr : RowD D W av blk off ks) (hk : ∀ n, n ∈ ks → LiesD D W n) (hm : 1 ≤ ks.length) : RAns 22 t a av cap ks W := by
  by_cases h1 : 1 < ks.length
  · clear hm
    have hm : 1 ≤ ks.length := by omega
    have hi0 : 0 < ks.length := by omega
    obtain ⟨n0, he0⟩ : ∃ n, ks[0]'hi0 = n := ⟨_, rfl⟩
    have hg0 := txt_at hi0 he0
    have hx0 := K.len_kid hi0 he0
    have hi1 : 1 < ks.length := by omega
    obtain ⟨n1, he1⟩ : ∃ n, ks[1]'hi1 = n := ⟨_, rfl⟩
    have hg1 := txt_at hi1 he1
    have hx1 := K.len_kid hi1 he1
    obtain rfl := hr.at_ hi0
    have HQ := hidW (Rs.start (k := 22) (t := t) (a := a) (cap := cap) hr hk)
    obtain ⟨k0, t0, a0, v0, c0, b0, o0, s0⟩ := n0
    have C0 := hidW (fun (V : World) (h : Rs D W 22 t a (some ⟨blk, off, none⟩) cap blk off ks V) => h.call K hi0 he0)
    have HE0 := hidW he0
    obtain ⟨k1, t1, a1, v1, c1_, b1, o1, s1⟩ := n1
    have C1 := hidW (fun (V : World) (h : Rs D W 22 t a (some ⟨blk, off, none⟩) cap blk off ks V) => h.call K hi1 he1)
    have HE1 := hidW he1
    have htl : t.length ≤ 2 ^ 40 := by have := K.ned; omega
    generalize txt (Nv.mk k0 t0 a0 v0 c0 b0 o0 s0).nd = x0 at *
    generalize txt (Nv.mk k1 t1 a1 v1 c1_ b1 o1 s1).nd = x1 at *
    obtain ⟨c1, hc1⟩ : ∃ c, c = wth [40] [38] := ⟨_, rfl⟩
    have hl1 : c1.length ≤ 4 * 2 ^ 40 := by rw [hc1]; have := wth_len [40] [38]; simp only [List.length_cons, List.length_nil] at *; omega
    obtain ⟨c2, hc2⟩ : ∃ c, c = wth x0 [41] := ⟨_, rfl⟩
    have hl2 : c2.length ≤ 16 * 2 ^ 40 := by rw [hc2]; have := wth_len x0 [41]; simp only [List.length_cons, List.length_nil] at *; omega
    obtain ⟨c3, hc3⟩ : ∃ c, c = wth c1 c2 := ⟨_, rfl⟩
    have hl3 : c3.length ≤ 64 * 2 ^ 40 := by rw [hc3]; have := wth_len c1 c2; omega
    have D1 := fun (V : World) => with_is [40] [38] (by simp only [List.length_cons, List.length_nil]; omega) V
    rw [← hc1] at D1
    have HD1 := hidW D1
    have D2 := fun (V : World) => with_is x0 [41] (by simp only [List.length_cons, List.length_nil]; omega) V
    rw [← hc2] at D2
    have HD2 := hidW D2
    have D3 := fun (V : World) => with_is c1 c2 (by omega) V
    rw [← hc3] at D3
    have HD3 := hidW D3
    have HF := hidW (show c3 = wcat (rowP 22 t (txtL (ndL ks))) from by rw [rowP_22, hg0, wcat_four, hc3, hc2, hc1] <;> (try simp only [wth_assoc]))
    unfold RAns
    rw [node_row (k := 22) (m := 1) rfl (by rw [kids_len]; exact hm) (by decide)]
    obtain ⟨q0, q1, q3⟩ := HQ.out.text
    have HL := hidW (rleast_is 22 (W.alloc (.cells #[.int .i64 22, .string (bs t), .int .i64 a, .slice (some ⟨blk, off, none⟩) ks.length cap] 24)))
    have hLZ : leastZ 22 = 1 := rfl
    rw [hLZ] at HL
    have f0 : ((ks.length : Int) < 1) = False := eq_false (by omega)
    have f1 : ((0 : Int) < (ks.length : Int)) = True := eq_true (by omega)
    have f2 : ((1 : Int) < (ks.length : Int)) = True := eq_true (by omega)
    clear hr hk K hLZ he0 hg0 hx0 he1 hg1 hx1 hl1 D1 hl2 D2 hl3 D3 hc1 hc2 hc3
    go_enter Try.func10, Try.ntmps10
    go_wp2_with fail
    refine HL.out.mono ?_
    clear HL
    rintro e V ⟨rfl, rfl⟩
    obtain ⟨kc0, kc1, kc2, kc3⟩ := HQ.out.kid0 hi0 HE0.out
    have HC := hidW (C0.out _ HQ.out)
    go_wp2_with fail
    refine HC.out.mono ?_
    clear HC kc0 kc1 kc2 kc3 q0 q1 q3
    rintro e V0 ⟨rfl, hb⟩
    replace HQ := hidW (HQ.out.below hb)
    clear hb
    obtain ⟨q0, q1, q3⟩ := HQ.out.text
    obtain ⟨kc0, kc1, kc2, kc3⟩ := HQ.out.kid1 hi1 HE1.out
    have HC := hidW (C1.out _ HQ.out)
    go_wp2_with fail
    refine HC.out.mono ?_
    clear HC kc0 kc1 kc2 kc3 q0 q1 q3
    rintro e V1 ⟨rfl, hb⟩
    replace HQ := hidW (HQ.out.below hb)
    clear hb
    obtain ⟨q0, q1, q3⟩ := HQ.out.text
    have HC := hidW (HD1.out V1)
    go_wp2_with fail
    refine HC.out.mono ?_
    clear HC HD1
    rintro e V ⟨rfl, rfl⟩
    have HC := hidW (HD2.out V)
    go_wp2_with fail
    refine HC.out.mono ?_
    clear HC HD2
    rintro e V ⟨rfl, rfl⟩
    have HC := hidW (HD3.out V)
    go_wp2_with fail
    refine HC.out.mono ?_
    clear HC HD3
    rintro e V ⟨rfl, rfl⟩
    go_wp2
    go_ret
    exact ⟨by first | exact congrArg (fun x => Ending.returned (Value.string (bs x))) HF.out | (rw [← HF.out]; rfl), HQ.out.bel⟩
  · have hm1 : ks.length = 1 := by omega
    have hi0 : 0 < ks.length := by omega
    obtain ⟨n0, he0⟩ : ∃ n, ks[0]'hi0 = n := ⟨_, rfl⟩
    have hg0 := txt_at hi0 he0
    have hx0 := K.len_kid hi0 he0
    obtain rfl := hr.at_ hi0
    have HQ := hidW (Rs.start (k := 22) (t := t) (a := a) (cap := cap) hr hk)
    obtain ⟨k0, t0, a0, v0, c0, b0, o0, s0⟩ := n0
    have C0 := hidW (fun (V : World) (h : Rs D W 22 t a (some ⟨blk, off, none⟩) cap blk off ks V) => h.call K hi0 he0)
    have HE0 := hidW he0
    have htl : t.length ≤ 2 ^ 40 := by have := K.ned; omega
    generalize txt (Nv.mk k0 t0 a0 v0 c0 b0 o0 s0).nd = x0 at *
    obtain ⟨c1, hc1⟩ : ∃ c, c = wth [40] [38] := ⟨_, rfl⟩
    have hl1 : c1.length ≤ 4 * 2 ^ 40 := by rw [hc1]; have := wth_len [40] [38]; simp only [List.length_cons, List.length_nil] at *; omega
    obtain ⟨c2, hc2⟩ : ∃ c, c = wth x0 [41] := ⟨_, rfl⟩
    have hl2 : c2.length ≤ 16 * 2 ^ 40 := by rw [hc2]; have := wth_len x0 [41]; simp only [List.length_cons, List.length_nil] at *; omega
    obtain ⟨c3, hc3⟩ : ∃ c, c = wth c1 c2 := ⟨_, rfl⟩
    have hl3 : c3.length ≤ 64 * 2 ^ 40 := by rw [hc3]; have := wth_len c1 c2; omega
    have D1 := fun (V : World) => with_is [40] [38] (by simp only [List.length_cons, List.length_nil]; omega) V
    rw [← hc1] at D1
    have HD1 := hidW D1
    have D2 := fun (V : World) => with_is x0 [41] (by simp only [List.length_cons, List.length_nil]; omega) V
    rw [← hc2] at D2
    have HD2 := hidW D2
    have D3 := fun (V : World) => with_is c1 c2 (by omega) V
    rw [← hc3] at D3
    have HD3 := hidW D3
    have HF := hidW (show c3 = wcat (rowP 22 t (txtL (ndL ks))) from by rw [rowP_22, hg0, wcat_four, hc3, hc2, hc1] <;> (try simp only [wth_assoc]))
    unfold RAns
    rw [node_row (k := 22) (m := 1) rfl (by rw [kids_len]; exact hm) (by decide)]
    obtain ⟨q0, q1, q3⟩ := HQ.out.text
    have HL := hidW (rleast_is 22 (W.alloc (.cells #[.int .i64 22, .string (bs t), .int .i64 a, .slice (some ⟨blk, off, none⟩) ks.length cap] 24)))
    have hLZ : leastZ 22 = 1 := rfl
    rw [hLZ] at HL
    have f0 : ((ks.length : Int) < 1) = False := eq_false (by omega)
    have f1 : ((0 : Int) < (ks.length : Int)) = True := eq_true (by omega)
    have f2 : ((1 : Int) < (ks.length : Int)) = False := eq_false (by omega)
    clear hr hk K hLZ hm1 h1 he0 hg0 hx0 hl1 D1 hl2 D2 hl3 D3 hc1 hc2 hc3
    go_enter Try.func10, Try.ntmps10
    go_wp2_with fail
    refine HL.out.mono ?_
    clear HL
    rintro e V ⟨rfl, rfl⟩
    obtain ⟨kc0, kc1, kc2, kc3⟩ := HQ.out.kid0 hi0 HE0.out
    have HC := hidW (C0.out _ HQ.out)
    go_wp2_with fail
    refine HC.out.mono ?_
    clear HC kc0 kc1 kc2 kc3 q0 q1 q3
    rintro e V0 ⟨rfl, hb⟩
    replace HQ := hidW (HQ.out.below hb)
    clear hb
    obtain ⟨q0, q1, q3⟩ := HQ.out.text
    have HC := hidW (HD1.out V0)
    go_wp2_with fail
    refine HC.out.mono ?_
    clear HC HD1
    rintro e V ⟨rfl, rfl⟩
    have HC := hidW (HD2.out V)
    go_wp2_with fail
    refine HC.out.mono ?_
    clear HC HD2
    rintro e V ⟨rfl, rfl⟩
    have HC := hidW (HD3.out V)
    go_wp2_with fail
    refine HC.out.mono ?_
    clear HC HD3
    rintro e V ⟨rfl, rfl⟩
    go_wp2
    go_ret
    exact ⟨by first | exact congrArg (fun x => Ending.returned (Value.string (bs x))) HF.out | (rw [← HF.out]; rfl), HQ.out.bel⟩

set_option maxRecDepth 100000 in
set_option maxHeartbeats 16000000 in
theorem rt_23 {z : Nat} {t : List UInt8} {ks : List Nv} (K : Rk z t ks) {D : Nat → Prop} {W : World} {a : Int} {av : Option Addr} {cap blk off : Nat} (hr : RowD D W av blk off ks) (hk : ∀ n, n ∈ ks → LiesD D W n) (hm : 2 ≤ ks.length) : RAns 23 t a av cap ks W := by
  have hi0 : 0 < ks.length := by omega
  obtain ⟨n0, he0⟩ : ∃ n, ks[0]'hi0 = n := ⟨_, rfl⟩
  have hg0 := txt_at hi0 he0
  have hx0 := K.len_kid hi0 he0
  have hi1 : 1 < ks.length := by omega
  obtain ⟨n1, he1⟩ : ∃ n, ks[1]'hi1 = n := ⟨_, rfl⟩
  have hg1 := txt_at hi1 he1
  have hx1 := K.len_kid hi1 he1
  obtain rfl := hr.at_ hi0
  have HQ := hidW (Rs.start (k := 23) (t := t) (a := a) (cap := cap) hr hk)
  obtain ⟨k0, t0, a0, v0, c0, b0, o0, s0⟩ := n0
  have C0 := hidW (fun (V : World) (h : Rs D W 23 t a (some ⟨blk, off, none⟩) cap blk off ks V) => h.call K hi0 he0)
  have HE0 := hidW he0
  obtain ⟨k1, t1, a1, v1, c1_, b1, o1, s1⟩ := n1
  have C1 := hidW (fun (V : World) (h : Rs D W 23 t a (some ⟨blk, off, none⟩) cap blk off ks V) => h.call K hi1 he1)
  have HE1 := hidW he1
  have htl : t.length ≤ 2 ^ 40 := by have := K.ned; omega
  generalize txt (Nv.mk k0 t0 a0 v0 c0 b0 o0 s0).nd = x0 at *
  generalize txt (Nv.mk k1 t1 a1 v1 c1_ b1 o1 s1).nd = x1 at *
  obtain ⟨c1, hc1⟩ : ∃ c, c = wth x0 [91] := ⟨_, rfl⟩
  have hl1 : c1.length ≤ 4 * 2 ^ 40 := by rw [hc1]; have := wth_len x0 [91]; simp only [List.length_cons, List.length_nil] at *; omega
  obtain ⟨c2, hc2⟩ : ∃ c, c = wth c1 x1 := ⟨_, rfl⟩
  have hl2 : c2.length ≤ 16 * 2 ^ 40 := by rw [hc2]; have := wth_len c1 x1; omega
  obtain ⟨c3, hc3⟩ : ∃ c, c = wth c2 [93] := ⟨_, rfl⟩
  have hl3 : c3.length ≤ 64 * 2 ^ 40 := by rw [hc3]; have := wth_len c2 [93]; simp only [List.length_cons, List.length_nil] at *; omega
  have D1 := fun (V : World) => with_is x0 [91] (by simp only [List.length_cons, List.length_nil]; omega) V
  rw [← hc1] at D1
  have HD1 := hidW D1
  have D2 := fun (V : World) => with_is c1 x1 (by omega) V
  rw [← hc2] at D2
  have HD2 := hidW D2
  have D3 := fun (V : World) => with_is c2 [93] (by simp only [List.length_cons, List.length_nil]; omega) V
  rw [← hc3] at D3
  have HD3 := hidW D3
  have HF := hidW (show c3 = wcat (rowP 23 t (txtL (ndL ks))) from by rw [rowP_23, hg0, hg1, wcat_four, hc3, hc2, hc1] <;> (try simp only [wth_assoc]))
  unfold RAns
  rw [node_row (k := 23) (m := 2) rfl (by rw [kids_len]; exact hm) (by decide)]
  obtain ⟨q0, q1, q3⟩ := HQ.out.text
  have HL := hidW (rleast_is 23 (W.alloc (.cells #[.int .i64 23, .string (bs t), .int .i64 a, .slice (some ⟨blk, off, none⟩) ks.length cap] 24)))
  have hLZ : leastZ 23 = 2 := rfl
  rw [hLZ] at HL
  have f0 : ((ks.length : Int) < 2) = False := eq_false (by omega)
  have f1 : ((0 : Int) < (ks.length : Int)) = True := eq_true (by omega)
  have f2 : ((1 : Int) < (ks.length : Int)) = True := eq_true (by omega)
  clear hr hk K hLZ he0 hg0 hx0 he1 hg1 hx1 hl1 D1 hl2 D2 hl3 D3 hc1 hc2 hc3
  go_enter Try.func10, Try.ntmps10
  go_wp2_with fail
  refine HL.out.mono ?_
  clear HL
  rintro e V ⟨rfl, rfl⟩
  obtain ⟨kc0, kc1, kc2, kc3⟩ := HQ.out.kid0 hi0 HE0.out
  have HC := hidW (C0.out _ HQ.out)
  go_wp2_with fail
  refine HC.out.mono ?_
  clear HC kc0 kc1 kc2 kc3 q0 q1 q3
  rintro e V0 ⟨rfl, hb⟩
  replace HQ := hidW (HQ.out.below hb)
  clear hb
  obtain ⟨q0, q1, q3⟩ := HQ.out.text
  obtain ⟨kc0, kc1, kc2, kc3⟩ := HQ.out.kid1 hi1 HE1.out
  have HC := hidW (C1.out _ HQ.out)
  go_wp2_with fail
  refine HC.out.mono ?_
  clear HC kc0 kc1 kc2 kc3 q0 q1 q3
  rintro e V1 ⟨rfl, hb⟩
  replace HQ := hidW (HQ.out.below hb)
  clear hb
  obtain ⟨q0, q1, q3⟩ := HQ.out.text
  have HC := hidW (HD1.out V1)
  go_wp2_with fail
  refine HC.out.mono ?_
  clear HC HD1
  rintro e V ⟨rfl, rfl⟩
  have HC := hidW (HD2.out V)
  go_wp2_with fail
  refine HC.out.mono ?_
  clear HC HD2
  rintro e V ⟨rfl, rfl⟩
  have HC := hidW (HD3.out V)
  go_wp2_with fail
  refine HC.out.mono ?_
  clear HC HD3
  rintro e V ⟨rfl, rfl⟩
  go_wp2
  go_ret
  exact ⟨by first | exact congrArg (fun x => Ending.returned (Value.string (bs x))) HF.out | (rw [← HF.out]; rfl), HQ.out.bel⟩

set_option maxRecDepth 100000 in
set_option maxHeartbeats 16000000 in
theorem rt_26 {z : Nat} {t : List UInt8} {ks : List Nv} (K : Rk z t ks) {D : Nat → Prop} {W : World} {a : Int} {av : Option Addr} {cap blk off : Nat} (hr : RowD D W av blk off ks) (hk : ∀ n, n ∈ ks → LiesD D W n) (hm : 1 ≤ ks.length) : RAns 26 t a av cap ks W := by
  by_cases h1 : 1 < ks.length
  · clear hm
    have hm : 1 ≤ ks.length := by omega
    have hi0 : 0 < ks.length := by omega
    obtain ⟨n0, he0⟩ : ∃ n, ks[0]'hi0 = n := ⟨_, rfl⟩
    have hg0 := txt_at hi0 he0
    have hx0 := K.len_kid hi0 he0
    have hi1 : 1 < ks.length := by omega
    obtain ⟨n1, he1⟩ : ∃ n, ks[1]'hi1 = n := ⟨_, rfl⟩
    have hg1 := txt_at hi1 he1
    have hx1 := K.len_kid hi1 he1
    obtain rfl := hr.at_ hi0
    have HQ := hidW (Rs.start (k := 26) (t := t) (a := a) (cap := cap) hr hk)
    obtain ⟨k0, t0, a0, v0, c0, b0, o0, s0⟩ := n0
    have C0 := hidW (fun (V : World) (h : Rs D W 26 t a (some ⟨blk, off, none⟩) cap blk off ks V) => h.call K hi0 he0)
    have HE0 := hidW he0
    obtain ⟨k1, t1, a1, v1, c1_, b1, o1, s1⟩ := n1
    have C1 := hidW (fun (V : World) (h : Rs D W 26 t a (some ⟨blk, off, none⟩) cap blk off ks V) => h.call K hi1 he1)
    have HE1 := hidW he1
    have htl : t.length ≤ 2 ^ 40 := by have := K.ned; omega
    generalize txt (Nv.mk k0 t0 a0 v0 c0 b0 o0 s0).nd = x0 at *
    generalize txt (Nv.mk k1 t1 a1 v1 c1_ b1 o1 s1).nd = x1 at *
    obtain ⟨c1, hc1⟩ : ∃ c, c = wth [110, 101, 119] [40] := ⟨_, rfl⟩
    have hl1 : c1.length ≤ 4 * 2 ^ 40 := by rw [hc1]; have := wth_len [110, 101, 119] [40]; simp only [List.length_cons, List.length_nil] at *; omega
    obtain ⟨c2, hc2⟩ : ∃ c, c = wth x0 [41] := ⟨_, rfl⟩
    have hl2 : c2.length ≤ 16 * 2 ^ 40 := by rw [hc2]; have := wth_len x0 [41]; simp only [List.length_cons, List.length_nil] at *; omega
    obtain ⟨c3, hc3⟩ : ∃ c, c = wth c1 c2 := ⟨_, rfl⟩
    have hl3 : c3.length ≤ 64 * 2 ^ 40 := by rw [hc3]; have := wth_len c1 c2; omega
    have D1 := fun (V : World) => with_is [110, 101, 119] [40] (by simp only [List.length_cons, List.length_nil]; omega) V
    rw [← hc1] at D1
    have HD1 := hidW D1
    have D2 := fun (V : World) => with_is x0 [41] (by simp only [List.length_cons, List.length_nil]; omega) V
    rw [← hc2] at D2
    have HD2 := hidW D2
    have D3 := fun (V : World) => with_is c1 c2 (by omega) V
    rw [← hc3] at D3
    have HD3 := hidW D3
    have HF := hidW (show c3 = wcat (rowP 26 t (txtL (ndL ks))) from by rw [rowP_26, hg0, wcat_four, hc3, hc2, hc1] <;> (try simp only [wth_assoc]))
    unfold RAns
    rw [node_row (k := 26) (m := 1) rfl (by rw [kids_len]; exact hm) (by decide)]
    obtain ⟨q0, q1, q3⟩ := HQ.out.text
    have HL := hidW (rleast_is 26 (W.alloc (.cells #[.int .i64 26, .string (bs t), .int .i64 a, .slice (some ⟨blk, off, none⟩) ks.length cap] 24)))
    have hLZ : leastZ 26 = 1 := rfl
    rw [hLZ] at HL
    have f0 : ((ks.length : Int) < 1) = False := eq_false (by omega)
    have f1 : ((0 : Int) < (ks.length : Int)) = True := eq_true (by omega)
    have f2 : ((1 : Int) < (ks.length : Int)) = True := eq_true (by omega)
    clear hr hk K hLZ he0 hg0 hx0 he1 hg1 hx1 hl1 D1 hl2 D2 hl3 D3 hc1 hc2 hc3
    go_enter Try.func10, Try.ntmps10
    go_wp2_with fail
    refine HL.out.mono ?_
    clear HL
    rintro e V ⟨rfl, rfl⟩
    obtain ⟨kc0, kc1, kc2, kc3⟩ := HQ.out.kid0 hi0 HE0.out
    have HC := hidW (C0.out _ HQ.out)
    go_wp2_with fail
    refine HC.out.mono ?_
    clear HC kc0 kc1 kc2 kc3 q0 q1 q3
    rintro e V0 ⟨rfl, hb⟩
    replace HQ := hidW (HQ.out.below hb)
    clear hb
    obtain ⟨q0, q1, q3⟩ := HQ.out.text
    obtain ⟨kc0, kc1, kc2, kc3⟩ := HQ.out.kid1 hi1 HE1.out
    have HC := hidW (C1.out _ HQ.out)
    go_wp2_with fail
    refine HC.out.mono ?_
    clear HC kc0 kc1 kc2 kc3 q0 q1 q3
    rintro e V1 ⟨rfl, hb⟩
    replace HQ := hidW (HQ.out.below hb)
    clear hb
    obtain ⟨q0, q1, q3⟩ := HQ.out.text
    have HC := hidW (HD1.out V1)
    go_wp2_with fail
    refine HC.out.mono ?_
    clear HC HD1
    rintro e V ⟨rfl, rfl⟩
    have HC := hidW (HD2.out V)
    go_wp2_with fail
    refine HC.out.mono ?_
    clear HC HD2
    rintro e V ⟨rfl, rfl⟩
    have HC := hidW (HD3.out V)
    go_wp2_with fail
    refine HC.out.mono ?_
    clear HC HD3
    rintro e V ⟨rfl, rfl⟩
    go_wp2
    go_ret
    exact ⟨by first | exact congrArg (fun x => Ending.returned (Value.string (bs x))) HF.out | (rw [← HF.out]; rfl), HQ.out.bel⟩
  · have hm1 : ks.length = 1 := by omega
    have hi0 : 0 < ks.length := by omega
    obtain ⟨n0, he0⟩ : ∃ n, ks[0]'hi0 = n := ⟨_, rfl⟩
    have hg0 := txt_at hi0 he0
    have hx0 := K.len_kid hi0 he0
    obtain rfl := hr.at_ hi0
    have HQ := hidW (Rs.start (k := 26) (t := t) (a := a) (cap := cap) hr hk)
    obtain ⟨k0, t0, a0, v0, c0, b0, o0, s0⟩ := n0
    have C0 := hidW (fun (V : World) (h : Rs D W 26 t a (some ⟨blk, off, none⟩) cap blk off ks V) => h.call K hi0 he0)
    have HE0 := hidW he0
    have htl : t.length ≤ 2 ^ 40 := by have := K.ned; omega
    generalize txt (Nv.mk k0 t0 a0 v0 c0 b0 o0 s0).nd = x0 at *
    obtain ⟨c1, hc1⟩ : ∃ c, c = wth [110, 101, 119] [40] := ⟨_, rfl⟩
    have hl1 : c1.length ≤ 4 * 2 ^ 40 := by rw [hc1]; have := wth_len [110, 101, 119] [40]; simp only [List.length_cons, List.length_nil] at *; omega
    obtain ⟨c2, hc2⟩ : ∃ c, c = wth x0 [41] := ⟨_, rfl⟩
    have hl2 : c2.length ≤ 16 * 2 ^ 40 := by rw [hc2]; have := wth_len x0 [41]; simp only [List.length_cons, List.length_nil] at *; omega
    obtain ⟨c3, hc3⟩ : ∃ c, c = wth c1 c2 := ⟨_, rfl⟩
    have hl3 : c3.length ≤ 64 * 2 ^ 40 := by rw [hc3]; have := wth_len c1 c2; omega
    have D1 := fun (V : World) => with_is [110, 101, 119] [40] (by simp only [List.length_cons, List.length_nil]; omega) V
    rw [← hc1] at D1
    have HD1 := hidW D1
    have D2 := fun (V : World) => with_is x0 [41] (by simp only [List.length_cons, List.length_nil]; omega) V
    rw [← hc2] at D2
    have HD2 := hidW D2
    have D3 := fun (V : World) => with_is c1 c2 (by omega) V
    rw [← hc3] at D3
    have HD3 := hidW D3
    have HF := hidW (show c3 = wcat (rowP 26 t (txtL (ndL ks))) from by rw [rowP_26, hg0, wcat_four, hc3, hc2, hc1] <;> (try simp only [wth_assoc]))
    unfold RAns
    rw [node_row (k := 26) (m := 1) rfl (by rw [kids_len]; exact hm) (by decide)]
    obtain ⟨q0, q1, q3⟩ := HQ.out.text
    have HL := hidW (rleast_is 26 (W.alloc (.cells #[.int .i64 26, .string (bs t), .int .i64 a, .slice (some ⟨blk, off, none⟩) ks.length cap] 24)))
    have hLZ : leastZ 26 = 1 := rfl
    rw [hLZ] at HL
    have f0 : ((ks.length : Int) < 1) = False := eq_false (by omega)
    have f1 : ((0 : Int) < (ks.length : Int)) = True := eq_true (by omega)
    have f2 : ((1 : Int) < (ks.length : Int)) = False := eq_false (by omega)
    clear hr hk K hLZ hm1 h1 he0 hg0 hx0 hl1 D1 hl2 D2 hl3 D3 hc1 hc2 hc3
    go_enter Try.func10, Try.ntmps10
    go_wp2_with fail
    refine HL.out.mono ?_
    clear HL
    rintro e V ⟨rfl, rfl⟩
    obtain ⟨kc0, kc1, kc2, kc3⟩ := HQ.out.kid0 hi0 HE0.out
    have HC := hidW (C0.out _ HQ.out)
    go_wp2_with fail
    refine HC.out.mono ?_
    clear HC kc0 kc1 kc2 kc3 q0 q1 q3
    rintro e V0 ⟨rfl, hb⟩
    replace HQ := hidW (HQ.out.below hb)
    clear hb
    obtain ⟨q0, q1, q3⟩ := HQ.out.text
    have HC := hidW (HD1.out V0)
    go_wp2_with fail
    refine HC.out.mono ?_
    clear HC HD1
    rintro e V ⟨rfl, rfl⟩
    have HC := hidW (HD2.out V)
    go_wp2_with fail
    refine HC.out.mono ?_
    clear HC HD2
    rintro e V ⟨rfl, rfl⟩
    have HC := hidW (HD3.out V)
    go_wp2_with fail
    refine HC.out.mono ?_
    clear HC HD3
    rintro e V ⟨rfl, rfl⟩
    go_wp2
    go_ret
    exact ⟨by first | exact congrArg (fun x => Ending.returned (Value.string (bs x))) HF.out | (rw [← HF.out]; rfl), HQ.out.bel⟩

set_option maxRecDepth 100000 in
set_option maxHeartbeats 16000000 in
theorem rt_27 {z : Nat} {t : List UInt8} {ks : List Nv} (K : Rk z t ks) {D : Nat → Prop} {W : World} {a : Int} {av : Option Addr} {cap blk off : Nat} (hr : RowD D W av blk off ks) (hk : ∀ n, n ∈ ks → LiesD D W n) (hm : 0 ≤ ks.length) : RAns 27 t a av cap ks W := by
  by_cases h1 : 1 < ks.length
  · have hi0 : 0 < ks.length := by omega
    obtain ⟨n0, he0⟩ : ∃ n, ks[0]'hi0 = n := ⟨_, rfl⟩
    have hg0 := txt_at hi0 he0
    have hx0 := K.len_kid hi0 he0
    have hi1 : 1 < ks.length := by omega
    obtain ⟨n1, he1⟩ : ∃ n, ks[1]'hi1 = n := ⟨_, rfl⟩
    have hg1 := txt_at hi1 he1
    have hx1 := K.len_kid hi1 he1
    obtain rfl := hr.at_ hi0
    have HQ := hidW (Rs.start (k := 27) (t := t) (a := a) (cap := cap) hr hk)
    obtain ⟨k0, t0, a0, v0, c0, b0, o0, s0⟩ := n0
    have C0 := hidW (fun (V : World) (h : Rs D W 27 t a (some ⟨blk, off, none⟩) cap blk off ks V) => h.call K hi0 he0)
    have HE0 := hidW he0
    obtain ⟨k1, t1, a1, v1, c1_, b1, o1, s1⟩ := n1
    have C1 := hidW (fun (V : World) (h : Rs D W 27 t a (some ⟨blk, off, none⟩) cap blk off ks V) => h.call K hi1 he1)
    have HE1 := hidW he1
    have htl : t.length ≤ 2 ^ 40 := by have := K.ned; omega
    generalize txt (Nv.mk k0 t0 a0 v0 c0 b0 o0 s0).nd = x0 at *
    generalize txt (Nv.mk k1 t1 a1 v1 c1_ b1 o1 s1).nd = x1 at *
    have HF := hidW (show [114, 101, 97, 100] = wcat (rowP 27 t (txtL (ndL ks))) from by rw [rowP_27]; rfl)
    unfold RAns
    rw [node_row (k := 27) (m := 0) rfl (by rw [kids_len]; exact hm) (by decide)]
    obtain ⟨q0, q1, q3⟩ := HQ.out.text
    have HL := hidW (rleast_is 27 (W.alloc (.cells #[.int .i64 27, .string (bs t), .int .i64 a, .slice (some ⟨blk, off, none⟩) ks.length cap] 24)))
    have hLZ : leastZ 27 = 0 := rfl
    rw [hLZ] at HL
    have f0 : ((ks.length : Int) < 0) = False := eq_false (by omega)
    have f1 : ((0 : Int) < (ks.length : Int)) = True := eq_true (by omega)
    have f2 : ((1 : Int) < (ks.length : Int)) = True := eq_true (by omega)
    clear hr hk K hLZ he0 hg0 hx0 he1 hg1 hx1
    go_enter Try.func10, Try.ntmps10
    go_wp2_with fail
    refine HL.out.mono ?_
    clear HL
    rintro e V ⟨rfl, rfl⟩
    obtain ⟨kc0, kc1, kc2, kc3⟩ := HQ.out.kid0 hi0 HE0.out
    have HC := hidW (C0.out _ HQ.out)
    go_wp2_with fail
    refine HC.out.mono ?_
    clear HC kc0 kc1 kc2 kc3 q0 q1 q3
    rintro e V0 ⟨rfl, hb⟩
    replace HQ := hidW (HQ.out.below hb)
    clear hb
    obtain ⟨q0, q1, q3⟩ := HQ.out.text
    obtain ⟨kc0, kc1, kc2, kc3⟩ := HQ.out.kid1 hi1 HE1.out
    have HC := hidW (C1.out _ HQ.out)
    go_wp2_with fail
    refine HC.out.mono ?_
    clear HC kc0 kc1 kc2 kc3 q0 q1 q3
    rintro e V1 ⟨rfl, hb⟩
    replace HQ := hidW (HQ.out.below hb)
    clear hb
    obtain ⟨q0, q1, q3⟩ := HQ.out.text
    go_wp2
    go_ret
    exact ⟨by first | exact congrArg (fun x => Ending.returned (Value.string (bs x))) HF.out | (rw [← HF.out]; rfl), HQ.out.bel⟩
  · by_cases h2 : 0 < ks.length
    · have hm1 : ks.length = 1 := by omega
      have hi0 : 0 < ks.length := by omega
      obtain ⟨n0, he0⟩ : ∃ n, ks[0]'hi0 = n := ⟨_, rfl⟩
      have hg0 := txt_at hi0 he0
      have hx0 := K.len_kid hi0 he0
      obtain rfl := hr.at_ hi0
      have HQ := hidW (Rs.start (k := 27) (t := t) (a := a) (cap := cap) hr hk)
      obtain ⟨k0, t0, a0, v0, c0, b0, o0, s0⟩ := n0
      have C0 := hidW (fun (V : World) (h : Rs D W 27 t a (some ⟨blk, off, none⟩) cap blk off ks V) => h.call K hi0 he0)
      have HE0 := hidW he0
      have htl : t.length ≤ 2 ^ 40 := by have := K.ned; omega
      generalize txt (Nv.mk k0 t0 a0 v0 c0 b0 o0 s0).nd = x0 at *
      have HF := hidW (show [114, 101, 97, 100] = wcat (rowP 27 t (txtL (ndL ks))) from by rw [rowP_27]; rfl)
      unfold RAns
      rw [node_row (k := 27) (m := 0) rfl (by rw [kids_len]; exact hm) (by decide)]
      obtain ⟨q0, q1, q3⟩ := HQ.out.text
      have HL := hidW (rleast_is 27 (W.alloc (.cells #[.int .i64 27, .string (bs t), .int .i64 a, .slice (some ⟨blk, off, none⟩) ks.length cap] 24)))
      have hLZ : leastZ 27 = 0 := rfl
      rw [hLZ] at HL
      have f0 : ((ks.length : Int) < 0) = False := eq_false (by omega)
      have f1 : ((0 : Int) < (ks.length : Int)) = True := eq_true (by omega)
      have f2 : ((1 : Int) < (ks.length : Int)) = False := eq_false (by omega)
      clear hr hk K hLZ hm1 h1 he0 hg0 hx0
      go_enter Try.func10, Try.ntmps10
      go_wp2_with fail
      refine HL.out.mono ?_
      clear HL
      rintro e V ⟨rfl, rfl⟩
      obtain ⟨kc0, kc1, kc2, kc3⟩ := HQ.out.kid0 hi0 HE0.out
      have HC := hidW (C0.out _ HQ.out)
      go_wp2_with fail
      refine HC.out.mono ?_
      clear HC kc0 kc1 kc2 kc3 q0 q1 q3
      rintro e V0 ⟨rfl, hb⟩
      replace HQ := hidW (HQ.out.below hb)
      clear hb
      obtain ⟨q0, q1, q3⟩ := HQ.out.text
      go_wp2
      go_ret
      exact ⟨by first | exact congrArg (fun x => Ending.returned (Value.string (bs x))) HF.out | (rw [← HF.out]; rfl), HQ.out.bel⟩
    · have hm0 : ks.length = 0 := by omega
      have HQ := hidW (Rs.start (k := 27) (t := t) (a := a) (cap := cap) hr hk)
      have htl : t.length ≤ 2 ^ 40 := by have := K.ned; omega
      have HF := hidW (show [114, 101, 97, 100] = wcat (rowP 27 t (txtL (ndL ks))) from by rw [rowP_27]; rfl)
      unfold RAns
      rw [node_row (k := 27) (m := 0) rfl (by rw [kids_len]; exact hm) (by decide)]
      obtain ⟨q0, q1, q3⟩ := HQ.out.text
      have HL := hidW (rleast_is 27 (W.alloc (.cells #[.int .i64 27, .string (bs t), .int .i64 a, .slice av ks.length cap] 24)))
      have hLZ : leastZ 27 = 0 := rfl
      rw [hLZ] at HL
      have f0 : ((ks.length : Int) < 0) = False := eq_false (by omega)
      have f1 : ((0 : Int) < (ks.length : Int)) = False := eq_false (by omega)
      have fN : (0 < ks.length) = False := eq_false (by omega)
      clear hr hk K hLZ hm0 h1 h2
      go_enter Try.func10, Try.ntmps10
      go_wp2_with fail
      refine HL.out.mono ?_
      clear HL
      rintro e V ⟨rfl, rfl⟩
      go_wp2
      go_ret
      exact ⟨by first | exact congrArg (fun x => Ending.returned (Value.string (bs x))) HF.out | (rw [← HF.out]; rfl), HQ.out.bel⟩

end Go.Proofs.Ytgndnodahlabiaa
