/-
  What the document answers of trees (layer 10): its Text, kinds 24, 19.
-/
import Derived.Test.YtgndnodahlabiaaRfD
namespace Go.Proofs.Ytgndnodahlabiaa
open Go.ChangeShapes Go.WideShapes Go.ChangeAt Go.RowKit

set_option maxRecDepth 100000 in
set_option maxHeartbeats 16000000 in
theorem rt_24 {z : Nat} {t : List UInt8} {ks : List Nv} (K : Rk z t ks) {D : Nat → Prop} {W : World} {a : Int} {av : Option Addr} {cap blk off : Nat} (hr : RowD D W av blk off ks) (hk : ∀ n, n ∈ ks → LiesD D W n) (hm : 1 ≤ ks.length) : RAns 24 t a av cap ks W := by
  by_cases h1 : 1 < ks.length
  · clear hm
    have hm : 1 ≤ ks.length := by omega
    have hi0 : 0 < ks.length := by omega
    obtain ⟨n0, he0⟩ : ∃ n, ks[0]'hi0 = n := ⟨_, rfl⟩
    have hg0 := txt_at hi0 he0
    have hx0 := K.len_kid hi0 he0
    have hi1 : 1 < ks.length := by omega
    obtain ⟨n1, he1⟩ : ∃ n, ks[1]'hi1 = n := ⟨_, rfl⟩
    have hg1 := txt_at hi1 he1
    have hx1 := K.len_kid hi1 he1
    obtain rfl := hr.at_ hi0
    have HQ := hidW (Rs.start (k := 24) (t := t) (a := a) (cap := cap) hr hk)
    obtain ⟨k0, t0, a0, v0, c0, b0, o0, s0⟩ := n0
    have C0 := hidW (fun (V : World) (h : Rs D W 24 t a (some ⟨blk, off, none⟩) cap blk off ks V) => h.call K hi0 he0)
    have HE0 := hidW he0
    obtain ⟨k1, t1, a1, v1, c1_, b1, o1, s1⟩ := n1
    have C1 := hidW (fun (V : World) (h : Rs D W 24 t a (some ⟨blk, off, none⟩) cap blk off ks V) => h.call K hi1 he1)
    have HE1 := hidW he1
    have htl : t.length ≤ 2 ^ 40 := by have := K.ned; omega
    generalize txt (Nv.mk k0 t0 a0 v0 c0 b0 o0 s0).nd = x0 at *
    generalize txt (Nv.mk k1 t1 a1 v1 c1_ b1 o1 s1).nd = x1 at *
    obtain ⟨c1, hc1⟩ : ∃ c, c = wth x0 [46] := ⟨_, rfl⟩
    have hl1 : c1.length ≤ 4 * 2 ^ 40 := by rw [hc1]; have := wth_len x0 [46]; simp only [List.length_cons, List.length_nil] at *; omega
    obtain ⟨c2, hc2⟩ : ∃ c, c = wth c1 t := ⟨_, rfl⟩
    have hl2 : c2.length ≤ 16 * 2 ^ 40 := by rw [hc2]; have := wth_len c1 t; omega
    have D1 := fun (V : World) (d : Nat) (os : Array Obj) => with_quiet x0 [46] (by simp only [List.length_cons, List.length_nil]; omega) V d os
    rw [← hc1] at D1
    have HD1 := hidW D1
    have D2 := fun (V : World) (d : Nat) (os : Array Obj) => with_quiet c1 t (by omega) V d os
    rw [← hc2] at D2
    have HD2 := hidW D2
    have HF := hidW (show c2 = wcat (rowP 24 t (txtL (ndL ks))) from by rw [rowP_24, hg0, wcat_three, hc2, hc1] <;> (try simp only [wth_assoc]))
    unfold RAns
    rw [node_row (k := 24) (m := 1) rfl (by rw [kids_len]; exact hm) (by decide)]
    obtain ⟨q0, q1, q3⟩ := HQ.out.text
    have HL := hidW (rleast_is 24 (W.alloc (.cells #[.int .i64 24, .string (bs t), .int .i64 a, .slice (some ⟨blk, off, none⟩) ks.length cap] 24)))
    have hLZ : leastZ 24 = 1 := rfl
    rw [hLZ] at HL
    have f0 : ((ks.length : Int) < 1) = False := eq_false (by omega)
    have f1 : ((0 : Int) < (ks.length : Int)) = True := eq_true (by omega)
    have f2 : ((1 : Int) < (ks.length : Int)) = True := eq_true (by omega)
    clear hr hk K hLZ he0 hg0 hx0 he1 hg1 hx1 hl1 D1 hl2 D2 hc1 hc2
    go_enter Try.func10, Try.ntmps10
    go_wp2_with fail
    refine HL.out.mono ?_
    clear HL
    rintro e V ⟨rfl, rfl⟩
    obtain ⟨kc0, kc1, kc2, kc3⟩ := HQ.out.kid0 hi0 HE0.out
    have HC := hidW (C0.out _ HQ.out)
    go_wp2_with fail
    refine HC.out.mono ?_
    clear HC kc0 kc1 kc2 kc3 q0 q1 q3
    rintro e V0 ⟨rfl, hb⟩
    replace HQ := hidW (HQ.out.below hb)
    clear hb
    obtain ⟨q0, q1, q3⟩ := HQ.out.text
    obtain ⟨kc0, kc1, kc2, kc3⟩ := HQ.out.kid1 hi1 HE1.out
    have HC := hidW (C1.out _ HQ.out)
    go_wp2_with fail
    refine HC.out.mono ?_
    clear HC kc0 kc1 kc2 kc3 q0 q1 q3
    rintro e V1 ⟨rfl, hb⟩
    replace HQ := hidW (HQ.out.below hb)
    clear hb
    obtain ⟨q0, q1, q3⟩ := HQ.out.text
    have HB := hidW HQ.out.bel
    have G1 := hidW (HD1.out V1)
    have G2 := hidW (HD2.out V1)
    have l1 := fun d os => cell_regrown q1 d os
    clear HD1 HD2
    go_wp2_with fail
    clear q0 q1 q3
    refine wp_region_quiet_below (by kernel_rfl) (by kernel_rfl) ?_
    repeat (go_big_quiet_step (fail))
    go_big_quiet_step (first | (go_at_call 23; exact G1.out _ _))
    repeat (go_big_quiet_step (fail))
    go_big_quiet_step (first | (go_at_call 23; exact G2.out _ _))
    repeat (go_big_quiet_step (fail))
    refine wpQuiet_nil ?_
    intro w17 hw'
    have hb17 : Below V1.heap.size V1 w17 := by obtain ⟨⟨dq, osq⟩, hw''⟩ := hw'; rw [hw'']; exact below_regrown _ dq osq
    have HB17 := hidW (bel_two HB.out hb17)
    clear hw' hb17 l1
    go_wp2
    go_ret
    exact ⟨by first | exact congrArg (fun x => Ending.returned (Value.string (bs x))) HF.out | (rw [← HF.out]; rfl), HB17.out⟩
  · have hm1 : ks.length = 1 := by omega
    have hi0 : 0 < ks.length := by omega
    obtain ⟨n0, he0⟩ : ∃ n, ks[0]'hi0 = n := ⟨_, rfl⟩
    have hg0 := txt_at hi0 he0
    have hx0 := K.len_kid hi0 he0
    obtain rfl := hr.at_ hi0
    have HQ := hidW (Rs.start (k := 24) (t := t) (a := a) (cap := cap) hr hk)
    obtain ⟨k0, t0, a0, v0, c0, b0, o0, s0⟩ := n0
    have C0 := hidW (fun (V : World) (h : Rs D W 24 t a (some ⟨blk, off, none⟩) cap blk off ks V) => h.call K hi0 he0)
    have HE0 := hidW he0
    have htl : t.length ≤ 2 ^ 40 := by have := K.ned; omega
    generalize txt (Nv.mk k0 t0 a0 v0 c0 b0 o0 s0).nd = x0 at *
    obtain ⟨c1, hc1⟩ : ∃ c, c = wth x0 [46] := ⟨_, rfl⟩
    have hl1 : c1.length ≤ 4 * 2 ^ 40 := by rw [hc1]; have := wth_len x0 [46]; simp only [List.length_cons, List.length_nil] at *; omega
    obtain ⟨c2, hc2⟩ : ∃ c, c = wth c1 t := ⟨_, rfl⟩
    have hl2 : c2.length ≤ 16 * 2 ^ 40 := by rw [hc2]; have := wth_len c1 t; omega
    have D1 := fun (V : World) (d : Nat) (os : Array Obj) => with_quiet x0 [46] (by simp only [List.length_cons, List.length_nil]; omega) V d os
    rw [← hc1] at D1
    have HD1 := hidW D1
    have D2 := fun (V : World) (d : Nat) (os : Array Obj) => with_quiet c1 t (by omega) V d os
    rw [← hc2] at D2
    have HD2 := hidW D2
    have HF := hidW (show c2 = wcat (rowP 24 t (txtL (ndL ks))) from by rw [rowP_24, hg0, wcat_three, hc2, hc1] <;> (try simp only [wth_assoc]))
    unfold RAns
    rw [node_row (k := 24) (m := 1) rfl (by rw [kids_len]; exact hm) (by decide)]
    obtain ⟨q0, q1, q3⟩ := HQ.out.text
    have HL := hidW (rleast_is 24 (W.alloc (.cells #[.int .i64 24, .string (bs t), .int .i64 a, .slice (some ⟨blk, off, none⟩) ks.length cap] 24)))
    have hLZ : leastZ 24 = 1 := rfl
    rw [hLZ] at HL
    have f0 : ((ks.length : Int) < 1) = False := eq_false (by omega)
    have f1 : ((0 : Int) < (ks.length : Int)) = True := eq_true (by omega)
    have f2 : ((1 : Int) < (ks.length : Int)) = False := eq_false (by omega)
    clear hr hk K hLZ hm1 h1 he0 hg0 hx0 hl1 D1 hl2 D2 hc1 hc2
    go_enter Try.func10, Try.ntmps10
    go_wp2_with fail
    refine HL.out.mono ?_
    clear HL
    rintro e V ⟨rfl, rfl⟩
    obtain ⟨kc0, kc1, kc2, kc3⟩ := HQ.out.kid0 hi0 HE0.out
    have HC := hidW (C0.out _ HQ.out)
    go_wp2_with fail
    refine HC.out.mono ?_
    clear HC kc0 kc1 kc2 kc3 q0 q1 q3
    rintro e V0 ⟨rfl, hb⟩
    replace HQ := hidW (HQ.out.below hb)
    clear hb
    obtain ⟨q0, q1, q3⟩ := HQ.out.text
    have HB := hidW HQ.out.bel
    have G1 := hidW (HD1.out V0)
    have G2 := hidW (HD2.out V0)
    have l1 := fun d os => cell_regrown q1 d os
    clear HD1 HD2
    go_wp2_with fail
    clear q0 q1 q3
    refine wp_region_quiet_below (by kernel_rfl) (by kernel_rfl) ?_
    repeat (go_big_quiet_step (fail))
    go_big_quiet_step (first | (go_at_call 23; exact G1.out _ _))
    repeat (go_big_quiet_step (fail))
    go_big_quiet_step (first | (go_at_call 23; exact G2.out _ _))
    repeat (go_big_quiet_step (fail))
    refine wpQuiet_nil ?_
    intro w17 hw'
    have hb17 : Below V0.heap.size V0 w17 := by obtain ⟨⟨dq, osq⟩, hw''⟩ := hw'; rw [hw'']; exact below_regrown _ dq osq
    have HB17 := hidW (bel_two HB.out hb17)
    clear hw' hb17 l1
    go_wp2
    go_ret
    exact ⟨by first | exact congrArg (fun x => Ending.returned (Value.string (bs x))) HF.out | (rw [← HF.out]; rfl), HB17.out⟩

set_option maxRecDepth 100000 in
set_option maxHeartbeats 16000000 in
theorem rt_19 {z : Nat} {t : List UInt8} {ks : List Nv} (K : Rk z t ks) {D : Nat → Prop} {W : World} {a : Int} {av : Option Addr} {cap blk off : Nat} (hr : RowD D W av blk off ks) (hk : ∀ n, n ∈ ks → LiesD D W n) (hm : 2 ≤ ks.length) : RAns 19 t a av cap ks W := by
  have hi0 : 0 < ks.length := by omega
  obtain ⟨n0, he0⟩ : ∃ n, ks[0]'hi0 = n := ⟨_, rfl⟩
  have hg0 := txt_at hi0 he0
  have hx0 := K.len_kid hi0 he0
  have hi1 : 1 < ks.length := by omega
  obtain ⟨n1, he1⟩ : ∃ n, ks[1]'hi1 = n := ⟨_, rfl⟩
  have hg1 := txt_at hi1 he1
  have hx1 := K.len_kid hi1 he1
  obtain rfl := hr.at_ hi0
  have HQ := hidW (Rs.start (k := 19) (t := t) (a := a) (cap := cap) hr hk)
  obtain ⟨k0, t0, a0, v0, c0, b0, o0, s0⟩ := n0
  have C0 := hidW (fun (V : World) (h : Rs D W 19 t a (some ⟨blk, off, none⟩) cap blk off ks V) => h.call K hi0 he0)
  have HE0 := hidW he0
  obtain ⟨k1, t1, a1, v1, c1_, b1, o1, s1⟩ := n1
  have C1 := hidW (fun (V : World) (h : Rs D W 19 t a (some ⟨blk, off, none⟩) cap blk off ks V) => h.call K hi1 he1)
  have HE1 := hidW he1
  have htl : t.length ≤ 2 ^ 40 := by have := K.ned; omega
  generalize txt (Nv.mk k0 t0 a0 v0 c0 b0 o0 s0).nd = x0 at *
  generalize txt (Nv.mk k1 t1 a1 v1 c1_ b1 o1 s1).nd = x1 at *
  obtain ⟨c1, hc1⟩ : ∃ c, c = wth [40] x0 := ⟨_, rfl⟩
  have hl1 : c1.length ≤ 4 * 2 ^ 40 := by rw [hc1]; have := wth_len [40] x0; simp only [List.length_cons, List.length_nil] at *; omega
  obtain ⟨c2, hc2⟩ : ∃ c, c = wth c1 t := ⟨_, rfl⟩
  have hl2 : c2.length ≤ 16 * 2 ^ 40 := by rw [hc2]; have := wth_len c1 t; omega
  obtain ⟨c3, hc3⟩ : ∃ c, c = wth x1 [41] := ⟨_, rfl⟩
  have hl3 : c3.length ≤ 64 * 2 ^ 40 := by rw [hc3]; have := wth_len x1 [41]; simp only [List.length_cons, List.length_nil] at *; omega
  obtain ⟨c4, hc4⟩ : ∃ c, c = wth c2 c3 := ⟨_, rfl⟩
  have hl4 : c4.length ≤ 256 * 2 ^ 40 := by rw [hc4]; have := wth_len c2 c3; omega
  have D1 := fun (V : World) (d : Nat) (os : Array Obj) => with_quiet [40] x0 (by simp only [List.length_cons, List.length_nil]; omega) V d os
  rw [← hc1] at D1
  have HD1 := hidW D1
  have D2 := fun (V : World) (d : Nat) (os : Array Obj) => with_quiet c1 t (by omega) V d os
  rw [← hc2] at D2
  have HD2 := hidW D2
  have D3 := fun (V : World) (d : Nat) (os : Array Obj) => with_quiet x1 [41] (by simp only [List.length_cons, List.length_nil]; omega) V d os
  rw [← hc3] at D3
  have HD3 := hidW D3
  have D4 := fun (V : World) (d : Nat) (os : Array Obj) => with_quiet c2 c3 (by omega) V d os
  rw [← hc4] at D4
  have HD4 := hidW D4
  have HF := hidW (show c4 = wcat (rowP 19 t (txtL (ndL ks))) from by rw [rowP_19, hg0, hg1, wcat_five, hc4, hc3, hc2, hc1] <;> (try simp only [wth_assoc]))
  unfold RAns
  rw [node_row (k := 19) (m := 2) rfl (by rw [kids_len]; exact hm) (by decide)]
  obtain ⟨q0, q1, q3⟩ := HQ.out.text
  have HL := hidW (rleast_is 19 (W.alloc (.cells #[.int .i64 19, .string (bs t), .int .i64 a, .slice (some ⟨blk, off, none⟩) ks.length cap] 24)))
  have hLZ : leastZ 19 = 2 := rfl
  rw [hLZ] at HL
  have f0 : ((ks.length : Int) < 2) = False := eq_false (by omega)
  have f1 : ((0 : Int) < (ks.length : Int)) = True := eq_true (by omega)
  have f2 : ((1 : Int) < (ks.length : Int)) = True := eq_true (by omega)
  clear hr hk K hLZ he0 hg0 hx0 he1 hg1 hx1 hl1 D1 hl2 D2 hl3 D3 hl4 D4 hc1 hc2 hc3 hc4
  go_enter Try.func10, Try.ntmps10
  go_wp2_with fail
  refine HL.out.mono ?_
  clear HL
  rintro e V ⟨rfl, rfl⟩
  obtain ⟨kc0, kc1, kc2, kc3⟩ := HQ.out.kid0 hi0 HE0.out
  have HC := hidW (C0.out _ HQ.out)
  go_wp2_with fail
  refine HC.out.mono ?_
  clear HC kc0 kc1 kc2 kc3 q0 q1 q3
  rintro e V0 ⟨rfl, hb⟩
  replace HQ := hidW (HQ.out.below hb)
  clear hb
  obtain ⟨q0, q1, q3⟩ := HQ.out.text
  obtain ⟨kc0, kc1, kc2, kc3⟩ := HQ.out.kid1 hi1 HE1.out
  have HC := hidW (C1.out _ HQ.out)
  go_wp2_with fail
  refine HC.out.mono ?_
  clear HC kc0 kc1 kc2 kc3 q0 q1 q3
  rintro e V1 ⟨rfl, hb⟩
  replace HQ := hidW (HQ.out.below hb)
  clear hb
  obtain ⟨q0, q1, q3⟩ := HQ.out.text
  have HB := hidW HQ.out.bel
  have G1 := hidW (HD1.out V1)
  have G2 := hidW (HD2.out V1)
  have G3 := hidW (HD3.out V1)
  have G4 := hidW (HD4.out V1)
  have l1 := fun d os => cell_regrown q1 d os
  clear HD1 HD2 HD3 HD4
  go_wp2_with fail
  clear q0 q1 q3
  refine wp_region_quiet_below (by kernel_rfl) (by kernel_rfl) ?_
  repeat (go_big_quiet_step (fail))
  go_big_quiet_step (first | (go_at_call 23; exact G1.out _ _))
  repeat (go_big_quiet_step (fail))
  go_big_quiet_step (first | (go_at_call 23; exact G2.out _ _))
  repeat (go_big_quiet_step (fail))
  go_big_quiet_step (first | (go_at_call 23; exact G3.out _ _))
  repeat (go_big_quiet_step (fail))
  go_big_quiet_step (first | (go_at_call 23; exact G4.out _ _))
  repeat (go_big_quiet_step (fail))
  refine wpQuiet_nil ?_
  intro w17 hw'
  have hb17 : Below V1.heap.size V1 w17 := by obtain ⟨⟨dq, osq⟩, hw''⟩ := hw'; rw [hw'']; exact below_regrown _ dq osq
  have HB17 := hidW (bel_two HB.out hb17)
  clear hw' hb17 l1
  go_wp2
  go_ret
  exact ⟨by first | exact congrArg (fun x => Ending.returned (Value.string (bs x))) HF.out | (rw [← HF.out]; rfl), HB17.out⟩

end Go.Proofs.Ytgndnodahlabiaa
