/-
  What the document answers of trees (layer 10): its Text, kind 2; all kinds together.
-/
import Derived.Test.YtgndnodahlabiaaRfI
namespace Go.Proofs.Ytgndnodahlabiaa
open Go.ChangeShapes Go.WideShapes Go.ChangeAt Go.RowKit

theorem row_fun {t : List UInt8} {l : List (List UInt8)} {m : Nat} (h : l.length = m + 2) : wcat (rowP 2 t l) = wth (wth (wth (wth [102, 117, 110, 99] t) [40]) (wth (wcat (inter (l.take m))) [41])) (wth (l.getD m []) (l.getD (m + 1) [])) := by
  have hd : l.drop m = [l.getD m [], l.getD (m + 1) []] := by
    rw [List.drop_eq_getElem_cons (by omega), List.drop_eq_getElem_cons (by omega), List.drop_eq_nil_of_le (by omega)]
    simp [List.getD_eq_getElem?_getD, h]
  rw [rowP_2, show l.length - 2 = m by omega, hd, wcat_append, wcat_append, wcat_append, wcat_three, wcat_one, wcat_two]
  simp only [wth_assoc]
theorem RowD.take {D : Nat → Prop} {W : World} {av : Option Addr} {blk off : Nat} {ks : List Nv} (h : RowD D W av blk off ks) (n : Nat) (hn : n ≤ ks.length) (h0 : 0 < ks.length) : RowD D W av blk off (ks.take n) :=
  ⟨fun _ => h.at_ h0, fun _ => h.lt h0, fun i f hi hf => by rw [List.getElem_take]; exact h.has i f (by rw [List.length_take] at hi; omega) hf⟩
set_option maxRecDepth 100000 in
set_option maxHeartbeats 16000000 in
theorem rt_2 {z : Nat} {t : List UInt8} {ks : List Nv} (K : Rk z t ks) {D : Nat → Prop} {W : World} {a : Int} {av : Option Addr} {cap blk off : Nat} (hr : RowD D W av blk off ks) (hk : ∀ n, n ∈ ks → LiesD D W n) (hm : 2 ≤ ks.length) (hcap : ks.length ≤ cap) : RAns 2 t a av cap ks W := by
  obtain ⟨m, hm2⟩ : ∃ m, ks.length = m + 2 := ⟨ks.length - 2, by omega⟩
  have hi0 : m < ks.length := by omega
  have hi1 : m + 1 < ks.length := by omega
  obtain ⟨n0, he0⟩ : ∃ n, ks[m]'hi0 = n := ⟨_, rfl⟩
  obtain ⟨n1, he1⟩ : ∃ n, ks[m + 1]'hi1 = n := ⟨_, rfl⟩
  have hg0 := txt_at hi0 he0
  have hg1 := txt_at hi1 he1
  have hx0 := K.len_kid hi0 he0
  have hx1 := K.len_kid hi1 he1
  obtain rfl := hr.at_ (by omega)
  have hln := K.len
  have htl : t.length ≤ 2 ^ 40 := by have := K.ned; omega
  have hLL : (lst [44] (txtL (ndL (ks.take m)))).length ≤ 2 ^ 40 := by
    have h1 := lst_len [44] (by decide) (txtL (ndL (ks.take m)))
    have h2 := txtL_ned (ndL (ks.take m))
    have h3 := nedL_split ks m
    have h4 := K.ned
    omega
  have hRT : RAns 2 t a (some ⟨blk, off, none⟩) cap ks W = Calls Try.prog 10 #[.agg #[.int .i64 2, .string (bs t), .int .i64 a, .slice (some ⟨blk, off, none⟩) (m + 2) cap]] W fun e W' => e = .returned (.string (bs (nodeT 2 t (txtL (ndL ks))))) ∧ Below W.heap.size W W' := by unfold RAns; rw [hm2]
  rw [hRT, node_row (k := 2) (m := 2) rfl (by rw [kids_len]; exact hm) (by decide), row_fun (m := m) (by rw [kids_len]; exact hm2), txt_take, ← lst_comma, hg0, hg1]
  have HQ := hidW (Rs.start (k := 2) (t := t) (a := a) (cap := cap) hr hk)
  rw [hm2] at HQ
  have htk : (ks.take m).length = m := take_len ks m (by omega)
  have GL := hidW (fun (V : World) (h : Rs D W 2 t a (some ⟨blk, off, none⟩) cap blk off ks V) (c2 : Nat) (d : Nat) (os : Array Obj) => Calls.regrown_of (rlist_is (cap := c2) (W := Sort.grow (redrawn V d) os) K.ih [44] (by decide) ((h.below (below_regrown V d os)).row.take m (by omega) (by omega)) (fun n hn => (h.below (below_regrown V d os)).kid n (List.mem_of_mem_take hn)) (fun n hn => K.bnd n (List.mem_of_mem_take hn)) (by omega) (by have := szL_take ks m; have := K.sz; omega) (by have := nedL_split ks m; have := K.ned; omega)))
  rw [htk] at GL
  have GC0 := hidW (fun (V : World) (h : Rs D W 2 t a (some ⟨blk, off, none⟩) cap blk off ks V) (d : Nat) (os : Array Obj) => Calls.regrown_of ((h.below (below_regrown V d os)).call K hi0 he0))
  have GC1 := hidW (fun (V : World) (h : Rs D W 2 t a (some ⟨blk, off, none⟩) cap blk off ks V) (d : Nat) (os : Array Obj) => Calls.regrown_of ((h.below (below_regrown V d os)).call K hi1 he1))
  obtain ⟨k0, t0, a0, v0, c0_, b0, o0, s0⟩ := n0
  obtain ⟨k1, t1, a1, v1, c1_, b1, o1, s1⟩ := n1
  have HE0 := hidW he0
  have HE1 := hidW he1
  generalize txt (Nv.mk k0 t0 a0 v0 c0_ b0 o0 s0).nd = x0 at *
  generalize txt (Nv.mk k1 t1 a1 v1 c1_ b1 o1 s1).nd = x1 at *
  generalize lst [44] (txtL (ndL (ks.take m))) = L at *
  obtain ⟨c1, hc1⟩ : ∃ c, c = wth [102, 117, 110, 99] t := ⟨_, rfl⟩
  have hl1 : c1.length ≤ 4 * 2 ^ 40 := by rw [hc1]; have := wth_len [102, 117, 110, 99] t; simp only [List.length_cons, List.length_nil] at *; omega
  obtain ⟨c2, hc2⟩ : ∃ c, c = wth c1 [40] := ⟨_, rfl⟩
  have hl2 : c2.length ≤ 16 * 2 ^ 40 := by rw [hc2]; have := wth_len c1 [40]; simp only [List.length_cons, List.length_nil] at *; omega
  obtain ⟨c3, hc3⟩ : ∃ c, c = wth L [41] := ⟨_, rfl⟩
  have hl3 : c3.length ≤ 4 * 2 ^ 40 := by rw [hc3]; have := wth_len L [41]; simp only [List.length_cons, List.length_nil] at *; omega
  obtain ⟨c4, hc4⟩ : ∃ c, c = wth c2 c3 := ⟨_, rfl⟩
  have hl4 : c4.length ≤ 64 * 2 ^ 40 := by rw [hc4]; have := wth_len c2 c3; omega
  obtain ⟨c5, hc5⟩ : ∃ c, c = wth c4 x0 := ⟨_, rfl⟩
  have hl5 : c5.length ≤ 256 * 2 ^ 40 := by rw [hc5]; have := wth_len c4 x0; omega
  obtain ⟨c6, hc6⟩ : ∃ c, c = wth c5 x1 := ⟨_, rfl⟩
  have D1 := fun (V : World) (d : Nat) (os : Array Obj) => with_quiet [102, 117, 110, 99] t (by simp only [List.length_cons, List.length_nil]; omega) V d os
  have D2 := fun (V : World) (d : Nat) (os : Array Obj) => with_quiet c1 [40] (by simp only [List.length_cons, List.length_nil]; omega) V d os
  have D3 := fun (V : World) (d : Nat) (os : Array Obj) => with_quiet L [41] (by simp only [List.length_cons, List.length_nil]; omega) V d os
  have D4 := fun (V : World) (d : Nat) (os : Array Obj) => with_quiet c2 c3 (by omega) V d os
  have D5 := fun (V : World) (d : Nat) (os : Array Obj) => with_quiet c4 x0 (by omega) V d os
  have D6 := fun (V : World) (d : Nat) (os : Array Obj) => with_quiet c5 x1 (by omega) V d os
  rw [← hc1] at D1
  rw [← hc2] at D2
  rw [← hc3] at D3
  rw [← hc4] at D4
  rw [← hc5] at D5
  rw [← hc6] at D6
  have HD1 := hidW D1
  have HD2 := hidW D2
  have HD3 := hidW D3
  have HD4 := hidW D4
  have HD5 := hidW D5
  have HD6 := hidW D6
  have HF := hidW (show c6 = wth (wth (wth (wth [102, 117, 110, 99] t) [40]) (wth L [41])) (wth x0 x1) from by rw [hc6, hc5, hc4, hc3, hc2, hc1]; simp only [wth_assoc])
  have HL := hidW (rleast_is 2 (W.alloc (.cells #[.int .i64 2, .string (bs t), .int .i64 a, .slice (some ⟨blk, off, none⟩) (m + 2) cap] 24)))
  have hLZ : leastZ 2 = 2 := rfl
  rw [hLZ] at HL
  have htx := HQ.out.text
  rw [hm2] at htx
  obtain ⟨q0, q1, q3⟩ := htx
  have HM := hidW (And.intro hi0 hi1)
  have f0 : (((m + 2 : Nat) : Int) < 2) = False := eq_false (by omega)
  have f1 : ((0 : Int) < ((m + 2 : Nat) : Int)) = True := eq_true (by omega)
  have hmln : m < 2 ^ 62 := by omega
  have hmc : m ≤ cap := by omega
  have hcm : ¬ (cap : Int) < (m : Int) := by omega
  have HAV := hidW hm2
  clear hr hk K hLZ hm htk hRT he0 he1 hg0 hg1 hx0 hx1 hLL hl1 hl2 hl3 hl4 hl5 D1 D2 D3 D4 D5 D6 hc1 hc2 hc3 hc4 hc5 hc6 hln hm2 hcap
  go_enter Try.func10, Try.ntmps10
  go_wp2_with fail
  refine HL.out.mono ?_
  clear HL
  rintro e V ⟨rfl, rfl⟩
  have l1 := fun d os => cell_regrown q1 d os
  have l3 := fun d os => cell_regrown q3 d os
  have G1 := hidW (HD1.out (W.alloc (.cells #[.int .i64 2, .string (bs t), .int .i64 a, .slice (some ⟨blk, off, none⟩) (m + 2) cap] 24)))
  have G2 := hidW (HD2.out (W.alloc (.cells #[.int .i64 2, .string (bs t), .int .i64 a, .slice (some ⟨blk, off, none⟩) (m + 2) cap] 24)))
  have G3 := hidW (HD3.out (W.alloc (.cells #[.int .i64 2, .string (bs t), .int .i64 a, .slice (some ⟨blk, off, none⟩) (m + 2) cap] 24)))
  have G4 := hidW (HD4.out (W.alloc (.cells #[.int .i64 2, .string (bs t), .int .i64 a, .slice (some ⟨blk, off, none⟩) (m + 2) cap] 24)))
  have GLL := hidW (GL.out _ HQ.out)
  clear HD1 HD2 HD3 HD4 GL
  go_wp2_with fail
  clear q0 q1 q3
  refine wp_region_quiet_below (by kernel_rfl) (by kernel_rfl) ?_
  repeat (go_big_quiet_step (fail))
  go_big_quiet_step (first | (go_at_call 23; exact G1.out _ _))
  repeat (go_big_quiet_step (fail))
  go_big_quiet_step (first | (go_at_call 23; exact G2.out _ _))
  repeat (go_big_quiet_step (fail))
  go_big_quiet_step (first | (go_at_call 24; exact GLL.out _ _ _))
  repeat (go_big_quiet_step (fail))
  go_big_quiet_step (first | (go_at_call 23; exact G3.out _ _))
  repeat (go_big_quiet_step (fail))
  go_big_quiet_step (first | (go_at_call 23; exact G4.out _ _))
  repeat (go_big_quiet_step (fail))
  refine wpQuiet_nil ?_
  intro w17 hw'
  have hb17 : Below (W.alloc (.cells #[.int .i64 2, .string (bs t), .int .i64 a, .slice (some ⟨blk, off, none⟩) (m + 2) cap] 24)).heap.size (W.alloc (.cells #[.int .i64 2, .string (bs t), .int .i64 a, .slice (some ⟨blk, off, none⟩) (m + 2) cap] 24)) w17 := by obtain ⟨⟨dq, osq⟩, hw''⟩ := hw'; rw [hw'']; exact below_regrown _ dq osq
  replace HQ := hidW (HQ.out.below hb17)
  clear hw' hb17 l1 l3
  have htx := HQ.out.text
  rw [HAV.out] at htx
  obtain ⟨q0, q1, q3⟩ := htx
  obtain ⟨kc0, kc1, kc2, kc3⟩ := HQ.out.row.kid HM.out.1 HE0.out
  obtain ⟨kd0, kd1, kd2, kd3⟩ := HQ.out.row.kid HM.out.2 HE1.out
  have l3 := fun d os => cell_regrown q3 d os
  have u0 := fun d os => cell_regrown kc0 d os
  have u1 := fun d os => cell_regrown kc1 d os
  have u2 := fun d os => cell_regrown kc2 d os
  have u3 := fun d os => cell_regrown kc3 d os
  have v0' := fun d os => cell_regrown kd0 d os
  have v1' := fun d os => cell_regrown kd1 d os
  have v2' := fun d os => cell_regrown kd2 d os
  have v3' := fun d os => cell_regrown kd3 d os
  have G5 := hidW (HD5.out w17)
  have G6 := hidW (HD6.out w17)
  have GA := hidW (GC0.out _ HQ.out)
  have GB := hidW (GC1.out _ HQ.out)
  have HB := hidW HQ.out.bel
  clear HD5 HD6 GC0 GC1
  go_wp2_with fail
  clear q0 q1 q3 kc0 kc1 kc2 kc3 kd0 kd1 kd2 kd3
  refine wp_region_quiet_below (by kernel_rfl) (by kernel_rfl) ?_
  repeat (go_big_quiet_step (fail))
  go_big_quiet_step (first | (go_at_call 10; exact GA.out _ _))
  repeat (go_big_quiet_step (fail))
  go_big_quiet_step (first | (go_at_call 23; exact G5.out _ _))
  repeat (go_big_quiet_step (fail))
  go_big_quiet_step (first | (go_at_call 10; exact GB.out _ _))
  repeat (go_big_quiet_step (fail))
  go_big_quiet_step (first | (go_at_call 23; exact G6.out _ _))
  repeat (go_big_quiet_step (fail))
  refine wpQuiet_nil ?_
  intro w18 hw'
  have hb18 : Below w17.heap.size w17 w18 := by obtain ⟨⟨dq, osq⟩, hw''⟩ := hw'; rw [hw'']; exact below_regrown _ dq osq
  have HB18 := hidW (bel_two HB.out hb18)
  clear hw' hb18 l3 u0 u1 u2 u3 v0' v1' v2' v3'
  go_wp2
  go_ret
  exact ⟨congrArg (fun x => Ending.returned (Value.string (bs x))) HF.out, HB18.out⟩

end Go.Proofs.Ytgndnodahlabiaa
