/-
  What the document answers of trees (layer 10): its Text, kinds 8, 9, 25, 12, 1.
-/
import Derived.Test.YtgndnodahlabiaaRfD
namespace Go.Proofs.Ytgndnodahlabiaa
open Go.ChangeShapes Go.WideShapes Go.ChangeAt Go.RowKit

theorem wcat_wrap (a b : List UInt8) (m : List (List UInt8)) : wcat ([a] ++ m ++ [b]) = wth (wth a (wcat m)) b := by rw [wcat_append, wcat_append, wcat_one, wcat_one]
theorem wcat_call (t a b : List UInt8) (m : List (List UInt8)) : wcat ([t, a] ++ m ++ [b]) = wth (wth t a) (wth (wcat m) b) := by rw [wcat_append, wcat_append, wcat_two, wcat_one, wth_assoc]
set_option maxRecDepth 100000 in
set_option maxHeartbeats 16000000 in
theorem rt_8 {z : Nat} {t : List UInt8} {ks : List Nv} (K : Rk z t ks) {D : Nat → Prop} {W : World} {a : Int} {av : Option Addr} {cap blk off : Nat} (hr : RowD D W av blk off ks) (hk : ∀ n, n ∈ ks → LiesD D W n) (hm : 1 ≤ ks.length) : RAns 8 t a av cap ks W := by
  have HQ := hidW (Rs.start (k := 8) (t := t) (a := a) (cap := cap) hr hk)
  have htl : t.length ≤ 2 ^ 40 := by have := K.ned; omega
  have HL := hidW (rleast_is 8 (W.alloc (.cells #[.int .i64 8, .string (bs t), .int .i64 a, .slice av ks.length cap] 24)))
  have hLZ : leastZ 8 = 1 := rfl
  rw [hLZ] at HL
  have f0 : ((ks.length : Int) < 1) = False := eq_false (by omega)
  have hL := K.lst [44] (by decide)
  have HC1 := hidW (HQ.out.list K [44] (by decide))
  have HF := hidW (show wth (wth [40] (lst [44] (txtL (ndL ks)))) [41] = wcat (rowP 8 t (txtL (ndL ks))) from by rw [rowP_8, wcat_wrap, lst_comma])
  unfold RAns
  rw [node_row (k := 8) (m := 1) rfl (by rw [kids_len]; exact hm) (by decide)]
  generalize lst [44] (txtL (ndL ks)) = L at *
  have hw := wth_len [40] L
  have D2 := fun (V : World) => with_is [40] L (by simp only [List.length_cons, List.length_nil]; omega) V
  have D3 := fun (V : World) => with_is (wth [40] L) [41] (by simp only [List.length_cons, List.length_nil] at *; omega) V
  have HD2 := hidW D2
  have HD3 := hidW D3
  obtain ⟨q0, q1, q3⟩ := HQ.out.text
  clear hr hk K hLZ hL hw D2 D3
  have f1 : ((0 : Int) < (ks.length : Int)) = True := eq_true (by omega)
  go_enter Try.func10, Try.ntmps10
  go_wp2_with fail
  refine HL.out.mono ?_
  clear HL
  rintro e V ⟨rfl, rfl⟩
  go_wp2_with fail
  refine HC1.out.mono ?_
  clear HC1
  rintro e V2 ⟨rfl, hb⟩
  have HB := hidW (bel_two HQ.out.bel hb)
  clear hb
  go_wp2_with fail
  refine (HD2.out V2).mono ?_
  clear HD2
  rintro e V3 ⟨rfl, rfl⟩
  go_wp2_with fail
  refine (HD3.out V3).mono ?_
  clear HD3
  rintro e V4 ⟨rfl, rfl⟩
  go_wp2
  go_ret
  exact ⟨congrArg (fun x => Ending.returned (Value.string (bs x))) HF.out, HB.out⟩

set_option maxRecDepth 100000 in
set_option maxHeartbeats 16000000 in
theorem rt_9 {z : Nat} {t : List UInt8} {ks : List Nv} (K : Rk z t ks) {D : Nat → Prop} {W : World} {a : Int} {av : Option Addr} {cap blk off : Nat} (hr : RowD D W av blk off ks) (hk : ∀ n, n ∈ ks → LiesD D W n) (hm : 0 ≤ ks.length) : RAns 9 t a av cap ks W := by
  have HQ := hidW (Rs.start (k := 9) (t := t) (a := a) (cap := cap) hr hk)
  have htl : t.length ≤ 2 ^ 40 := by have := K.ned; omega
  have HL := hidW (rleast_is 9 (W.alloc (.cells #[.int .i64 9, .string (bs t), .int .i64 a, .slice av ks.length cap] 24)))
  have hLZ : leastZ 9 = 0 := rfl
  rw [hLZ] at HL
  have f0 : ((ks.length : Int) < 0) = False := eq_false (by omega)
  have hL := K.lst [] (by decide)
  have HC1 := hidW (HQ.out.list K [] (by decide))
  have HF := hidW (show wth (wth [123] (lst [] (txtL (ndL ks)))) [125] = wcat (rowP 9 t (txtL (ndL ks))) from by rw [rowP_9, wcat_wrap, lst_none])
  unfold RAns
  rw [node_row (k := 9) (m := 0) rfl (by rw [kids_len]; exact hm) (by decide)]
  generalize lst [] (txtL (ndL ks)) = L at *
  have hw := wth_len [123] L
  have D2 := fun (V : World) => with_is [123] L (by simp only [List.length_cons, List.length_nil]; omega) V
  have D3 := fun (V : World) => with_is (wth [123] L) [125] (by simp only [List.length_cons, List.length_nil] at *; omega) V
  have HD2 := hidW D2
  have HD3 := hidW D3
  obtain ⟨q0, q1, q3⟩ := HQ.out.text
  clear hr hk K hLZ hL hw D2 D3
  by_cases h0 : 0 < ks.length
  · have f1 : ((0 : Int) < (ks.length : Int)) = True := eq_true (by omega)
    go_enter Try.func10, Try.ntmps10
    go_wp2_with fail
    refine HL.out.mono ?_
    clear HL
    rintro e V ⟨rfl, rfl⟩
    go_wp2_with fail
    refine HC1.out.mono ?_
    clear HC1
    rintro e V2 ⟨rfl, hb⟩
    have HB := hidW (bel_two HQ.out.bel hb)
    clear hb
    go_wp2_with fail
    refine (HD2.out V2).mono ?_
    clear HD2
    rintro e V3 ⟨rfl, rfl⟩
    go_wp2_with fail
    refine (HD3.out V3).mono ?_
    clear HD3
    rintro e V4 ⟨rfl, rfl⟩
    go_wp2
    go_ret
    exact ⟨congrArg (fun x => Ending.returned (Value.string (bs x))) HF.out, HB.out⟩
  · have f1 : ((0 : Int) < (ks.length : Int)) = False := eq_false (by omega)
    have fN : (0 < ks.length) = False := eq_false h0
    clear hm h0
    go_enter Try.func10, Try.ntmps10
    go_wp2_with fail
    refine HL.out.mono ?_
    clear HL
    rintro e V ⟨rfl, rfl⟩
    go_wp2_with fail
    refine HC1.out.mono ?_
    clear HC1
    rintro e V2 ⟨rfl, hb⟩
    have HB := hidW (bel_two HQ.out.bel hb)
    clear hb
    go_wp2_with fail
    refine (HD2.out V2).mono ?_
    clear HD2
    rintro e V3 ⟨rfl, rfl⟩
    go_wp2_with fail
    refine (HD3.out V3).mono ?_
    clear HD3
    rintro e V4 ⟨rfl, rfl⟩
    go_wp2
    go_ret
    exact ⟨congrArg (fun x => Ending.returned (Value.string (bs x))) HF.out, HB.out⟩

set_option maxRecDepth 100000 in
set_option maxHeartbeats 16000000 in
theorem rt_25 {z : Nat} {t : List UInt8} {ks : List Nv} (K : Rk z t ks) {D : Nat → Prop} {W : World} {a : Int} {av : Option Addr} {cap blk off : Nat} (hr : RowD D W av blk off ks) (hk : ∀ n, n ∈ ks → LiesD D W n) (hm : 0 ≤ ks.length) : RAns 25 t a av cap ks W := by
  have HQ := hidW (Rs.start (k := 25) (t := t) (a := a) (cap := cap) hr hk)
  have htl : t.length ≤ 2 ^ 40 := by have := K.ned; omega
  have HL := hidW (rleast_is 25 (W.alloc (.cells #[.int .i64 25, .string (bs t), .int .i64 a, .slice av ks.length cap] 24)))
  have hLZ : leastZ 25 = 0 := rfl
  rw [hLZ] at HL
  have f0 : ((ks.length : Int) < 0) = False := eq_false (by omega)
  have hL := K.lst [44] (by decide)
  have GL := hidW (fun (d : Nat) (os : Array Obj) => Calls.regrown_of ((HQ.out.below (below_regrown (W.alloc (.cells #[.int .i64 25, .string (bs t), .int .i64 a, .slice av ks.length cap] 24)) d os)).list K [44] (by decide)))
  have HF := hidW (show wth (wth t [40]) (wth (lst [44] (txtL (ndL ks))) [41]) = wcat (rowP 25 t (txtL (ndL ks))) from by rw [rowP_25, wcat_call, lst_comma])
  unfold RAns
  rw [node_row (k := 25) (m := 0) rfl (by rw [kids_len]; exact hm) (by decide)]
  generalize lst [44] (txtL (ndL ks)) = L at *
  have hw1 := wth_len t [40]
  have hw2 := wth_len L [41]
  simp only [List.length_cons, List.length_nil] at hw1 hw2
  obtain ⟨c1, hc1⟩ : ∃ c, c = wth t [40] := ⟨_, rfl⟩
  obtain ⟨c2, hc2⟩ : ∃ c, c = wth L [41] := ⟨_, rfl⟩
  rw [← hc1] at hw1
  rw [← hc2] at hw2
  have D1 := fun (d : Nat) (os : Array Obj) => with_quiet t [40] (by simp only [List.length_cons, List.length_nil]; omega) (W.alloc (.cells #[.int .i64 25, .string (bs t), .int .i64 a, .slice av ks.length cap] 24)) d os
  have D2 := fun (d : Nat) (os : Array Obj) => with_quiet L [41] (by simp only [List.length_cons, List.length_nil]; omega) (W.alloc (.cells #[.int .i64 25, .string (bs t), .int .i64 a, .slice av ks.length cap] 24)) d os
  have D3 := fun (d : Nat) (os : Array Obj) => with_quiet c1 c2 (by omega) (W.alloc (.cells #[.int .i64 25, .string (bs t), .int .i64 a, .slice av ks.length cap] 24)) d os
  rw [← hc1] at D1
  rw [← hc2] at D2
  have G1 := hidW D1
  have G2 := hidW D2
  have G3 := hidW D3
  have HF2 := hidW (show wth c1 c2 = wcat (rowP 25 t (txtL (ndL ks))) from by rw [hc1, hc2]; exact HF.out)
  obtain ⟨q0, q1, q3⟩ := HQ.out.text
  have l1 := fun d os => cell_regrown q1 d os
  have l3 := fun d os => cell_regrown q3 d os
  have HB := hidW HQ.out.bel
  clear hr hk K hLZ hL hw1 hw2 D1 D2 D3 hc1 hc2 HF
  by_cases h0 : 0 < ks.length
  · have f1 : ((0 : Int) < (ks.length : Int)) = True := eq_true (by omega)
    go_enter Try.func10, Try.ntmps10
    go_wp2_with fail
    refine HL.out.mono ?_
    clear HL
    rintro e V ⟨rfl, rfl⟩
    go_wp2_with fail
    clear q0 q1 q3
    refine wp_region_quiet_below (by kernel_rfl) (by kernel_rfl) ?_
    repeat (go_big_quiet_step (fail))
    go_big_quiet_step (first | (go_at_call 23; exact G1.out _ _))
    repeat (go_big_quiet_step (fail))
    go_big_quiet_step (first | (go_at_call 24; exact GL.out _ _))
    repeat (go_big_quiet_step (fail))
    go_big_quiet_step (first | (go_at_call 23; exact G2.out _ _))
    repeat (go_big_quiet_step (fail))
    go_big_quiet_step (first | (go_at_call 23; exact G3.out _ _))
    repeat (go_big_quiet_step (fail))
    refine wpQuiet_nil ?_
    intro w17 hw'
    have hb17 : Below (W.alloc (.cells #[.int .i64 25, .string (bs t), .int .i64 a, .slice av ks.length cap] 24)).heap.size (W.alloc (.cells #[.int .i64 25, .string (bs t), .int .i64 a, .slice av ks.length cap] 24)) w17 := by obtain ⟨⟨dq, osq⟩, hw''⟩ := hw'; rw [hw'']; exact below_regrown _ dq osq
    have HB17 := hidW (bel_two HB.out hb17)
    clear hw' hb17 l1 l3
    go_wp2
    go_ret
    exact ⟨congrArg (fun x => Ending.returned (Value.string (bs x))) HF2.out, HB17.out⟩
  · have f1 : ((0 : Int) < (ks.length : Int)) = False := eq_false (by omega)
    have fN : (0 < ks.length) = False := eq_false h0
    clear hm h0
    go_enter Try.func10, Try.ntmps10
    go_wp2_with fail
    refine HL.out.mono ?_
    clear HL
    rintro e V ⟨rfl, rfl⟩
    go_wp2_with fail
    clear q0 q1 q3
    refine wp_region_quiet_below (by kernel_rfl) (by kernel_rfl) ?_
    repeat (go_big_quiet_step (fail))
    go_big_quiet_step (first | (go_at_call 23; exact G1.out _ _))
    repeat (go_big_quiet_step (fail))
    go_big_quiet_step (first | (go_at_call 24; exact GL.out _ _))
    repeat (go_big_quiet_step (fail))
    go_big_quiet_step (first | (go_at_call 23; exact G2.out _ _))
    repeat (go_big_quiet_step (fail))
    go_big_quiet_step (first | (go_at_call 23; exact G3.out _ _))
    repeat (go_big_quiet_step (fail))
    refine wpQuiet_nil ?_
    intro w17 hw'
    have hb17 : Below (W.alloc (.cells #[.int .i64 25, .string (bs t), .int .i64 a, .slice av ks.length cap] 24)).heap.size (W.alloc (.cells #[.int .i64 25, .string (bs t), .int .i64 a, .slice av ks.length cap] 24)) w17 := by obtain ⟨⟨dq, osq⟩, hw''⟩ := hw'; rw [hw'']; exact below_regrown _ dq osq
    have HB17 := hidW (bel_two HB.out hb17)
    clear hw' hb17 l1 l3
    go_wp2
    go_ret
    exact ⟨congrArg (fun x => Ending.returned (Value.string (bs x))) HF2.out, HB17.out⟩

set_option maxRecDepth 100000 in
set_option maxHeartbeats 16000000 in
theorem rt_1 {z : Nat} {t : List UInt8} {ks : List Nv} (K : Rk z t ks) {D : Nat → Prop} {W : World} {a : Int} {av : Option Addr} {cap blk off : Nat} (hr : RowD D W av blk off ks) (hk : ∀ n, n ∈ ks → LiesD D W n) (hm : 0 ≤ ks.length) : RAns 1 t a av cap ks W := by
  have hT : ∀ j, (((txtL (ndL ks)).take j).flatMap fun s => s ++ [10]).length ≤ 2 ^ 40 := fun j => by
    have h1 := flat_tot ((txtL (ndL ks)).take j)
    have h2 := take_tot (txtL (ndL ks)) j
    have h3 := txtL_ned (ndL ks)
    have h4 := K.ned
    omega
  have HT := hidW hT
  have HLT := hidW (kids_len ks)
  have hN : nodeT 1 t (txtL (ndL ks)) = (txtL (ndL ks)).flatMap fun s => s ++ [10] := by
    unfold nodeT
    rw [show leastK 1 = some 0 by decide]
    simp
  have HQ := hidW (Rs.start (k := 1) (t := t) (a := a) (cap := cap) hr hk)
  have htl : t.length ≤ 2 ^ 40 := by have := K.ned; omega
  have HL := hidW (rleast_is 1 (W.alloc (.cells #[.int .i64 1, .string (bs t), .int .i64 a, .slice av ks.length cap] 24)))
  have hLZ : leastZ 1 = 0 := rfl
  rw [hLZ] at HL
  have f0 : ((ks.length : Int) < 0) = False := eq_false (by omega)
  unfold RAns
  rw [hN]
  obtain ⟨q0, q1, q3⟩ := HQ.out.text
  have HK := hidW K
  have hln := K.len
  have HAV := hidW hr.at_
  clear hr hk K hLZ hN hT
  have key : ∀ (f1 : ((0 : Int) < (ks.length : Int)) = True ∨ (((0 : Int) < (ks.length : Int)) = False ∧ (0 < ks.length) = False)), True := fun _ => trivial
  clear key
  generalize hl : txtL (ndL ks) = l at *
  have HLL := hidW hl
  clear hl
  by_cases h0 : 0 < ks.length
  · have f1 : ((0 : Int) < (ks.length : Int)) = True := eq_true (by omega)
    go_enter Try.func10, Try.ntmps10
    go_wp2_with fail
    refine HL.out.mono ?_
    clear HL
    rintro e V ⟨rfl, rfl⟩
    go_wp2_with fail
    clear q0 q1 q3
    go_loopw [6, 7] (fun s i wr => ∃ (j : Nat), i = .int .i64 (j : Int) ∧ s = .string (bs ((l.take j).flatMap fun s => s ++ [10])) ∧ j ≤ ks.length ∧ Hid (Rs D W 1 t a av cap blk off ks wr)) (fun _ i _ => ks.length - (intOf i).toNat)
    case atStart => exact ⟨0, rfl, by rw [List.take_zero]; rfl, Nat.zero_le _, HQ.out⟩
    case round =>
      obtain ⟨j, rfl, rfl, hj, hR⟩ := hrel
      obtain ⟨q0, q1, q3⟩ := hR.out.text
      have hc := HT.out j
      by_cases h1 : j < ks.length
      · have e1 : ((j : Int) < (ks.length : Int)) = True := eq_true (by omega)
        obtain ⟨x, hx⟩ : ∃ x, ks[j]'h1 = x := ⟨_, rfl⟩
        have htx : l.getD j [] = txt x.nd := by rw [← HLL.out]; exact txt_at h1 hx
        have hxl := HK.out.len_kid h1 hx
        have hC := hidW (hR.out.call HK.out h1 hx)
        have hST : (l.take (j + 1)).flatMap (fun s => s ++ [10]) = ((l.take j).flatMap fun s => s ++ [10]) ++ txt x.nd ++ [10] := by
          have hjl : j < l.length := by have := HLT.out; omega
          rw [List.take_add_one, List.getElem?_eq_getElem hjl, List.flatMap_append]
          rw [List.getD_eq_getElem?_getD, List.getElem?_eq_getElem hjl] at htx
          simp only [Option.getD_some] at htx
          rw [htx]
          simp
        obtain rfl := HAV.out (by omega)
        obtain ⟨xk, xt, xa, xav, xcap, xblk, xoff, xks⟩ := x
        obtain ⟨k0, k1, k2, k3⟩ := hR.out.row.kid h1 hx
        generalize txt (Nv.mk xk xt xa xav xcap xblk xoff xks).nd = tx at *
        generalize ((l.take j).flatMap fun s => s ++ [10]) = c at *
        have hs1 : ¬ 9223372036854775807 < (bs c).size + (bs tx).size := by rw [bs_size, bs_size]; omega
        have hs2 : ¬ 9223372036854775807 < (bs c ++ bs tx).size + 1 := by rw [← bs_app, bs_size, List.length_append]; omega
        have hs3 : ¬ 9223372036854775807 < (bs c).size + (bs tx).size + 1 := by rw [bs_size, bs_size]; omega
        have HE := hidW (show bs c ++ bs tx ++ bs [10] = bs ((l.take (j + 1)).flatMap fun s => s ++ [10]) from by rw [hST, bs_app, bs_app])
        have HX := hidW hR.out
        clear hx htx hST hR hxl hc
        go_wp2_with fail
        refine hC.out.mono ?_; clear hC; rintro e W4 ⟨rfl, hb4⟩
        have HY := hidW (HX.out.below hb4)
        clear hb4
        go_wp2_with fail
        go_roundw
        case rel => exact ⟨j + 1, by go_num, congrArg Value.string HE.out, by omega, HY.out⟩
        case measure => simp [intOf]; omega
      · have e1 : ((j : Int) < (ks.length : Int)) = False := eq_false (by omega)
        have hE : (l.take j).flatMap (fun s => s ++ [10]) = l.flatMap (fun s => s ++ [10]) := by rw [List.take_of_length_le (by have := HLT.out; omega)]
        have HE := hidW hE
        have HB := hidW hR.out.bel
        clear hE hR hc
        go_wp2
        go_ret
        exact ⟨by rw [← HE.out]; rfl, HB.out⟩
  · have f1 : ((0 : Int) < (ks.length : Int)) = False := eq_false (by omega)
    have fN : (0 < ks.length) = False := eq_false h0
    clear hm h0
    go_enter Try.func10, Try.ntmps10
    go_wp2_with fail
    refine HL.out.mono ?_
    clear HL
    rintro e V ⟨rfl, rfl⟩
    go_wp2_with fail
    clear q0 q1 q3
    go_loopw [6, 7] (fun s i wr => ∃ (j : Nat), i = .int .i64 (j : Int) ∧ s = .string (bs ((l.take j).flatMap fun s => s ++ [10])) ∧ j ≤ ks.length ∧ Hid (Rs D W 1 t a av cap blk off ks wr)) (fun _ i _ => ks.length - (intOf i).toNat)
    case atStart => exact ⟨0, rfl, by rw [List.take_zero]; rfl, Nat.zero_le _, HQ.out⟩
    case round =>
      obtain ⟨j, rfl, rfl, hj, hR⟩ := hrel
      obtain ⟨q0, q1, q3⟩ := hR.out.text
      have hc := HT.out j
      by_cases h1 : j < ks.length
      · have e1 : ((j : Int) < (ks.length : Int)) = True := eq_true (by omega)
        obtain ⟨x, hx⟩ : ∃ x, ks[j]'h1 = x := ⟨_, rfl⟩
        have htx : l.getD j [] = txt x.nd := by rw [← HLL.out]; exact txt_at h1 hx
        have hxl := HK.out.len_kid h1 hx
        have hC := hidW (hR.out.call HK.out h1 hx)
        have hST : (l.take (j + 1)).flatMap (fun s => s ++ [10]) = ((l.take j).flatMap fun s => s ++ [10]) ++ txt x.nd ++ [10] := by
          have hjl : j < l.length := by have := HLT.out; omega
          rw [List.take_add_one, List.getElem?_eq_getElem hjl, List.flatMap_append]
          rw [List.getD_eq_getElem?_getD, List.getElem?_eq_getElem hjl] at htx
          simp only [Option.getD_some] at htx
          rw [htx]
          simp
        obtain rfl := HAV.out (by omega)
        obtain ⟨xk, xt, xa, xav, xcap, xblk, xoff, xks⟩ := x
        obtain ⟨k0, k1, k2, k3⟩ := hR.out.row.kid h1 hx
        generalize txt (Nv.mk xk xt xa xav xcap xblk xoff xks).nd = tx at *
        generalize ((l.take j).flatMap fun s => s ++ [10]) = c at *
        have hs1 : ¬ 9223372036854775807 < (bs c).size + (bs tx).size := by rw [bs_size, bs_size]; omega
        have hs2 : ¬ 9223372036854775807 < (bs c ++ bs tx).size + 1 := by rw [← bs_app, bs_size, List.length_append]; omega
        have hs3 : ¬ 9223372036854775807 < (bs c).size + (bs tx).size + 1 := by rw [bs_size, bs_size]; omega
        have HE := hidW (show bs c ++ bs tx ++ bs [10] = bs ((l.take (j + 1)).flatMap fun s => s ++ [10]) from by rw [hST, bs_app, bs_app])
        have HX := hidW hR.out
        clear hx htx hST hR hxl hc
        go_wp2_with fail
        refine hC.out.mono ?_; clear hC; rintro e W4 ⟨rfl, hb4⟩
        have HY := hidW (HX.out.below hb4)
        clear hb4
        go_wp2_with fail
        go_roundw
        case rel => exact ⟨j + 1, by go_num, congrArg Value.string HE.out, by omega, HY.out⟩
        case measure => simp [intOf]; omega
      · have e1 : ((j : Int) < (ks.length : Int)) = False := eq_false (by omega)
        have hE : (l.take j).flatMap (fun s => s ++ [10]) = l.flatMap (fun s => s ++ [10]) := by rw [List.take_of_length_le (by have := HLT.out; omega)]
        have HE := hidW hE
        have HB := hidW hR.out.bel
        clear hE hR hc
        go_wp2
        go_ret
        exact ⟨by rw [← HE.out]; rfl, HB.out⟩

set_option maxRecDepth 100000 in
set_option maxHeartbeats 16000000 in
theorem rt_12 {z : Nat} {t : List UInt8} {ks : List Nv} (K : Rk z t ks) {D : Nat → Prop} {W : World} {a : Int} {av : Option Addr} {cap blk off : Nat} (hr : RowD D W av blk off ks) (hk : ∀ n, n ∈ ks → LiesD D W n) (hm : 2 ≤ ks.length) : RAns 12 t a av cap ks W := by
  by_cases hi2 : 2 < ks.length
  · have hi0 : 0 < ks.length := by omega
    obtain ⟨n0, he0⟩ : ∃ n, ks[0]'hi0 = n := ⟨_, rfl⟩
    have hg0 := txt_at hi0 he0
    have hx0 := K.len_kid hi0 he0
    have hi1 : 1 < ks.length := by omega
    obtain ⟨n1, he1⟩ : ∃ n, ks[1]'hi1 = n := ⟨_, rfl⟩
    have hg1 := txt_at hi1 he1
    have hx1 := K.len_kid hi1 he1
    obtain ⟨n2, he2⟩ : ∃ n, ks[2]'hi2 = n := ⟨_, rfl⟩
    have hg2 := txt_at hi2 he2
    have hx2 := K.len_kid hi2 he2
    obtain rfl := hr.at_ hi0
    have HQ := hidW (Rs.start (k := 12) (t := t) (a := a) (cap := cap) hr hk)
    have htl : t.length ≤ 2 ^ 40 := by have := K.ned; omega
    have HL := hidW (rleast_is 12 (W.alloc (.cells #[.int .i64 12, .string (bs t), .int .i64 a, .slice (some ⟨blk, off, none⟩) ks.length cap] 24)))
    have hLZ : leastZ 12 = 2 := rfl
    rw [hLZ] at HL
    have f0 : ((ks.length : Int) < 2) = False := eq_false (by omega)
    obtain ⟨k0, t0, a0, v0, c0_, b0, o0, s0⟩ := n0
    have HE0 := hidW he0
    have C0 := hidW (fun (V : World) (h : Rs D W 12 t a (some ⟨blk, off, none⟩) cap blk off ks V) => h.call K hi0 he0)
    generalize txt (Nv.mk k0 t0 a0 v0 c0_ b0 o0 s0).nd = x0 at *
    obtain ⟨k1, t1, a1, v1, c1_, b1, o1, s1⟩ := n1
    have HE1 := hidW he1
    have C1 := hidW (fun (V : World) (h : Rs D W 12 t a (some ⟨blk, off, none⟩) cap blk off ks V) => h.call K hi1 he1)
    generalize txt (Nv.mk k1 t1 a1 v1 c1_ b1 o1 s1).nd = x1 at *
    obtain ⟨k2, t2, a2, v2, c2_, b2, o2, s2⟩ := n2
    have HE2 := hidW he2
    have C2 := hidW (fun (V : World) (h : Rs D W 12 t a (some ⟨blk, off, none⟩) cap blk off ks V) (d : Nat) (os : Array Obj) => Calls.regrown_of ((h.below (below_regrown V d os)).call K hi2 he2))
    generalize txt (Nv.mk k2 t2 a2 v2 c2_ b2 o2 s2).nd = x2 at *
    obtain ⟨c1, hc1⟩ : ∃ c, c = wth [105, 102] x0 := ⟨_, rfl⟩
    have hl1 : c1.length ≤ 4 * 2 ^ 40 := by rw [hc1]; have := wth_len [105, 102] x0; simp only [List.length_cons, List.length_nil] at *; omega
    obtain ⟨c2, hc2⟩ : ∃ c, c = wth c1 x1 := ⟨_, rfl⟩
    have hl2 : c2.length ≤ 16 * 2 ^ 40 := by rw [hc2]; have := wth_len c1 x1; omega
    have D1 := fun (V : World) => with_is [105, 102] x0 (by simp only [List.length_cons, List.length_nil]; omega) V
    have D2 := fun (V : World) => with_is c1 x1 (by omega) V
    rw [← hc1] at D1
    rw [← hc2] at D2
    have HD1 := hidW D1
    have HD2 := hidW D2
    obtain ⟨c3, hc3⟩ : ∃ c, c = wth c2 [101, 108, 115, 101] := ⟨_, rfl⟩
    have hl3 : c3.length ≤ 64 * 2 ^ 40 := by rw [hc3]; have := wth_len c2 [101, 108, 115, 101]; simp only [List.length_cons, List.length_nil] at *; omega
    obtain ⟨c4, hc4⟩ : ∃ c, c = wth c3 x2 := ⟨_, rfl⟩
    have D3 := fun (V : World) (d : Nat) (os : Array Obj) => with_quiet c2 [101, 108, 115, 101] (by simp only [List.length_cons, List.length_nil]; omega) V d os
    have D4 := fun (V : World) (d : Nat) (os : Array Obj) => with_quiet c3 x2 (by omega) V d os
    rw [← hc3] at D3
    rw [← hc4] at D4
    have HD3 := hidW D3
    have HD4 := hidW D4
    have HF := hidW (show c4 = wcat (rowP 12 t (txtL (ndL ks))) from by rw [rowP_12, if_pos (by rw [kids_len]; exact hi2), hg0, hg1, hg2, hc4, hc3, hc2, hc1]; show _ = wcat [_, _, _, _, _]; rw [wcat_five]; simp only [wth_assoc])
    have f3 : ((2 : Int) < (ks.length : Int)) = True := eq_true (by omega)
    have f1 : ((0 : Int) < (ks.length : Int)) = True := eq_true (by omega)
    have f2 : ((1 : Int) < (ks.length : Int)) = True := eq_true (by omega)
    unfold RAns
    rw [node_row (k := 12) (m := 2) rfl (by rw [kids_len]; exact hm) (by decide)]
    obtain ⟨q0, q1, q3⟩ := HQ.out.text
    clear hr hk K hLZ he0 he1 hg0 hg1 hx0 hx1 hl1 hl2 D1 D2 hc1 hc2 he2 hg2 hx2 hl3 D3 D4 hc3 hc4
    go_enter Try.func10, Try.ntmps10
    go_wp2_with fail
    refine HL.out.mono ?_
    clear HL
    rintro e V ⟨rfl, rfl⟩
    obtain ⟨kc0, kc1, kc2, kc3⟩ := HQ.out.kid0 hi0 HE0.out
    have HC := hidW (C0.out _ HQ.out)
    go_wp2_with fail
    refine HC.out.mono ?_
    clear HC kc0 kc1 kc2 kc3 q0 q1 q3
    rintro e V0 ⟨rfl, hb⟩
    replace HQ := hidW (HQ.out.below hb)
    clear hb
    obtain ⟨q0, q1, q3⟩ := HQ.out.text
    obtain ⟨kc0, kc1, kc2, kc3⟩ := HQ.out.kid1 hi1 HE1.out
    have HC := hidW (C1.out _ HQ.out)
    go_wp2_with fail
    refine HC.out.mono ?_
    clear HC kc0 kc1 kc2 kc3 q0 q1 q3
    rintro e V1 ⟨rfl, hb⟩
    replace HQ := hidW (HQ.out.below hb)
    clear hb
    obtain ⟨q0, q1, q3⟩ := HQ.out.text
    have HC := hidW (HD1.out V1)
    go_wp2_with fail
    refine HC.out.mono ?_
    clear HC HD1
    rintro e V ⟨rfl, rfl⟩
    have HC := hidW (HD2.out V)
    go_wp2_with fail
    refine HC.out.mono ?_
    clear HC HD2
    rintro e V ⟨rfl, rfl⟩
    obtain ⟨kc0, kc1, kc2, kc3⟩ := HQ.out.kid2 hi2 HE2.out
    have l0 := fun d os => cell_regrown kc0 d os
    have l1 := fun d os => cell_regrown kc1 d os
    have l2 := fun d os => cell_regrown kc2 d os
    have l4 := fun d os => cell_regrown kc3 d os
    have l3 := fun d os => cell_regrown q3 d os
    have G3 := hidW (HD3.out V)
    have G4 := hidW (HD4.out V)
    have GC := hidW (C2.out V HQ.out)
    have HB := hidW HQ.out.bel
    clear HD3 HD4 C2
    go_wp2_with fail
    clear q0 q1 q3 kc0 kc1 kc2 kc3
    refine wp_region_quiet_below (by kernel_rfl) (by kernel_rfl) ?_
    repeat (go_big_quiet_step (fail))
    go_big_quiet_step (first | (go_at_call 23; exact G3.out _ _))
    repeat (go_big_quiet_step (fail))
    go_big_quiet_step (first | (go_at_call 10; exact GC.out _ _))
    repeat (go_big_quiet_step (fail))
    go_big_quiet_step (first | (go_at_call 23; exact G4.out _ _))
    repeat (go_big_quiet_step (fail))
    refine wpQuiet_nil ?_
    intro w17 hw'
    have hb17 : Below V.heap.size V w17 := by obtain ⟨⟨dq, osq⟩, hw''⟩ := hw'; rw [hw'']; exact below_regrown _ dq osq
    have HB17 := hidW (bel_two HB.out hb17)
    clear hw' hb17 l0 l1 l2 l3 l4
    go_wp2
    go_ret
    exact ⟨congrArg (fun x => Ending.returned (Value.string (bs x))) HF.out, HB17.out⟩
  · have hi0 : 0 < ks.length := by omega
    obtain ⟨n0, he0⟩ : ∃ n, ks[0]'hi0 = n := ⟨_, rfl⟩
    have hg0 := txt_at hi0 he0
    have hx0 := K.len_kid hi0 he0
    have hi1 : 1 < ks.length := by omega
    obtain ⟨n1, he1⟩ : ∃ n, ks[1]'hi1 = n := ⟨_, rfl⟩
    have hg1 := txt_at hi1 he1
    have hx1 := K.len_kid hi1 he1
    obtain rfl := hr.at_ hi0
    have HQ := hidW (Rs.start (k := 12) (t := t) (a := a) (cap := cap) hr hk)
    have htl : t.length ≤ 2 ^ 40 := by have := K.ned; omega
    have HL := hidW (rleast_is 12 (W.alloc (.cells #[.int .i64 12, .string (bs t), .int .i64 a, .slice (some ⟨blk, off, none⟩) ks.length cap] 24)))
    have hLZ : leastZ 12 = 2 := rfl
    rw [hLZ] at HL
    have f0 : ((ks.length : Int) < 2) = False := eq_false (by omega)
    obtain ⟨k0, t0, a0, v0, c0_, b0, o0, s0⟩ := n0
    have HE0 := hidW he0
    have C0 := hidW (fun (V : World) (h : Rs D W 12 t a (some ⟨blk, off, none⟩) cap blk off ks V) => h.call K hi0 he0)
    generalize txt (Nv.mk k0 t0 a0 v0 c0_ b0 o0 s0).nd = x0 at *
    obtain ⟨k1, t1, a1, v1, c1_, b1, o1, s1⟩ := n1
    have HE1 := hidW he1
    have C1 := hidW (fun (V : World) (h : Rs D W 12 t a (some ⟨blk, off, none⟩) cap blk off ks V) => h.call K hi1 he1)
    generalize txt (Nv.mk k1 t1 a1 v1 c1_ b1 o1 s1).nd = x1 at *
    obtain ⟨c1, hc1⟩ : ∃ c, c = wth [105, 102] x0 := ⟨_, rfl⟩
    have hl1 : c1.length ≤ 4 * 2 ^ 40 := by rw [hc1]; have := wth_len [105, 102] x0; simp only [List.length_cons, List.length_nil] at *; omega
    obtain ⟨c2, hc2⟩ : ∃ c, c = wth c1 x1 := ⟨_, rfl⟩
    have hl2 : c2.length ≤ 16 * 2 ^ 40 := by rw [hc2]; have := wth_len c1 x1; omega
    have D1 := fun (V : World) => with_is [105, 102] x0 (by simp only [List.length_cons, List.length_nil]; omega) V
    have D2 := fun (V : World) => with_is c1 x1 (by omega) V
    rw [← hc1] at D1
    rw [← hc2] at D2
    have HD1 := hidW D1
    have HD2 := hidW D2
    have HF := hidW (show c2 = wcat (rowP 12 t (txtL (ndL ks))) from by rw [rowP_12, if_neg (by rw [kids_len]; exact hi2), hg0, hg1, hc2, hc1, List.append_nil, wcat_three, wth_assoc])
    have f3 : ((2 : Int) < (ks.length : Int)) = False := eq_false (by omega)
    have f1 : ((0 : Int) < (ks.length : Int)) = True := eq_true (by omega)
    have f2 : ((1 : Int) < (ks.length : Int)) = True := eq_true (by omega)
    unfold RAns
    rw [node_row (k := 12) (m := 2) rfl (by rw [kids_len]; exact hm) (by decide)]
    obtain ⟨q0, q1, q3⟩ := HQ.out.text
    clear hr hk K hLZ he0 he1 hg0 hg1 hx0 hx1 hl1 hl2 D1 D2 hc1 hc2 hi2
    go_enter Try.func10, Try.ntmps10
    go_wp2_with fail
    refine HL.out.mono ?_
    clear HL
    rintro e V ⟨rfl, rfl⟩
    obtain ⟨kc0, kc1, kc2, kc3⟩ := HQ.out.kid0 hi0 HE0.out
    have HC := hidW (C0.out _ HQ.out)
    go_wp2_with fail
    refine HC.out.mono ?_
    clear HC kc0 kc1 kc2 kc3 q0 q1 q3
    rintro e V0 ⟨rfl, hb⟩
    replace HQ := hidW (HQ.out.below hb)
    clear hb
    obtain ⟨q0, q1, q3⟩ := HQ.out.text
    obtain ⟨kc0, kc1, kc2, kc3⟩ := HQ.out.kid1 hi1 HE1.out
    have HC := hidW (C1.out _ HQ.out)
    go_wp2_with fail
    refine HC.out.mono ?_
    clear HC kc0 kc1 kc2 kc3 q0 q1 q3
    rintro e V1 ⟨rfl, hb⟩
    replace HQ := hidW (HQ.out.below hb)
    clear hb
    obtain ⟨q0, q1, q3⟩ := HQ.out.text
    have HC := hidW (HD1.out V1)
    go_wp2_with fail
    refine HC.out.mono ?_
    clear HC HD1
    rintro e V ⟨rfl, rfl⟩
    have HC := hidW (HD2.out V)
    go_wp2_with fail
    refine HC.out.mono ?_
    clear HC HD2
    rintro e V ⟨rfl, rfl⟩
    go_wp2
    go_ret
    exact ⟨congrArg (fun x => Ending.returned (Value.string (bs x))) HF.out, HQ.out.bel⟩

end Go.Proofs.Ytgndnodahlabiaa
