/-
  What the document answers of trees (layer 10): Same and Word: the contracts.
-/
import Derived.Test.YtgndnodahlabiaaRfA
import Derived.Lib.QuietBelow
namespace Go.Proofs.Ytgndnodahlabiaa
open Go.ChangeShapes Go.WideShapes Go.ChangeAt Go.RowKit

theorem word_at : ∀ j, j < 10 → (#[Value.string ⟨#[102, 117, 110, 99]⟩, .string ⟨#[118, 97, 114]⟩, .string ⟨#[105, 102]⟩, .string ⟨#[101, 108, 115, 101]⟩, .string ⟨#[102, 111, 114]⟩, .string ⟨#[114, 101, 116, 117, 114, 110]⟩, .string ⟨#[112, 114, 105, 110, 116]⟩, .string ⟨#[110, 101, 119]⟩, .string ⟨#[114, 101, 97, 100]⟩, .string ⟨#[105, 110, 116]⟩] : Array Value)[j]? = some (.string (bs (wordsL.getD j [])))
  | 0, _ | 1, _ | 2, _ | 3, _ | 4, _ | 5, _ | 6, _ | 7, _ | 8, _ | 9, _ => rfl
  | n + 10, h => absurd h (by omega)
theorem words_take (j : Nat) (hj : j < 10) (q : List UInt8) (h : q ∈ wordsL.take (j + 1)) : q ∈ wordsL.take j ∨ q = wordsL.getD j [] := by
  have hl : j < wordsL.length := hj
  rw [List.take_add_one, List.getElem?_eq_getElem hl] at h
  rcases List.mem_append.1 h with h | h
  · exact .inl h
  · right
    rw [List.getD_eq_getElem?_getD, List.getElem?_eq_getElem hl]
    simpa using h

set_option maxRecDepth 100000 in
set_option maxHeartbeats 4000000 in
theorem rword_is (t : List UInt8) (W : World) : Calls Try.prog 16 #[.string (bs t)] W fun e W' => e = .returned (.bool (wordB t)) ∧ Below W.heap.size W W' := by
  have hk := World.alloc_heap_new W (.cells #[.string ⟨#[102, 117, 110, 99]⟩, .string ⟨#[118, 97, 114]⟩, .string ⟨#[105, 102]⟩, .string ⟨#[101, 108, 115, 101]⟩, .string ⟨#[102, 111, 114]⟩, .string ⟨#[114, 101, 116, 117, 114, 110]⟩, .string ⟨#[112, 114, 105, 110, 116]⟩, .string ⟨#[110, 101, 119]⟩, .string ⟨#[114, 101, 97, 100]⟩, .string ⟨#[105, 110, 116]⟩] 9)
  have hc := fun j (hj : j < 10) => (cell_of hk j).trans (word_at j hj)
  have HC := hidW hc
  have HB := hidW (bel_new W (.cells #[.string ⟨#[102, 117, 110, 99]⟩, .string ⟨#[118, 97, 114]⟩, .string ⟨#[105, 102]⟩, .string ⟨#[101, 108, 115, 101]⟩, .string ⟨#[102, 111, 114]⟩, .string ⟨#[114, 101, 116, 117, 114, 110]⟩, .string ⟨#[112, 114, 105, 110, 116]⟩, .string ⟨#[110, 101, 119]⟩, .string ⟨#[114, 101, 97, 100]⟩, .string ⟨#[105, 110, 116]⟩] 9))
  have et := bs_toList t
  have hw : ∀ j, (bs (wordsL.getD j [])).toList = wordsL.getD j [] := fun j => bs_toList _
  clear hk hc
  go_enter Try.func16, Try.ntmps16
  go_wp2_with fail
  go_loopw [4] (fun i wr => ∃ (j : Nat), i = .int .i64 (j : Int) ∧ j ≤ 10 ∧ Hid (∀ q, q ∈ wordsL.take j → q ≠ t) ∧ wr = W.alloc (.cells #[.string ⟨#[102, 117, 110, 99]⟩, .string ⟨#[118, 97, 114]⟩, .string ⟨#[105, 102]⟩, .string ⟨#[101, 108, 115, 101]⟩, .string ⟨#[102, 111, 114]⟩, .string ⟨#[114, 101, 116, 117, 114, 110]⟩, .string ⟨#[112, 114, 105, 110, 116]⟩, .string ⟨#[110, 101, 119]⟩, .string ⟨#[114, 101, 97, 100]⟩, .string ⟨#[105, 110, 116]⟩] 9)) (fun i _ => 10 - (intOf i).toNat)
  case atStart => exact ⟨0, rfl, Nat.zero_le _, fun q hq => by simp at hq, rfl⟩
  case round =>
    obtain ⟨j, rfl, hj, hN, rfl⟩ := hrel
    by_cases h1 : j < 10
    · have e1 : ((j : Int) < 10) = True := eq_true (by omega)
      have cj := HC.out j h1
      have hwj := hw j
      have HT := hidW (words_take j h1)
      have HM := hidW (show wordsL.getD j [] ∈ wordsL from by
        rw [List.getD_eq_getElem?_getD, List.getElem?_eq_getElem (show j < wordsL.length from h1)]; exact List.getElem_mem _)
      generalize wordsL.getD j [] = q at *
      by_cases hq : q = t
      · have e2 : (q == t) = true := by simp [hq]
        have hB : wordB t = true := by unfold wordB; rw [← hq]; exact decide_eq_true HM.out
        have HBB := hidW hB
        clear hq hB
        go_wp2
        go_ret
        exact ⟨by rw [HBB.out]; rfl, HB.out⟩
      · have e2 : (q == t) = false := by simp [hq]
        have HQ := hidW hq
        clear hq
        go_wp2
        go_roundw
        case rel => exact ⟨j + 1, by go_num, by omega, fun p hp => by
          rcases HT.out p hp with h | h
          · exact hN.out p h
          · rw [h]; exact HQ.out, (by first | rfl | trivial)⟩
        case measure => simp [intOf]; omega
    · have e1 : ((j : Int) < 10) = False := by simp; omega
      have hB : wordB t = false := by
        unfold wordB
        refine decide_eq_false fun hm => ?_
        have h10 : j = 10 := by omega
        subst h10
        exact hN.out t (by rw [List.take_of_length_le (by decide)]; exact hm) rfl
      have HBB := hidW hB
      clear hB hN
      go_wp2
      go_ret
      exact ⟨by rw [HBB.out]; rfl, HB.out⟩

def RSameTo (z : Nat) : Prop := ∀ (n : Nv), n.nd.sz ≤ z → ∀ (m : Nv) (W : World) (D : Nat → Prop), LiesD D W n → LiesD D W m → n.nd.bnd → m.nd.bnd →
    Calls Try.prog 14 #[n.val, m.val] W fun e W' => e = .returned (.bool (sameB n.nd m.nd)) ∧ Below W.heap.size W W'
set_option maxRecDepth 100000 in
set_option maxHeartbeats 8000000 in
theorem rsame_to : ∀ z, RSameTo z := by
  intro z
  induction z with
  | zero => intro n h; cases n; rw [Nv.nd, Nd.sz] at h; omega
  | succ z ih =>
    intro n hz m W D hl1 hl2 hb1 hb2
    obtain ⟨k, t, a, av, cap, blk, off, ks⟩ := n
    obtain ⟨k', t', a', bv, cap2, blk2, off2, ms⟩ := m
    obtain ⟨hr1, hk1⟩ := hl1.parts
    obtain ⟨hr2, hk2⟩ := hl2.parts
    have hln := bnd_len hb1
    have hlm := bnd_len hb2
    rw [Nv.nd, Nd.sz] at hz
    rw [Nv.nd, Nv.nd, sameB]
    show Calls Try.prog 14 #[.agg #[.int .i64 k, .string (bs t), .int .i64 a, .slice av ks.length cap], .agg #[.int .i64 k', .string (bs t'), .int .i64 a', .slice bv ms.length cap2]] W _
    have hbw := bel_two (bel_new W (.cells #[.int .i64 k, .string (bs t), .int .i64 a, .slice av ks.length cap] 24)) (bel_new (W.alloc (.cells #[.int .i64 k, .string (bs t), .int .i64 a, .slice av ks.length cap] 24)) (.cells #[.int .i64 k', .string (bs t'), .int .i64 a', .slice bv ms.length cap2] 24))
    have hA := (bel_new (W.alloc (.cells #[.int .i64 k, .string (bs t), .int .i64 a, .slice av ks.length cap] 24)) (.cells #[.int .i64 k', .string (bs t'), .int .i64 a', .slice bv ms.length cap2] 24)).block _ (lt_of (World.alloc_heap_new W (.cells #[.int .i64 k, .string (bs t), .int .i64 a, .slice av ks.length cap] 24)))
    rw [World.alloc_heap_new W] at hA
    have hB := World.alloc_heap_new (W.alloc (.cells #[.int .i64 k, .string (bs t), .int .i64 a, .slice av ks.length cap] 24)) (.cells #[.int .i64 k', .string (bs t'), .int .i64 a', .slice bv ms.length cap2] 24)
    rw [World.size_alloc] at hB
    have H0 := hidW (And.intro hr1 (And.intro hr2 (And.intro hk1 hk2)))
    have HBB := hidW (And.intro (fun n hn => bnd_kid hb1 (n := n) hn) (fun n hn => bnd_kid hb2 (n := n) hn))
    have HAB := hidW (And.intro hA hB)
    have HB := hidW hbw
    have IH := hidW ih
    have HZ := hidW hz
    have x0 := cell_of hA 0
    have x1 := cell_of hA 1
    have x3 := cell_of hA 3
    have y0 := cell_of hB 0
    have y1 := cell_of hB 1
    have y3 := cell_of hB 3
    simp only [List.getElem?_toArray, List.getElem?_cons_zero, List.getElem?_cons_succ] at x0 x1 x3 y0 y1 y3
    clear hl1 hl2 hr1 hr2 hk1 hk2 hb1 hb2 ih hbw hA hB hz
    by_cases hk : k = k'
    · have e1 : (k != k') = false := by simp [hk]
      have d1 : decide (k = k') = true := by simp [hk]
      rw [d1, Bool.true_and]
      clear d1
      by_cases ht : t = t'
      · have e2 : ((bs t).toList == (bs t').toList) = true := by rw [bs_toList, bs_toList]; simp [ht]
        have d2 : decide (t = t') = true := by simp [ht]
        rw [d2, Bool.true_and]
        clear d2
        by_cases hne : ks.length = ms.length
        · have e3 : ((ks.length : Int) != (ms.length : Int)) = false := by simp [hne]
          have HNE := hidW hne
          clear hne hk ht
          generalize hRR : sameL (ndL ks) (ndL ms) = R
          have HRR := hidW hRR
          clear hRR
          generalize hn0 : ks.length = n0 at *
          generalize hm0 : ms.length = m0 at *
          have HN0 := hidW (And.intro hn0 hm0)
          clear hn0 hm0
          go_enter Try.func14, Try.ntmps14
          go_wp2_with fail
          clear x0 x1 y0 y1 x3 y3
          generalize hW2 : (W.alloc (.cells #[.int .i64 k, .string (bs t), .int .i64 a, .slice av n0 cap] 24)).alloc (.cells #[.int .i64 k', .string (bs t'), .int .i64 a', .slice bv m0 cap2] 24) = W2 at *
          clear hW2
          go_loopw [5] (fun i wr => ∃ (j : Nat), i = .int .i64 (j : Int) ∧ j ≤ n0 ∧ Hid (sameL (ndL (ks.drop j)) (ndL (ms.drop j)) = R) ∧ Below W2.heap.size W2 wr) (fun i _ => n0 - (intOf i).toNat)
          case atStart => exact ⟨0, rfl, Nat.zero_le _, HRR.out, Below.refl _ _⟩
          case round =>
            obtain ⟨j, rfl, hj, hR, hb⟩ := hrel
            have hA := (hb.block _ (lt_of HAB.out.1)).trans HAB.out.1
            have hB := (hb.block _ (lt_of HAB.out.2)).trans HAB.out.2
            have x3 := cell_of hA 3
            have y3 := cell_of hB 3
            simp only [List.getElem?_toArray, List.getElem?_cons_zero, List.getElem?_cons_succ] at x3 y3
            by_cases h1 : j < n0
            · have hjk : j < ks.length := by have := HN0.out; omega
              have hjm : j < ms.length := by have := HN0.out; have := HNE.out; omega
              have e4 : ((j : Int) < (n0 : Int)) = True := eq_true (by omega)
              have e5 : ((j : Int) < (m0 : Int)) = True := eq_true (by have := HN0.out; omega)
              obtain ⟨x, hx⟩ : ∃ x, ks[j]'hjk = x := ⟨_, rfl⟩
              obtain ⟨y, hy⟩ : ∃ y, ms[j]'hjm = y := ⟨_, rfl⟩
              have hxm : x ∈ ks := hx ▸ List.getElem_mem hjk
              have hym : y ∈ ms := hy ▸ List.getElem_mem hjm
              have hR := hR.out
              rw [ndL_drop ks j hjk, hx, ndL_drop ms j hjm, hy, sameL] at hR
              have hxz : x.nd.sz ≤ szL (ndL ks) := sz_mem (by rw [ndL_map]; exact List.mem_map_of_mem hxm)
              have hbt := bel_two HB.out hb
              have hrx := H0.out.1.turns (turns_b (Q := fun _ => False) hbt) (fun _ _ _ h => h)
              have hry := H0.out.2.1.turns (turns_b (Q := fun _ => False) hbt) (fun _ _ _ h => h)
              have hlx := (H0.out.2.2.1 x hxm).turns (turns_b (Q := fun _ => False) hbt) (fun _ _ _ h => h)
              have hly := (H0.out.2.2.2 y hym).turns (turns_b (Q := fun _ => False) hbt) (fun _ _ _ h => h)
              obtain rfl := hrx.at_ (by omega)
              obtain rfl := hry.at_ (by omega)
              obtain ⟨xk, xt, xa, xav, xcap, xblk, xoff, xks⟩ := x
              obtain ⟨yk, yt, ya, yav, ycap, yblk, yoff, yks⟩ := y
              obtain ⟨k0, k1, k2, k3⟩ := hrx.kid hjk hx
              obtain ⟨j0, j1, j2, j3⟩ := hry.kid hjm hy
              have CL : Hid (∀ d os, Calls Try.prog 14 #[.agg #[.int .i64 xk, .string (bs xt), .int .i64 xa, .slice xav xks.length xcap], .agg #[.int .i64 yk, .string (bs yt), .int .i64 ya, .slice yav yks.length ycap]] (Sort.grow (redrawn wr d) os) fun e w'' => e = .returned (.bool (sameB (Nv.mk xk xt xa xav xcap xblk xoff xks).nd (Nv.mk yk yt ya yav ycap yblk yoff yks).nd)) ∧ ∃ p : Regrown, w'' = Sort.grow (redrawn wr p.d) p.os) :=
                fun d os => Calls.regrown_of (IH.out (.mk xk xt xa xav xcap xblk xoff xks) (by have := HZ.out; omega) (.mk yk yt ya yav ycap yblk yoff yks) _ D (hlx.turns (turns_b (Q := fun _ => False) (below_regrown wr d os)) (fun _ _ _ h => h)) (hly.turns (turns_b (Q := fun _ => False) (below_regrown wr d os)) (fun _ _ _ h => h)) (HBB.out.1 _ hxm) (HBB.out.2 _ hym))
              generalize hs : sameB (Nv.mk xk xt xa xav xcap xblk xoff xks).nd (Nv.mk yk yt ya yav ycap yblk yoff yks).nd = sb at *
              have HX := hidW (And.intro hR (bel_two (Below.refl _ _) hb))
              have x3 := fun d os => cell_regrown x3 d os
              have y3 := fun d os => cell_regrown y3 d os
              have k0 := fun d os => cell_regrown k0 d os
              have k1 := fun d os => cell_regrown k1 d os
              have k2 := fun d os => cell_regrown k2 d os
              have k3 := fun d os => cell_regrown k3 d os
              have j0 := fun d os => cell_regrown j0 d os
              have j1 := fun d os => cell_regrown j1 d os
              have j2 := fun d os => cell_regrown j2 d os
              have j3 := fun d os => cell_regrown j3 d os
              clear hrx hry hlx hly hx hy hxm hym hR hb hxz hs hA hB hbt
              go_wp2_with fail
              refine wp_region_quiet_below (by kernel_rfl) (by kernel_rfl) ?_
              repeat (go_big_quiet_step (first | (go_at_call 14; exact CL.out _ _)))
              refine wpQuiet_nil ?_
              intro w17 hw'
              have hb17 : Below wr.heap.size wr w17 := by obtain ⟨⟨dq, osq⟩, hw''⟩ := hw'; rw [hw'']; exact below_regrown wr dq osq
              have HB17 := hidW (HX.out.2.trans (hb17.mono HX.out.2.size))
              clear hw' hb17 x3 y3 k0 k1 k2 k3 j0 j1 j2 j3 CL
              cases sb with
              | true =>
                go_wp2
                go_roundw
                case rel => exact ⟨j + 1, by go_num, by omega, by have := HX.out.1; rw [Bool.true_and] at this; exact this, HB17.out⟩
                case measure => simp [intOf]; omega
              | false =>
                go_wp2
                go_ret
                exact ⟨by have := HX.out.1; rw [Bool.false_and] at this; subst this; rfl, bel_two HB.out HB17.out⟩
            · have e4 : ((j : Int) < (n0 : Int)) = False := by simp; omega
              have hRt : R = true := by rw [← hR.out, List.drop_eq_nil_of_le (by have := HN0.out; omega), List.drop_eq_nil_of_le (by have := HN0.out; have := HNE.out; omega), ndL, sameL]
              have HF := hidW (And.intro hRt hb)
              clear hRt hR hb hA hB
              go_wp2
              go_ret
              exact ⟨by have := HF.out.1; subst this; rfl, bel_two HB.out HF.out.2⟩
        · have e3 : ((ks.length : Int) != (ms.length : Int)) = true := by simp; omega
          have hf : sameL (ndL ks) (ndL ms) = false := sameL_len _ _ (by rw [ndL_len, ndL_len]; exact hne)
          rw [hf]
          clear hf hne hk ht
          go_enter Try.func14, Try.ntmps14
          go_wp2
          go_ret
          exact ⟨rfl, HB.out⟩
      · have e2 : ((bs t).toList == (bs t').toList) = false := by rw [bs_toList, bs_toList]; simp [ht]
        have d2 : decide (t = t') = false := by simp [ht]
        rw [d2, Bool.false_and]
        clear hk ht d2
        go_enter Try.func14, Try.ntmps14
        go_wp2
        go_ret
        exact ⟨rfl, HB.out⟩
    · have e1 : (k != k') = true := by simp [hk]
      have d1 : decide (k = k') = false := by simp [hk]
      rw [d1, Bool.false_and]
      clear hk d1
      go_enter Try.func14, Try.ntmps14
      go_wp2
      go_ret
      exact ⟨rfl, HB.out⟩
theorem rsame_is (n m : Nv) (W : World) (D : Nat → Prop) (h1 : LiesD D W n) (h2 : LiesD D W m) (b1 : n.nd.bnd) (b2 : m.nd.bnd) :
    Calls Try.prog 14 #[n.val, m.val] W fun e W' => e = .returned (.bool (sameB n.nd m.nd)) ∧ Below W.heap.size W W' := rsame_to _ n (Nat.le_refl _) m W D h1 h2 b1 b2

end Go.Proofs.Ytgndnodahlabiaa
