/-
  What the document answers of trees (layer 10): Size, Same, Word, least, with: the contracts.
-/
import Derived.Test.YtgndnodahlabiaaMgM
namespace Go.Proofs.Ytgndnodahlabiaa
open Go.ChangeShapes Go.WideShapes Go.ChangeAt Go.RowKit

set_option maxRecDepth 100000 in
set_option maxHeartbeats 4000000 in
theorem with_is (a b : List UInt8) (h : a.length + b.length ≤ 2 ^ 60) (W : World) : Calls Try.prog 23 #[.string (bs a), .string (bs b)] W fun e W' => e = .returned (.string (bs (wth a b))) ∧ W' = W := by
  have ea := bs_toList a
  have eb := bs_toList b
  have ha := bs_size a
  have hb := bs_size b
  have hs1 : ¬ 9223372036854775807 < (bs a).size + (bs b).size := by omega
  have hs2 : ¬ 9223372036854775807 < (bs a).size + 1 := by omega
  have hs3 : ¬ 9223372036854775807 < (bs a).size + 1 + (bs b).size := by omega
  have hs4 : ¬ 9223372036854775807 < (bs a ++ (⟨#[32]⟩ : ByteArray)).size + (bs b).size := by
    have : (bs a ++ (⟨#[32]⟩ : ByteArray)).size = (bs a).size + 1 := ByteArray.size_append
    omega
  go_enter Try.func23, Try.ntmps23
  by_cases h0 : a = []
  · have e1 : (a == []) = true := by rw [h0]; rfl
    have hw : bs a ++ bs b = bs (wth a b) := by rw [← bs_app, h0, nil_wth]; rfl
    have HW := hidW hw
    clear hw h0
    go_wp2
    go_ret
    exact ⟨congrArg (fun x => Ending.returned (Value.string x)) HW.out, rfl⟩
  · have e1 : (a == []) = false := by simp [h0]
    by_cases h1 : b = []
    · have e2 : (b == []) = true := by rw [h1]; rfl
      have hw : bs a ++ bs b = bs (wth a b) := by rw [← bs_app, h1, wth_nil, List.append_nil]
      have HW := hidW hw
      clear hw h0 h1
      go_wp2
      go_ret
      exact ⟨congrArg (fun x => Ending.returned (Value.string x)) HW.out, rfl⟩
    · have e2 : (b == []) = false := by simp [h1]
      have hw : bs a ++ bs [32] ++ bs b = bs (wth a b) := by rw [← bs_app, ← bs_app, wth_ne h0 h1]; simp
      have HW := hidW hw
      clear hw h0 h1
      go_wp2
      go_ret
      exact ⟨congrArg (fun x => Ending.returned (Value.string x)) HW.out, rfl⟩

def leastZ (k : Int) : Int := match leastK k with | some m => (m : Int) | none => -1
set_option maxRecDepth 100000 in
set_option maxHeartbeats 8000000 in
theorem rleast_is (k : Int) (W : World) : Calls Try.prog 22 #[.int .i64 k] W fun e W' => e = .returned (.int .i64 (leastZ k)) ∧ W' = W := by
  by_cases hr : 1 ≤ k ∧ k ≤ 27
  · obtain ⟨j, hj, rfl⟩ : ∃ j : Nat, j ≤ 26 ∧ k = 1 + (j : Int) := ⟨(k - 1).toNat, by omega, by omega⟩
    match j, hj with
    | 0, _ | 1, _ | 2, _ | 3, _ | 4, _ | 5, _ | 6, _ | 7, _ | 8, _ | 9, _ | 10, _ | 11, _ | 12, _ | 13, _ | 14, _ | 15, _ | 16, _ | 17, _ | 18, _ | 19, _ | 20, _ | 21, _ | 22, _ | 23, _ | 24, _ | 25, _ | 26, _ =>
      go_enter Try.func22, Try.ntmps22
      go_wp2
      go_ret
      exact ⟨rfl, rfl⟩
    | n + 27, h => exact absurd h (by omega)
  · have hL : leastZ k = -1 := by
      unfold leastZ leastK
      rw [if_neg (by omega), if_neg (by omega), if_neg (by omega)]
    rw [hL]
    have e : ∀ c : Int, 1 ≤ c → c ≤ 27 → (k == c) = false := fun c h1 h2 => by rw [beq_eq_false_iff_ne]; omega
    have f1 := e 1 (by decide) (by decide)
    have f2 := e 2 (by decide) (by decide)
    have f3 := e 3 (by decide) (by decide)
    have f4 := e 4 (by decide) (by decide)
    have f5 := e 5 (by decide) (by decide)
    have f6 := e 6 (by decide) (by decide)
    have f7 := e 7 (by decide) (by decide)
    have f8 := e 8 (by decide) (by decide)
    have f9 := e 9 (by decide) (by decide)
    have f10 := e 10 (by decide) (by decide)
    have f11 := e 11 (by decide) (by decide)
    have f12 := e 12 (by decide) (by decide)
    have f13 := e 13 (by decide) (by decide)
    have f14 := e 14 (by decide) (by decide)
    have f15 := e 15 (by decide) (by decide)
    have f16 := e 16 (by decide) (by decide)
    have f17 := e 17 (by decide) (by decide)
    have f18 := e 18 (by decide) (by decide)
    have f19 := e 19 (by decide) (by decide)
    have f20 := e 20 (by decide) (by decide)
    have f21 := e 21 (by decide) (by decide)
    have f22 := e 22 (by decide) (by decide)
    have f23 := e 23 (by decide) (by decide)
    have f24 := e 24 (by decide) (by decide)
    have f25 := e 25 (by decide) (by decide)
    have f26 := e 26 (by decide) (by decide)
    have f27 := e 27 (by decide) (by decide)
    clear hr hL e
    go_enter Try.func22, Try.ntmps22
    go_wp2
    go_ret
    exact ⟨rfl, rfl⟩

def RSizeTo (z : Nat) : Prop := ∀ (n : Nv), n.nd.sz ≤ z → ∀ (W : World) (D : Nat → Prop), LiesD D W n → n.nd.bnd → n.nd.sz < 2 ^ 62 →
    Calls Try.prog 12 #[n.val] W fun e W' => e = .returned (.int .i64 (n.nd.sz : Int)) ∧ Below W.heap.size W W'
theorem szL_at (ks : List Nv) (j : Nat) (h : j < ks.length) : szL (ndL (ks.drop j)) = (ks[j]'h).nd.sz + szL (ndL (ks.drop (j + 1))) := by rw [ndL_drop ks j h, szL]
set_option maxRecDepth 100000 in
set_option maxHeartbeats 4000000 in
theorem rsize_to : ∀ z, RSizeTo z := by
  intro z
  induction z with
  | zero => intro n h; cases n; rw [Nv.nd, Nd.sz] at h; omega
  | succ z ih =>
    intro n hz W D hl hbn hsz
    obtain ⟨k, t, a, av, cap, blk, off, ks⟩ := n
    obtain ⟨hrow, hkids⟩ := hl.parts
    have hln := bnd_len hbn
    rw [Nv.nd, Nd.sz] at hz hsz
    have hR : (Nv.mk k t a av cap blk off ks).nd.sz = szL (ndL ks) + 1 := by rw [Nv.nd, Nd.sz]
    rw [hR]
    show Calls Try.prog 12 #[.agg #[.int .i64 k, .string (bs t), .int .i64 a, .slice av ks.length cap]] W _
    have hb0 := bel_new W (.cells #[.int .i64 k, .string (bs t), .int .i64 a, .slice av ks.length cap] 24)
    have hk0 := World.alloc_heap_new W (.cells #[.int .i64 k, .string (bs t), .int .i64 a, .slice av ks.length cap] 24)
    have IH := hidW ih
    have HB := hidW (fun n hn => bnd_kid hbn (n := n) hn)
    have HK := hidW (And.intro hrow (And.intro hkids hk0))
    have HB0 := hidW hb0
    clear hl hbn hR ih hrow hkids hk0 hb0
    generalize hRR : szL (ndL ks) + 1 = R at *
    have HRR := hidW hRR
    generalize hn0 : ks.length = n0 at *
    have HN0 := hidW hn0
    clear hRR hn0
    go_enter Try.func12, Try.ntmps12
    go_wp2_with fail
    go_loopw [3, 4] (fun q i wr => ∃ (j m : Nat), i = .int .i64 (j : Int) ∧ q = .int .i64 (m : Int) ∧ j ≤ n0 ∧ Hid (m + szL (ndL (ks.drop j)) = R) ∧ Below (W.alloc (.cells #[.int .i64 k, .string (bs t), .int .i64 a, .slice av n0 cap] 24)).heap.size (W.alloc (.cells #[.int .i64 k, .string (bs t), .int .i64 a, .slice av n0 cap] 24)) wr) (fun _ i _ => n0 - (intOf i).toNat)
    case atStart => exact ⟨0, 1, rfl, rfl, Nat.zero_le _, by rw [Hid, List.drop_zero]; have := HRR.out; omega, Below.refl _ _⟩
    case round =>
      obtain ⟨j, m, rfl, rfl, hj, hR, hb⟩ := hrel
      have hkb := (hb.block _ (lt_of HK.out.2.2)).trans HK.out.2.2
      have c3 := cell_of hkb 3
      simp only [List.getElem?_toArray, List.getElem?_cons_zero, List.getElem?_cons_succ] at c3
      by_cases h1 : j < n0
      · have hjk : j < ks.length := by have := HN0.out; omega
        have e2 : ((j : Int) < (n0 : Int)) = True := eq_true (by omega)
        obtain ⟨x, hx⟩ : ∃ x, ks[j]'hjk = x := ⟨_, rfl⟩
        have hxm : x ∈ ks := hx ▸ List.getElem_mem hjk
        have hR := hR.out
        rw [szL_at ks j hjk, hx] at hR
        have hxz : x.nd.sz ≤ szL (ndL ks) := sz_mem (by rw [ndL_map]; exact List.mem_map_of_mem hxm)
        have hbt := bel_two HB0.out hb
        have hrx := HK.out.1.turns (turns_b (Q := fun _ => False) hbt) (fun _ _ _ h => h)
        have hlx := (HK.out.2.1 x hxm).turns (turns_b (Q := fun _ => False) hbt) (fun _ _ _ h => h)
        obtain rfl := hrx.at_ (by omega)
        obtain ⟨xk, xt, xa, xav, xcap, xblk, xoff, xks⟩ := x
        obtain ⟨k0, k1, k2, k3⟩ := hrx.kid hjk hx
        have hC := hidW (IH.out (.mk xk xt xa xav xcap xblk xoff xks) (by have := HRR.out; omega) _ D hlx (HB.out _ hxm) (by have := HRR.out; omega))
        generalize hxs : (Nv.mk xk xt xa xav xcap xblk xoff xks).nd.sz = xs at *
        have HX := hidW (And.intro hR hb)
        have hw : m + xs < 2 ^ 62 := by have := HRR.out; omega
        clear hrx hlx hx hxm hR hb hxz hxs hkb hbt
        go_wp2_with fail
        refine hC.out.mono ?_; clear hC; rintro e W4 ⟨rfl, hb4⟩
        go_wp2_with fail
        go_roundw
        case rel => exact ⟨j + 1, m + xs, by go_num, by go_num, by omega, by rw [Hid]; have := HX.out.1; omega, HX.out.2.trans (hb4.mono HX.out.2.size)⟩
        case measure => simp [intOf]; omega
      · have e2 : ((j : Int) < (n0 : Int)) = False := by simp; omega
        have hRt : m = R := by have := hR.out; rw [List.drop_eq_nil_of_le (by have := HN0.out; omega), ndL, szL] at this; omega
        have HF := hidW (And.intro hRt hb)
        clear hRt hR hb hkb
        go_wp2
        go_ret
        exact ⟨by have := HF.out.1; subst this; rfl, bel_two HB0.out HF.out.2⟩
theorem rsize_is (n : Nv) (W : World) (D : Nat → Prop) (hl : LiesD D W n) (hsz : n.nd.sz < 2 ^ 62) : Calls Try.prog 12 #[n.val] W fun e W' => e = .returned (.int .i64 (n.nd.sz : Int)) ∧ Below W.heap.size W W' :=
  rsize_to _ n (Nat.le_refl _) W D hl (sz_bnd _ hsz) hsz

end Go.Proofs.Ytgndnodahlabiaa
