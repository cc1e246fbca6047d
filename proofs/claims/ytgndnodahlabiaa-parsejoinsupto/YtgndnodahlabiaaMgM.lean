/-
  A writer (layer 10): the contract of node, of any tree.
  Text (layer 10): the contract.
  The laws' small case (layer 10): the contract.
-/
import Derived.Test.YtgndnodahlabiaaWrH
import Derived.Test.YtgndnodahlabiaaWrI
import Derived.Test.YtgndnodahlabiaaWrJ
import Derived.Test.YtgndnodahlabiaaWrK
import Derived.Lib.UnsafeStr
import Derived.Test.YtgndnodahlabiaaMgK

/- A writer (layer 10): the contract of node, of any tree. -/
namespace Go.Proofs.Ytgndnodahlabiaa
open Go.ChangeShapes Go.WideShapes Go.ChangeAt Go.RowKit

theorem txt_row {k : Int} {t : List UInt8} {a : Int} {ks : List Nd} {m : Nat} (h : leastK k = some m) (hm : m ≤ ks.length) (h1 : k ≠ 1) (x : Ws) : app1 (txt (.mk k t a ks)) x = appL (rowP k t (txtL ks)) x := by
  rw [txt, nodeT, h]
  simp only
  rw [if_neg (by rw [txtL_len]; omega), if_neg h1, app_wcat]
theorem txt_one {t : List UInt8} {a : Int} {ks : List Nd} (x : Ws) : app1 (txt (.mk 1 t a ks)) x = app1 ((txtL ks).flatMap (fun s => s ++ [10])) x := by
  rw [txt, nodeT, show leastK 1 = some 0 from rfl]
  simp only
  rw [if_neg (Nat.not_lt_zero _), if_pos trivial]
theorem txt_bad {k : Int} {t : List UInt8} {a : Int} {ks : List Nd} (h : leastK k = none ∨ ∃ m, leastK k = some m ∧ ks.length < m) : txt (.mk k t a ks) = [63] := by
  rw [txt, nodeT]
  rcases h with h | ⟨m, h, h2⟩
  · rw [h]
  · rw [h]
    simp only
    rw [if_pos (by rw [txtL_len]; exact h2)]
/-- What the rows do. -/
abbrev RowAns (F : FuncId) (B b : Nat) (W : World) (x : Ws) (k : Int) (t : List UInt8) (a : Int) (av : Option Addr) (cap : Nat) (ks : List Nv) : Prop :=
  Calls Try.prog F #[.pointer (some ⟨b, 0, none⟩), .agg #[.int .i64 k, .string (bs t), .int .i64 a, .slice av ks.length cap]] W fun e W' => e = .returned (.tuple #[]) ∧ WrAt B b (app1 (txt (.mk k t a (ndL ks))) x) W' ∧ Wrt B b W W'
theorem row_decl {B b z : Nat} (IH : NodeTo B b z) {x : Ws} {W : World} (h : WrAt B b x W) {k : Int} {t : List UInt8} {a : Int} {av : Option Addr} {cap blk off : Nat} {ks : List Nv} (hr : RowB B W av blk off ks) (hz : szL (ndL ks) ≤ z) (hlen : x.l.length + (t.length + 60 + nedL (ndL ks)) ≤ 140737488355328) (hcap : ks.length ≤ cap) {m : Nat} (hm : leastK k = some m) (hk : m ≤ ks.length) (hb : k ≤ 8) : RowAns 32 B b W x k t a av cap ks := by
  by_cases c1 : k = 1
  · subst c1
    unfold RowAns; rw [txt_one]; exact wr_1 IH h hr hz hlen
  by_cases c2 : k = 2
  · subst c2
    unfold RowAns; rw [txt_row hm (by rw [ndL_len]; exact hk) (by decide)]
    obtain rfl : m = _ := (Option.some.inj hm).symm
    exact wr_2 IH h hr hz hlen hk hcap
  by_cases c3 : k = 3
  · subst c3
    unfold RowAns; rw [txt_row hm (by rw [ndL_len]; exact hk) (by decide)]
    obtain rfl : m = _ := (Option.some.inj hm).symm
    exact wr_3 IH h hr hz hlen hk hcap
  by_cases c4 : k = 4
  · subst c4
    unfold RowAns; rw [txt_row hm (by rw [ndL_len]; exact hk) (by decide)]
    obtain rfl : m = _ := (Option.some.inj hm).symm
    exact wr_4 h hr
  by_cases c5 : k = 5
  · subst c5
    unfold RowAns; rw [txt_row hm (by rw [ndL_len]; exact hk) (by decide)]
    obtain rfl : m = _ := (Option.some.inj hm).symm
    exact wr_5 IH h hr hz hlen hk hcap
  by_cases c6 : k = 6
  · subst c6
    unfold RowAns; rw [txt_row hm (by rw [ndL_len]; exact hk) (by decide)]
    obtain rfl : m = _ := (Option.some.inj hm).symm
    exact wr_6 IH h hr hz hlen hk hcap
  by_cases c7 : k = 7
  · subst c7
    unfold RowAns; rw [txt_row hm (by rw [ndL_len]; exact hk) (by decide)]
    obtain rfl : m = _ := (Option.some.inj hm).symm
    exact wr_7 IH h hr hz hlen hk hcap
  by_cases c8 : k = 8
  · subst c8
    unfold RowAns; rw [txt_row hm (by rw [ndL_len]; exact hk) (by decide)]
    obtain rfl : m = _ := (Option.some.inj hm).symm
    exact wr_8 IH h hr hz hlen (Nat.zero_le _) hcap
  exfalso
  have : 1 ≤ k ∧ k ≤ 27 := by
    unfold leastK at hm
    split at hm
    · omega
    · split at hm
      · omega
      · split at hm
        · assumption
        · cases hm
  omega
theorem row_stmt {B b z : Nat} (IH : NodeTo B b z) {x : Ws} {W : World} (h : WrAt B b x W) {k : Int} {t : List UInt8} {a : Int} {av : Option Addr} {cap blk off : Nat} {ks : List Nv} (hr : RowB B W av blk off ks) (hz : szL (ndL ks) ≤ z) (hlen : x.l.length + (t.length + 60 + nedL (ndL ks)) ≤ 140737488355328) (hcap : ks.length ≤ cap) {m : Nat} (hm : leastK k = some m) (hk : m ≤ ks.length) (hb : 8 < k) (hb2 : k ≤ 16) : RowAns 33 B b W x k t a av cap ks := by
  by_cases c9 : k = 9
  · subst c9
    unfold RowAns; rw [txt_row hm (by rw [ndL_len]; exact hk) (by decide)]
    obtain rfl : m = _ := (Option.some.inj hm).symm
    exact wr_9 IH h hr hz hlen hk hcap
  by_cases c10 : k = 10
  · subst c10
    unfold RowAns; rw [txt_row hm (by rw [ndL_len]; exact hk) (by decide)]
    obtain rfl : m = _ := (Option.some.inj hm).symm
    exact wr_10 IH h hr hz hlen hk hcap
  by_cases c11 : k = 11
  · subst c11
    unfold RowAns; rw [txt_row hm (by rw [ndL_len]; exact hk) (by decide)]
    obtain rfl : m = _ := (Option.some.inj hm).symm
    exact wr_11 IH h hr hz hlen hk hcap
  by_cases c12 : k = 12
  · subst c12
    unfold RowAns; rw [txt_row hm (by rw [ndL_len]; exact hk) (by decide)]
    obtain rfl : m = _ := (Option.some.inj hm).symm
    by_cases h2 : ks.length = 2
    · exact wr_12a IH h hr hz hlen hk hcap h2
    · exact wr_12b IH h hr hz hlen (by omega) hcap
  by_cases c13 : k = 13
  · subst c13
    unfold RowAns; rw [txt_row hm (by rw [ndL_len]; exact hk) (by decide)]
    obtain rfl : m = _ := (Option.some.inj hm).symm
    exact wr_13 IH h hr hz hlen hk hcap
  by_cases c14 : k = 14
  · subst c14
    unfold RowAns; rw [txt_row hm (by rw [ndL_len]; exact hk) (by decide)]
    obtain rfl : m = _ := (Option.some.inj hm).symm
    by_cases h2 : ks.length = 0
    · exact wr_14z IH h hr hz hlen (Nat.zero_le _) hcap h2
    · exact wr_14p IH h hr hz hlen (by omega) hcap
  by_cases c15 : k = 15
  · subst c15
    unfold RowAns; rw [txt_row hm (by rw [ndL_len]; exact hk) (by decide)]
    obtain rfl : m = _ := (Option.some.inj hm).symm
    exact wr_15 IH h hr hz hlen hk hcap
  by_cases c16 : k = 16
  · subst c16
    unfold RowAns; rw [txt_row hm (by rw [ndL_len]; exact hk) (by decide)]
    obtain rfl : m = _ := (Option.some.inj hm).symm
    exact wr_16 IH h hr hz hlen hk hcap
  exfalso
  have : 1 ≤ k ∧ k ≤ 27 := by
    unfold leastK at hm
    split at hm
    · omega
    · split at hm
      · omega
      · split at hm
        · assumption
        · cases hm
  omega
theorem row_expr {B b z : Nat} (IH : NodeTo B b z) {x : Ws} {W : World} (h : WrAt B b x W) {k : Int} {t : List UInt8} {a : Int} {av : Option Addr} {cap blk off : Nat} {ks : List Nv} (hr : RowB B W av blk off ks) (hz : szL (ndL ks) ≤ z) (hlen : x.l.length + (t.length + 60 + nedL (ndL ks)) ≤ 140737488355328) (hcap : ks.length ≤ cap) {m : Nat} (hm : leastK k = some m) (hk : m ≤ ks.length) (hb : 16 < k) : RowAns 34 B b W x k t a av cap ks := by
  by_cases c17 : k = 17
  · subst c17
    unfold RowAns; rw [txt_row hm (by rw [ndL_len]; exact hk) (by decide)]
    obtain rfl : m = _ := (Option.some.inj hm).symm
    exact wr_17 IH h hr hz hlen hk hcap
  by_cases c18 : k = 18
  · subst c18
    unfold RowAns; rw [txt_row hm (by rw [ndL_len]; exact hk) (by decide)]
    obtain rfl : m = _ := (Option.some.inj hm).symm
    exact wr_18 IH h hr hz hlen hk hcap
  by_cases c19 : k = 19
  · subst c19
    unfold RowAns; rw [txt_row hm (by rw [ndL_len]; exact hk) (by decide)]
    obtain rfl : m = _ := (Option.some.inj hm).symm
    exact wr_19 IH h hr hz hlen hk hcap
  by_cases c20 : k = 20
  · subst c20
    unfold RowAns; rw [txt_row hm (by rw [ndL_len]; exact hk) (by decide)]
    obtain rfl : m = _ := (Option.some.inj hm).symm
    exact wr_20 IH h hr hz hlen hk hcap
  by_cases c21 : k = 21
  · subst c21
    unfold RowAns; rw [txt_row hm (by rw [ndL_len]; exact hk) (by decide)]
    obtain rfl : m = _ := (Option.some.inj hm).symm
    exact wr_21 IH h hr hz hlen hk hcap
  by_cases c22 : k = 22
  · subst c22
    unfold RowAns; rw [txt_row hm (by rw [ndL_len]; exact hk) (by decide)]
    obtain rfl : m = _ := (Option.some.inj hm).symm
    exact wr_22 IH h hr hz hlen hk hcap
  by_cases c23 : k = 23
  · subst c23
    unfold RowAns; rw [txt_row hm (by rw [ndL_len]; exact hk) (by decide)]
    obtain rfl : m = _ := (Option.some.inj hm).symm
    exact wr_23 IH h hr hz hlen hk hcap
  by_cases c24 : k = 24
  · subst c24
    unfold RowAns; rw [txt_row hm (by rw [ndL_len]; exact hk) (by decide)]
    obtain rfl : m = _ := (Option.some.inj hm).symm
    exact wr_24 IH h hr hz hlen hk hcap
  by_cases c25 : k = 25
  · subst c25
    unfold RowAns; rw [txt_row hm (by rw [ndL_len]; exact hk) (by decide)]
    obtain rfl : m = _ := (Option.some.inj hm).symm
    exact wr_25 IH h hr hz hlen hk hcap
  by_cases c26 : k = 26
  · subst c26
    unfold RowAns; rw [txt_row hm (by rw [ndL_len]; exact hk) (by decide)]
    obtain rfl : m = _ := (Option.some.inj hm).symm
    exact wr_26 IH h hr hz hlen hk hcap
  by_cases c27 : k = 27
  · subst c27
    unfold RowAns; rw [txt_row hm (by rw [ndL_len]; exact hk) (by decide)]
    obtain rfl : m = _ := (Option.some.inj hm).symm
    exact wr_27 IH h hr hz hlen hk hcap
  exfalso
  have : 1 ≤ k ∧ k ≤ 27 := by
    unfold leastK at hm
    split at hm
    · omega
    · split at hm
      · omega
      · split at hm
        · assumption
        · cases hm
  omega

theorem LiesD.cap {D : Nat → Prop} {W : World} {k : Int} {t : List UInt8} {a : Int} {av : Option Addr} {cap blk off : Nat} {ks : List Nv} (h : LiesD D W (.mk k t a av cap blk off ks)) : ks.length ≤ cap := by
  cases h
  assumption
set_option maxRecDepth 100000 in
set_option maxHeartbeats 16000000 in
theorem node_to (B b : Nat) : ∀ z, NodeTo B b z := by
  intro z
  induction z with
  | zero => intro n h; cases n; rw [Nv.nd, Nd.sz] at h; omega
  | succ z ih =>
    intro n hz W x h hl hbn hlen
    obtain ⟨k, t, a, av, cap, blk, off, ks⟩ := n
    have hr : RowB B W av blk off ks := ⟨hl.parts.1, hl.parts.2, fun n hn => bnd_kid hbn hn, bnd_len hbn⟩
    have hcap := hl.cap
    rw [Nv.nd, Nd.sz] at hz
    rw [Nv.nd, ned] at hlen
    rw [Nv.nd]
    show Calls Try.prog 20 #[.pointer (some ⟨b, 0, none⟩), .agg #[.int .i64 k, .string (bs t), .int .i64 a, .slice av ks.length cap]] W _
    have HQ := hidW (Qs.start (k := k) (t := t) (a := a) (cap := cap) h hr)
    have hL := hidW (least_is k (W.alloc (.cells #[.int .i64 k, .string (bs t), .int .i64 a, .slice av ks.length cap] 24)))
    have x0 := cell_of HQ.out.n.box 0
    have x1 := cell_of HQ.out.n.box 1
    have x2 := cell_of HQ.out.n.box 2
    have x3 := cell_of HQ.out.n.box 3
    simp only [List.getElem?_toArray, List.getElem?_cons_zero, List.getElem?_cons_succ] at x0 x1 x2 x3
    have hln := hr.len
    by_cases hbad : leastK k = none ∨ ∃ m, leastK k = some m ∧ (ndL ks).length < m
    · have ht : txt (.mk k t a (ndL ks)) = [63] := txt_bad hbad
      rw [ht]
      have hP := hidW ((HQ.out.row [[63]]).1.put [[63]] (by simp [room]; omega) (by simp) (HQ.out.row [[63]]).2.1)
      have HR := hidW ((HQ.out.row [[63]]).1)
      have hP2 : Hid (Calls Try.prog 31 #[.pointer (some ⟨b, 0, none⟩), .slice (some ⟨W.heap.size + 1, 0, none⟩) 1 1] ((W.alloc (.cells #[.int .i64 k, .string (bs t), .int .i64 a, .slice av ks.length cap] 24)).alloc (.cells #[.string ⟨#[63]⟩] 9)) (Qn B b W k t a av cap blk off ks (appL [[63]] x) ((W.alloc (.cells #[.int .i64 k, .string (bs t), .int .i64 a, .slice av ks.length cap] 24)).alloc (.cells #[.string ⟨#[63]⟩] 9)))) := by
        have := hP.out
        rw [World.size_alloc] at this
        exact this
      clear h hr hl hbn hcap hz hlen ht hP
      cases hlk : leastK k with
      | none =>
        rw [hlk] at hL
        clear hbad hlk
        go_enter Try.func20, Try.ntmps20
        go_wp2_with fail
        refine hL.out.mono ?_; clear hL; rintro e V1 ⟨rfl, rfl⟩
        go_wp2_with fail
        refine hP2.out.mono ?_; clear hP2; rintro e V2 ⟨rfl, hq, hw⟩
        have HF := hidW hq
        clear hq hw
        go_wp2
        go_ret
        exact ⟨rfl, HF.out.w, HF.out.r⟩
      | some m =>
        rw [hlk] at hL
        have hlt : ks.length < m := by
          rcases hbad with e | ⟨m', e, h'⟩
          · rw [hlk] at e; cases e
          · rw [hlk] at e
            cases e
            rw [ndL_len] at h'; exact h'
        have e1 : ((ks.length : Int) < (m : Int)) = True := eq_true (by omega)
        clear hbad hlk hlt
        go_enter Try.func20, Try.ntmps20
        go_wp2_with fail
        refine hL.out.mono ?_; clear hL; rintro e V1 ⟨rfl, rfl⟩
        go_wp2_with fail
        refine hP2.out.mono ?_; clear hP2; rintro e V2 ⟨rfl, hq, hw⟩
        have HF := hidW hq
        clear hq hw
        go_wp2
        go_ret
        exact ⟨rfl, HF.out.w, HF.out.r⟩
    · obtain ⟨m, hm⟩ : ∃ m, leastK k = some m := by
        cases hlk : leastK k with
        | none => exact absurd (.inl hlk) hbad
        | some m => exact ⟨m, rfl⟩
      have hk : m ≤ ks.length := by
        refine Nat.not_lt.1 (fun h' => hbad (.inr ⟨m, hm, by rw [ndL_len]; exact h'⟩))
      have e1 : ((ks.length : Int) < (m : Int)) = False := eq_false (by omega)
      have hL2 := hL
      rw [hm] at hL2
      clear hL hbad
      have hrow := HQ.out.n.row
      have hw0 := HQ.out.w
      by_cases h8 : k ≤ 8
      · have hC := hidW (row_decl ih hw0 (t := t) (a := a) hrow (by omega) hlen hcap hm hk h8)
        have e2 : (k ≤ 8) = True := eq_true h8
        clear h hr hl hbn hcap hz hlen hm hk h8 hrow hw0
        go_enter Try.func20, Try.ntmps20
        go_wp2_with fail
        refine hL2.out.mono ?_; clear hL2; rintro e V1 ⟨rfl, rfl⟩
        go_wp2_with fail
        refine hC.out.mono ?_; clear hC; rintro e V2 ⟨rfl, hq, hw⟩
        have HF := hidW (And.intro hq (HQ.out.r.trans hw))
        clear hq hw
        go_wp2
        go_ret
        exact ⟨rfl, HF.out.1, HF.out.2⟩
      · have e2 : (k ≤ 8) = False := eq_false h8
        by_cases h16 : k ≤ 16
        · have hC := hidW (row_stmt ih hw0 (t := t) (a := a) hrow (by omega) hlen hcap hm hk (by omega) h16)
          have e3 : (k ≤ 16) = True := eq_true h16
          clear h hr hl hbn hcap hz hlen hm hk h8 hrow hw0 h16
          go_enter Try.func20, Try.ntmps20
          go_wp2_with fail
          refine hL2.out.mono ?_; clear hL2; rintro e V1 ⟨rfl, rfl⟩
          go_wp2_with fail
          refine hC.out.mono ?_; clear hC; rintro e V2 ⟨rfl, hq, hw⟩
          have HF := hidW (And.intro hq (HQ.out.r.trans hw))
          clear hq hw
          go_wp2
          go_ret
          exact ⟨rfl, HF.out.1, HF.out.2⟩
        · have hC := hidW (row_expr ih hw0 (t := t) (a := a) hrow (by omega) hlen hcap hm hk (by omega))
          have e3 : (k ≤ 16) = False := eq_false h16
          clear h hr hl hbn hcap hz hlen hm hk h8 hrow hw0 h16
          go_enter Try.func20, Try.ntmps20
          go_wp2_with fail
          refine hL2.out.mono ?_; clear hL2; rintro e V1 ⟨rfl, rfl⟩
          go_wp2_with fail
          refine hC.out.mono ?_; clear hC; rintro e V2 ⟨rfl, hq, hw⟩
          have HF := hidW (And.intro hq (HQ.out.r.trans hw))
          clear hq hw
          go_wp2
          go_ret
          exact ⟨rfl, HF.out.1, HF.out.2⟩

end Go.Proofs.Ytgndnodahlabiaa

/- Text (layer 10): the contract. -/
namespace Go.Proofs.Ytgndnodahlabiaa
open Go.ChangeShapes Go.WideShapes Go.ChangeAt Go.RowKit

theorem und68 : Try.prog.underlying 68 = some (.pointer 5) := by kernel_rfl
theorem cells5 : Try.prog.cellsOf 5 = 1 := by kernel_rfl

set_option maxRecDepth 100000 in
set_option maxHeartbeats 16000000 in
theorem wstr {B b : Nat} {x : Ws} {W : World} (h : WrAt B b x W) (hlen : x.l.length ≤ 140737488355328) :
    Calls Try.prog 21 #[.pointer (some ⟨b, 0, none⟩)] W fun e W' => e = .returned (.string (bs x.l)) ∧ Below B W W' := by
  obtain ⟨p, v, h1, h2, h3, h4, h5⟩ := h.box
  by_cases hx : x.l = []
  · obtain rfl := h5 hx
    have c1 := cell_of h1 1
    simp only [List.getElem?_toArray, List.getElem?_cons_zero, List.getElem?_cons_succ] at c1
    have hs : bs x.l = .empty := by rw [hx]; rfl
    rw [hs]
    clear h h1 h2 h3 h4 h5 hx hs hlen
    go_enter Try.func21, Try.ntmps21
    go_wp2_with fail
    refine region_late (fun V => V.cell? ⟨b, 1, none⟩ = some (.slice none 0 0)) 99 (by kernel_rfl) ?_
    have hHeld : W.drew.cell? ⟨b, 1, none⟩ = some (.slice none 0 0) := c1
    refine anyL_tk 0 (v := ?_) rfl (by kernel_rfl) (fun _ _ _ h => h) hHeld (by rfl) ?_ ?_
    rotate_left 1
    · intro w hSw; (try dsimp only at hSw); go_simp; try with_reducible rfl
    refine anyL_tk 1 (v := ?_) rfl (by kernel_rfl) (fun _ _ _ h => h) hHeld (by rfl) ?_ ?_
    rotate_left 1
    · intro w hSw; (try dsimp only at hSw); go_simp; try with_reducible rfl
    refine anyL_tk 2 (v := ?_) rfl (by kernel_rfl) (fun _ _ _ h => h) hHeld (by rfl) ?_ ?_
    rotate_left 1
    · intro w hSw; (try dsimp only at hSw); go_simp; try with_reducible rfl
    refine anyL_tk 3 (v := ?_) rfl (by kernel_rfl) (fun _ _ _ h => h) hHeld (by rfl) ?_ ?_
    rotate_left 1
    · intro w hSw; (try dsimp only at hSw); go_simp; try with_reducible rfl
    refine anyL_tk 5 (v := ?_) rfl (by kernel_rfl) (fun _ _ _ h => h) hHeld (by rfl) ?_ ?_
    rotate_left 1
    · intro w hSw; (try dsimp only at hSw); go_simp; try with_reducible rfl
    refine anyL_tk 6 (v := ?_) rfl (by kernel_rfl) (fun _ _ _ h => h) hHeld (by rfl) ?_ ?_
    rotate_left 1
    · intro w hSw; (try dsimp only at hSw); go_simp; try with_reducible rfl
    refine anyL_tk 7 (v := ?_) rfl (by kernel_rfl) (fun _ _ _ h => h) hHeld (by rfl) ?_ ?_
    rotate_left 1
    · intro w hSw; (try dsimp only at hSw); go_simp; try with_reducible rfl
    refine anyL_tk 8 (v := ?_) rfl (by kernel_rfl) (fun _ _ _ h => h) hHeld (by rfl) ?_ ?_
    rotate_left 1
    · intro w hSw; (try dsimp only at hSw); go_simp; try with_reducible rfl
    refine anyL_tk 9 (v := ?_) rfl (by kernel_rfl) (fun _ _ _ h => h) hHeld (by rfl) ?_ ?_
    rotate_left 1
    · intro w hSw; (try dsimp only at hSw); go_simp; try with_reducible rfl
    refine anyL_ready (rs := [4]) (by kernel_rfl) (by simp) (ReadyL.cons rfl (fun K hK => ?_) (ReadyL.nil))
    · dsimp only [List.getElem_toArray, List.getElem_cons_succ, List.getElem_cons_zero]
      go_simp
      refine hK.out _ _ (hHeld) (fun hNew => ?_)
      clear hK K hHeld
      have hHeld := hNew
      clear hNew
      refine anyL_ready (rs := [10]) (by kernel_rfl) (by simp) (ReadyL.cons rfl (fun K hK => ?_) (ReadyL.nil))
      · dsimp only [List.getElem_toArray, List.getElem_cons_succ, List.getElem_cons_zero]
        go_simp
        rw [Lib.run_unsafeString_none]
        simp only [Result.andThen]
        rw [Oper.upon_value]
        go_wp2_with fail
        refine hK.out _ _ (hHeld) (fun hNew => ?_)
        clear hK K hHeld
        have hHeld := hNew
        clear hNew
        refine anyL_tk 11 (v := ?_) rfl (by kernel_rfl) (fun _ _ _ h => h) hHeld (by rfl) ?_ ?_
        rotate_left 1
        · intro w hSw; (try dsimp only at hSw); go_simp; try with_reducible rfl
        refine anyL_done (by kernel_rfl) ?_ _
        go_wp2
        go_ret
        exact ⟨rfl, (Below.refl B W).trans ⟨rfl, rfl, rfl, Nat.le_refl _, fun _ _ => rfl⟩⟩
  · obtain ⟨g, cap, cur, fz, rfl, hB, hh, hfz, hc1, hc2, hc3, hc4⟩ : ∃ g cap cur fz, v = .slice (some ⟨g, 0, none⟩) x.l.length cap ∧ B ≤ g ∧ W.heap[g]? = some (.cells cur 5 fz) ∧ fz.2 ≤ x.l.length * 1 ∧ x.l.length ≤ cap ∧ cap ≤ maxLen ∧ cur.size = cap * 1 ∧ cur.toList.take (x.l.length * 1) = Lib.byteCells x.l := by
      rcases h3.2 with ⟨_, h0⟩ | h0
      · exact absurd (List.eq_nil_of_length_eq_zero h0) hx
      · exact h0
    have c1 := cell_of h1 1
    simp only [List.getElem?_toArray, List.getElem?_cons_zero, List.getElem?_cons_succ] at c1
    have hpos : 0 < x.l.length := List.length_pos_iff.2 hx
    have hU := Lib.run_unsafeString_row (P := Try.prog) W.drew 68 3 9 5 und68 cells5 g cap (by show W.shape? g = _; simp [World.shape?, hh, hc3]) x.l hx hc1 (by omega) (fun j y hy => by
      rw [Addr.add_mid, Nat.zero_add]
      show W.cell? _ = _
      have hj : j < x.l.length := (List.getElem?_eq_some_iff.1 hy).1
      have h6 : cur[j]? = (Lib.byteCells x.l)[j]? := by rw [← hc4, List.getElem?_take_of_lt (by omega), Array.getElem?_toList]
      simp only [World.cell?, hh]
      rw [h6, Lib.byteCells, List.getElem?_map, hy]
      rfl)
    have hbs : (⟨x.l.toArray⟩ : ByteArray) = bs x.l := rfl
    rw [hbs] at hU
    have hK := Lib.OthersKept.freeze (Lib.OthersKept.refl 5 (some g) W.drew) ⟨g, 0, none⟩ x.l.length ⟨cur, fz, hh⟩ b _ h1 (fun e => h4 (by simp [Value.ownBlock]; exact (Option.some.inj e).symm)) (fun c f e => by cases e)
    have HK : Hid ((W.drew.freeze ⟨g, 0, none⟩ x.l.length).cell? ⟨b, 1, none⟩ = some (.slice (some ⟨g, 0, none⟩) x.l.length cap)) := cell_of hK 1
    have HB := hidW (Lib.below_freeze ((Below.refl B W).trans ⟨rfl, rfl, rfl, Nat.le_refl _, fun _ _ => rfl⟩ : Below B W W.drew) (p := ⟨g, 0, none⟩) hB x.l.length)
    have HU := hidW hU
    have hcap0 : cap ≠ 0 := by omega
    have HS := hidW (fun (w : World) => Lib.run_unsafeSliceData_row (P := Try.prog) w #[44] 68 ⟨g, 0, none⟩ x.l.length cap hcap0)
    have hln : x.l.length ≤ 140737488355328 := hlen
    generalize hbx : bs x.l = R at *
    clear h h1 h2 h3 h4 h5 hx hlen hh hfz hc1 hc2 hc3 hc4 hU hK hbs hbx hcap0 hB
    generalize x.l.length = n at *
    go_enter Try.func21, Try.ntmps21
    go_wp2_with fail
    refine region_late (fun V => V.cell? ⟨b, 1, none⟩ = some (.slice (some ⟨g, 0, none⟩) n cap)) 99 (by kernel_rfl) ?_
    have hHeld : W.drew.cell? ⟨b, 1, none⟩ = some (.slice (some ⟨g, 0, none⟩) n cap) := c1
    refine anyL_tk 0 (v := ?_) rfl (by kernel_rfl) (fun _ _ _ h => h) hHeld (by rfl) ?_ ?_
    rotate_left 1
    · intro w hSw; (try dsimp only at hSw); go_simp; try with_reducible rfl
    refine anyL_tk 1 (v := ?_) rfl (by kernel_rfl) (fun _ _ _ h => h) hHeld (by rfl) ?_ ?_
    rotate_left 1
    · intro w hSw; (try dsimp only at hSw); go_simp; try with_reducible rfl
    refine anyL_tk 2 (v := ?_) rfl (by kernel_rfl) (fun _ _ _ h => h) hHeld (by rfl) ?_ ?_
    rotate_left 1
    · intro w hSw; (try dsimp only at hSw); go_simp; try with_reducible rfl
    refine anyL_tk 3 (v := ?_) rfl (by kernel_rfl) (fun _ _ _ h => h) hHeld (by rfl) ?_ ?_
    rotate_left 1
    · intro w hSw; (try dsimp only at hSw); go_simp; try with_reducible rfl
    refine anyL_tk 5 (v := ?_) rfl (by kernel_rfl) (fun _ _ _ h => h) hHeld (by rfl) ?_ ?_
    rotate_left 1
    · intro w hSw; (try dsimp only at hSw); go_simp; try with_reducible rfl
    refine anyL_tk 6 (v := ?_) rfl (by kernel_rfl) (fun _ _ _ h => h) hHeld (by rfl) ?_ ?_
    rotate_left 1
    · intro w hSw; (try dsimp only at hSw); go_simp; try with_reducible rfl
    refine anyL_tk 7 (v := ?_) rfl (by kernel_rfl) (fun _ _ _ h => h) hHeld (by rfl) ?_ ?_
    rotate_left 1
    · intro w hSw; (try dsimp only at hSw); go_simp; try with_reducible rfl
    refine anyL_tk 8 (v := ?_) rfl (by kernel_rfl) (fun _ _ _ h => h) hHeld (by rfl) ?_ ?_
    rotate_left 1
    · intro w hSw; (try dsimp only at hSw); go_simp; try with_reducible rfl
    refine anyL_tk 9 (v := ?_) rfl (by kernel_rfl) (fun _ _ _ h => h) hHeld (by rfl) ?_ ?_
    rotate_left 1
    · intro w hSw; (try dsimp only at hSw); go_simp; try with_reducible rfl
    refine anyL_ready (rs := [4]) (by kernel_rfl) (by simp) (ReadyL.cons rfl (fun K hK => ?_) (ReadyL.nil))
    · dsimp only [List.getElem_toArray, List.getElem_cons_succ, List.getElem_cons_zero]
      go_simp
      try rw [HS.out]
      try simp only [Result.andThen]
      try rw [Oper.upon_value]
      try go_wp2_with fail
      refine hK.out _ _ (hHeld) (fun hNew => ?_)
      clear hK K hHeld
      have hHeld := hNew
      clear hNew
      refine anyL_ready (rs := [10]) (by kernel_rfl) (by simp) (ReadyL.cons rfl (fun K hK => ?_) (ReadyL.nil))
      · dsimp only [List.getElem_toArray, List.getElem_cons_succ, List.getElem_cons_zero]
        go_simp
        rw [HU.out]
        simp only [Result.andThen]
        rw [Oper.upon_value]
        go_wp2_with fail
        refine hK.out _ _ (HK.out) (fun hNew => ?_)
        clear hK K hHeld
        have hHeld := hNew
        clear hNew
        refine anyL_tk 11 (v := ?_) rfl (by kernel_rfl) (fun _ _ _ h => h) hHeld (by rfl) ?_ ?_
        rotate_left 1
        · intro w hSw; (try dsimp only at hSw); go_simp; try with_reducible rfl
        refine anyL_done (by kernel_rfl) ?_ _
        go_wp2
        go_ret
        exact ⟨rfl, HB.out⟩

set_option maxRecDepth 100000 in
set_option maxHeartbeats 16000000 in
theorem text_of (n : Nv) (W : World) (D : Nat → Prop) (hl : LiesD D W n) (hbn : n.nd.bnd) (hlen : ned n.nd ≤ 140737488355327) :
    Calls Try.prog 9 #[n.val] W fun e W' => e = .returned (.string (bs (txt n.nd))) ∧ Below W.heap.size W W' := by
  obtain ⟨k, t, a, av, cap, blk, off, ks⟩ := n
  show Calls Try.prog 9 #[.agg #[.int .i64 k, .string (bs t), .int .i64 a, .slice av ks.length cap]] W _
  have hb0 := bel_new W (.cells #[.int .i64 k, .string (bs t), .int .i64 a, .slice av ks.length cap] 24)
  have hk0 := World.alloc_heap_new W (.cells #[.int .i64 k, .string (bs t), .int .i64 a, .slice av ks.length cap] 24)
  have hb1 := bel_new (W.alloc (.cells #[.int .i64 k, .string (bs t), .int .i64 a, .slice av ks.length cap] 24)) (.cells #[.pointer none, .slice none 0 0, .bool false] 48)
  have hk1 := (hb1.block _ (lt_of hk0)).trans hk0
  have hw := World.alloc_heap_new (W.alloc (.cells #[.int .i64 k, .string (bs t), .int .i64 a, .slice av ks.length cap] 24)) (.cells #[.pointer none, .slice none 0 0, .bool false] 48)
  rw [World.size_alloc] at hw
  have hW : WrAt W.heap.size (W.heap.size + 1) ⟨[], false⟩ ((W.alloc (.cells #[.int .i64 k, .string (bs t), .int .i64 a, .slice av ks.length cap] 24)).alloc (.cells #[.pointer none, .slice none 0 0, .bool false] 48)) :=
    ⟨by omega, by simp; omega, none, .slice none 0 0, hw, .inl rfl, ⟨rfl, .inl ⟨rfl, rfl⟩⟩, by simp [Value.ownBlock], fun _ => rfl⟩
  have hl1 := (LiesD.mono (D' := fun b => b < W.heap.size) hl (fun b _ h => h)).turns (turns_b (Q := fun _ => False) (bel_two hb0 hb1)) (fun _ _ _ h => h)
  have hC := hidW (node_to W.heap.size (W.heap.size + 1) _ (.mk k t a av cap blk off ks) (Nat.le_refl _) _ ⟨[], false⟩ hW hl1 hbn (by simp; omega))
  have htl := txt_ned (Nv.mk k t a av cap blk off ks).nd
  have hap : (app1 (txt (Nv.mk k t a av cap blk off ks).nd) ⟨[], false⟩).l = txt (Nv.mk k t a av cap blk off ks).nd := by
    unfold app1
    split
    · rename_i h; rw [h]
    · simp
  have HB := hidW (bel_two hb0 hb1)
  have c0 := cell_of hk1 0
  have c1 := cell_of hk1 1
  have c2 := cell_of hk1 2
  have c3 := cell_of hk1 3
  simp only [List.getElem?_toArray, List.getElem?_cons_zero, List.getElem?_cons_succ] at c0 c1 c2 c3
  generalize hty : txt (Nv.mk k t a av cap blk off ks).nd = ty at *
  have HA := hidW (And.intro hap (show ty.length ≤ 140737488355328 by omega))
  clear hl hbn hlen hb0 hk0 hb1 hk1 hw hW hl1 htl hap hty
  go_enter Try.func9, Try.ntmps9
  go_wp2_with fail
  refine hC.out.mono ?_; clear hC; rintro e V1 ⟨rfl, hq, hw⟩
  have hS := hidW (wstr hq (by rw [HA.out.1]; exact HA.out.2))
  have HF := hidW hw
  clear hq hw
  go_wp2_with fail
  refine hS.out.mono ?_; clear hS; rintro e V2 ⟨rfl, hb2⟩
  have HG := hidW (HB.out.trans (HF.out.below.trans hb2))
  clear hb2
  go_wp2
  go_ret
  exact ⟨by show Ending.returned (.string (bs (app1 ty ⟨[], false⟩).l)) = .returned (.string (bs ty)); rw [HA.out.1], HG.out⟩

end Go.Proofs.Ytgndnodahlabiaa

/- The laws' small case (layer 10): the contract. -/
namespace Go.Proofs.Ytgndnodahlabiaa
open Go.ChangeShapes Go.WideShapes Go.ChangeAt Go.RowKit

theorem lexAns_good {s : List UInt8} {base : Nat} {v : Value} {W : World} (h : LexAns s base v W) {ts : List Tok} (hs : lexS s = (ts, none)) : ∃ w, v = .tuple #[w, .int .i64 (s.length : Int), .int .i64 0] ∧ W.ownsRow base 41 3 w ts.length (ts.flatMap tcells) := by
  cases h with
  | good ts' w W' h1 h2 =>
    rw [hs] at h1
    cases h1
    exact ⟨w, rfl, h2⟩
  | bad ts' q W' h1 =>
    rw [hs] at h1
    cases h1
theorem tflat_get : ∀ (l : List Tok) (j f : Nat), j < l.length → f < 3 → (l.flatMap tcells)[j * 3 + f]? = (tcells (l.getD j tk0))[f]?
  | x :: r, 0, f, _, hf => by rw [List.flatMap_cons, List.getElem?_append_left (by simp; omega)]; simp
  | x :: r, j + 1, f, hj, hf => by
    have hx : (tcells x).length = 3 := rfl
    rw [List.flatMap_cons, List.getElem?_append_right (by rw [hx]; omega)]
    have := tflat_get r j f (by simpa using hj) hf
    rw [show (j + 1) * 3 + f - (tcells x).length = j * 3 + f by rw [hx]; omega, this]; rfl
/-- A row of tokens that Lex made may be handed to Parse. -/
theorem toks_of {W : World} {base : Nat} {v : Value} {ts : List Tok} (h : W.ownsRow base 41 3 v ts.length (ts.flatMap tcells)) (hlen : ts.length ≤ 100000) (hsh : ∀ x, x ∈ ts → x.t.length ≤ 100000000) :
    ∃ av cap blk off, v = .slice av ts.length cap ∧ Toks W av blk off ts ∧ (0 < ts.length → base ≤ blk) := by
  obtain ⟨av, cap, rfl, h1, h2⟩ := own_shape h
  by_cases h0 : 0 < ts.length
  · obtain ⟨g, cp, e, _, _⟩ := h.form h0
    injection e with e1 e2 e3
    subst e1
    have hl := h.lt g rfl
    refine ⟨_, cap, g, 0, rfl, ⟨fun _ => rfl, fun _ => hl.2, fun i f hi hf => ?_, hlen, hsh⟩, fun _ => hl.1⟩
    have h5 : (ts.flatMap tcells)[i * 3 + f]? = some ((tcells (ts.getD i tk0))[f]'hf) := by rw [tflat_get ts i f hi hf, List.getElem?_eq_getElem hf]
    have := h.cells (g := g) rfl (i * 3 + f) _ h5
    rw [Addr.add_mid] at this
    rw [Nat.zero_add, List.getElem?_eq_getElem hf]
    simpa using this
  · exact ⟨av, cap, 0, 0, rfl, ⟨fun h => absurd h h0, fun h => absurd h h0, fun i f hi => by omega, hlen, hsh⟩, fun h => absurd h h0⟩

/-- A tree in a variable's box. -/
structure NodB (g : Nat) (k : Int) (t : List UInt8) (a : Int) (av : Option Addr) (cap blk off : Nat) (ks : List Nv) (D : Nat → Prop) (V : World) : Prop where
  box : V.heap[g]? = some (.cells #[.int .i64 k, .string (bs t), .int .i64 a, .slice av ks.length cap] 24 (0, 0))
  li : LiesD D V (.mk k t a av cap blk off ks)
theorem NodB.below {g : Nat} {k : Int} {t : List UInt8} {a : Int} {av : Option Addr} {cap blk off : Nat} {ks : List Nv} {D : Nat → Prop} {V V' : World} (h : NodB g k t a av cap blk off ks D V) (hb : Below V.heap.size V V') : NodB g k t a av cap blk off ks D V' :=
  ⟨(hb.block _ (lt_of h.box)).trans h.box, h.li.turns (turns_b (Q := fun _ => False) hb) (fun _ _ _ h => h)⟩
theorem NodB.cells {g : Nat} {k : Int} {t : List UInt8} {a : Int} {av : Option Addr} {cap blk off : Nat} {ks : List Nv} {D : Nat → Prop} {V : World} (h : NodB g k t a av cap blk off ks D V) : V.cell? ⟨g, 0, none⟩ = some (.int .i64 k) ∧ V.cell? ⟨g, 1, none⟩ = some (.string (bs t)) ∧ V.cell? ⟨g, 2, none⟩ = some (.int .i64 a) ∧ V.cell? ⟨g, 3, none⟩ = some (.slice av ks.length cap) :=
  ⟨cell_of h.box 0, cell_of h.box 1, cell_of h.box 2, cell_of h.box 3⟩
theorem NodB.new {k : Int} {t : List UInt8} {a : Int} {av : Option Addr} {cap blk off : Nat} {ks : List Nv} {D : Nat → Prop} {V : World} (h : LiesD D V (.mk k t a av cap blk off ks)) : NodB V.heap.size k t a av cap blk off ks D (V.alloc (.cells #[.int .i64 k, .string (bs t), .int .i64 a, .slice av ks.length cap] 24)) :=
  ⟨World.alloc_heap_new V _, lies_new h _⟩

set_option maxRecDepth 100000 in
set_option maxHeartbeats 16000000 in
theorem small_is (W : World) : Calls Try.prog 7 #[] W fun e W' => e = .returned (.bool true) ∧ Below W.heap.size W W' := by
  have hL := hidW (lex_s (bs smT) (by rw [bs_size]; decide) W)
  go_enter Try.func7, Try.ntmps7
  go_wp2_with fail
  refine hL.out.mono ?_; clear hL; rintro e W1 ⟨r, rfl, hr, hb1⟩
  obtain ⟨w, rfl, ho⟩ := lexAns_good hr sm_lex
  obtain ⟨av, cap, blk, off, rfl, ht, -⟩ := toks_of ho (by rw [sm_len]; decide) (by
    intro x hx
    have : ∀ x, x ∈ smL → x.t.length ≤ 5 := by
      have h : smL.all (fun x => Nat.ble x.t.length 5) = true := by kernel_rfl
      intro x hx
      exact Nat.le_of_ble_eq_true (List.all_eq_true.1 h x hx)
    have := this x hx
    omega)
  have hP := parse_is (cap := cap) ht
  unfold PrAns at hP
  rw [sm_at, sm_err, sm_len] at hP
  have HP := hidW hP
  have HB1 := hidW hb1
  rw [sm_len]
  clear hr ho ht hP hb1
  go_wp2_with fail
  refine HP.out.mono ?_; clear HP; rintro e W2 ⟨⟨k, t, a, nav, ncap, nblk, noff, ks⟩, rfl, hl, hn, hb2⟩
  have N3 := NodB.new hl
  have hb3 := bel_two hb2 (bel_new W2 (.cells #[.int .i64 k, .string (bs t), .int .i64 a, .slice nav ks.length ncap] 24))
  have hT : Toks ((W2.alloc (.cells #[.int .i64 k, .string (bs t), .int .i64 a, .slice nav ks.length ncap] 24)).alloc (.cells #[.int .i64 1, .string ⟨#[102, 117, 110, 99]⟩, .int .i64 0, .int .i64 1, .string ⟨#[105, 102]⟩, .int .i64 0] 41)) (some ⟨W2.heap.size + 1, 0, none⟩) (W2.heap.size + 1) 0 smB := by
    have hk := World.alloc_heap_new (W2.alloc (.cells #[.int .i64 k, .string (bs t), .int .i64 a, .slice nav ks.length ncap] 24)) (.cells #[.int .i64 1, .string ⟨#[102, 117, 110, 99]⟩, .int .i64 0, .int .i64 1, .string ⟨#[105, 102]⟩, .int .i64 0] 41)
    rw [World.size_alloc] at hk
    refine ⟨fun _ => rfl, fun _ => lt_of hk, fun i f hi hf => ?_, by decide, fun x hx => ?_⟩
    · rw [cell_of hk]
      have hi2 : i < 2 := hi
      rcases (show i = 0 ∨ i = 1 by omega) with rfl | rfl <;> rcases (show f = 0 ∨ f = 1 ∨ f = 2 by omega) with rfl | rfl | rfl <;> rfl
    · rcases (show x = ⟨1, [102, 117, 110, 99], 0⟩ ∨ x = ⟨1, [105, 102], 0⟩ by simpa [smB] using hx) with rfl | rfl <;> simp
  have hP := parse_is (cap := 2) hT
  unfold PrAns at hP
  rw [sm_bad.1, sm_bad.2] at hP
  have hP2 := hidW hP
  have hb4 := bel_two hb3 (bel_new (W2.alloc (.cells #[.int .i64 k, .string (bs t), .int .i64 a, .slice nav ks.length ncap] 24)) (.cells #[.int .i64 1, .string ⟨#[102, 117, 110, 99]⟩, .int .i64 0, .int .i64 1, .string ⟨#[105, 102]⟩, .int .i64 0] 41))
  have N4 := N3.below (bel_new _ (.cells #[.int .i64 1, .string ⟨#[102, 117, 110, 99]⟩, .int .i64 0, .int .i64 1, .string ⟨#[105, 102]⟩, .int .i64 0] 41))
  have H4 := hidW (And.intro N4 (And.intro (bel_two HB1.out hb4) hn))
  clear hT hP hl hn hb2 hb3 hb4 N3 N4
  go_wp2_with fail
  refine hP2.out.mono ?_; clear hP2; rintro e W5 ⟨⟨k', t', a', av', cap', blk', off', ks'⟩, rfl, -, -, hb5⟩
  have hb6 := bel_two hb5 (bel_new W5 (.cells #[.int .i64 k', .string (bs t'), .int .i64 a', .slice av' ks'.length cap'] 24))
  have N6 := H4.out.1.below hb6
  obtain ⟨c0, c1, c2, c3⟩ := N6.cells
  have hbnd : (Nv.mk k t a nav ncap nblk noff ks).nd.bnd := sz_bnd _ (by rw [H4.out.2.2, sm_sz]; decide)
  have hned : ned (Nv.mk k t a nav ncap nblk noff ks).nd ≤ 2000 := by rw [H4.out.2.2]; exact Nat.le_of_ble_eq_true sm_ned
  have hX := text_of _ _ _ N6.li hbnd (by omega)
  rw [H4.out.2.2, sm_txt] at hX
  have HX := hidW hX
  have H6 := hidW (And.intro N6 (And.intro (bel_two H4.out.2.1 hb6) hbnd))
  clear hb5 hb6 N6 hbnd hned hX
  go_wp2_with fail
  refine HX.out.mono ?_; clear HX; rintro e W7 ⟨rfl, hb7⟩
  have N7 := H6.out.1.below hb7
  clear c0 c1 c2 c3
  obtain ⟨c0, c1, c2, c3⟩ := N7.cells
  have hS := size_is _ _ _ N7.li (by rw [H4.out.2.2, sm_sz]; decide)
  rw [H4.out.2.2, sm_sz] at hS
  have HS := hidW hS
  have H7 := hidW (And.intro N7 (bel_two H6.out.2.1 hb7))
  have eqx : (bs smX).toList = smX := bs_toList _
  clear hb7 N7 hS
  go_wp2_with fail
  refine HS.out.mono ?_; clear HS; rintro e W8 ⟨rfl, hb8⟩
  have N8 := H7.out.1.below hb8
  clear c0 c1 c2 c3
  obtain ⟨c0, c1, c2, c3⟩ := N8.cells
  have hw1 := hidW (word_is [114, 101, 97, 100] W8)
  have hw2 := hidW (word_is [102] W8)
  have hM := tsame_is _ _ _ _ N8.li N8.li H6.out.2.2 H6.out.2.2
  rw [H4.out.2.2, sm_same] at hM
  have HM := hidW hM
  have H8 := hidW (bel_two H7.out.2 hb8)
  clear hb8 N8 hM
  go_wp2_with fail
  refine hw1.out.mono ?_; clear hw1; rintro e W9 ⟨rfl, rfl⟩
  go_wp2_with fail
  refine hw2.out.mono ?_; clear hw2; rintro e W9 ⟨rfl, rfl⟩
  go_wp2_with fail
  refine HM.out.mono ?_; clear HM; rintro e W9 ⟨rfl, hb9⟩
  go_wp2
  go_ret
  exact ⟨rfl, bel_two H8.out hb9⟩

end Go.Proofs.Ytgndnodahlabiaa
