/-
  A writer (layer 10): the contracts of list and lines.
  A writer (layer 10): the contracts of lines and leastKids.
  A writer (layer 10): the contract of leastKids; a node in its box.
  A writer (layer 10): what the rows of trees want.
-/
import Derived.Test.YtgndnodahlabiaaMgK
import Derived.Test.YtgndnodahlabiaaMgF

/- A writer (layer 10): the contracts of list and lines. -/
namespace Go.Proofs.Ytgndnodahlabiaa
open Go.ChangeShapes Go.WideShapes Go.ChangeAt Go.RowKit

/-- What is still to be written of a list, at a place. -/
def restW (ks : List Nv) (j : Nat) : List (List UInt8) := if j = 0 then inter (txtL (ndL ks)) else (txtL (ndL (ks.drop j))).flatMap (fun q => [[44], q])
theorem restW_zero {ks : List Nv} (h : 0 < ks.length) : restW ks 0 = txt (ks[0]'h).nd :: restW ks 1 := by
  unfold restW
  rw [if_pos rfl, if_neg (by decide)]
  cases ks with
  | nil => simp at h
  | cons n r => rw [ndL, txtL, inter_cons]; rfl
theorem restW_pos {ks : List Nv} {j : Nat} (h : j < ks.length) (hj : 0 < j) : restW ks j = [44] :: txt (ks[j]'h).nd :: restW ks (j + 1) := by
  unfold restW
  rw [if_neg (by omega), if_neg (by omega), ndL_drop ks j h, txtL]
  rfl
theorem restW_end {ks : List Nv} {j : Nat} (h : ks.length ≤ j) : restW ks j = [] := by
  unfold restW
  split
  · rename_i h0
    have : ks = [] := List.eq_nil_of_length_eq_zero (by omega)
    subst this
    rw [ndL, txtL]; rfl
  · rw [List.drop_eq_nil_of_le h, ndL, txtL]; rfl

set_option maxRecDepth 100000 in
set_option maxHeartbeats 8000000 in
theorem wlist_is {B b z : Nat} (IH0 : NodeTo B b z) {x : Ws} {W : World} (h : WrAt B b x W) {av : Option Addr} {cap blk off : Nat} {ks : List Nv} (hr : RowB B W av blk off ks) (hz : szL (ndL ks) ≤ z) (hlen : x.l.length + nedL (ndL ks) ≤ 140737488355328) :
    Calls Try.prog 44 #[.pointer (some ⟨b, 0, none⟩), .slice av ks.length cap] W fun e W' => e = .returned (.pointer (some ⟨b, 0, none⟩)) ∧ WrAt B b (appL (inter (txtL (ndL ks))) x) W' ∧ Wrt B b W W' := by
  have hln := hr.len
  have hr0 : restW ks 0 = inter (txtL (ndL ks)) := if_pos rfl
  rw [← hr0]
  clear hr0
  generalize hRR : appL (restW ks 0) x = R
  have H0 := hidW (And.intro h (And.intro hr (And.intro hRR hlen)))
  have IH := hidW IH0
  clear h hRR hr hlen IH0
  generalize hn : ks.length = n at *
  have HN := hidW hn
  clear hn
  go_enter Try.func44, Try.ntmps44
  go_wp2_with fail
  go_loopw [9] (fun i wr => ∃ (j : Nat) (y : Ws), i = .int .i64 (j : Int) ∧ j ≤ n ∧ WrAt B b y wr ∧ appL (restW ks j) y = R ∧ y.l.length + nedL (ndL (ks.drop j)) ≤ 140737488355328 ∧ Wrt B b W wr) (fun i _ => n - (intOf i).toNat)
  case atStart => exact ⟨0, x, rfl, Nat.zero_le _, H0.out.1, H0.out.2.2.1, H0.out.2.2.2, Wrt.refl _ _ _⟩
  case round =>
    obtain ⟨j, y, rfl, hj, hy, hR, hl, hw⟩ := hrel
    by_cases h1 : j < n
    · have hjk : j < ks.length := by have := HN.out; omega
      have e1 : ((j : Int) < (n : Int)) = True := eq_true (by omega)
      have hrw := H0.out.2.1.step hw
      obtain ⟨q, hq⟩ : ∃ q, ks[j]'hjk = q := ⟨_, rfl⟩
      have hqm : q ∈ ks := hq ▸ List.getElem_mem hjk
      rw [nedL_drop ks j hjk, hq] at hl
      have hqz := szL_mem' hqm
      obtain rfl := hrw.row.at_ (by omega)
      obtain ⟨qk, qt, qa, qav, qcap, qblk, qoff, qks⟩ := q
      obtain ⟨k0, k1, k2, k3⟩ := hrw.row.kid hjk hq
      have hwa := Wrt.alloc (b := b) hy.sz (.cells #[.int .i64 qk, .string (bs qt), .int .i64 qa, .slice qav qks.length qcap] 24)
      have hya := hy.alloc (.cells #[.int .i64 qk, .string (bs qt), .int .i64 qa, .slice qav qks.length qcap] 24)
      have hka := World.alloc_heap_new wr (.cells #[.int .i64 qk, .string (bs qt), .int .i64 qa, .slice qav qks.length qcap] 24)
      have hlt : wr.heap.size ≠ b := by obtain ⟨p, v, hbx, _⟩ := hy.box; have := lt_of hbx; omega
      have hlq := (hrw.kid _ hqm).turns hwa.turns (fun _ hc _ => Nat.not_le.2 hc)
      have hbq := hrw.bnd _ hqm
      have htl := txt_ned (Nv.mk qk qt qa qav qcap qblk qoff qks).nd
      by_cases h0 : j = 0
      · have hC := hidW (IH.out (.mk qk qt qa qav qcap qblk qoff qks) (by omega) _ y hya hlq hbq (by omega))
        have hR : appL (restW ks (j + 1)) (app1 (txt (Nv.mk qk qt qa qav qcap qblk qoff qks).nd) y) = R := by
          subst h0
          rw [restW_zero hjk, hq, appL_cons] at hR
          exact hR
        have hal := app_len (txt (Nv.mk qk qt qa qav qcap qblk qoff qks).nd) y
        have HY := hidW (And.intro (hw.trans hwa) (And.intro hR (show (app1 (txt (Nv.mk qk qt qa qav qcap qblk qoff qks).nd) y).l.length + nedL (ndL (ks.drop (j + 1))) ≤ 140737488355328 by omega)))
        have e0 : ((0 : Int) < (j : Int)) = False := by simp [h0]
        have e00 : (0 < j) = False := by simp [h0]
        clear h0
        have x0 := cell_of hka 0
        have x1 := cell_of hka 1
        have x2 := cell_of hka 2
        have x3 := cell_of hka 3
        simp only [List.getElem?_toArray, List.getElem?_cons_zero, List.getElem?_cons_succ] at x0 x1 x2 x3
        clear hrw hq hqm hR hl hy hw hwa htl hal hqz hya hka hlq hbq
        go_wp2_with fail
        refine hC.out.mono ?_; clear hC; rintro e W2 ⟨rfl, hy2, hw2⟩
        have HZ := hidW (And.intro hy2 hw2)
        clear hy2 hw2
        go_wp2_with fail
        go_roundw
        case rel => exact ⟨j + 1, _, by go_num, by omega, HZ.out.1, HY.out.2.1, HY.out.2.2, HY.out.1.trans HZ.out.2⟩
        case measure => simp [intOf]; omega
      · have e0 : ((0 : Int) < (j : Int)) = True := eq_true (by omega)
        have e00 : (0 < j) = True := eq_true (by omega)
        rw [restW_pos hjk (by omega), hq, appL_cons, appL_cons] at hR
        have hyb := hya.alloc (.cells #[.string ⟨#[44]⟩] 9)
        have hwb := Wrt.alloc (b := b) hya.sz (.cells #[.string ⟨#[44]⟩] 9)
        have hP := hidW (put_is hyb [[44]] (World.alloc_heap_new (wr.alloc (.cells #[.int .i64 qk, .string (bs qt), .int .i64 qa, .slice qav qks.length qcap] 24)) (.cells #[.string ⟨#[44]⟩] 9)) (by rw [World.size_alloc]; obtain ⟨p, v, hbx, _⟩ := hy.box; have := lt_of hbx; omega) (by decide) (by simp [room]; omega))
        rw [World.size_alloc] at hP
        have hal := app_len [44] y
        have HY := hidW (And.intro (hw.trans (hwa.trans hwb)) (And.intro hR (And.intro hl (And.intro hal (And.intro hbq (And.intro htl (And.intro hqz (And.intro (hwb.kept hka (by decide) hlt) (hlq.turns hwb.turns (fun _ hc _ => Nat.not_le.2 hc))))))))))
        clear hrw hq hqm hR hl hy hw hwa htl hal hqz hya hka hlq hbq hyb hwb
        go_wp2_with fail
        refine hP.out.mono ?_; clear hP; rintro e W2 ⟨rfl, hy2, hw2⟩
        have hk2 := hw2.kept HY.out.2.2.2.2.2.2.2.1 (by decide) hlt
        have x0 := cell_of hk2 0
        have x1 := cell_of hk2 1
        have x2 := cell_of hk2 2
        have x3 := cell_of hk2 3
        simp only [List.getElem?_toArray, List.getElem?_cons_zero, List.getElem?_cons_succ] at x0 x1 x2 x3
        have hC := hidW (IH.out (.mk qk qt qa qav qcap qblk qoff qks) (by have := HY.out.2.2.2.2.2.2.1; omega) _ _ hy2 (HY.out.2.2.2.2.2.2.2.2.turns hw2.turns (fun _ hc _ => Nat.not_le.2 hc)) HY.out.2.2.2.2.1 (by have := HY.out.2.2.1; have := HY.out.2.2.2.1; show (app1 [44] y).l.length + _ ≤ _; simp at this; omega))
        have HW2 := hidW hw2
        clear hy2 hw2 hk2
        go_wp2_with fail
        refine hC.out.mono ?_; clear hC; rintro e W3 ⟨rfl, hy3, hw3⟩
        have HZ := hidW (And.intro hy3 hw3)
        clear hy3 hw3
        go_wp2_with fail
        go_roundw
        case rel => exact ⟨j + 1, _, by go_num, by omega, HZ.out.1, HY.out.2.1, by
          have h1 := HY.out.2.2.1
          have h2 := HY.out.2.2.2.1
          have h3 := HY.out.2.2.2.2.2.1
          have h4 := app_len (txt (Nv.mk qk qt qa qav qcap qblk qoff qks).nd) (app1 [44] y)
          simp at h2
          show (app1 (txt (Nv.mk qk qt qa qav qcap qblk qoff qks).nd) (app1 [44] y)).l.length + _ ≤ _
          omega, HY.out.1.trans (HW2.out.trans HZ.out.2)⟩
        case measure => simp [intOf]; omega
    · have e1 : ((j : Int) < (n : Int)) = False := by simp; omega
      have hyR : y = R := by rw [← hR, restW_end (by have := HN.out; omega)]; rfl
      have HF := hidW (And.intro hy (And.intro hw hyR))
      clear hy hw hR hl hyR
      go_wp2
      go_ret
      exact ⟨rfl, HF.out.2.2 ▸ HF.out.1, HF.out.2.1⟩

end Go.Proofs.Ytgndnodahlabiaa

/- A writer (layer 10): the contracts of lines and leastKids. -/
namespace Go.Proofs.Ytgndnodahlabiaa
open Go.ChangeShapes Go.WideShapes Go.ChangeAt Go.RowKit

theorem line_len (s : List UInt8) (x : Ws) : (lineS s x).l.length ≤ x.l.length + s.length + 2 := by
  rw [line_is']
  cases x.b <;> simp <;> omega

set_option maxRecDepth 100000 in
set_option maxHeartbeats 8000000 in
theorem wlines_is {B b z : Nat} (IH0 : NodeTo B b z) {x : Ws} {W : World} (h : WrAt B b x W) {av : Option Addr} {cap blk off : Nat} {ks : List Nv} (hr : RowB B W av blk off ks) (hz : szL (ndL ks) ≤ z) (hlen : x.l.length + nedL (ndL ks) ≤ 140737488355328) :
    Calls Try.prog 43 #[.pointer (some ⟨b, 0, none⟩), .slice av ks.length cap] W fun e W' => e = .returned (.tuple #[]) ∧ WrAt B b (app1 ((txtL (ndL ks)).flatMap (fun s => s ++ [10])) x) W' ∧ Wrt B b W W' := by
  have hln := hr.len
  have hend : ∀ R, linesS (txtL (ndL ks)) x = R → 0 < ks.length → (⟨R.l, true⟩ : Ws) = app1 ((txtL (ndL ks)).flatMap (fun s => s ++ [10])) x := fun R hR h0 => by
    rw [← hR]
    exact lines_all _ _ (fun e => by have := txtL_len (ndL ks); rw [e, ndL_len] at this; simp at this; omega)
  have hnil : ks.length = 0 → app1 ((txtL (ndL ks)).flatMap (fun s => s ++ [10])) x = x := fun h0 => by
    have : ks = [] := List.eq_nil_of_length_eq_zero h0
    subst this
    rw [ndL, txtL]; exact app_nil x
  generalize app1 ((txtL (ndL ks)).flatMap (fun s => s ++ [10])) x = RR at *
  generalize hRR : linesS (txtL (ndL ks)) x = R
  have H0 := hidW (And.intro h (And.intro hr (And.intro hRR hlen)))
  have HE := hidW (And.intro (hend R hRR) hnil)
  have IH := hidW IH0
  clear h hRR hr hlen IH0 hend hnil
  generalize hn : ks.length = n at *
  have HN := hidW hn
  clear hn
  go_enter Try.func43, Try.ntmps43
  go_wp2_with fail
  go_loopw [9] (fun i wr => ∃ (j : Nat) (y : Ws), i = .int .i64 (j : Int) ∧ j ≤ n ∧ WrAt B b y wr ∧ linesS (txtL (ndL (ks.drop j))) y = R ∧ y.l.length + nedL (ndL (ks.drop j)) ≤ 140737488355328 ∧ Wrt B b W wr ∧ (j = 0 → y = x)) (fun i _ => n - (intOf i).toNat)
  case atStart => exact ⟨0, x, rfl, Nat.zero_le _, H0.out.1, H0.out.2.2.1, H0.out.2.2.2, Wrt.refl _ _ _, fun _ => rfl⟩
  case round =>
    obtain ⟨j, y, rfl, hj, hy, hR, hl, hw, hx0⟩ := hrel
    by_cases h1 : j < n
    · have hjk : j < ks.length := by have := HN.out; omega
      have e1 : ((j : Int) < (n : Int)) = True := eq_true (by omega)
      have hrw := H0.out.2.1.step hw
      obtain ⟨q, hq⟩ : ∃ q, ks[j]'hjk = q := ⟨_, rfl⟩
      have hqm : q ∈ ks := hq ▸ List.getElem_mem hjk
      rw [nedL_drop ks j hjk, hq] at hl
      have hqz := szL_mem' hqm
      obtain rfl := hrw.row.at_ (by omega)
      obtain ⟨qk, qt, qa, qav, qcap, qblk, qoff, qks⟩ := q
      obtain ⟨k0, k1, k2, k3⟩ := hrw.row.kid hjk hq
      have hwa := Wrt.alloc (b := b) hy.sz (.cells #[.int .i64 qk, .string (bs qt), .int .i64 qa, .slice qav qks.length qcap] 24)
      have hya := hy.alloc (.cells #[.int .i64 qk, .string (bs qt), .int .i64 qa, .slice qav qks.length qcap] 24)
      have hka := World.alloc_heap_new wr (.cells #[.int .i64 qk, .string (bs qt), .int .i64 qa, .slice qav qks.length qcap] 24)
      have x0 := cell_of hka 0
      have x1 := cell_of hka 1
      have x2 := cell_of hka 2
      have x3 := cell_of hka 3
      simp only [List.getElem?_toArray, List.getElem?_cons_zero, List.getElem?_cons_succ] at x0 x1 x2 x3
      have hlq := (hrw.kid _ hqm).turns hwa.turns (fun _ hc _ => Nat.not_le.2 hc)
      have hbq := hrw.bnd _ hqm
      have htl := txt_ned (Nv.mk qk qt qa qav qcap qblk qoff qks).nd
      have hL := hidW (wlen hya)
      have hC := hidW (IH.out (.mk qk qt qa qav qcap qblk qoff qks) (by omega) _ y hya hlq hbq (by omega))
      have hR2 : linesS (txtL (ndL (ks.drop (j + 1)))) (lineS (txt (Nv.mk qk qt qa qav qcap qblk qoff qks).nd) y) = R := by
        rw [ndL_drop ks j hjk, hq, txtL] at hR
        exact hR
      have hbud : (lineS (txt (Nv.mk qk qt qa qav qcap qblk qoff qks).nd) y).l.length + nedL (ndL (ks.drop (j + 1))) ≤ 140737488355328 := by
        have := line_len (txt (Nv.mk qk qt qa qav qcap qblk qoff qks).nd) y; omega
      have hal := app_len (txt (Nv.mk qk qt qa qav qcap qblk qoff qks).nd) y
      have hlS : lineS (txt (Nv.mk qk qt qa qav qcap qblk qoff qks).nd) y = ⟨(app1 [10] (if (app1 (txt (Nv.mk qk qt qa qav qcap qblk qoff qks).nd) y).l.length > y.l.length then ⟨(app1 (txt (Nv.mk qk qt qa qav qcap qblk qoff qks).nd) y).l, false⟩ else app1 (txt (Nv.mk qk qt qa qav qcap qblk qoff qks).nd) y)).l, false⟩ := rfl
      have hyl : (app1 (txt (Nv.mk qk qt qa qav qcap qblk qoff qks).nd) y).l.length + 2 ≤ 140737488355328 := by omega
      generalize hty : txt (Nv.mk qk qt qa qav qcap qblk qoff qks).nd = ty at *
      have HY := hidW (And.intro (hw.trans hwa) (And.intro hR2 (And.intro hbud (And.intro hlS hyl))))
      clear hrw hq hqm hR hl hy hw hwa htl hal hqz hya hka hlq hbq hR2 hbud hlS hyl hty hx0
      go_wp2_with fail
      refine hL.out.mono ?_; clear hL; rintro e W2 ⟨rfl, rfl⟩
      go_wp2_with fail
      refine hC.out.mono ?_; clear hC; rintro e W2 ⟨rfl, hy2, hw2⟩
      have hL := hidW (wlen hy2)
      generalize hyy : app1 ty y = y2 at *
      obtain ⟨z0, z1⟩ := hy2.cell2
      by_cases hgt : y2.l.length > y.l.length
      · have e2 : ((y.l.length : Int) < (y2.l.length : Int)) = True := eq_true (by omega)
        have hyb := hy2.blank false
        have hyr := hyb.1.alloc (.cells #[.string ⟨#[10]⟩] 9)
        have hlt : b < (W2.setCell ⟨b, 2, none⟩ (.bool false)).heap.size := by obtain ⟨p, v, hbx, _⟩ := hyb.1.box; exact lt_of hbx
        have hP0 := put_is hyr [[10]] (World.alloc_heap_new (W2.setCell ⟨b, 2, none⟩ (.bool false)) (.cells #[.string ⟨#[10]⟩] 9)) (by omega) (by decide) (by have := HY.out.2.2.2.2; simp [room]; omega)
        rw [size_set] at hP0 hlt
        have hP := hidW hP0
        have HZ := hidW (And.intro hw2 (And.intro (hyb.2.trans (Wrt.alloc hyb.1.sz (.cells #[.string ⟨#[10]⟩] 9))) hgt))
        clear hP0 hyr hyb hy2 hw2 hgt
        go_wp2_with fail
        refine hL.out.mono ?_; clear hL; rintro e W3 ⟨rfl, rfl⟩
        go_wp2_with fail
        refine hP.out.mono ?_; clear hP; rintro e W4 ⟨rfl, hy4, hw4⟩
        obtain ⟨q0, q1⟩ := hy4.cell2
        have HQ := hidW (And.intro (hy4.blank false) hw4)
        clear hy4 hw4
        go_wp2_with fail
        go_roundw
        case rel =>
          refine ⟨j + 1, lineS ty y, by go_num, by omega, ?_, HY.out.2.1, HY.out.2.2.1, HY.out.1.trans (HZ.out.1.trans (HZ.out.2.1.trans (HQ.out.2.trans HQ.out.1.2))), fun e => by omega⟩
          rw [HY.out.2.2.2.1, if_pos HZ.out.2.2]
          exact HQ.out.1.1
        case measure => simp [intOf]; omega
      · have e2 : ((y.l.length : Int) < (y2.l.length : Int)) = False := by simp; omega
        have hyr := hy2.alloc (.cells #[.string ⟨#[10]⟩] 9)
        have hlt : b < W2.heap.size := by obtain ⟨p, v, hbx, _⟩ := hy2.box; exact lt_of hbx
        have hP := hidW (put_is hyr [[10]] (World.alloc_heap_new W2 (.cells #[.string ⟨#[10]⟩] 9)) (by omega) (by decide) (by have := HY.out.2.2.2.2; simp [room]; omega))
        have HZ := hidW (And.intro hw2 (And.intro (Wrt.alloc (b := b) hy2.sz (.cells #[.string ⟨#[10]⟩] 9)) hgt))
        clear hyr hy2 hw2 hgt
        go_wp2_with fail
        refine hL.out.mono ?_; clear hL; rintro e W3 ⟨rfl, rfl⟩
        go_wp2_with fail
        refine hP.out.mono ?_; clear hP; rintro e W4 ⟨rfl, hy4, hw4⟩
        obtain ⟨q0, q1⟩ := hy4.cell2
        have HQ := hidW (And.intro (hy4.blank false) hw4)
        clear hy4 hw4
        go_wp2_with fail
        go_roundw
        case rel =>
          refine ⟨j + 1, lineS ty y, by go_num, by omega, ?_, HY.out.2.1, HY.out.2.2.1, HY.out.1.trans (HZ.out.1.trans (HZ.out.2.1.trans (HQ.out.2.trans HQ.out.1.2))), fun e => by omega⟩
          rw [HY.out.2.2.2.1, if_neg HZ.out.2.2]
          exact HQ.out.1.1
        case measure => simp [intOf]; omega
    · have e1 : ((j : Int) < (n : Int)) = False := by simp; omega
      have hyR : y = R := by rw [← hR, List.drop_eq_nil_of_le (by have := HN.out; omega), ndL, txtL]; rfl
      obtain ⟨z0, z1⟩ := hy.cell2
      by_cases h0 : 0 < n
      · have e2 : ((0 : Int) < (n : Int)) = True := eq_true (by omega)
        have e20 : (0 < n) = True := eq_true h0
        have HF := hidW (And.intro (hy.blank true) (And.intro hw (And.intro hyR (HE.out.1 (by have := HN.out; omega)))))
        clear hy hw hR hl hyR h0 hx0
        go_wp2
        refine bodyPost_end (v := .tuple #[]) (by simp [results, Try.results43, go_sem]) rfl ?_
        refine ⟨rfl, ?_, HF.out.2.1.trans HF.out.1.2⟩
        rw [← HF.out.2.2.2, ← HF.out.2.2.1]
        exact HF.out.1.1
      · have e2 : ((0 : Int) < (n : Int)) = False := by simp; omega
        have e20 : (0 < n) = False := eq_false h0
        have HF := hidW (And.intro hy (And.intro hw (And.intro (HE.out.2 (by have := HN.out; omega)) (hx0 (by omega)))))
        clear hy hw hR hl hyR h0 hx0
        go_wp2
        refine bodyPost_end (v := .tuple #[]) (by simp [results, Try.results43, go_sem]) rfl ?_
        exact ⟨rfl, by rw [HF.out.2.2.1, ← HF.out.2.2.2]; exact HF.out.1, HF.out.2.1⟩

end Go.Proofs.Ytgndnodahlabiaa

/- A writer (layer 10): the contract of leastKids; a node in its box. -/
namespace Go.Proofs.Ytgndnodahlabiaa
open Go.ChangeShapes Go.WideShapes Go.ChangeAt Go.RowKit

set_option maxRecDepth 100000 in
set_option maxHeartbeats 4000000 in
theorem least_is (k : Int) (W : World) : Calls Try.prog 30 #[.int .i64 k] W fun e W' => e = .returned (.tuple #[.int .i64 (((leastK k).getD 0 : Nat) : Int), .bool (leastK k).isSome]) ∧ W' = W := by
  by_cases c1 : k = 1
  · subst c1
    go_enter Try.func30, Try.ntmps30
    go_wp2
    go_ret2
    exact ⟨rfl, rfl⟩
  by_cases c2 : k = 2
  · subst c2
    go_enter Try.func30, Try.ntmps30
    go_wp2
    go_ret2
    exact ⟨rfl, rfl⟩
  by_cases c3 : k = 3
  · subst c3
    go_enter Try.func30, Try.ntmps30
    go_wp2
    go_ret2
    exact ⟨rfl, rfl⟩
  by_cases c4 : k = 4
  · subst c4
    go_enter Try.func30, Try.ntmps30
    go_wp2
    go_ret2
    exact ⟨rfl, rfl⟩
  by_cases c5 : k = 5
  · subst c5
    go_enter Try.func30, Try.ntmps30
    go_wp2
    go_ret2
    exact ⟨rfl, rfl⟩
  by_cases c6 : k = 6
  · subst c6
    go_enter Try.func30, Try.ntmps30
    go_wp2
    go_ret2
    exact ⟨rfl, rfl⟩
  by_cases c7 : k = 7
  · subst c7
    go_enter Try.func30, Try.ntmps30
    go_wp2
    go_ret2
    exact ⟨rfl, rfl⟩
  by_cases c8 : k = 8
  · subst c8
    go_enter Try.func30, Try.ntmps30
    go_wp2
    go_ret2
    exact ⟨rfl, rfl⟩
  by_cases c9 : k = 9
  · subst c9
    go_enter Try.func30, Try.ntmps30
    go_wp2
    go_ret2
    exact ⟨rfl, rfl⟩
  by_cases c10 : k = 10
  · subst c10
    go_enter Try.func30, Try.ntmps30
    go_wp2
    go_ret2
    exact ⟨rfl, rfl⟩
  by_cases c11 : k = 11
  · subst c11
    go_enter Try.func30, Try.ntmps30
    go_wp2
    go_ret2
    exact ⟨rfl, rfl⟩
  by_cases c12 : k = 12
  · subst c12
    go_enter Try.func30, Try.ntmps30
    go_wp2
    go_ret2
    exact ⟨rfl, rfl⟩
  by_cases c13 : k = 13
  · subst c13
    go_enter Try.func30, Try.ntmps30
    go_wp2
    go_ret2
    exact ⟨rfl, rfl⟩
  by_cases c14 : k = 14
  · subst c14
    go_enter Try.func30, Try.ntmps30
    go_wp2
    go_ret2
    exact ⟨rfl, rfl⟩
  by_cases c15 : k = 15
  · subst c15
    go_enter Try.func30, Try.ntmps30
    go_wp2
    go_ret2
    exact ⟨rfl, rfl⟩
  by_cases c16 : k = 16
  · subst c16
    go_enter Try.func30, Try.ntmps30
    go_wp2
    go_ret2
    exact ⟨rfl, rfl⟩
  by_cases c17 : k = 17
  · subst c17
    go_enter Try.func30, Try.ntmps30
    go_wp2
    go_ret2
    exact ⟨rfl, rfl⟩
  by_cases c18 : k = 18
  · subst c18
    go_enter Try.func30, Try.ntmps30
    go_wp2
    go_ret2
    exact ⟨rfl, rfl⟩
  by_cases c19 : k = 19
  · subst c19
    go_enter Try.func30, Try.ntmps30
    go_wp2
    go_ret2
    exact ⟨rfl, rfl⟩
  by_cases c20 : k = 20
  · subst c20
    go_enter Try.func30, Try.ntmps30
    go_wp2
    go_ret2
    exact ⟨rfl, rfl⟩
  by_cases c21 : k = 21
  · subst c21
    go_enter Try.func30, Try.ntmps30
    go_wp2
    go_ret2
    exact ⟨rfl, rfl⟩
  by_cases c22 : k = 22
  · subst c22
    go_enter Try.func30, Try.ntmps30
    go_wp2
    go_ret2
    exact ⟨rfl, rfl⟩
  by_cases c23 : k = 23
  · subst c23
    go_enter Try.func30, Try.ntmps30
    go_wp2
    go_ret2
    exact ⟨rfl, rfl⟩
  by_cases c24 : k = 24
  · subst c24
    go_enter Try.func30, Try.ntmps30
    go_wp2
    go_ret2
    exact ⟨rfl, rfl⟩
  by_cases c25 : k = 25
  · subst c25
    go_enter Try.func30, Try.ntmps30
    go_wp2
    go_ret2
    exact ⟨rfl, rfl⟩
  by_cases c26 : k = 26
  · subst c26
    go_enter Try.func30, Try.ntmps30
    go_wp2
    go_ret2
    exact ⟨rfl, rfl⟩
  by_cases c27 : k = 27
  · subst c27
    go_enter Try.func30, Try.ntmps30
    go_wp2
    go_ret2
    exact ⟨rfl, rfl⟩
  have hn : leastK k = none := by unfold leastK; rw [if_neg (by omega), if_neg (by omega), if_neg (by omega)]
  rw [hn]
  have f2 : (k == 2) = false := by simpa using c2
  have f11 : (k == 11) = false := by simpa using c11
  have f12 : (k == 12) = false := by simpa using c12
  have f13 : (k == 13) = false := by simpa using c13
  have f19 : (k == 19) = false := by simpa using c19
  have f23 : (k == 23) = false := by simpa using c23
  have f3 : (k == 3) = false := by simpa using c3
  have f6 : (k == 6) = false := by simpa using c6
  have f7 : (k == 7) = false := by simpa using c7
  have f8 : (k == 8) = false := by simpa using c8
  have f10 : (k == 10) = false := by simpa using c10
  have f15 : (k == 15) = false := by simpa using c15
  have f16 : (k == 16) = false := by simpa using c16
  have f20 : (k == 20) = false := by simpa using c20
  have f21 : (k == 21) = false := by simpa using c21
  have f22 : (k == 22) = false := by simpa using c22
  have f24 : (k == 24) = false := by simpa using c24
  have f26 : (k == 26) = false := by simpa using c26
  by_cases h1 : 1 ≤ k
  · have h2 : ¬ k ≤ 27 := by omega
    clear hn c1 c2 c3 c4 c5 c6 c7 c8 c9 c10 c11 c12 c13 c14 c15 c16 c17 c18 c19 c20 c21 c22 c23 c24 c25 c26 c27
    go_enter Try.func30, Try.ntmps30
    go_wp2
    go_ret2
    exact ⟨by simp, rfl⟩
  · clear hn c1 c2 c3 c4 c5 c6 c7 c8 c9 c10 c11 c12 c13 c14 c15 c16 c17 c18 c19 c20 c21 c22 c23 c24 c25 c26 c27
    go_enter Try.func30, Try.ntmps30
    go_wp2
    go_ret2
    exact ⟨by simp, rfl⟩

/-- A node in a box of the writer's call, and its kids below. -/
structure Nst (B b g : Nat) (k : Int) (t : List UInt8) (a : Int) (av : Option Addr) (cap blk off : Nat) (ks : List Nv) (V : World) : Prop where
  box : V.heap[g]? = some (.cells #[.int .i64 k, .string (bs t), .int .i64 a, .slice av ks.length cap] 24 (0, 0))
  gb : g ≠ b
  row : RowB B V av blk off ks
theorem Nst.step {B b g : Nat} {k : Int} {t : List UInt8} {a : Int} {av : Option Addr} {cap blk off : Nat} {ks : List Nv} {V V' : World} (h : Nst B b g k t a av cap blk off ks V) (hr : Wrt B b V V') : Nst B b g k t a av cap blk off ks V' :=
  ⟨hr.kept h.box (by decide) h.gb, h.gb, h.row.step hr⟩
theorem Nst.start {B b : Nat} {x : Ws} {W : World} (hw : WrAt B b x W) {k : Int} {t : List UInt8} {a : Int} {av : Option Addr} {cap blk off : Nat} {ks : List Nv} (hr : RowB B W av blk off ks) :
    Nst B b W.heap.size k t a av cap blk off ks (W.alloc (.cells #[.int .i64 k, .string (bs t), .int .i64 a, .slice av ks.length cap] 24)) :=
  ⟨World.alloc_heap_new W _, by obtain ⟨p, v, hbx, _⟩ := hw.box; have := lt_of hbx; omega, hr.step (Wrt.alloc (b := b) hw.sz _)⟩
theorem Nst.text {B b g : Nat} {k : Int} {t : List UInt8} {a : Int} {av : Option Addr} {cap blk off : Nat} {ks : List Nv} {V : World} (h : Nst B b g k t a av cap blk off ks V) : V.cell? ⟨g, 0, none⟩ = some (.int .i64 k) ∧ V.cell? ⟨g, 1, none⟩ = some (.string (bs t)) ∧ V.cell? ⟨g, 3, none⟩ = some (.slice av ks.length cap) :=
  ⟨cell_of h.box 0, cell_of h.box 1, cell_of h.box 3⟩
/-- One tree below B. -/
theorem NodeTo.at {B b z : Nat} (IH : NodeTo B b z) {V : World} {x : Ws} (hw : WrAt B b x V) {av : Option Addr} {blk off : Nat} {ks : List Nv} (hr : RowB B V av blk off ks) (hz : szL (ndL ks) ≤ z) {i : Nat} (hi : i < ks.length) {n : Nv} (he : ks[i]'hi = n) (hl : x.l.length + ned n.nd ≤ 140737488355328) :
    Calls Try.prog 20 #[.pointer (some ⟨b, 0, none⟩), n.val] V fun e W' => e = .returned (.pointer (some ⟨b, 0, none⟩)) ∧ WrAt B b (app1 (txt n.nd) x) W' ∧ Wrt B b V W' := by
  have hm : n ∈ ks := he ▸ List.getElem_mem hi
  exact IH n (Nat.le_trans (szL_mem' hm) hz) V x hw (hr.kid n hm) (hr.bnd n hm) hl

end Go.Proofs.Ytgndnodahlabiaa

/- A writer (layer 10): what the rows of trees want. -/
namespace Go.Proofs.Ytgndnodahlabiaa
open Go.ChangeShapes Go.WideShapes Go.ChangeAt Go.RowKit

def tkB (md : Region.Mode) (ops : Array Oper) (A : Array Bool) (lt i : Nat) : Bool :=
  Region.noSelect ops && (Region.free md ops A i && ((Region.ready md ops A).contains i && (lateB md ops lt i && !A.getD lt false)))
theorem anyL_tk {P : Program} {ops : Array Oper} {Q : Exit → Act → World → Prop} {md : Region.Mode} {S : World → Prop} {lt : Nat} (i : Nat) {x : Oper} {v : Value} {n : Nat} {A : Array Bool} {a : Act} {w : World} (hi : ops[i]? = some x) (hb : tkB md ops A lt i = true)
    (hq : ∀ c a w, Q (.panic c) (a.put x.dst v) w → Q (.panic c) a w) (hS : S w) (hw : Region.wanted x (yielded ops a.tmps) = true) (hy : ∀ w, S w → (execOp a.eval x).run P w = .ok (.value v) w)
    (h : AnyL P md ops Q S lt n (A.setIfInBounds i true) (a.put x.dst v) w) : AnyL P md ops Q S lt (n + 1) A a w := by
  unfold tkB at hb
  rw [Bool.and_eq_true, Bool.and_eq_true, Bool.and_eq_true] at hb
  exact anyL_take hi hb.1 hb.2.1 hb.2.2.1 hb.2.2.2 hq (Or.inl ⟨hw, hy⟩) hS h

theorem inter_tot (l : List (List UInt8)) : room (inter l) ≤ tot l := inter_room l
theorem ned_at1 {ks : List Nv} {n0 : Nv} (h : 0 < ks.length) (he : ks[0]'h = n0) : ned n0.nd + 4 ≤ nedL (ndL ks) := by
  cases ks with
  | nil => simp at h
  | cons a r => obtain rfl : a = n0 := he; rw [ndL, nedL]; omega
theorem ned_at2 {ks : List Nv} {n0 n1 : Nv} (h : 1 < ks.length) (he0 : ks[0]'(Nat.lt_of_succ_lt h) = n0) (he1 : ks[1]'h = n1) : ned n0.nd + 4 + (ned n1.nd + 4) ≤ nedL (ndL ks) := by
  match ks, h with
  | a :: c :: r, _ =>
    obtain rfl : a = n0 := he0
    obtain rfl : c = n1 := he1
    rw [ndL, nedL, ndL, nedL]; omega
theorem ned_at3 {ks : List Nv} {n2 : Nv} (h : 2 < ks.length) (he : ks[2]'h = n2) : nedL (ndL (ks.take 2)) + (ned n2.nd + 4) ≤ nedL (ndL ks) := by
  match ks, h with
  | a :: c :: d :: r, _ =>
    obtain rfl : d = n2 := he
    rw [show (a :: c :: d :: r).take 2 = [a, c] from rfl]
    simp only [ndL, nedL]; omega
theorem txt_zero {ks : List Nv} (h : ks.length = 0) : (txtL (ndL ks)).take 1 = txtL (ndL (ks.take 0)) := by
  obtain rfl : ks = [] := List.eq_nil_of_length_eq_zero h
  rw [List.take_zero, ndL, txtL]; rfl
theorem txt_at {ks : List Nv} {i : Nat} {n : Nv} (h : i < ks.length) (he : ks[i]'h = n) : (txtL (ndL ks)).getD i [] = txt n.nd := by
  rw [txtL_map, ndL_map, List.getD_eq_getElem?_getD, List.getElem?_map, List.getElem?_map, List.getElem?_eq_getElem h, he]
  rfl
theorem ndL_append (l m : List Nv) : ndL (l ++ m) = ndL l ++ ndL m := by rw [ndL_map, ndL_map, ndL_map, List.map_append]
theorem nedL_split (ks : List Nv) (n : Nat) : nedL (ndL (ks.take n)) + nedL (ndL (ks.drop n)) = nedL (ndL ks) := by
  rw [← nedL_append, ← ndL_append, List.take_append_drop]
theorem szL_take (ks : List Nv) (n : Nat) : szL (ndL (ks.take n)) ≤ szL (ndL ks) := by
  have : szL (ndL (ks.take n)) + szL (ndL (ks.drop n)) = szL (ndL ks) := by rw [← szL_append, ← ndL_append, List.take_append_drop]
  omega
theorem szL_drop (ks : List Nv) (n : Nat) : szL (ndL (ks.drop n)) ≤ szL (ndL ks) := by
  have : szL (ndL (ks.take n)) + szL (ndL (ks.drop n)) = szL (ndL ks) := by rw [← szL_append, ← ndL_append, List.take_append_drop]
  omega
theorem take_len (ks : List Nv) (n : Nat) (h : n ≤ ks.length) : (ks.take n).length = n := by rw [List.length_take]; omega
theorem drop_len (ks : List Nv) (n : Nat) : (ks.drop n).length = ks.length - n := List.length_drop
theorem RowB.take {B : Nat} {W : World} {av : Option Addr} {blk off : Nat} {ks : List Nv} (h : RowB B W av blk off ks) (n : Nat) : RowB B W av blk off (ks.take n) := by
  have hl : (ks.take n).length ≤ ks.length := by rw [List.length_take]; omega
  refine ⟨⟨fun h0 => h.row.at_ (by omega), fun h0 => h.row.lt (by omega), fun i f hi hf => ?_⟩, fun m hm => h.kid m (List.mem_of_mem_take hm), fun m hm => h.bnd m (List.mem_of_mem_take hm), Nat.lt_of_le_of_lt hl h.len⟩
  rw [h.row.has i f (by omega) hf, List.getElem_take]
theorem RowB.drop {B : Nat} {W : World} {blk off : Nat} {ks : List Nv} (h : RowB B W (some ⟨blk, off, none⟩) blk off ks) (n : Nat) : RowB B W (some ⟨blk, off + n * 4, none⟩) blk (off + n * 4) (ks.drop n) := by
  have hl : (ks.drop n).length = ks.length - n := List.length_drop
  refine ⟨⟨fun _ => rfl, fun h0 => h.row.lt (by omega), fun i f hi hf => ?_⟩, fun m hm => h.kid m (List.mem_of_mem_drop hm), fun m hm => h.bnd m (List.mem_of_mem_drop hm), by rw [hl]; have := h.len; omega⟩
  rw [List.getElem_drop, ← h.row.has (n + i) f (by omega) hf]
  congr 2
  omega
theorem Nst.kid0 {B b g : Nat} {k : Int} {t : List UInt8} {a : Int} {av : Option Addr} {cap blk off : Nat} {ks : List Nv} {V : World} (h : Nst B b g k t a av cap blk off ks V) (hi : 0 < ks.length) {k0 : Int} {t0 : List UInt8} {a0 : Int} {v0 : Option Addr} {c0 b0 o0 : Nat} {s0 : List Nv} (he : ks[0]'hi = .mk k0 t0 a0 v0 c0 b0 o0 s0) :
    V.cell? ⟨blk, off, none⟩ = some (.int .i64 k0) ∧ V.cell? ⟨blk, off + 1, none⟩ = some (.string (bs t0)) ∧ V.cell? ⟨blk, off + 2, none⟩ = some (.int .i64 a0) ∧ V.cell? ⟨blk, off + 3, none⟩ = some (.slice v0 s0.length c0) := by
  have := h.row.row.kid hi he
  simpa using this
theorem Nst.kid1 {B b g : Nat} {k : Int} {t : List UInt8} {a : Int} {av : Option Addr} {cap blk off : Nat} {ks : List Nv} {V : World} (h : Nst B b g k t a av cap blk off ks V) (hi : 1 < ks.length) {k0 : Int} {t0 : List UInt8} {a0 : Int} {v0 : Option Addr} {c0 b0 o0 : Nat} {s0 : List Nv} (he : ks[1]'hi = .mk k0 t0 a0 v0 c0 b0 o0 s0) :
    V.cell? ⟨blk, off + 4, none⟩ = some (.int .i64 k0) ∧ V.cell? ⟨blk, off + 5, none⟩ = some (.string (bs t0)) ∧ V.cell? ⟨blk, off + 6, none⟩ = some (.int .i64 a0) ∧ V.cell? ⟨blk, off + 7, none⟩ = some (.slice v0 s0.length c0) := h.row.row.kid hi he
theorem Nst.kid2 {B b g : Nat} {k : Int} {t : List UInt8} {a : Int} {av : Option Addr} {cap blk off : Nat} {ks : List Nv} {V : World} (h : Nst B b g k t a av cap blk off ks V) (hi : 2 < ks.length) {k0 : Int} {t0 : List UInt8} {a0 : Int} {v0 : Option Addr} {c0 b0 o0 : Nat} {s0 : List Nv} (he : ks[2]'hi = .mk k0 t0 a0 v0 c0 b0 o0 s0) :
    V.cell? ⟨blk, off + 8, none⟩ = some (.int .i64 k0) ∧ V.cell? ⟨blk, off + 9, none⟩ = some (.string (bs t0)) ∧ V.cell? ⟨blk, off + 10, none⟩ = some (.int .i64 a0) ∧ V.cell? ⟨blk, off + 11, none⟩ = some (.slice v0 s0.length c0) := h.row.row.kid hi he
theorem WrAt.drew {B b : Nat} {x : Ws} {W : World} (h : WrAt B b x W) : WrAt B b x W.drew := ⟨h.le, h.sz, h.box⟩
theorem WrAt.new_ne {B b : Nat} {x : Ws} {W : World} (h : WrAt B b x W) : W.heap.size ≠ b := by
  obtain ⟨p, v, hbx, _⟩ := h.box
  have := lt_of hbx
  omega
theorem txt_take (ks : List Nv) (n : Nat) : (txtL (ndL ks)).take n = txtL (ndL (ks.take n)) := by rw [txtL_map, ndL_map, txtL_map, ndL_map, ← List.map_take, ← List.map_take]
theorem txt_drop (ks : List Nv) (n : Nat) : (txtL (ndL ks)).drop n = txtL (ndL (ks.drop n)) := by rw [txtL_map, ndL_map, txtL_map, ndL_map, ← List.map_drop, ← List.map_drop]
theorem txt_take2 {ks : List Nv} (h : 2 ≤ ks.length) : txtL (ndL (ks.take 2)) = [(txtL (ndL ks)).getD 0 [], (txtL (ndL ks)).getD 1 []] := by
  match ks, h with
  | a :: c :: r, _ => rw [show (a :: c :: r).take 2 = [a, c] from rfl, ndL, ndL, ndL, txtL, txtL, txtL, ndL, ndL, txtL, txtL]; rfl
/-- A writer's state in the middle of a row: what is written, the node's box, what has changed. -/
structure Qs (B b : Nat) (W : World) (k : Int) (t : List UInt8) (a : Int) (av : Option Addr) (cap blk off : Nat) (ks : List Nv) (y : Ws) (V : World) : Prop where
  w : WrAt B b y V
  n : Nst B b W.heap.size k t a av cap blk off ks V
  r : Wrt B b W V
/-- A row of texts that was made. -/
def Rw (b g : Nat) (ps : List (List UInt8)) (V : World) : Prop := V.heap[g]? = some (.cells (ps.map fun p => Value.string (bs p)).toArray 9 (0, 0)) ∧ g ≠ b
theorem Rw.kept {B b g : Nat} {ps : List (List UInt8)} {V V' : World} (h : Rw b g ps V) (hw : Wrt B b V V') : Rw b g ps V' := ⟨hw.kept h.1 (by decide) h.2, h.2⟩
theorem Qs.start {B b : Nat} {x : Ws} {W : World} (h : WrAt B b x W) {k : Int} {t : List UInt8} {a : Int} {av : Option Addr} {cap blk off : Nat} {ks : List Nv} (hr : RowB B W av blk off ks) :
    Qs B b W k t a av cap blk off ks x (W.alloc (.cells #[.int .i64 k, .string (bs t), .int .i64 a, .slice av ks.length cap] 24)) :=
  ⟨h.alloc _, Nst.start h hr, Wrt.alloc h.sz _⟩
theorem Qs.drew {B b : Nat} {W : World} {k : Int} {t : List UInt8} {a : Int} {av : Option Addr} {cap blk off : Nat} {ks : List Nv} {y : Ws} {V : World} (h : Qs B b W k t a av cap blk off ks y V) : Qs B b W k t a av cap blk off ks y V.drew :=
  have hw : Wrt B b V V.drew := ⟨⟨rfl, rfl, rfl, Nat.le_refl _, fun _ _ => rfl⟩, (Lib.OthersKept.refl _ _ _).drew⟩
  ⟨h.w.drew, h.n.step hw, h.r.trans hw⟩
theorem Qs.row {B b : Nat} {W : World} {k : Int} {t : List UInt8} {a : Int} {av : Option Addr} {cap blk off : Nat} {ks : List Nv} {y : Ws} {V : World} (h : Qs B b W k t a av cap blk off ks y V) (ps : List (List UInt8)) :
    Qs B b W k t a av cap blk off ks y (V.alloc (.cells (ps.map fun p => Value.string (bs p)).toArray 9)) ∧ Rw b V.heap.size ps (V.alloc (.cells (ps.map fun p => Value.string (bs p)).toArray 9)) ∧ Wrt B b V (V.alloc (.cells (ps.map fun p => Value.string (bs p)).toArray 9)) :=
  have hw := Wrt.alloc (b := b) h.w.sz (.cells (ps.map fun p => Value.string (bs p)).toArray 9)
  ⟨⟨h.w.alloc _, h.n.step hw, h.r.trans hw⟩, ⟨World.alloc_heap_new V _, h.w.new_ne⟩, hw⟩
/-- What a call of the writer leaves. -/
def Qn (B b : Nat) (W : World) (k : Int) (t : List UInt8) (a : Int) (av : Option Addr) (cap blk off : Nat) (ks : List Nv) (y : Ws) (V : World) (e : Ending) (V' : World) : Prop :=
  e = .returned (.pointer (some ⟨b, 0, none⟩)) ∧ Qs B b W k t a av cap blk off ks y V' ∧ Wrt B b V V'
theorem Qs.put {B b : Nat} {W : World} {k : Int} {t : List UInt8} {a : Int} {av : Option Addr} {cap blk off : Nat} {ks : List Nv} {y : Ws} (ps : List (List UInt8)) (hl : y.l.length + room ps ≤ 140737488355328) (hp : ps.length ≤ 100) {V : World} {g : Nat} (h : Qs B b W k t a av cap blk off ks y V) (hg : Rw b g ps V) :
    Calls Try.prog 31 #[.pointer (some ⟨b, 0, none⟩), .slice (some ⟨g, 0, none⟩) ps.length ps.length] V (Qn B b W k t a av cap blk off ks (appL ps y) V) :=
  (put_is h.w ps hg.1 hg.2 hp hl).mono (fun _ _ ⟨h1, h2, h3⟩ => ⟨h1, ⟨h2, h.n.step h3, h.r.trans h3⟩, h3⟩)
theorem Qs.node {B b z : Nat} (IH : NodeTo B b z) {W : World} {k : Int} {t : List UInt8} {a : Int} {av : Option Addr} {cap blk off : Nat} {ks : List Nv} {y : Ws} (hz : szL (ndL ks) ≤ z) {i : Nat} (hi : i < ks.length) {n : Nv} (he : ks[i]'hi = n) (hl : y.l.length + ned n.nd ≤ 140737488355328) {V : World} (h : Qs B b W k t a av cap blk off ks y V) :
    Calls Try.prog 20 #[.pointer (some ⟨b, 0, none⟩), n.val] V (Qn B b W k t a av cap blk off ks (app1 (txt n.nd) y) V) :=
  (NodeTo.at IH h.w h.n.row hz hi he hl).mono (fun _ _ ⟨h1, h2, h3⟩ => ⟨h1, ⟨h2, h.n.step h3, h.r.trans h3⟩, h3⟩)
theorem Qs.nodes {B b z : Nat} (IH : NodeTo B b z) {W : World} {k : Int} {t : List UInt8} {a : Int} {av av2 : Option Addr} {cap cap2 blk off off2 : Nat} {ks ms : List Nv} {y : Ws} (hz : szL (ndL ms) ≤ z) (hl : y.l.length + nedL (ndL ms) ≤ 140737488355328) (hr : ∀ V, RowB B V av blk off ks → RowB B V av2 blk off2 ms) (m : Nat) (hm : ms.length = m) {V : World} (h : Qs B b W k t a av cap blk off ks y V) :
    Calls Try.prog 45 #[.pointer (some ⟨b, 0, none⟩), .slice av2 m cap2] V (Qn B b W k t a av cap blk off ks (appL (txtL (ndL ms)) y) V) := by
  subst hm
  exact (nodes_is IH h.w (hr V h.n.row) hz hl).mono (fun _ _ ⟨h1, h2, h3⟩ => ⟨h1, ⟨h2, h.n.step h3, h.r.trans h3⟩, h3⟩)
theorem Qs.list {B b z : Nat} (IH : NodeTo B b z) {W : World} {k : Int} {t : List UInt8} {a : Int} {av av2 : Option Addr} {cap cap2 blk off off2 : Nat} {ks ms : List Nv} {y : Ws} (hz : szL (ndL ms) ≤ z) (hl : y.l.length + nedL (ndL ms) ≤ 140737488355328) (hr : ∀ V, RowB B V av blk off ks → RowB B V av2 blk off2 ms) (m : Nat) (hm : ms.length = m) {V : World} (h : Qs B b W k t a av cap blk off ks y V) :
    Calls Try.prog 44 #[.pointer (some ⟨b, 0, none⟩), .slice av2 m cap2] V (Qn B b W k t a av cap blk off ks (appL (inter (txtL (ndL ms))) y) V) := by
  subst hm
  exact (wlist_is IH h.w (hr V h.n.row) hz hl).mono (fun _ _ ⟨h1, h2, h3⟩ => ⟨h1, ⟨h2, h.n.step h3, h.r.trans h3⟩, h3⟩)
theorem put_room (ps : List (List UInt8)) (y : Ws) (r : Nat) (h : y.l.length + (room ps + r) ≤ 140737488355328) : (appL ps y).l.length + r ≤ 140737488355328 := by
  have := appL_len ps y; omega
theorem node_room (n : Nd) (y : Ws) (r : Nat) (h : y.l.length + (ned n + 4 + r) ≤ 140737488355328) : (app1 (txt n) y).l.length + r ≤ 140737488355328 := by
  have := app_len (txt n) y; have := txt_ned n; omega
theorem nodes_room (l : List Nd) (y : Ws) (r : Nat) (h : y.l.length + (nedL l + r) ≤ 140737488355328) : (appL (txtL l) y).l.length + r ≤ 140737488355328 := by
  have := appL_len (txtL l) y; have := room_tot (txtL l); have := txtL_ned l; omega
theorem list_room (l : List Nd) (y : Ws) (r : Nat) (h : y.l.length + (nedL l + r) ≤ 140737488355328) : (appL (inter (txtL l)) y).l.length + r ≤ 140737488355328 := by
  have := appL_len (inter (txtL l)) y; have := inter_tot (txtL l); have := txtL_ned l; omega

end Go.Proofs.Ytgndnodahlabiaa
