/-
  What the document answers of trees (layer 10): lists of texts: the contract.
-/
import Derived.Test.YtgndnodahlabiaaRfB
namespace Go.Proofs.Ytgndnodahlabiaa
open Go.ChangeShapes Go.WideShapes Go.ChangeAt Go.RowKit

def lst (q : List UInt8) : List (List UInt8) → List UInt8
  | [] => []
  | p :: r => r.foldl (fun s t => wth (wth s q) t) p
theorem lst_fold (q : List UInt8) : ∀ (r : List (List UInt8)) (s : List UInt8), r.foldl (fun s t => wth (wth s q) t) s = wth s (wcat (r.flatMap fun t => [q, t]))
  | [], s => by rw [List.foldl_nil, List.flatMap_nil, wcat, wth_nil]
  | t :: r, s => by
    rw [List.foldl_cons, lst_fold q r, List.flatMap_cons, List.cons_append, List.cons_append, List.nil_append, wcat, wcat, wth_assoc, wth_assoc]
theorem lst_cons (q p : List UInt8) (r : List (List UInt8)) : lst q (p :: r) = wcat (p :: r.flatMap fun t => [q, t]) := by rw [lst, lst_fold, wcat]
theorem lst_comma : ∀ l, lst [44] l = wcat (inter l)
  | [] => by rw [lst, inter, wcat]
  | p :: r => by rw [lst_cons, inter_cons]
theorem lst_none : ∀ l, lst [] l = wcat l
  | [] => by rw [lst, wcat]
  | p :: r => by
    rw [lst_cons, wcat, wcat]
    congr 1
    induction r with
    | nil => rfl
    | cons t r ih => rw [List.flatMap_cons, List.cons_append, List.cons_append, List.nil_append, wcat, wcat, nil_wth, wcat, ih]
theorem lst_len (q : List UInt8) (hq : q.length ≤ 1) : ∀ l, (lst q l).length ≤ tot l
  | [] => by rw [lst]; exact Nat.zero_le _
  | p :: r => by
    rw [lst_cons]
    have h := wcat_room (p :: r.flatMap fun t => [q, t])
    rw [room_cons] at h
    rw [tot_cons]
    have : ∀ r : List (List UInt8), room (r.flatMap fun t => [q, t]) ≤ tot r := by
      intro r
      induction r with
      | nil => exact Nat.le_refl _
      | cons t r ih => rw [List.flatMap_cons, room_append, room_cons, room_cons, room_nil, tot_cons]; omega
    have := this r
    omega
theorem lst_step (q : List UInt8) (l : List (List UInt8)) (j : Nat) (hj : j < l.length) : lst q (l.take (j + 1)) = wth (if 0 < j then wth (lst q (l.take j)) q else lst q (l.take j)) (l.getD j []) := by
  rw [List.take_add_one, List.getD_eq_getElem?_getD, List.getElem?_eq_getElem hj]
  simp only [Option.toList_some, Option.getD_some]
  by_cases h : 0 < j
  · rw [if_pos h]
    cases l with
    | nil => simp at hj
    | cons p r =>
      obtain ⟨j', rfl⟩ : ∃ j', j = j' + 1 := ⟨j - 1, by omega⟩
      rw [List.take_succ_cons, List.cons_append, lst, lst, List.foldl_append]
      rfl
  · obtain rfl : j = 0 := by omega
    rw [if_neg h, List.take_zero, List.nil_append, lst, lst, nil_wth]
    rfl

def RTextTo (z : Nat) : Prop := ∀ (n : Nv), n.nd.sz ≤ z → ∀ (W : World) (D : Nat → Prop), LiesD D W n → n.nd.bnd → ned n.nd ≤ 2 ^ 40 →
    Calls Try.prog 10 #[n.val] W fun e W' => e = .returned (.string (bs (txt n.nd))) ∧ Below W.heap.size W W'
theorem ned_kid {ks : List Nv} {n : Nv} (h : n ∈ ks) : ned n.nd + 4 ≤ nedL (ndL ks) := by
  obtain ⟨i, hi, rfl⟩ := List.getElem_of_mem h
  have h1 := nedL_drop ks i hi
  have h2 := nedL_split ks i
  omega
set_option maxRecDepth 100000 in
set_option maxHeartbeats 8000000 in
theorem rlist_is {z : Nat} (IH0 : RTextTo z) (q : List UInt8) (hq : q.length ≤ 1) {D : Nat → Prop} {av : Option Addr} {cap blk off : Nat} {ks : List Nv} {W : World} (hr : RowD D W av blk off ks) (hk : ∀ n, n ∈ ks → LiesD D W n) (hb : ∀ n, n ∈ ks → n.nd.bnd) (hln : ks.length < 2 ^ 62) (hz : szL (ndL ks) ≤ z) (hned : nedL (ndL ks) ≤ 2 ^ 40) :
    Calls Try.prog 24 #[.slice av ks.length cap, .string (bs q)] W fun e W' => e = .returned (.string (bs (lst q (txtL (ndL ks))))) ∧ Below W.heap.size W W' := by
  have H0 := hidW (And.intro hr (And.intro hk hb))
  have IH := hidW IH0
  have HNED := hidW (And.intro hned hz)
  have HT := hidW (show ∀ j, (lst q ((txtL (ndL ks)).take j)).length ≤ 2 ^ 40 from fun j => by
    have h1 := lst_len q hq ((txtL (ndL ks)).take j)
    have h2 := take_tot (txtL (ndL ks)) j
    have h3 := txtL_ned (ndL ks)
    omega)
  have HST := hidW (lst_step q (txtL (ndL ks)))
  have HLT := hidW (show (txtL (ndL ks)).length = ks.length by rw [txtL_len, ndL_len])
  clear hr hk hb IH0 hned hz
  generalize hl : txtL (ndL ks) = l at *
  have HL := hidW hl
  clear hl
  generalize hn0 : ks.length = n0 at *
  have HN0 := hidW hn0
  clear hn0
  go_enter Try.func24, Try.ntmps24
  go_wp2_with fail
  go_loopw [5, 6] (fun s i wr => ∃ (j : Nat), i = .int .i64 (j : Int) ∧ s = .string (bs (lst q (l.take j))) ∧ j ≤ n0 ∧ Below W.heap.size W wr) (fun _ i _ => n0 - (intOf i).toNat)
  case atStart => exact ⟨0, rfl, by rw [List.take_zero]; rfl, Nat.zero_le _, Below.refl _ _⟩
  case round =>
    obtain ⟨j, rfl, rfl, hj, hb⟩ := hrel
    have hc := HT.out j
    by_cases h1 : j < n0
    · have hjk : j < ks.length := by have := HN0.out; omega
      have e1 : ((j : Int) < (n0 : Int)) = True := eq_true (by omega)
      obtain ⟨x, hx⟩ : ∃ x, ks[j]'hjk = x := ⟨_, rfl⟩
      have hxm : x ∈ ks := hx ▸ List.getElem_mem hjk
      have htx : l.getD j [] = txt x.nd := by rw [← HL.out]; exact txt_at hjk hx
      have hst := HST.out j (by have := HLT.out; omega)
      rw [htx] at hst
      have hxz : x.nd.sz ≤ szL (ndL ks) := sz_mem (by rw [ndL_map]; exact List.mem_map_of_mem hxm)
      have hxn := ned_kid hxm
      have hxl := txt_ned x.nd
      have hrx := H0.out.1.turns (turns_b (Q := fun _ => False) hb) (fun _ _ _ h => h)
      have hlx := (H0.out.2.1 x hxm).turns (turns_b (Q := fun _ => False) hb) (fun _ _ _ h => h)
      have hbx := H0.out.2.2 x hxm
      obtain rfl := hrx.at_ (by omega)
      obtain ⟨xk, xt, xa, xav, xcap, xblk, xoff, xks⟩ := x
      obtain ⟨k0, k1, k2, k3⟩ := hrx.kid hjk hx
      have hC := hidW (IH.out (.mk xk xt xa xav xcap xblk xoff xks) (by have := HNED.out; omega) wr D hlx hbx (by have := HNED.out; omega))
      have hxl2 : (txt (Nv.mk xk xt xa xav xcap xblk xoff xks).nd).length ≤ 2 ^ 40 := by have := HNED.out; omega
      generalize txt (Nv.mk xk xt xa xav xcap xblk xoff xks).nd = tx at *
      generalize lst q (l.take j) = c at *
      have HX := hidW (And.intro hst hb)
      clear hrx hlx hbx hx hxm htx hst hb hxz hxn hxl
      by_cases h0 : 0 < j
      · have e2 : ((0 : Int) < (j : Int)) = True := eq_true (by omega)
        have hcq := wth_len c q
        obtain ⟨c1, hc1⟩ : ∃ c1, c1 = wth c q := ⟨_, rfl⟩
        have C1 := with_is c q (by omega) wr
        have C2 := fun V => with_is c1 tx (by rw [hc1]; omega) V
        rw [← hc1] at C1
        have HC1 := hidW C1
        have HC2 := hidW C2
        have HE := hidW (show wth c1 tx = lst q (l.take (j + 1)) from by rw [HX.out.1, if_pos h0, hc1])
        clear C1 C2 hc1 hcq
        go_wp2_with fail
        refine HC1.out.mono ?_; clear HC1; rintro e W2 ⟨rfl, rfl⟩
        go_wp2_with fail
        refine hC.out.mono ?_; clear hC; rintro e W4 ⟨rfl, hb4⟩
        go_wp2_with fail
        refine (HC2.out W4).mono ?_; clear HC2; rintro e W5 ⟨rfl, rfl⟩
        go_wp2_with fail
        go_roundw
        case rel => exact ⟨j + 1, by go_num, by rw [HE.out], by omega, HX.out.2.trans (hb4.mono HX.out.2.size)⟩
        case measure => simp [intOf]; omega
      · have e2 : ((0 : Int) < (j : Int)) = False := by simp; omega
        have C2 := fun V => with_is c tx (by omega) V
        have HC2 := hidW C2
        have HE := hidW (show wth c tx = lst q (l.take (j + 1)) from by rw [HX.out.1, if_neg h0])
        clear C2
        go_wp2_with fail
        refine hC.out.mono ?_; clear hC; rintro e W4 ⟨rfl, hb4⟩
        go_wp2_with fail
        refine (HC2.out W4).mono ?_; clear HC2; rintro e W5 ⟨rfl, rfl⟩
        go_wp2_with fail
        go_roundw
        case rel => exact ⟨j + 1, by go_num, by rw [HE.out], by omega, HX.out.2.trans (hb4.mono HX.out.2.size)⟩
        case measure => simp [intOf]; omega
    · have e1 : ((j : Int) < (n0 : Int)) = False := by simp; omega
      have hE : lst q (l.take j) = lst q l := by rw [List.take_of_length_le (by have := HLT.out; omega)]
      have HE := hidW hE
      have HB := hidW hb
      clear hE hb
      go_wp2
      go_ret
      exact ⟨by rw [← HE.out]; rfl, HB.out⟩

end Go.Proofs.Ytgndnodahlabiaa
