/-
  The law InstJoins (layer 2), by walks over the translation.
-/
import Derived.Test.YtnlkeghgmmoioaaDoorRowB
import Derived.Test.YtnlkeghgmmoioaaDoorEncB
import Derived.Test.YtnlkeghgmmoioaaDoorApp
namespace Go.Proofs.YtnlkeghgmmoioaaDoor
open Go.ChangeShapes Go.WideShapes Go.ChangeAt Go.RowKit

theorem IsRow.parts {W : World} {av : Option Addr} {n cap : Nat} {l : List Ins} (h : IsRow W (.slice av n cap) l) : l.length = n ∧ (0 < n → ∃ blk off, av = some ⟨blk, off, none⟩ ∧ blk < W.heap.size ∧ HasInsts W blk off l) := by
  obtain ⟨av', cap', e, h⟩ := h
  injection e with e1 e2 e3
  subst e1; subst e2
  exact ⟨rfl, h⟩
theorem encodeAll_row {W : World} {v : Value} {l : List Ins} (h : IsRow W v l) (hl : l.length ≤ 1048576) : Calls Tryd.prog 28 #[v] W (EncAns l W) := by
  obtain ⟨av, cap, rfl, h⟩ := h
  exact encodeAll_any av l.length cap l W rfl hl h

set_option maxRecDepth 100000 in
set_option maxHeartbeats 2000000 in
theorem joins_big (a b : Value) (la lb : List Ins) (w : World) (hT : Tabs w) (ha : IsRow w a la) (hb : IsRow w b lb) (hbig : 100 < la.length ∨ 100 < lb.length) :
    Calls Tryd.prog 8 #[a, b] w fun e w' => e = .returned (.bool true) ∧ Below w.heap.size w w' := by
  obtain ⟨av, ca, rfl, _⟩ := ha
  obtain ⟨bv, cb, rfl, _⟩ := hb
  generalize la.length = n at hbig
  generalize lb.length = m at hbig
  by_cases h1 : 100 < n
  · have e1 : ((100 : Int) < n) = True := by simp; omega
    go_enter Tryd.func8, Tryd.ntmps8
    go_wp2_with fail
    refine (small_any _ hT).mono ?_; rintro e w1 ⟨rfl, hb1⟩
    go_wp2
    go_ret
    exact ⟨rfl, hb1⟩
  · have e1 : ((100 : Int) < n) = False := by simp; omega
    have e2 : ((100 : Int) < m) = True := by simp; omega
    go_enter Tryd.func8, Tryd.ntmps8
    go_wp2_with fail
    refine (small_any _ hT).mono ?_; rintro e w1 ⟨rfl, hb1⟩
    go_wp2
    go_ret
    exact ⟨rfl, hb1⟩

theorem bs_app (l m : List UInt8) : bs (l ++ m) = bs l ++ bs m := by
  apply ByteArray.ext
  rw [ByteArray.data_append]
  simp [bs]
set_option maxRecDepth 100000 in
set_option maxHeartbeats 600000 in
theorem joins_walk (a b : Value) (la lb : List Ins) (w : World) (hT : Tabs w) (ha : IsRow w a la) (hb : IsRow w b lb) (h1 : la.length ≤ 100) (h2 : lb.length ≤ 100) :
    Calls Tryd.prog 8 #[a, b] w fun e w' => e = .returned (.bool true) ∧ Below w.heap.size w w' := by
  have ha' := ha
  have hb' := hb
  obtain ⟨av, ca, rfl, _⟩ := ha'
  obtain ⟨bv, cb, rfl, _⟩ := hb'
  generalize hn : la.length = n at *
  generalize hm : lb.length = m at *
  have e1 : ((100 : Int) < n) = False := by simp; omega
  have e2 : ((100 : Int) < m) = False := by simp; omega
  go_enter Tryd.func8, Tryd.ntmps8
  go_wp2_with fail
  refine (small_any _ hT).mono ?_; rintro e w1 ⟨rfl, hb1⟩
  have ha1 := ha.later hb1
  have hb1' := hb.later hb1
  go_wp2_with fail
  refine (encodeAll_row ha1 (by omega)).mono ?_
  rintro e w2 ⟨hb2, hx⟩
  obtain ⟨x, ex, rfl, hX⟩ : ∃ x ex, e = .returned (.tuple #[x, .int .i64 ex]) ∧ ((ex = 0 ∧ (∀ y ∈ la, y.right = true) ∧ ∃ blk, x = .slice (some ⟨blk, 0, none⟩) (la.length * 8) (la.length * 8) ∧ blk < w2.heap.size ∧ HasBytes w2 blk 0 (la.flatMap Ins.enc)) ∨ (ex = 1 ∧ ∃ y ∈ la, y.right = false)) := by
    rcases hx with ⟨hr, blk, _, h2, rfl, h3⟩ | ⟨hr, rfl⟩
    · exact ⟨_, 0, rfl, .inl ⟨rfl, hr, blk, rfl, h2, h3⟩⟩
    · exact ⟨_, 1, rfl, .inr ⟨rfl, hr⟩⟩
  clear hx
  obtain ⟨hB2, hz2⟩ := bel_on hb1 hb2
  have ha2 := ha1.later hb2
  have hb2' := hb1'.later hb2
  go_wp2_with fail
  refine (encodeAll_row hb2' (by omega)).mono ?_
  rintro e w3 ⟨hb3, hy⟩
  obtain ⟨y, ey, rfl, hY⟩ : ∃ y ey, e = .returned (.tuple #[y, .int .i64 ey]) ∧ ((ey = 0 ∧ (∀ y ∈ lb, y.right = true) ∧ ∃ blk, y = .slice (some ⟨blk, 0, none⟩) (lb.length * 8) (lb.length * 8) ∧ blk < w3.heap.size ∧ HasBytes w3 blk 0 (lb.flatMap Ins.enc)) ∨ (ey = 1 ∧ ∃ y ∈ lb, y.right = false)) := by
    rcases hy with ⟨hr, blk, _, h2, rfl, h3⟩ | ⟨hr, rfl⟩
    · exact ⟨_, 0, rfl, .inl ⟨rfl, hr, blk, rfl, h2, h3⟩⟩
    · exact ⟨_, 1, rfl, .inr ⟨rfl, hr⟩⟩
  clear hy
  obtain ⟨hB3, hz3⟩ := bel_on hB2 hb3
  have ha3 := ha2.later hb3
  have hb3' := hb2'.later hb3
  -- both rows, one behind the other
  have ow0 := owns_empty w3 w3.heap.size 23 5 (Nat.le_refl _)
  generalize hV3 : w3.alloc (.cells #[] 23) = W3 at ow0
  have hbW3 : Below w3.heap.size w3 W3 := by rw [← hV3]; exact (Below.refl _ _).alloc (Nat.le_refl _) _
  have hsW3 : w3.heap.size ≤ W3.heap.size := hbW3.size
  obtain ⟨p1, W4, ap1, ow1, bw1⟩ := append_row W3 38 w3.heap.size _ _ _ ow0 _ _ (ha3.later hbW3) (by omega) hsW3
  have hb34 : Below w3.heap.size w3 W4 := hbW3.trans bw1
  obtain ⟨p2, W5, ap2, ow2, bw2⟩ := append_row W4 38 w3.heap.size _ _ _ ow1 _ _ (hb3'.later hb34) (by omega) hb34.size
  have hb35 : Below w3.heap.size w3 W5 := hb34.trans bw2
  rw [List.nil_append, ← List.flatMap_append, Nat.zero_add, ← List.length_append] at ow2
  have hrow := owns_isRow ow2
  clear ow0 ow1 ow2
  subst hV3
  go_wp2_with (first
    | (at_builtin; refine wpList_append_run rfl (.tmp 35) (.tmp 36) 38 rfl rfl rfl ap1 ?_)
    | (at_builtin; refine wpList_append_run rfl (.tmp 37) (.tmp 38) 38 rfl rfl rfl ap2 ?_))
  have hlen : (la ++ lb).length = n + m := by rw [List.length_append, hn, hm]
  refine (encodeAll_row hrow (by omega)).mono ?_
  rintro e w6 ⟨hb6, hzz⟩
  have hb36 : Below w3.heap.size w3 w6 := hb35.trans (hb6.mono hb35.size)
  obtain ⟨hB6, hz6⟩ := bel_on hB3 hb36
  have bad : (∃ y ∈ la ++ lb, y.right = false) → e = .returned (.tuple #[.slice none 0 0, .int .i64 1]) := fun ⟨q, hq, hqr⟩ => by
    rcases hzz with ⟨hr, _⟩ | ⟨_, he⟩
    · rw [hr q hq] at hqr; cases hqr
    · exact he
  rcases hX with ⟨rfl, hrx, bx, rfl, hbx, hHx⟩ | ⟨rfl, q, hq, hqr⟩
  · rcases hY with ⟨rfl, hry, by', rfl, hby, hHy⟩ | ⟨rfl, q, hq, hqr⟩
    · have hall : ∀ q ∈ la ++ lb, q.right = true := fun q hq => by
        rcases List.mem_append.1 hq with h | h
        · exact hrx q h
        · exact hry q h
      rcases hzz with ⟨_, bz, hz1, hz2', rfl, hHz⟩ | ⟨⟨q, hq, hqr⟩, _⟩
      · clear bad ap1 ap2 hrow bw1 bw2 hb34 hb35
        have hHx6 : HasBytes w6 bx 0 (la.flatMap Ins.enc) := (hHx.later hbx hb3).later (Nat.lt_of_lt_of_le hbx hb3.size) hb36
        have hHy6 : HasBytes w6 by' 0 (lb.flatMap Ins.enc) := hHy.later hby hb36
        have lx6 : bx < w6.heap.size := Nat.lt_of_lt_of_le hbx (Nat.le_trans hb3.size hb36.size)
        have ly6 : by' < w6.heap.size := Nat.lt_of_lt_of_le hby hb36.size
        have ow0 := owns_empty w6 w6.heap.size 5 1 (Nat.le_refl _)
        generalize hV6 : w6.alloc (.cells #[] 5) = W6 at ow0
        have hbW6 : Below w6.heap.size w6 W6 := by rw [← hV6]; exact (Below.refl _ _).alloc (Nat.le_refl _) _
        have isx : IsB w6 (.slice (some ⟨bx, 0, none⟩) (n * 8) (n * 8)) (la.flatMap Ins.enc) := ⟨_, n * 8, by rw [enc_len, hn], fun _ => ⟨bx, 0, rfl, lx6, hHx6⟩⟩
        have isy : IsB w6 (.slice (some ⟨by', 0, none⟩) (m * 8) (m * 8)) (lb.flatMap Ins.enc) := ⟨_, m * 8, by rw [enc_len, hm], fun _ => ⟨by', 0, rfl, ly6, hHy6⟩⟩
        have lax : (la.flatMap Ins.enc).length = n * 8 := by rw [enc_len, hn]
        have lbx : (lb.flatMap Ins.enc).length = m * 8 := by rw [enc_len, hm]
        obtain ⟨p3, W7, ap3, ow1, bw1⟩ := append_b W6 25 w6.heap.size _ _ _ ow0 _ _ (isx.later hbW6) (by omega) hbW6.size
        have hb67 : Below w6.heap.size w6 W7 := hbW6.trans bw1
        obtain ⟨p4, W8, ap4, ow2, bw2⟩ := append_b W7 25 w6.heap.size _ _ _ ow1 _ _ (isy.later hb67) (by omega) hb67.size
        have hb68 : Below w6.heap.size w6 W8 := hb67.trans bw2
        rw [List.nil_append, ← List.map_append, Nat.zero_add, ← List.length_append, ← List.flatMap_append] at ow2
        have hdl : ((la ++ lb).flatMap Ins.enc).length = (n + m) * 8 := by rw [enc_len, hlen]
        generalize hbb : (la ++ lb).flatMap Ins.enc = bb at ow2 hdl hHz
        obtain ⟨pv, pc, rfl, hpc, hpm, hpb⟩ := owns_isB ow2
        clear ow0 ow1 ow2
        rw [hdl] at hpc hpb ap4
        have HDL : Hid (bb.length = (n + m) * 8) := hdl
        clear hdl
        subst hV6
        rw [hn, hm, hlen]
        go_wp2_with (first
          | (at_builtin; refine wpList_append_run rfl (.tmp 55) (.tmp 56) 25 rfl rfl rfl ap3 ?_)
          | (at_builtin; refine wpList_append_run rfl (.tmp 57) (.tmp 58) 25 rfl rfl rfl ap4 ?_))
        refine (decodeAll_any pv ((n + m) * 8) pc bb W8 HDL.out (by omega) hpc hpm hpb).mono ?_
        rintro e w9 ⟨hb9, (⟨xs, v9, hD, rfl, hR⟩ | ⟨hD, _⟩)⟩
        · rw [← hbb] at hD
          obtain rfl := (decAll_enc (la ++ lb) hall).uniq hD
          obtain ⟨av9, cap9, rfl, _⟩ := hR
          have hb69 : Below w6.heap.size w6 w9 := hb68.trans (hb9.mono hb68.size)
          have q1 := (hHz.later hz2' hb69).conv (cap := (n + m) * 8)
          have q2 := (hHx6.later lx6 hb69).conv (cap := n * 8)
          have q3 := (hHy6.later ly6 hb69).conv (cap := m * 8)
          rw [HDL.out, ← hbb, List.flatMap_append, bs_app] at q1
          rw [lax] at q2
          rw [lbx] at q3
          have s1 : (bs (la.flatMap Ins.enc)).size = n * 8 := by rw [← lax]; rfl
          have s2 : (bs (lb.flatMap Ins.enc)).size = m * 8 := by rw [← lbx]; rfl
          generalize bs (la.flatMap Ins.enc) = sa at q1 q2 s1
          generalize bs (lb.flatMap Ins.enc) = sb at q1 q3 s2
          have s3 : ¬ 9223372036854775807 < sa.size + sb.size := by omega
          clear hHz hHx6 hHy6 hHx hHy ap3 ap4 isx isy hpb hD hrx hry hall
          rw [hlen]
          have hlast : (((n + m : Nat) : Int) == (n : Int) + (m : Int)) = true := by simp
          go_wp2_with fail
          go_ret
          exact ⟨rfl, (bel_on hB6 hb69).1⟩
        · rw [← hbb] at hD; exact ((decAll_enc (la ++ lb) hall).not hD).elim
      · rw [hall q hq] at hqr; cases hqr
    · obtain rfl := bad ⟨q, List.mem_append_right _ hq, hqr⟩
      go_wp2_with fail
      go_ret
      exact ⟨rfl, hB6⟩
  · obtain rfl := bad ⟨q, List.mem_append_left _ hq, hqr⟩
    go_wp2_with fail
    go_ret
    exact ⟨rfl, hB6⟩

end Go.Proofs.YtnlkeghgmmoioaaDoor
