/-
  Statements that ";" ends (layer 10): the contract of the parser's line.
  More trees in a row of one's own (layer 10): several at once, and one put into the row's last place.
-/
import Derived.Test.YtgndnodahlabiaaPsU

/- Statements that ";" ends (layer 10): the contract of the parser's line. -/
namespace Go.Proofs.Ytgndnodahlabiaa
open Go.ChangeShapes Go.WideShapes Go.ChangeAt Go.RowKit

theorem Nx.here {W0 W : World} {P : Nat} {av : Option Addr} {cap blk off : Nat} {ts : List Tok} {s : St} {r b1 : Nat} {x0 x1 x2 x3 : Value} (h : Nx W0 P av cap blk off ts s r b1 x0 x1 x2 x3 W) : Nx W P av cap blk off ts s r b1 x0 x1 x2 x3 W :=
  ⟨h.par, h.nod, Turns.refl _ W, h.ne, h.bk, Nat.lt_of_lt_of_le h.lt h.tur.size⟩
theorem LnAns.back {W0 W : World} {P : Nat} {av : Option Addr} {cap blk off : Nat} {ts : List Tok} {s s' : St} {r b1 : Nat} {x0 x1 x2 x3 : Value} {w w' : Pa} {e : Ending} {W' : World} (h : LnAns P av cap blk off ts r b1 w s W e W') (N : Nx W0 P av cap blk off ts s' r b1 x0 x1 x2 x3 W) (hw : w' = w) (s0 : St) (hs : w s = w' s0) : LnAns P av cap blk off ts r b1 w' s0 W0 e W' := by
  subst hw
  obtain ⟨rfl, k, t, a, nav, ncap, nblk, noff, ks, hN, hl, hn⟩ := h
  have hz := N.tur.size
  exact ⟨rfl, k, t, a, nav, ncap, nblk, noff, ks, ⟨by rw [← hs]; exact hN.par, hN.nod, N.tur.trans hN.tur, N.ne, N.bk, N.lt⟩, hl.mono (fun b hb _ => Nat.le_trans hz hb), by rw [← hs]; exact hn⟩
theorem LnNil {W0 V : World} {P : Nat} {av : Option Addr} {cap blk off : Nat} {ts : List Tok} {s s' : St} {r b1 : Nat} {w : Pa} {K : Int} {T : List UInt8} {a : Int} (N : Nx W0 P av cap blk off ts s' r b1 (.int .i64 K) (.string (bs T)) (.int .i64 a) (.slice none 0 0) V) (hw : w s = (.mk K T a [], s')) :
    LnAns P av cap blk off ts r b1 w s W0 (.returned (.tuple #[])) V :=
  ⟨rfl, K, T, a, none, 0, 0, 0, [], by rw [hw]; exact N, .mk ⟨fun h => absurd h (by simp), fun h => absurd h (by simp), fun i f h => absurd h (by simp)⟩ (fun n hn => by cases hn) (Nat.le_refl _), by rw [nd_mk, hw]; rfl⟩

set_option maxRecDepth 100000 in
set_option maxHeartbeats 8000000 in
theorem line_is {W : World} {P : Nat} {av : Option Addr} {cap blk off : Nat} {ts : List Tok} {s : St} {r b1 : Nat} {v : Lv} (hv : Deep P av cap blk off ts r v) (N0 : Nx W P av cap blk off ts s r b1 (.int .i64 0) (.string ⟨#[]⟩) (.int .i64 (nextT ts s).a) (.slice none 0 0) W) :
    Calls Try.prog 81 #[.pointer (some ⟨P, 0, none⟩), .pointer (some ⟨b1, 0, none⟩)] W (LnAns P av cap blk off ts r b1 (lineF ts v) s W) := by
  have HV := hidW hv
  have hbl := N0.lt
  have hbp := N0.ne
  clear hv
  cases q1 : isW ts [118, 97, 114] s with
  | true =>
    have hw : lineF ts v s = (.mk 10 (nameS ts (adv s)).1 ((nextT ts s).a : Int) [(v.t (nameS ts (adv s)).2).1], (v.t (nameS ts (adv s)).2).2) := by unfold lineF; rw [if_pos q1]
    go_enter Try.func81, Try.ntmps81
    have HT := hidW (take_yes N0.par q1)
    have HF := hidW N0
    clear N0
    go_wp2_with fail
    refine HT.out.mono ?_; clear HT; rintro e W1 ⟨rfl, p3, t3⟩
    have N1 := HF.out.step p3 t3
    clear HF p3 t3
    have HT := hidW (name_is N1.par)
    have HF := hidW N1
    clear N1
    go_wp2_with fail
    refine HT.out.mono ?_; clear HT; rintro e W2 ⟨rfl, p3, t3⟩
    have N2 := HF.out.step p3 t3
    clear HF p3 t3
    have n0 := cell_of N2.nod 0
    have m0 := frozen_of N2.nod 0
    have n1 := cell_of N2.nod 1
    have m1 := frozen_of N2.nod 1
    simp only [List.getElem?_toArray, List.getElem?_cons_zero, List.getElem?_cons_succ] at n0 n1
    have NX := N2.set0 (.int .i64 10)
    have o1 := cell_of NX.nod 1
    have o2 := frozen_of NX.nod 1
    simp only [List.getElem?_toArray, List.getElem?_cons_zero, List.getElem?_cons_succ] at o1
    have N3 := NX.set1 (.string (bs (nameS ts (adv s)).1))
    clear N2 NX
    have hD := hidW (HV.out.t _ _ N3.par)
    have HN := hidW N3
    clear N3
    go_wp2_with fail
    refine hD.out.mono ?_; clear hD; rintro e W9 ⟨⟨mk, mt, ma, mav, mcap, mblk, moff, mks⟩, rfl, hl5, hn5, p5, t5⟩
    have N9 := HN.out.step p5 t5
    have hz4 := HN.out.tur.size
    have hz9 := N9.tur.size
    have hm5 : LiesD (fun b => W.heap.size ≤ b) W9 (.mk mk mt ma mav mcap mblk moff mks) := LiesD.mono hl5 (fun b hb _ => Nat.le_trans hz4 hb)
    have NA := N9.below (bel_new W9 (.cells #[.int .i64 mk, .string (bs mt), .int .i64 ma, .slice mav mks.length mcap] 24))
    have u3 := cell_of NA.nod 3
    have g3 := frozen_of NA.nod 3
    simp only [List.getElem?_toArray, List.getElem?_cons_zero, List.getElem?_cons_succ] at u3
    have hw2 : lineF ts v s = (.mk 10 (nameS ts (adv s)).1 ((nextT ts s).a : Int) ([.mk mk mt ma mav mcap mblk moff mks].map Nv.nd), _) := hw.trans (by rw [← hn5]; rfl)
    have HA := hidW (LnFin (w := lineF ts v) (s := s) (kcap := 1) NA (rowD_one (D := fun b => W.heap.size ≤ b) (W := W9) (.mk mk mt ma mav mcap mblk moff mks) hz9) (lies_all_one (lies_new hm5 _)) hw2)
    clear HN N9 NA hm5 hl5 hn5 p5 t5 hw2 hw
    go_wp2
    refine bodyPost_end (v := .tuple #[]) (by simp [results, Try.results81, go_sem]) rfl ?_
    exact HA.out
  | false =>
    cases q2 : isW ts [114, 101, 116, 117, 114, 110] s with
    | true =>
      cases q3 : isW ts [59] (adv s) with
      | true =>
        have hw : lineF ts v s = (.mk 14 [] ((nextT ts s).a : Int) [], adv s) := by unfold lineF; rw [if_neg (by simp [q1]), if_pos q2, if_pos q3]
        go_enter Try.func81, Try.ntmps81
        have HT := hidW (take_no N0.par q1)
        have HF := hidW N0
        clear N0
        go_wp2_with fail
        refine HT.out.mono ?_; clear HT; rintro e W1 ⟨rfl, p3, t3⟩
        have N1 := HF.out.step p3 t3
        clear HF p3 t3
        have HT := hidW (take_yes N1.par q2)
        have HF := hidW N1
        clear N1
        go_wp2_with fail
        refine HT.out.mono ?_; clear HT; rintro e W2 ⟨rfl, p3, t3⟩
        have N2 := HF.out.step p3 t3
        clear HF p3 t3
        have n0 := cell_of N2.nod 0
        have m0 := frozen_of N2.nod 0
        simp only [List.getElem?_toArray, List.getElem?_cons_zero] at n0
        have N3 := N2.set0 (.int .i64 14)
        clear N2
        have HT := is_is N3.par [59]
        rw [q3] at HT
        have HF := hidW N3
        clear N3
        go_wp2_with fail
        refine HT.mono ?_; clear HT; rintro e W4 ⟨rfl, hb3⟩
        have N4 := HF.out.below hb3
        clear HF hb3
        have HA := hidW (LnNil (w := lineF ts v) (s := s) (T := []) N4 hw)
        clear N4
        go_wp2
        refine bodyPost_end (v := .tuple #[]) (by simp [results, Try.results81, go_sem]) rfl ?_
        exact HA.out
      | false =>
        have hw : lineF ts v s = (.mk 14 [] ((nextT ts s).a : Int) [(v.e (adv s)).1], (v.e (adv s)).2) := by unfold lineF; rw [if_neg (by simp [q1]), if_pos q2, if_neg (by simp [q3])]
        go_enter Try.func81, Try.ntmps81
        have HT := hidW (take_no N0.par q1)
        have HF := hidW N0
        clear N0
        go_wp2_with fail
        refine HT.out.mono ?_; clear HT; rintro e W1 ⟨rfl, p3, t3⟩
        have N1 := HF.out.step p3 t3
        clear HF p3 t3
        have HT := hidW (take_yes N1.par q2)
        have HF := hidW N1
        clear N1
        go_wp2_with fail
        refine HT.out.mono ?_; clear HT; rintro e W2 ⟨rfl, p3, t3⟩
        have N2 := HF.out.step p3 t3
        clear HF p3 t3
        have n0 := cell_of N2.nod 0
        have m0 := frozen_of N2.nod 0
        simp only [List.getElem?_toArray, List.getElem?_cons_zero] at n0
        have N3 := N2.set0 (.int .i64 14)
        clear N2
        have HT := is_is N3.par [59]
        rw [q3] at HT
        have HF := hidW N3
        clear N3
        go_wp2_with fail
        refine HT.mono ?_; clear HT; rintro e W4 ⟨rfl, hb3⟩
        have N4 := HF.out.below hb3
        clear HF hb3
        have hD := hidW (HV.out.e _ _ N4.par)
        have HN := hidW N4
        clear N4
        go_wp2_with fail
        refine hD.out.mono ?_; clear hD; rintro e W9 ⟨⟨mk, mt, ma, mav, mcap, mblk, moff, mks⟩, rfl, hl5, hn5, p5, t5⟩
        have N9 := HN.out.step p5 t5
        have hz4 := HN.out.tur.size
        have hz9 := N9.tur.size
        have hm5 : LiesD (fun b => W.heap.size ≤ b) W9 (.mk mk mt ma mav mcap mblk moff mks) := LiesD.mono hl5 (fun b hb _ => Nat.le_trans hz4 hb)
        have NA := N9.below (bel_new W9 (.cells #[.int .i64 mk, .string (bs mt), .int .i64 ma, .slice mav mks.length mcap] 24))
        have u3 := cell_of NA.nod 3
        have g3 := frozen_of NA.nod 3
        simp only [List.getElem?_toArray, List.getElem?_cons_zero, List.getElem?_cons_succ] at u3
        have hw2 : lineF ts v s = (.mk 14 [] ((nextT ts s).a : Int) ([.mk mk mt ma mav mcap mblk moff mks].map Nv.nd), _) := hw.trans (by rw [← hn5]; rfl)
        have HA := hidW (LnFin (w := lineF ts v) (s := s) (kcap := 1) NA (rowD_one (D := fun b => W.heap.size ≤ b) (W := W9) (.mk mk mt ma mav mcap mblk moff mks) hz9) (lies_all_one (lies_new hm5 _)) hw2)
        clear HN N9 NA hm5 hl5 hn5 p5 t5 hw2 hw
        go_wp2
        refine bodyPost_end (v := .tuple #[]) (by simp [results, Try.results81, go_sem]) rfl ?_
        exact HA.out
    | false =>
      cases q3 : isW ts [112, 114, 105, 110, 116] s with
      | true =>
        have hw : lineF ts v s = (.mk 15 [] ((nextT ts s).a : Int) [(v.e (adv s)).1], (v.e (adv s)).2) := by unfold lineF; rw [if_neg (by simp [q1]), if_neg (by simp [q2]), if_pos q3]
        go_enter Try.func81, Try.ntmps81
        have HT := hidW (take_no N0.par q1)
        have HF := hidW N0
        clear N0
        go_wp2_with fail
        refine HT.out.mono ?_; clear HT; rintro e W1 ⟨rfl, p3, t3⟩
        have N1 := HF.out.step p3 t3
        clear HF p3 t3
        have HT := hidW (take_no N1.par q2)
        have HF := hidW N1
        clear N1
        go_wp2_with fail
        refine HT.out.mono ?_; clear HT; rintro e W2 ⟨rfl, p3, t3⟩
        have N2 := HF.out.step p3 t3
        clear HF p3 t3
        have HT := hidW (take_yes N2.par q3)
        have HF := hidW N2
        clear N2
        go_wp2_with fail
        refine HT.out.mono ?_; clear HT; rintro e W3 ⟨rfl, p3, t3⟩
        have N3 := HF.out.step p3 t3
        clear HF p3 t3
        have n0 := cell_of N3.nod 0
        have m0 := frozen_of N3.nod 0
        simp only [List.getElem?_toArray, List.getElem?_cons_zero] at n0
        have N4 := N3.set0 (.int .i64 15)
        clear N3
        have hD := hidW (HV.out.e _ _ N4.par)
        have HN := hidW N4
        clear N4
        go_wp2_with fail
        refine hD.out.mono ?_; clear hD; rintro e W9 ⟨⟨mk, mt, ma, mav, mcap, mblk, moff, mks⟩, rfl, hl5, hn5, p5, t5⟩
        have N9 := HN.out.step p5 t5
        have hz4 := HN.out.tur.size
        have hz9 := N9.tur.size
        have hm5 : LiesD (fun b => W.heap.size ≤ b) W9 (.mk mk mt ma mav mcap mblk moff mks) := LiesD.mono hl5 (fun b hb _ => Nat.le_trans hz4 hb)
        have NA := N9.below (bel_new W9 (.cells #[.int .i64 mk, .string (bs mt), .int .i64 ma, .slice mav mks.length mcap] 24))
        have u3 := cell_of NA.nod 3
        have g3 := frozen_of NA.nod 3
        simp only [List.getElem?_toArray, List.getElem?_cons_zero, List.getElem?_cons_succ] at u3
        have hw2 : lineF ts v s = (.mk 15 [] ((nextT ts s).a : Int) ([.mk mk mt ma mav mcap mblk moff mks].map Nv.nd), _) := hw.trans (by rw [← hn5]; rfl)
        have HA := hidW (LnFin (w := lineF ts v) (s := s) (kcap := 1) NA (rowD_one (D := fun b => W.heap.size ≤ b) (W := W9) (.mk mk mt ma mav mcap mblk moff mks) hz9) (lies_all_one (lies_new hm5 _)) hw2)
        clear HN N9 NA hm5 hl5 hn5 p5 t5 hw2 hw
        go_wp2
        refine bodyPost_end (v := .tuple #[]) (by simp [results, Try.results81, go_sem]) rfl ?_
        exact HA.out
      | false =>
        have hF : lineF ts v s = if (v.e s).1.k = 25 ∧ isW ts [61] (v.e s).2 = false then (.mk 16 [] (nextT ts s).a [(v.e s).1], (v.e s).2) else (.mk 11 [] (nextT ts s).a [(v.e s).1, (v.e (wantS ts [61] (v.e s).2)).1], (v.e (wantS ts [61] (v.e s).2)).2) := by unfold lineF; rw [if_neg (by simp [q1]), if_neg (by simp [q2]), if_neg (by simp [q3])]
        go_enter Try.func81, Try.ntmps81
        have HT := hidW (take_no N0.par q1)
        have HF := hidW N0
        clear N0
        go_wp2_with fail
        refine HT.out.mono ?_; clear HT; rintro e W1 ⟨rfl, p3, t3⟩
        have N1 := HF.out.step p3 t3
        clear HF p3 t3
        have HT := hidW (take_no N1.par q2)
        have HF := hidW N1
        clear N1
        go_wp2_with fail
        refine HT.out.mono ?_; clear HT; rintro e W2 ⟨rfl, p3, t3⟩
        have N2 := HF.out.step p3 t3
        clear HF p3 t3
        have HT := hidW (take_no N2.par q3)
        have HF := hidW N2
        clear N2
        go_wp2_with fail
        refine HT.out.mono ?_; clear HT; rintro e W3 ⟨rfl, p3, t3⟩
        have N3 := HF.out.step p3 t3
        clear HF p3 t3
        have hD := hidW (setOrDo_is HV.out N3.here hF)
        have HN := hidW N3
        clear N3 hF
        go_wp2_with fail
        refine hD.out.mono ?_; clear hD; rintro e W9 hA
        have HA := hidW (hA.back HN.out rfl s rfl)
        obtain ⟨rfl, -⟩ := hA
        clear HN
        go_wp2
        refine bodyPost_end (v := .tuple #[]) (by simp [results, Try.results81, go_sem]) rfl ?_
        exact HA.out

end Go.Proofs.Ytgndnodahlabiaa

/- More trees in a row of one's own (layer 10): several at once, and one put into the row's last place. -/
namespace Go.Proofs.Ytgndnodahlabiaa
open Go.ChangeShapes Go.WideShapes Go.ChangeAt Go.RowKit

theorem ncs_one (n : Nv) : ∀ u, u ∈ n.cs → u.oneCell' = true := fun u hu => by
  obtain ⟨k, t, a, av, cap, blk, off, ks⟩ := n
  simp at hu
  rcases hu with rfl | rfl | rfl | rfl <;> rfl
/-- Trees more, from anywhere. -/
theorem app_nodes (V : World) (base : Nat) (v : Value) (n : Nat) (xs : List Value) (hown : V.ownsRow base 24 4 v n xs) (z c : Nat) (ms : List Nv) (hz : ∀ j u, (ms.flatMap Nv.cs)[j]? = some u → V.cell? ⟨z, j, none⟩ = some u) (hm : 0 < ms.length) (hbd : n + ms.length ≤ 100000000) (hbase : base ≤ V.heap.size) :
    ∃ g cap w', (Builtin.append_ #[22, 22] 22 #[v, .slice (some ⟨z, 0, none⟩) ms.length c]).run Try.prog V = .ok (.slice (some ⟨g, 0, none⟩) (n + ms.length) cap) w' ∧ w'.ownsRow base 24 4 (.slice (some ⟨g, 0, none⟩) (n + ms.length) cap) (n + ms.length) (xs ++ ms.flatMap Nv.cs) ∧ V.grownBy w' v.ownBlock ∧ (v.ownBlock = some g ∨ g = V.heap.size) ∧ g < w'.heap.size := by
  obtain ⟨i, h1, h2, h3, h4⟩ := typ24
  exact run_append_lies (P := Try.prog) V 22 22 base 24 i _ 4 56 Try.underlying22 h1 h2 h4 h3 rfl (by decide) v n xs hown ⟨z, 0, none⟩ ms.length c (ms.flatMap Nv.cs) (nflat_len ms)
    (fun j u hu => by rw [Addr.add_mid, Nat.zero_add]; exact hz j u hu)
    (fun u hu => by obtain ⟨n, _, hn⟩ := List.mem_flatMap.1 hu; exact ncs_one n u hn) hm (by unfold maxLen; omega) (by omega) hbase _ rfl
theorem own_two {base : Nat} {W : World} {n m : Nv} (h : Lies base W n) (k : Lies base W m) (hb : base ≤ W.heap.size) : OwnK base (W.alloc (.cells (n.cs ++ m.cs).toArray 24)) (.slice (some ⟨W.heap.size, 0, none⟩) 2 2) [n, m] := by
  have hl : (n.cs ++ m.cs).length = 8 := by cases n; cases m; rfl
  refine ⟨⟨by rw [nflat_len], .inr ⟨W.heap.size, 2, (n.cs ++ m.cs).toArray, rfl, hb, World.alloc_heap_new W _, Nat.le_refl _, by decide, by simpa using hl, ?_⟩⟩, fun x hx => ?_⟩
  · show (n.cs ++ m.cs).take 8 = _
    rw [List.take_of_length_le (by omega)]
    simp
  · have hD : ∀ y, Lies base W y → LiesD (fun b => base ≤ b ∧ Value.ownBlock (.slice (some ⟨W.heap.size, 0, none⟩) 2 2) ≠ some b) (W.alloc (.cells (n.cs ++ m.cs).toArray 24)) y := fun y hy =>
      (LiesD.mono hy (D' := fun b => base ≤ b ∧ Value.ownBlock (.slice (some ⟨W.heap.size, 0, none⟩) 2 2) ≠ some b) (fun b hb hl => ⟨hb, by simp [Value.ownBlock]; omega⟩)).turns (Turns.alloc (fun _ => False) W _) (fun _ _ _ h => h)
    rcases (show x = n ∨ x = m by simpa using hx) with rfl | rfl
    · exact hD _ h
    · exact hD _ k
/-- Trees more, in a row of one's own. -/
theorem own_app {base : Nat} {V : World} {kv : Value} {ks : List Nv} (ok : OwnK base V kv ks) (z c : Nat) (ms : List Nv) (hz : ∀ j u, (ms.flatMap Nv.cs)[j]? = some u → V.cell? ⟨z, j, none⟩ = some u) (hm : 0 < ms.length) (hbd : ks.length + ms.length ≤ 100000000) (hbase : base ≤ V.heap.size)
    (hl : ∀ n, n ∈ ms → LiesD (fun b => base ≤ b ∧ kv.ownBlock ≠ some b) V n) :
    ∃ g cap W', (Builtin.append_ #[22, 22] 22 #[kv, .slice (some ⟨z, 0, none⟩) ms.length c]).run Try.prog V = .ok (.slice (some ⟨g, 0, none⟩) (ks.length + ms.length) cap) W' ∧ OwnK base W' (.slice (some ⟨g, 0, none⟩) (ks.length + ms.length) cap) (ks ++ ms) ∧ Turns (fun b => kv.ownBlock = some b) V W' ∧ (kv.ownBlock = some g ∨ g = V.heap.size) := by
  obtain ⟨g, cap, w', q1, q2, q3, q4, q5⟩ := app_nodes V base kv ks.length _ ok.own z c ms hz hm hbd hbase
  have T : Turns (fun b => kv.ownBlock = some b) V w' := ⟨q3.os, q3.tape, q3.output, q3.size, fun b hb hq => q3.block b hb (fun e => hq e.symm)⟩
  refine ⟨g, cap, w', q1, ⟨?_, fun m hm => ?_⟩, T, q4⟩
  · rw [List.flatMap_append, List.length_append]; exact q2
  · have hD : LiesD (fun b => base ≤ b ∧ b ≠ g ∧ kv.ownBlock ≠ some b) V m := by
      have h1 : LiesD (fun b => base ≤ b ∧ kv.ownBlock ≠ some b) V m := by
        rcases List.mem_append.1 hm with hm | hm
        · exact ok.each m hm
        · exact hl m hm
      refine h1.mono (fun b hb hlt => ⟨hb.1, ?_, hb.2⟩)
      rintro rfl
      rcases q4 with q4 | q4
      · exact hb.2 q4
      · omega
    exact (hD.turns T (fun b hb _ e => hb.2.2 e)).mono (fun b hb _ => ⟨hb.1, by simp [Value.ownBlock]; exact fun e => hb.2.1 e.symm⟩)
/-- A tree is put into the third place. -/
theorem put_third {base g cp : Nat} {W : World} {n m z : Nv} {k : Int} {t : List UInt8} {a : Int} {nav : Option Addr} {ncap nblk noff : Nat} {ks : List Nv} (ok : OwnK base W (.slice (some ⟨g, 0, none⟩) 3 cp) [n, m, z]) (hd : LiesD (fun b => base ≤ b ∧ b ≠ g) W (.mk k t a nav ncap nblk noff ks)) :
    Kids base ((((W.setCell ⟨g, 8, none⟩ (.int .i64 k)).setCell ⟨g, 9, none⟩ (.string (bs t))).setCell ⟨g, 10, none⟩ (.int .i64 a)).setCell ⟨g, 11, none⟩ (.slice nav ks.length ncap)) (.slice (some ⟨g, 0, none⟩) 3 cp) [n, m, .mk k t a nav ncap nblk noff ks] := by
  rcases ok.own.2 with ⟨h, _⟩ | ⟨g2, cap2, cur, e, hb, hh, h5, h6, h7, h8⟩
  · cases h
  injection e with e1 e2 e3
  injection e1 with e1
  injection e1 with e1
  subst e1 e3
  have hsz : 12 ≤ cur.size := by rw [h7]; simp at h5; omega
  have hk := heap_set_same' (heap_set_same' (heap_set_same' (heap_set_same' hh 8 (.int .i64 k)) 9 (.string (bs t))) 10 (.int .i64 a)) 11 (.slice nav ks.length ncap)
  have T : Turns (fun c => c = g) W ((((W.setCell ⟨g, 8, none⟩ (.int .i64 k)).setCell ⟨g, 9, none⟩ (.string (bs t))).setCell ⟨g, 10, none⟩ (.int .i64 a)).setCell ⟨g, 11, none⟩ (.slice nav ks.length ncap)) :=
    ((((turns_p g 8 _ W).trans (turns_p g 9 _ _)).trans (turns_p g 10 _ _)).trans (turns_p g 11 _ _))
  have hcur : ∀ j, j < 8 → cur[j]? = (([n, m, z].flatMap Nv.cs))[j]? := fun j hj => by
    rw [← h8, List.getElem?_take_of_lt (by simp; omega), Array.getElem?_toList]
  refine ⟨some ⟨g, 0, none⟩, cp, g, 0, rfl, ⟨fun _ => rfl, fun _ => ⟨hb, lt_of hk⟩, fun i f hi hf => ?_⟩, fun x hx => ?_, h5⟩
  · rw [cell_of hk, Nat.zero_add]
    rcases (show i = 0 ∨ i = 1 ∨ i = 2 by simp at hi; omega) with rfl | rfl | rfl
    · have := hcur (0 * 4 + f) (by omega)
      rw [nflat_get _ 0 f (by simp) hf] at this
      rw [Array.getElem?_setIfInBounds_ne (by omega), Array.getElem?_setIfInBounds_ne (by omega), Array.getElem?_setIfInBounds_ne (by omega), Array.getElem?_setIfInBounds_ne (by omega)]
      exact this
    · have := hcur (1 * 4 + f) (by omega)
      rw [nflat_get _ 1 f (by simp) hf] at this
      rw [Array.getElem?_setIfInBounds_ne (by omega), Array.getElem?_setIfInBounds_ne (by omega), Array.getElem?_setIfInBounds_ne (by omega), Array.getElem?_setIfInBounds_ne (by omega)]
      exact this
    · rcases (show f = 0 ∨ f = 1 ∨ f = 2 ∨ f = 3 by omega) with rfl | rfl | rfl | rfl
      · simp [show 8 < cur.size by omega]
      · simp [show 9 < cur.size by omega]
      · simp [show 10 < cur.size by omega]
      · simp [show 11 < cur.size by omega]
  · have hE : ∀ y, LiesD (fun b => base ≤ b ∧ b ≠ g) W y → Lies base ((((W.setCell ⟨g, 8, none⟩ (.int .i64 k)).setCell ⟨g, 9, none⟩ (.string (bs t))).setCell ⟨g, 10, none⟩ (.int .i64 a)).setCell ⟨g, 11, none⟩ (.slice nav ks.length ncap)) y := fun y hy => (hy.turns T (fun b hb _ => hb.2)).mono (fun b hb _ => hb.1)
    have hF : ∀ y, y ∈ [n, m, z] → LiesD (fun b => base ≤ b ∧ b ≠ g) W y := fun y hy => (ok.each y hy).mono (fun b hb _ => ⟨hb.1, fun e => hb.2 (by rw [e]; rfl)⟩)
    rcases (show x = n ∨ x = m ∨ x = _ by simpa using hx) with rfl | rfl | rfl
    · exact hE _ (hF _ (by simp))
    · exact hE _ (hF _ (by simp))
    · exact hE _ hd
/-- What the third place holds. -/
theorem third_cells {base g cp : Nat} {W : World} {n m : Nv} (ok : OwnK base W (.slice (some ⟨g, 0, none⟩) 3 cp) [n, m, leafV 0 [] 0]) :
    (W.cell? ⟨g, 8, none⟩ = some (.int .i64 0) ∧ W.cell? ⟨g, 9, none⟩ = some (.string ⟨#[]⟩) ∧ W.cell? ⟨g, 10, none⟩ = some (.int .i64 0) ∧ W.cell? ⟨g, 11, none⟩ = some (.slice none 0 0)) ∧ (W.frozen? ⟨g, 8, none⟩ = false ∧ W.frozen? ⟨g, 9, none⟩ = false ∧ W.frozen? ⟨g, 10, none⟩ = false ∧ W.frozen? ⟨g, 11, none⟩ = false) := by
  rcases ok.own.2 with ⟨h, _⟩ | ⟨g2, cap2, cur, e, hb, hh, h5, h6, h7, h8⟩
  · cases h
  injection e with e1 e2 e3
  injection e1 with e1
  injection e1 with e1
  subst e1 e3
  have hcur : ∀ j, j < 12 → cur[j]? = (([n, m, leafV 0 [] 0].flatMap Nv.cs))[j]? := fun j hj => by
    rw [← h8, List.getElem?_take_of_lt (by simp; omega), Array.getElem?_toList]
  have h8' := hcur (2 * 4 + 0) (by omega)
  have h9' := hcur (2 * 4 + 1) (by omega)
  have ha' := hcur (2 * 4 + 2) (by omega)
  have hb' := hcur (2 * 4 + 3) (by omega)
  rw [nflat_get _ 2 _ (by simp) (by omega)] at h8' h9' ha' hb'
  exact ⟨⟨(cell_of hh 8).trans h8', (cell_of hh 9).trans h9', (cell_of hh 10).trans ha', (cell_of hh 11).trans hb'⟩, frozen_of hh 8, frozen_of hh 9, frozen_of hh 10, frozen_of hh 11⟩
theorem Fr.other {W0 W : World} {P : Nat} {av : Option Addr} {cap blk off : Nat} {ts : List Tok} {s : St} {r b1 : Nat} {x0 x1 x2 x3 : Value} (h : Fr W0 P av cap blk off ts s r b1 x0 x1 x2 x3 W) (g o : Nat) (v : Value) (hg : b1 < g) : Fr W0 P av cap blk off ts s r b1 x0 x1 x2 x3 (W.setCell ⟨g, o, none⟩ v) :=
  have hl := h.lt
  have hn := h.ne
  have k := turns_p g o v W
  ⟨h.par.turns2 k (by omega) (fun h0 => by have := h.bk h0; omega), (k.block _ (lt_of h.res) (by omega)).trans h.res, (k.block _ (lt_of h.nod) (by omega)).trans h.nod, turns_own h.tur g o v (by omega), h.lt, h.ne, h.bk⟩
theorem Fr.other4 {W0 W : World} {P : Nat} {av : Option Addr} {cap blk off : Nat} {ts : List Tok} {s : St} {r b1 : Nat} {x0 x1 x2 x3 : Value} (h : Fr W0 P av cap blk off ts s r b1 x0 x1 x2 x3 W) (g o1 o2 o3 o4 : Nat) (v1 v2 v3 v4 : Value) (hg : b1 < g) : Fr W0 P av cap blk off ts s r b1 x0 x1 x2 x3 ((((W.setCell ⟨g, o1, none⟩ v1).setCell ⟨g, o2, none⟩ v2).setCell ⟨g, o3, none⟩ v3).setCell ⟨g, o4, none⟩ v4) :=
  (((h.other g o1 v1 hg).other g o2 v2 hg).other g o3 v3 hg).other g o4 v4 hg

end Go.Proofs.Ytgndnodahlabiaa
