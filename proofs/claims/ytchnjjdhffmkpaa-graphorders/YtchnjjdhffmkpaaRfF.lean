/-
  The document's own leave and Order (layer 6): their contracts.
-/
import Derived.Test.YtchnjjdhffmkpaaRfE
namespace Go.Proofs.Ytchnjjdhffmkpaa
open Go.ChangeShapes Go.WideShapes Go.ChangeAt Go.RowKit Go.Shelf

/-- One number more behind a row of one's own. -/
theorem int_more {W : World} {base : Nat} {v : Value} {l : List Nat} (h : W.ownsRow base 3 1 v l.length (intsV l)) (x : Nat) (ty : TypeId) (hl : l.length ≤ 100000000) (hbase : base ≤ W.heap.size) :
    ∃ g cap w', (Builtin.append_ #[27, 27] ty #[v, .slice (some ⟨W.heap.size, 0, none⟩) 1 1]).run Try.prog (W.alloc (.cells #[.int .i64 (x : Int)] 3)) = .ok (.slice (some ⟨g, 0, none⟩) (l.length + 1) cap) w' ∧ w'.ownsRow base 3 1 (.slice (some ⟨g, 0, none⟩) (l.length + 1) cap) (l ++ [x]).length (intsV (l ++ [x])) ∧ Turns (fun b => base ≤ b) W w' := by
  obtain ⟨g, cap, w', hap, ho, hgb, -, -⟩ := app_int W ty base v l.length (intsV l) h x hl hbase
  refine ⟨g, cap, w', hap, ?_, grown_turns h hgb⟩
  rw [List.length_append, intsV, List.map_append]
  exact ho

/-- Where a walk of the document's own stands: the flags, and who was left. -/
structure Lv (g : List (List Nat)) (w0 : World) (A base : Nat) (m : List Bool) (l : List Nat) (v : Value) (W : World) : Prop where
  bel : Below w0.heap.size w0 W
  size : base ≤ W.heap.size
  len : m.length = g.length
  met : W.heap[A]? = some (flagsO m)
  own : W.ownsRow base 3 1 v l.length (intsV l)
  few : l.length + unmetN m ≤ 100000
theorem Lv.shape {g : List (List Nat)} {w0 : World} {A base : Nat} {m : List Bool} {l : List Nat} {v : Value} {W : World} (h : Lv g w0 A base m l v W) : ∃ lav lcap, v = .slice lav l.length lcap := by
  obtain ⟨x, y, z, _⟩ := owns_shape h.own; exact ⟨x, y, z⟩

set_option maxRecDepth 100000 in
set_option maxHeartbeats 4000000 in
theorem leave_is (av : Option Addr) (cap blk off : Nat) (hd : Nat → Hdr) (g : List (List Nat)) (hgr : Right g) (w0 : World) (hG : GAt w0 av blk off hd (castG g)) (A base : Nat) (hA : w0.heap.size ≤ A) (hAb : A < base) :
    ∀ (c : Nat) (m : List Bool) (b : Nat) (l : List Nat) (v : Value) (W : World), unmetN m < c → b < g.length → m[b]? = some false → Lv g w0 A base m l v W →
      Calls Try.prog 35 #[.slice av g.length cap, .int .i64 (b : Int), .slice (some ⟨A, 0, none⟩) g.length g.length, v] W fun e W' => ∃ v' m' o, e = .returned v' ∧ Walk g [b] m m' o ∧ Lv g w0 A base m' (l ++ o) v' W' := by
  intro c
  induction c with
  | zero => intro m b l v W h; exact absurd h (Nat.not_lt_zero _)
  | succ c ih =>
    intro m b l v W hc hb hbm hL
    have IH : Hid (∀ (m : List Bool) (b : Nat) (l : List Nat) (v : Value) (W : World), unmetN m < c → b < g.length → m[b]? = some false → Lv g w0 A base m l v W →
      Calls Try.prog 35 #[.slice av g.length cap, .int .i64 (b : Int), .slice (some ⟨A, 0, none⟩) g.length g.length, v] W fun e W' => ∃ v' m' o, e = .returned v' ∧ Walk g [b] m m' o ∧ Lv g w0 A base m' (l ++ o) v' W') := ih
    clear ih
    have HG := hide hG
    clear hG
    have hone := hgr.one
    have hmost := hgr.most
    have hrows := hgr.rows
    obtain ⟨lav, lcap, hv⟩ := hL.shape
    subst hv
    have c2 : W.cell? ⟨A, b, none⟩ = some (.bool false) := by rw [cell_of hL.met]; simp [hbm]
    have f2 := frozen_of hL.met b
    have hbi : ((b : Int) < (g.length : Int)) = True := eq_true (by omega)
    have hbl : b ≤ 4096 := by omega
    have hcu := unmetN_set m b hbm
    have hL2 : Lv g w0 A base (m.set b true) l (.slice lav l.length lcap) (W.setCell ⟨A, b, none⟩ (.bool true)) :=
      ⟨hL.bel.setCell hA _, by have := hL.size; have h2 := (Turns.setCell (Q := fun x => x = A) W ⟨A, b, none⟩ (.bool true) rfl).size; omega, by rw [List.length_set]; exact hL.len, set_flags hL.met b true,
        owns_turns hL.own (Turns.setCell (Q := fun x => x = A) W ⟨A, b, none⟩ (.bool true) rfl) (fun x hx e => by have := (hL.own.lt x hx).1; subst e; omega), by have := hL.few; omega⟩
    have HM := hide hbm
    have HL2 := hide hL2
    have HFEW := hide hL.few
    have HGO : Hid (∀ m1 o1, Walk g (g.getD b []) (m.set b true) m1 o1 → Walk g [b] m m1 (o1 ++ [b])) := fun m1 o1 h => .go HM.out h (.nil m1)
    have HS : Hid (∀ j, j < (g.getD b []).length → (g.getD b []).take (j + 1) = (g.getD b []).take j ++ [(g.getD b []).getD j 0]) := fun j hj => take_next _ j hj
    have HT : Hid (∀ j, j < (g.getD b []).length → (g.getD b []).getD j 0 < g.length) := fun j hj => hgr.lt b _ (getD_mem _ _ hj)
    have HR : Hid (∀ W, Below w0.heap.size w0 W → W.cell? ⟨blk, off + b, none⟩ = some (.slice (hd b).av (g.getD b []).length (hd b).cap) ∧ av = some ⟨blk, off, none⟩ ∧ ∀ j, j < (g.getD b []).length → (hd b).av = some ⟨(hd b).blk, (hd b).off, none⟩ ∧ W.cell? ⟨(hd b).blk, (hd b).off + j, none⟩ = some (.int .i64 (((g.getD b []).getD j 0 : Nat) : Int))) := fun W hW => by
      have h2 := HG.out.below hW
      have hbc : b < (castG g).length := by rw [castG_len]; exact hb
      refine ⟨?_, h2.at_ (by rw [castG_len]; omega), fun j hj => ⟨h2.rat b hbc (by rw [castG_at, List.length_map]; omega), ?_⟩⟩
      · have := h2.has b hbc; rwa [castG_at, List.length_map] at this
      · have := h2.rhas b j hbc (by rw [castG_at, List.length_map]; exact hj); rwa [castG_at, cast_at] at this
    have hr8 := hrows b
    clear hL hL2 hbm
    generalize hrow : g.getD b [] = row at *
    clear hrow
    generalize hn : row.length = n at *
    have HLN : Hid (row.length = n) := hn
    clear hn
    go_enter Try.func35, Try.ntmps35
    go_wp2
    go_loopw [9, 3] (fun i v wr => ∃ (j : Nat) (m1 : List Bool) (o1 : List Nat), i = .int .i64 j ∧ j ≤ n ∧ Walk g (row.take j) (m.set b true) m1 o1 ∧ Lv g w0 A base m1 (l ++ o1) v wr) (fun i _ _ => n - (intOf i).toNat)
    case atStart => exact ⟨0, m.set b true, [], rfl, Nat.zero_le _, by simpa using Walk.nil _, by simpa using HL2.out⟩
    case round =>
      clear c2 f2 HL2
      obtain ⟨j, m1, o1, rfl, hj, hw1, hL1⟩ := hrel
      obtain ⟨c1, rfl, hrc⟩ := HR.out wr hL1.bel
      obtain ⟨lav, lcap, hv⟩ := hL1.shape
      subst hv
      have hun := hw1.unmetN_le
      by_cases hlt : j < n
      · have e2 : ((j : Int) < (n : Int)) = True := eq_true (by omega)
        obtain ⟨hav, c3⟩ := hrc j hlt
        rw [hav] at c1
        have hx := HT.out j hlt
        have hs := HS.out j hlt
        obtain ⟨bt, hbt⟩ := flag_some m1 (row.getD j 0) (by rw [hL1.len]; exact hx)
        have c4 : wr.cell? ⟨A, row.getD j 0, none⟩ = some (.bool bt) := by rw [cell_of hL1.met, List.getElem?_toArray, List.getElem?_map, hbt]; rfl
        have HW := hide hw1
        have HA := hide hs
        have HL1 := hide hL1
        clear hw1 hs hrc hL1
        cases bt with
        | true =>
          have HSK : Hid (Walk g [row.getD j 0] m1 m1 []) := .skip hbt (.nil m1)
          clear hbt
          generalize row.getD j 0 = x at *
          generalize (l ++ o1).length = ll at *
          have hxi : ((x : Int) < (g.length : Int)) = True := eq_true (by omega)
          have hxb : x ≤ 4096 := by omega
          go_wp2
          go_roundw
          case rel =>
            refine ⟨j + 1, m1, o1, by go_num, by omega, ?_, HL1.out⟩
            rw [HA.out]
            simpa using HW.out.append HSK.out
          case measure => simp [intOf]; omega
        | false =>
          have key := IH.out m1 (row.getD j 0) (l ++ o1) _ wr (by omega) hx hbt HL1.out
          clear hbt
          generalize row.getD j 0 = x at *
          generalize (l ++ o1).length = ll at *
          have hxi : ((x : Int) < (g.length : Int)) = True := eq_true (by omega)
          have hxb : x ≤ 4096 := by omega
          go_wp2_with fail
          refine key.mono ?_
          clear key
          rintro e W3 ⟨v3, m3, o3, rfl, hw3, hL3⟩
          have HW3 := hide hw3
          have HL3 := hide hL3
          obtain ⟨lav3, lcap3, hv3⟩ := hL3.shape
          subst hv3
          clear hw3 hL3
          generalize (l ++ o1 ++ o3).length = l3 at *
          go_wp2
          go_roundw
          case rel =>
            refine ⟨j + 1, m3, o1 ++ o3, by go_num, by omega, ?_, by rw [← List.append_assoc]; exact HL3.out⟩
            rw [HA.out]
            exact HW.out.append HW3.out
          case measure => simp [intOf]; omega
      · have e2 : ((j : Int) < (n : Int)) = False := eq_false (by omega)
        rw [List.take_of_length_le (by rw [HLN.out]; omega)] at hw1
        have HF := hide (HGO.out m1 o1 hw1)
        obtain ⟨g9, c9, W9, hap, ho, hT⟩ := int_more hL1.own b 27 (by have := hL1.few; omega) hL1.size
        have hs9 := hT.size
        have hsz := hL1.size
        have hct := hw1.count
        have hbs := hL1.bel.size
        have HL9 : Hid (Lv g w0 A base m1 (l ++ (o1 ++ [b])) (.slice (some ⟨g9, 0, none⟩) ((l ++ o1).length + 1) c9) W9) :=
          ⟨hT.below hL1.bel hbs (fun x hx hq => by omega), by omega, hL1.len, (hT.block A (lt_of hL1.met) (by show ¬ base ≤ A; omega)).trans hL1.met, by rw [← List.append_assoc]; exact ho, by
            have h1 := hL1.few
            have h2 := HF.out.count
            simp only [List.length_append, List.length_cons, List.length_nil] at h1 h2 hct ⊢
            have h3 := hL1.len
            have := unmetN_le_len m1
            have hl9 : l.length + unmetN m ≤ 100000 := HFEW.out
            omega⟩
        have HAP := hide hap
        clear hw1 hap ho hT hL1 hrc
        generalize (l ++ o1).length = ll at *
        go_wp2_with (at_builtin; refine wpList_append_run rfl _ _ 27 rfl rfl rfl HAP.out ?_)
        go_ret
        exact ⟨_, rfl, m1, o1 ++ [b], HF.out, HL9.out⟩

set_option maxRecDepth 100000 in
set_option maxHeartbeats 4000000 in
/-- The document's Order of a right graph. -/
theorem rorder_is (av : Option Addr) (cap blk off : Nat) (hd : Nat → Hdr) (g : List (List Nat)) (hgr : Right g) (hl : g.length ≤ 40) (w : World) (hG : GAt w av blk off hd (castG g)) :
    Calls Try.prog 25 #[.slice av g.length cap] w fun e w' => Below w.heap.size w w' ∧ ∃ v m' o, e = .returned v ∧ w'.ownsRow w.heap.size 3 1 v o.length (intsV o.reverse) ∧ Walk g [0] (List.replicate g.length false) m' o := by
  have hrows := hgr.rows
  have hone := hgr.one
  have hr := rright_is av cap blk off hd (castG g) (by rw [castG_len]; exact hl) (fun b => by rw [castG_at, List.length_map]; have := hrows b; omega) w hG
  rw [castG_len, rightB_true.2 hgr.toI] at hr
  have mk := make_flags g.length (by omega)
  have kp0 := World.alloc_heap_new w (flagsO (List.replicate g.length false))
  have hb0 := (Below.refl w.heap.size w).alloc (Nat.le_refl _) (flagsO (List.replicate g.length false))
  have hs0 : (w.alloc (flagsO (List.replicate g.length false))).heap.size = w.heap.size + 1 := by simp
  have hul : unmetN (List.replicate g.length false) ≤ g.length := by have := unmetN_le_len (List.replicate g.length false); rwa [List.length_replicate] at this
  have HLV := hide (leave_is av cap blk off hd g hgr w hG w.heap.size (w.heap.size + 1) (Nat.le_refl _) (Nat.lt_succ_self _) _ (List.replicate g.length false) 0 [] (.slice none 0 0) (w.alloc (flagsO (List.replicate g.length false))) (Nat.lt_succ_self _) (by omega) (by rw [List.getElem?_replicate, if_pos (by omega)])
    ⟨hb0, by omega, by simp, kp0, World.ownsRow_nil _ _ _ _, by simp; omega⟩)
  clear hG kp0 hb0 hs0
  go_enter Try.func25, Try.ntmps25
  go_wp2_with fail
  refine hr.mono ?_
  rintro e w1 ⟨rfl, rfl⟩
  clear hr
  go_wp2_with fail
  refine HLV.out.mono ?_
  clear HLV mk
  rintro e w2 ⟨v, m', o, rfl, hw, hL⟩
  obtain ⟨lav, lcap, hv⟩ := hL.shape
  subst hv
  rw [List.nil_append] at *
  have hct := hw.count
  have hlo : 0 < o.length := by
    obtain ⟨o1, rfl⟩ := hw.last (by rw [List.getElem?_replicate, if_pos (by omega)])
    simp
  have hrn := RowN.of_owns hL.own
  have hbel := hL.bel
  have hsz := hL.bel.size
  obtain ⟨av', cp', OB, OO, hoe, ho2, ho3⟩ := hrn
  rw [List.length_map] at hoe ho2 ho3
  injection hoe with e1 e2 e3
  subst e1 e3
  obtain ⟨rfl, hOB⟩ := ho2 hlo
  have HOC : Hid (∀ j, j < o.length → w2.cell? ⟨OB, OO + j, none⟩ = some (.int .i64 ((o.getD j 0 : Nat) : Int))) := fun j hj => by rw [ho3 j hj, cast_at]
  have HW := hide hw
  have HREV : Hid (∀ k, k < o.length → o.reverse.take (k + 1) = o.reverse.take k ++ [o.getD (o.length - 1 - k) 0]) := fun k hk => by
    rw [List.take_succ_eq_append_getElem (by simpa using hk), List.getElem_reverse, List.getD_eq_getElem?_getD, List.getElem?_eq_getElem (by omega)]; rfl
  have HLEN : Hid (∀ k, k ≤ o.length → (o.reverse.take k).length = k) := fun k hk => by rw [List.length_take, List.length_reverse]; omega
  clear hw hL ho2 ho3
  generalize hhs : w2.heap.size = hs at *
  generalize hn : o.length = n at *
  have HN := hide hn
  clear hn
  go_wp2
  go_loopw [6, 5] (fun i v W => ∃ k : Nat, i = .int .i64 ((n : Int) - 1 - (k : Int)) ∧ k ≤ n ∧ Below hs w2 W ∧ W.ownsRow hs 3 1 v (o.reverse.take k).length (intsV (o.reverse.take k))) (fun i _ _ => (intOf i + 1).toNat)
  case atStart => exact ⟨0, by go_num, Nat.zero_le _, by rw [← hhs]; exact Below.refl _ _, World.ownsRow_nil _ _ _ _⟩
  case round =>
    obtain ⟨k, rfl, hk, hB, hO⟩ := hrel
    have hsB := hB.size
    obtain ⟨rav, rcap, hrv, -⟩ := owns_shape hO
    subst hrv
    have hlk := HLEN.out k hk
    by_cases hkl : k < n
    · have e1 : ((0 : Int) ≤ (n : Int) - 1 - (k : Int)) = True := eq_true (by omega)
      obtain ⟨x, hx⟩ : ∃ x : Nat, x = n - 1 - k := ⟨_, rfl⟩
      have c1 : wr.cell? ⟨OB, OO + x, none⟩ = some (.int .i64 ((o.getD x 0 : Nat) : Int)) := (hB.cell (p := ⟨OB, OO + x, none⟩) (by omega)).trans (HOC.out x (by omega))
      have hxe : (n : Int) - 1 - (k : Int) = (x : Int) := by omega
      have hxn : ((x : Int) < (n : Int)) = True := eq_true (by omega)
      obtain ⟨g9, c9, W9, hap, ho, hT⟩ := int_more hO (o.getD x 0) 27 (by rw [hlk]; omega) (by omega)
      have hrv := HREV.out k hkl
      rw [← hx] at hrv
      rw [← hrv, hlk] at ho
      rw [hlk] at hap
      have HAP := hide hap
      have HO := hide ho
      have hB9 : Below hs w2 W9 := hT.below hB (by omega) (fun b hb hq => by omega)
      have HX := hide hxe
      have hxn2 : x < n := by omega
      have hxb : x ≤ 100000 := by omega
      rw [hlk]
      rw [hxe]
      clear hap ho hT hO hrv hx hlk hxe e1
      generalize o.getD x 0 = y at *
      go_wp2_with (at_builtin; refine wpList_append_run rfl _ _ 27 rfl rfl rfl HAP.out ?_)
      go_roundw
      case rel => exact ⟨k + 1, by have := HX.out; go_num, by omega, hB9, by first | exact HO.out | (rw [HLEN.out (k + 1) (by omega)] at HO ⊢; exact HO.out)⟩
      case measure => have := HX.out; simp [intOf]
    · obtain rfl : k = n := by omega
      have e1 : ((0 : Int) ≤ (k : Int) - 1 - (k : Int)) = False := eq_false (by omega)
      have hfin : o.reverse.take k = o.reverse := List.take_of_length_le (by rw [List.length_reverse, HN.out]; exact Nat.le_refl _)
      rw [hlk, hfin] at hO
      have HO := hide hO
      rw [hlk]
      clear hO hlk hfin
      go_wp2
      go_ret
      exact ⟨hbel.trans (hB.mono (by omega)), _, m', o, rfl, by rw [HN.out]; exact owns_mono HO.out (by omega), HW.out⟩
theorem rorder_none (av : Option Addr) (cap blk off : Nat) (hd : Nat → Hdr) (g : List (List Int)) (hl : g.length ≤ 40) (hl2 : ∀ b, (g.getD b []).length ≤ 20) (hno : ¬ RightI g) (w : World) (hG : GAt w av blk off hd g) :
    Calls Try.prog 25 #[.slice av g.length cap] w fun e w' => e = .returned (.slice none 0 0) ∧ w' = w := by
  have hr := rright_is av cap blk off hd g hl hl2 w hG
  rw [rightB_false hno] at hr
  clear hG
  go_enter Try.func25, Try.ntmps25
  go_wp2_with fail
  refine hr.mono ?_
  rintro e w1 ⟨rfl, rfl⟩
  go_wp2
  go_ret
  exact ⟨rfl, rfl⟩

end Go.Proofs.Ytchnjjdhffmkpaa
