/-
  All classes together have each thing once, and each join leaves one class fewer (layer 8): the walk of UnionCounts.
-/
import Derived.Test.YtcebidhfgdchlaaCtG
import Derived.Test.YtcebidhfgdchlaaCtH
import Derived.Test.YtcebidhfgdchlaaCtP
import Derived.Deep.RegionHeld3
namespace Go.Proofs.Ytcebidhfgdchlaa
open Go.ChangeShapes Go.WideShapes Go.ChangeAt Go.RowKit Go.Shelf Go.Maps

/-- Sets that are made so far. -/
structure CntS (w W : World) (X mb : Nat) (v : Value) (st : List Th) (k : Nat) : Prop where
  here : SAt W w.heap.size X mb v st
  bel : Below w.heap.size w W
  own : ∀ b, v.ownBlock = some b → w.heap.size ≤ b
  len : st.length ≤ k
  fit : ∀ x, x ∈ st.map Th.key → Fits x
theorem CntS.roots_le {w W : World} {X mb : Nat} {v : Value} {st : List Th} {k : Nat} (_ : CntS w W X mb v st k) : roots st ≤ st.length := rootsTo_le st st.length
theorem CntS.below {w W W' : World} {X mb : Nat} {v : Value} {st : List Th} {k : Nat} (h : CntS w W X mb v st k) (hb : Below W.heap.size W W') : CntS w W' X mb v st k := ⟨h.here.below hb, h.bel.trans (hb.mono h.bel.size), h.own, h.len, h.fit⟩
theorem cnt_add {w W : World} {X mb : Nat} {v : Value} {st : List Th} {k : Nat} (a : Int) (ha : Fits a) (hk : k ≤ 1000) (h : CntS w W X mb v st k) :
    Calls Try.prog 18 #[.pointer (some ⟨X, 0, none⟩), .int .i64 a] W fun e W' => ∃ (st' : List Th) (v' : Value) (new : Bool), e = .returned (.bool new) ∧ CntS w W' X mb v' st' (k + 1) ∧ st'.length = st.length + new.toNat ∧ roots st' = roots st + new.toNat ∧ a ∈ st'.map Th.key ∧ ∀ x, x ∈ st.map Th.key → x ∈ st'.map Th.key := by
  refine (addp_is w.heap.size X mb v st a ha (by have := h.len; omega) W h.bel.size (fun b => w.heap.size ≤ b) h.here.bX h.here.bm h.own (fun b hb => Nat.le_trans h.bel.size hb) h.here).mono ?_
  rintro e W' ⟨st', i, new, v', rfl, hA, hS, hT, hv⟩
  obtain ⟨-, -, hr⟩ := hA.ks h.here.uf
  have hm : a ∈ st'.map Th.key := key_mem.2 ⟨i, hA.2.1, hA.2.2.1⟩
  rcases hA.2.2.2 with ⟨rfl, rfl⟩ | ⟨rfl, h4, rfl⟩
  · exact ⟨st', v', false, rfl, ⟨hS, hT.below h.bel h.bel.size (fun b hb => by omega), hv, by have := h.len; omega, h.fit⟩, rfl, hr, hm, fun x hx => hx⟩
  · have hl : (lone st a).length = st.length + 1 := by simp [lone]
    exact ⟨lone st a, v', true, rfl, ⟨hS, hT.below h.bel h.bel.size (fun b hb => by omega), hv, by have := h.len; omega, fun x hx => by
      rw [List.map_append, List.mem_append] at hx
      rcases hx with hx | hx
      · exact h.fit x hx
      · simp at hx; subst hx; exact ha⟩, hl, hr, hm, fun x hx => by rw [List.map_append]; exact List.mem_append_left _ hx⟩
theorem cnt_join {w W : World} {X mb : Nat} {v : Value} {st : List Th} {k : Nat} (a b : Int) (ha : Fits a) (hb : Fits b) (hk : k ≤ 1000) (hma : a ∈ st.map Th.key) (hmb : b ∈ st.map Th.key) (h : CntS w W X mb v st k) :
    Calls Try.prog 9 #[.pointer (some ⟨X, 0, none⟩), .int .i64 a, .int .i64 b] W fun e W' => ∃ (st' : List Th) (v' : Value) (res : Bool), e = .returned (.bool res) ∧ CntS w W' X mb v' st' k ∧ st'.length = st.length ∧ roots st' + res.toNat = roots st := by
  refine (join_is w.heap.size X mb v st a b ha hb (by have := h.len; omega) W h.bel.size (fun b => w.heap.size ≤ b) h.here.bX h.here.bm h.own (fun b hb => Nat.le_trans h.bel.size hb) h.here).mono ?_
  rintro e W' ⟨st', v', res, rfl, hS, hT, hv, st1, i, n1, st2, j, n2, had1, had2, hi, hik, hh⟩
  have hb' : Below w.heap.size w W' := hT.below h.bel h.bel.size (fun b hb => by omega)
  rcases had1.2.2.2 with ⟨rfl, rfl⟩ | ⟨_, h4, _⟩
  · rcases had2.2.2.2 with ⟨rfl, rfl⟩ | ⟨_, h4, _⟩
    · rcases hh with ⟨rfl, rfl, _⟩ | ⟨rfl, T, L, hTL, ht, rfl⟩
      · exact ⟨_, v', false, rfl, ⟨hS, hb', hv, h.len, h.fit⟩, rfl, rfl⟩
      · have hTt : T < st2.length := by rcases ht with ⟨h1, _⟩ | ⟨_, h1⟩ <;> exact h1.lt.2.1
        have hLt : L < st2.length ∧ (at_ st2 L).above = L := by rcases ht with ⟨_, h1⟩ | ⟨h1, _⟩ <;> exact h1.lt.2
        have hr := roots_joined hTt hLt.1 hTL hLt.2
        exact ⟨_, v', true, rfl, ⟨hS, hb', hv, by rw [joined_len]; exact h.len, by rw [joined_keys hTt hLt.1]; exact h.fit⟩, joined_len _ _ _, hr⟩
    · exact absurd hmb h4
  · exact absurd hma h4
theorem bel_drewN {B : Nat} {a b : World} (h : Below B a b) (n : Nat) : Below B a (b.drewN n) := h.trans ⟨rfl, rfl, rfl, Nat.le_refl _, fun _ _ => rfl⟩
theorem sumL_drop {l : List (List Int)} {k : Nat} (h : k < l.length) : sumL (l.drop k) = (l.getD k []).length + sumL (l.drop (k + 1)) := by
  rw [List.drop_eq_getElem_cons h, sumL, List.getD_eq_getElem?_getD, List.getElem?_eq_getElem h]; rfl
theorem sumL_all (l : List (List Int)) : sumL (l.drop l.length) = 0 := by rw [List.drop_length]; rfl

/-- Rows of rows that can be read. -/
theorem rows_read {W : World} {base : Nat} {oa : Option Addr} {oc R : Nat} {yss : List (List Int)} (h : RowsI W base (.slice oa R oc) yss) (hlen : yss.length = R) (hpos : ∀ l, l ∈ yss → 0 < l.length) :
    ∀ i, i < R → ∃ gb, oa = some ⟨gb, 0, none⟩ ∧ gb < W.heap.size ∧ ∃ gu cu, W.cell? ⟨gb, i, none⟩ = some (.slice (some ⟨gu, 0, none⟩) (yss.getD i []).length cu) ∧ gu < W.heap.size ∧ ∀ j, j < (yss.getD i []).length → W.cell? ⟨gu, j, none⟩ = some (.int .i64 ((yss.getD i []).getD j 0)) := by
  intro i hi
  subst hlen
  obtain ⟨vs, p1, p2, p3⟩ := h
  obtain ⟨u, hu, ho⟩ := p2 i hi
  obtain ⟨gb, c, e, _, a2⟩ := p1.form (by omega)
  injection e with e1 _ _
  have hc : W.cell? ⟨gb, i, none⟩ = vs[i]? := by subst e1; exact (by simpa using p1.cellAt i (by omega))
  have hm : yss.getD i [] ∈ yss := by rw [List.getD_eq_getElem?_getD, List.getElem?_eq_getElem hi]; exact List.getElem_mem hi
  obtain ⟨gu, cu, rfl, _, b2⟩ := ho.form (hpos _ hm)
  exact ⟨gb, e1, a2, gu, cu, hc.trans hu, b2, own_cells ho⟩
theorem cls_pos {st : List Th} {yss xss : List (List Int)} (hC : Cls st st.length xss) (hp : yss.Perm xss) : ∀ l, l ∈ yss → 0 < l.length := fun l hl => by
  obtain ⟨j, hj, he⟩ := List.mem_iff_getElem.1 (hp.mem_iff.1 hl)
  have := hC.pos (Nat.le_refl _) j hj
  rwa [List.getD_eq_getElem?_getD, List.getElem?_eq_getElem hj, Option.getD_some, he] at this

set_option maxRecDepth 100000 in
set_option maxHeartbeats 8000000 in
theorem counts_walk (v : Value) (n : Nat) (w : World) (hr : PairRow w v n) : Calls Try.prog 4 #[v] w fun e w' => e = .returned (.bool true) ∧ Below w.heap.size w w' := by
  obtain ⟨av, cap, blk, off, rfl, ha, hc⟩ := hr
  have HC := hide hc
  have HA := hide ha
  clear hc ha
  have HS := hide (small_is w)
  go_enter Try.func4, Try.ntmps4
  go_wp2_with fail
  refine HS.out.mono ?_
  clear HS
  rintro e w1 ⟨rfl, hb1⟩
  have HN := hide (new_is w1)
  have hs1 := hb1.size
  go_wp2_with fail
  refine HN.out.mono ?_
  clear HN
  rintro e w2 ⟨rfl, hb2, hS2⟩
  have HK0 : Hid (CntS w w2 (w1.heap.size + 1) w1.heap.size (.slice none 0 0) [] 0) := ⟨hS2.mono hs1, bel_two hb1 hb2, fun b hb => (by cases hb), Nat.le_refl _, fun x hx => by cases hx⟩
  clear hb1 hb2 hS2 hs1
  generalize w1.heap.size = mb at *
  generalize hX : mb + 1 = X at *
  clear hX
  by_cases hbig : 100 < n
  · have e1 : ((100 : Int) < (n : Int)) = True := eq_true (by omega)
    have HF := hide HK0.out.bel
    clear hbig
    go_wp2
    go_ret
    exact ⟨rfl, HF.out⟩
  have e1 : ((100 : Int) < (n : Int)) = False := eq_false (by omega)
  have HNB := hide hbig
  clear hbig
  go_wp2
  clear e1
  go_loopw [5, 6, 7] (fun a t i W => ∃ (k : Nat) (st : List Th) (v : Value), i = .int .i64 (k : Int) ∧ k ≤ n ∧ a = .int .i64 (roots st : Int) ∧ t = .int .i64 (st.length : Int) ∧ CntS w W X mb v st (2 * k)) (fun _ _ i _ => n - (RowKit.intOf i).toNat)
  case atStart => exact ⟨0, [], _, rfl, Nat.zero_le _, rfl, rfl, HK0.out⟩
  case round =>
    clear HK0
    obtain ⟨k, st, v, rfl, hk, rfl, rfl, hCn⟩ := hrel
    have hnb := HNB.out
    have hrl := hCn.roots_le
    have hsl := hCn.len
    by_cases hlt : k < n
    · have e1 : ((k : Int) < (n : Int)) = True := eq_true (by omega)
      obtain ⟨rfl, hblk⟩ := HA.out (by omega)
      obtain ⟨p, q, wp, wq, x0, x1⟩ := HC.out k hlt
      have x0 := (hCn.bel.cell (p := ⟨blk, off + k * 2, none⟩) hblk).trans x0
      have hpF : Fits p := bounds_i64 wp
      have hqF : Fits q := bounds_i64 wq
      have HX0 : Hid (∀ W, Below w.heap.size w W → W.cell? ⟨blk, off + k * 2, none⟩ = some (.int .i64 p) ∧ W.cell? ⟨blk, off + k * 2 + 1, none⟩ = some (.int .i64 q)) := fun W hb => by
        obtain ⟨p', q', _, _, y0, y1⟩ := HC.out k hlt
        have z0 : p' = p := by have := y0.symm.trans ((hCn.bel.cell (p := ⟨blk, off + k * 2, none⟩) hblk).symm.trans x0); injection this with this; injection this
        have z1 : q' = q := by have := y1.symm.trans x1; injection this with this; injection this
        subst z0 z1
        exact ⟨(hb.cell (p := ⟨blk, off + k * 2, none⟩) hblk).trans y0, (hb.cell (p := ⟨blk, off + k * 2 + 1, none⟩) hblk).trans y1⟩
      have HPQ := hide (And.intro hpF hqF)
      have HLT := hide hlt
      have HC1 := hide (cnt_add p hpF (by omega) hCn)
      have HRL := hide (And.intro hrl hsl)
      have hkb : k ≤ 100 := by omega
      have hnb2 : n ≤ 100 := by omega
      clear hpF hqF hlt x1 hCn wp wq hnb
      generalize hR : roots st = R at *
      generalize hSL : st.length = S at *
      have hRb : R ≤ 200 := by have := HRL.out; omega
      have hSb : S ≤ 200 := by have := HRL.out; omega
      clear hrl hsl
      have HRS := hide (And.intro hR hSL)
      clear hR hSL
      go_wp2_with fail
      refine HC1.out.mono ?_
      clear HC1
      rintro e w4 ⟨st1, v1, n1, rfl, hC1, hl1, hr1, hm1, -⟩
      have x1 := (HX0.out w4 hC1.bel).2
      have HM1 := hide hm1
      have HLR1 := hide (And.intro hl1 hr1)
      have HC2 := hide (cnt_add q HPQ.out.2 (by omega) hC1)
      have HCn1 := hide hC1
      clear hm1 hl1 hr1 hC1 x0
      rcases n1 with _ | _
      · go_wp2_with fail
        refine HC2.out.mono ?_
        clear HC2
        rintro e w5 ⟨st2, v2, n2, rfl, hC2, hl2, hr2, hm2, hk2⟩
        obtain ⟨x0, x1⟩ := HX0.out w5 hC2.bel
        have HC3 := hide (cnt_join p q HPQ.out.1 HPQ.out.2 (by omega) (hk2 _ HM1.out) hm2 (hC2.below (bel_drew (Below.refl _ w5))))
        have HLR2 := hide (And.intro hl2 hr2)
        clear hm2 hl2 hr2 hC2 hk2 HCn1
        rcases n2 with _ | _
        · go_wp2_with fail
          go_region_held3 (fun W => W.cell? ⟨blk, off + k * 2, none⟩ = some (.int .i64 p) ∧ W.cell? ⟨blk, off + k * 2 + 1, none⟩ = some (.int .i64 q)) (first | exact hS6 | exact ⟨x0, x1⟩) (first | (go_at_call 9; refine HC3.out.mono ?_; rintro e w6 ⟨st3, v3, n3, rfl, hC3, hl3, hr3⟩; have hS6 := HX0.out w6 hC3.bel))
          have HLen := hide (len_is _ X mb v3 st3 w6 hC3.here)
          have HC6 := hide hC3
          have HLR3 := hide (And.intro hl3 hr3)
          clear hl3 hr3 hC3 hS6 HC3
          rcases n3 with _ | _
          · have hrr : (roots st3 : Int) = (R : Int) := by
              have h1 := HLR1.out.2; have h2 := HLR2.out.2; have h3 := HLR3.out.2
              have t1 : true.toNat = 1 := rfl; have t0 : false.toNat = 0 := rfl
              omega
            have hss : (st3.length : Int) = (S : Int) := by
              have h1 := HLR1.out.1; have h2 := HLR2.out.1; have h3 := HLR3.out.1
              have t1 : true.toNat = 1 := rfl; have t0 : false.toNat = 0 := rfl
              omega
            rw [hrr] at HLen
            have HRR := hide (And.intro hrr hss)
            clear hrr hss
            go_wp2_with fail
            refine HLen.out.mono ?_
            clear HLen
            rintro e w7 ⟨rfl, rfl⟩
            go_wp2_with fail
            go_roundw
            case rel => exact ⟨k + 1, st3, v3, by go_num, HLT.out, by have h := HRR.out.1; congr 1; omega, by have h := HRR.out.2; congr 1; omega, by have := HC6.out; rwa [show 2 * (k + 1) = 2 * k + 1 + 1 by omega]⟩
            case measure => have := HLT.out; simp [RowKit.intOf]; omega
          · have hrr : (roots st3 : Int) = (R : Int) - 1 := by
              have h1 := HLR1.out.2; have h2 := HLR2.out.2; have h3 := HLR3.out.2
              have t1 : true.toNat = 1 := rfl; have t0 : false.toNat = 0 := rfl
              omega
            have hss : (st3.length : Int) = (S : Int) := by
              have h1 := HLR1.out.1; have h2 := HLR2.out.1; have h3 := HLR3.out.1
              have t1 : true.toNat = 1 := rfl; have t0 : false.toNat = 0 := rfl
              omega
            rw [hrr] at HLen
            have HRR := hide (And.intro hrr hss)
            clear hrr hss
            go_wp2_with fail
            refine HLen.out.mono ?_
            clear HLen
            rintro e w7 ⟨rfl, rfl⟩
            go_wp2_with fail
            go_roundw
            case rel => exact ⟨k + 1, st3, v3, by go_num, HLT.out, by have h := HRR.out.1; congr 1; omega, by have h := HRR.out.2; congr 1; omega, by have := HC6.out; rwa [show 2 * (k + 1) = 2 * k + 1 + 1 by omega]⟩
            case measure => have := HLT.out; simp [RowKit.intOf]; omega
        · go_wp2_with fail
          go_region_held3 (fun W => W.cell? ⟨blk, off + k * 2, none⟩ = some (.int .i64 p) ∧ W.cell? ⟨blk, off + k * 2 + 1, none⟩ = some (.int .i64 q)) (first | exact hS6 | exact ⟨x0, x1⟩) (first | (go_at_call 9; refine HC3.out.mono ?_; rintro e w6 ⟨st3, v3, n3, rfl, hC3, hl3, hr3⟩; have hS6 := HX0.out w6 hC3.bel))
          have HLen := hide (len_is _ X mb v3 st3 w6 hC3.here)
          have HC6 := hide hC3
          have HLR3 := hide (And.intro hl3 hr3)
          clear hl3 hr3 hC3 hS6 HC3
          rcases n3 with _ | _
          · have hrr : (roots st3 : Int) = (R : Int) + 1 := by
              have h1 := HLR1.out.2; have h2 := HLR2.out.2; have h3 := HLR3.out.2
              have t1 : true.toNat = 1 := rfl; have t0 : false.toNat = 0 := rfl
              omega
            have hss : (st3.length : Int) = (S : Int) + 1 := by
              have h1 := HLR1.out.1; have h2 := HLR2.out.1; have h3 := HLR3.out.1
              have t1 : true.toNat = 1 := rfl; have t0 : false.toNat = 0 := rfl
              omega
            rw [hrr] at HLen
            have HRR := hide (And.intro hrr hss)
            clear hrr hss
            go_wp2_with fail
            refine HLen.out.mono ?_
            clear HLen
            rintro e w7 ⟨rfl, rfl⟩
            go_wp2_with fail
            go_roundw
            case rel => exact ⟨k + 1, st3, v3, by go_num, HLT.out, by have h := HRR.out.1; congr 1; omega, by have h := HRR.out.2; congr 1; omega, by have := HC6.out; rwa [show 2 * (k + 1) = 2 * k + 1 + 1 by omega]⟩
            case measure => have := HLT.out; simp [RowKit.intOf]; omega
          · have hrr : (roots st3 : Int) = (R : Int) + 1 - 1 := by
              have h1 := HLR1.out.2; have h2 := HLR2.out.2; have h3 := HLR3.out.2
              have t1 : true.toNat = 1 := rfl; have t0 : false.toNat = 0 := rfl
              omega
            have hss : (st3.length : Int) = (S : Int) + 1 := by
              have h1 := HLR1.out.1; have h2 := HLR2.out.1; have h3 := HLR3.out.1
              have t1 : true.toNat = 1 := rfl; have t0 : false.toNat = 0 := rfl
              omega
            rw [hrr] at HLen
            have HRR := hide (And.intro hrr hss)
            clear hrr hss
            go_wp2_with fail
            refine HLen.out.mono ?_
            clear HLen
            rintro e w7 ⟨rfl, rfl⟩
            go_wp2_with fail
            go_roundw
            case rel => exact ⟨k + 1, st3, v3, by go_num, HLT.out, by have h := HRR.out.1; congr 1; omega, by have h := HRR.out.2; congr 1; omega, by have := HC6.out; rwa [show 2 * (k + 1) = 2 * k + 1 + 1 by omega]⟩
            case measure => have := HLT.out; simp [RowKit.intOf]; omega
      · go_wp2_with fail
        refine HC2.out.mono ?_
        clear HC2
        rintro e w5 ⟨st2, v2, n2, rfl, hC2, hl2, hr2, hm2, hk2⟩
        obtain ⟨x0, x1⟩ := HX0.out w5 hC2.bel
        have HC3 := hide (cnt_join p q HPQ.out.1 HPQ.out.2 (by omega) (hk2 _ HM1.out) hm2 (hC2.below (bel_drew (Below.refl _ w5))))
        have HLR2 := hide (And.intro hl2 hr2)
        clear hm2 hl2 hr2 hC2 hk2 HCn1
        rcases n2 with _ | _
        · go_wp2_with fail
          go_region_held3 (fun W => W.cell? ⟨blk, off + k * 2, none⟩ = some (.int .i64 p) ∧ W.cell? ⟨blk, off + k * 2 + 1, none⟩ = some (.int .i64 q)) (first | exact hS6 | exact ⟨x0, x1⟩) (first | (go_at_call 9; refine HC3.out.mono ?_; rintro e w6 ⟨st3, v3, n3, rfl, hC3, hl3, hr3⟩; have hS6 := HX0.out w6 hC3.bel))
          have HLen := hide (len_is _ X mb v3 st3 w6 hC3.here)
          have HC6 := hide hC3
          have HLR3 := hide (And.intro hl3 hr3)
          clear hl3 hr3 hC3 hS6 HC3
          rcases n3 with _ | _
          · have hrr : (roots st3 : Int) = (R : Int) + 1 := by
              have h1 := HLR1.out.2; have h2 := HLR2.out.2; have h3 := HLR3.out.2
              have t1 : true.toNat = 1 := rfl; have t0 : false.toNat = 0 := rfl
              omega
            have hss : (st3.length : Int) = (S : Int) + 1 := by
              have h1 := HLR1.out.1; have h2 := HLR2.out.1; have h3 := HLR3.out.1
              have t1 : true.toNat = 1 := rfl; have t0 : false.toNat = 0 := rfl
              omega
            rw [hrr] at HLen
            have HRR := hide (And.intro hrr hss)
            clear hrr hss
            go_wp2_with fail
            refine HLen.out.mono ?_
            clear HLen
            rintro e w7 ⟨rfl, rfl⟩
            go_wp2_with fail
            go_roundw
            case rel => exact ⟨k + 1, st3, v3, by go_num, HLT.out, by have h := HRR.out.1; congr 1; omega, by have h := HRR.out.2; congr 1; omega, by have := HC6.out; rwa [show 2 * (k + 1) = 2 * k + 1 + 1 by omega]⟩
            case measure => have := HLT.out; simp [RowKit.intOf]; omega
          · have hrr : (roots st3 : Int) = (R : Int) + 1 - 1 := by
              have h1 := HLR1.out.2; have h2 := HLR2.out.2; have h3 := HLR3.out.2
              have t1 : true.toNat = 1 := rfl; have t0 : false.toNat = 0 := rfl
              omega
            have hss : (st3.length : Int) = (S : Int) + 1 := by
              have h1 := HLR1.out.1; have h2 := HLR2.out.1; have h3 := HLR3.out.1
              have t1 : true.toNat = 1 := rfl; have t0 : false.toNat = 0 := rfl
              omega
            rw [hrr] at HLen
            have HRR := hide (And.intro hrr hss)
            clear hrr hss
            go_wp2_with fail
            refine HLen.out.mono ?_
            clear HLen
            rintro e w7 ⟨rfl, rfl⟩
            go_wp2_with fail
            go_roundw
            case rel => exact ⟨k + 1, st3, v3, by go_num, HLT.out, by have h := HRR.out.1; congr 1; omega, by have h := HRR.out.2; congr 1; omega, by have := HC6.out; rwa [show 2 * (k + 1) = 2 * k + 1 + 1 by omega]⟩
            case measure => have := HLT.out; simp [RowKit.intOf]; omega
        · go_wp2_with fail
          go_region_held3 (fun W => W.cell? ⟨blk, off + k * 2, none⟩ = some (.int .i64 p) ∧ W.cell? ⟨blk, off + k * 2 + 1, none⟩ = some (.int .i64 q)) (first | exact hS6 | exact ⟨x0, x1⟩) (first | (go_at_call 9; refine HC3.out.mono ?_; rintro e w6 ⟨st3, v3, n3, rfl, hC3, hl3, hr3⟩; have hS6 := HX0.out w6 hC3.bel))
          have HLen := hide (len_is _ X mb v3 st3 w6 hC3.here)
          have HC6 := hide hC3
          have HLR3 := hide (And.intro hl3 hr3)
          clear hl3 hr3 hC3 hS6 HC3
          rcases n3 with _ | _
          · have hrr : (roots st3 : Int) = (R : Int) + 1 + 1 := by
              have h1 := HLR1.out.2; have h2 := HLR2.out.2; have h3 := HLR3.out.2
              have t1 : true.toNat = 1 := rfl; have t0 : false.toNat = 0 := rfl
              omega
            have hss : (st3.length : Int) = (S : Int) + 1 + 1 := by
              have h1 := HLR1.out.1; have h2 := HLR2.out.1; have h3 := HLR3.out.1
              have t1 : true.toNat = 1 := rfl; have t0 : false.toNat = 0 := rfl
              omega
            rw [hrr] at HLen
            have HRR := hide (And.intro hrr hss)
            clear hrr hss
            go_wp2_with fail
            refine HLen.out.mono ?_
            clear HLen
            rintro e w7 ⟨rfl, rfl⟩
            go_wp2_with fail
            go_roundw
            case rel => exact ⟨k + 1, st3, v3, by go_num, HLT.out, by have h := HRR.out.1; congr 1; omega, by have h := HRR.out.2; congr 1; omega, by have := HC6.out; rwa [show 2 * (k + 1) = 2 * k + 1 + 1 by omega]⟩
            case measure => have := HLT.out; simp [RowKit.intOf]; omega
          · have hrr : (roots st3 : Int) = (R : Int) + 1 + 1 - 1 := by
              have h1 := HLR1.out.2; have h2 := HLR2.out.2; have h3 := HLR3.out.2
              have t1 : true.toNat = 1 := rfl; have t0 : false.toNat = 0 := rfl
              omega
            have hss : (st3.length : Int) = (S : Int) + 1 + 1 := by
              have h1 := HLR1.out.1; have h2 := HLR2.out.1; have h3 := HLR3.out.1
              have t1 : true.toNat = 1 := rfl; have t0 : false.toNat = 0 := rfl
              omega
            rw [hrr] at HLen
            have HRR := hide (And.intro hrr hss)
            clear hrr hss
            go_wp2_with fail
            refine HLen.out.mono ?_
            clear HLen
            rintro e w7 ⟨rfl, rfl⟩
            go_wp2_with fail
            go_roundw
            case rel => exact ⟨k + 1, st3, v3, by go_num, HLT.out, by have h := HRR.out.1; congr 1; omega, by have h := HRR.out.2; congr 1; omega, by have := HC6.out; rwa [show 2 * (k + 1) = 2 * k + 1 + 1 by omega]⟩
            case measure => have := HLT.out; simp [RowKit.intOf]; omega
    · have e1 : ((k : Int) < (n : Int)) = False := eq_false (by omega)
      have HB0 := hide hCn.bel
      have hRW := lawrows_is w.heap.size X mb v st (by omega) wr hCn.here
      have HRW := hide hRW
      have HCn := hide hCn
      have hSb : st.length ≤ 200 := by omega
      have hRb : roots st ≤ 200 := by omega
      clear hCn hRW hlt hk hnb hrl hsl
      generalize hR : roots st = R at *
      generalize hSL : st.length = S at *
      have HRS := hide (And.intro hR hSL)
      clear hR hSL
      go_wp2_with fail
      refine HRW.out.mono ?_
      clear HRW
      rintro e w4 ⟨v4, yss, xss, rfl, hCl, hPe, hRo, hB4⟩
      have hS4 := HCn.out.here.below hB4
      obtain ⟨vs, p1, p2, p3⟩ := hRo
      obtain ⟨oa, oc, rfl, -⟩ := owns_shape p1
      have hU : UF st := hS4.uf
      have hCl : Cls st st.length xss := by rw [HRS.out.2]; exact hCl
      have hsum : sumL yss = S := by rw [sumL_perm hPe, ← HRS.out.2]; exact hCl.sum hU
      have hlen : yss.length = R := by rw [hPe.length_eq, hCl.len]; exact HRS.out.1
      have HSUM := hide hsum
      have HLEN := hide hlen
      have hpos := cls_pos hCl hPe
      have HG := hide (rows_read (show RowsI w4 _ _ yss from ⟨vs, p1, p2, p3⟩) rfl hpos)
      have HROW : Hid (∀ i, i < yss.length → (yss.getD i []).length ≤ 200 ∧ 0 < (yss.getD i []).length ∧ (∀ j, 0 < j → j < (yss.getD i []).length → (yss.getD i []).getD (j - 1) 0 < (yss.getD i []).getD j 0) ∧ ∀ j, j < (yss.getD i []).length → Fits ((yss.getD i []).getD j 0) ∧ (yss.getD i []).getD j 0 ∈ st.map Th.key ∧ ∀ m, LeastOf st ((yss.getD i []).getD j 0) m → (yss.getD i []).getD 0 0 = m) := fun i hi => by
        have hm : yss.getD i [] ∈ yss := by rw [List.getD_eq_getElem?_getD, List.getElem?_eq_getElem hi]; exact List.getElem_mem hi
        have hp0 := hpos _ hm
        obtain ⟨r1, r2, r3⟩ := hCl.row hU (hPe.mem_iff.1 hm)
        generalize yss.getD i [] = l at *
        refine ⟨by have := HRS.out.2; omega, hp0, fun j h0 hj => rise_get r2 hj h0, fun j hj => ?_⟩
        have hx : l.getD j 0 ∈ l := by rw [List.getD_eq_getElem?_getD, List.getElem?_eq_getElem hj]; exact List.getElem_mem hj
        obtain ⟨k1, k2⟩ := r3 _ hx
        exact ⟨HCn.out.fit _ k1, k1, k2⟩
      have HB4 : Hid (Below w.heap.size w w4) := HB0.out.trans (hB4.mono HB0.out.size)
      have HS4 := hide hS4
      have HSTL : Hid (st.length ≤ 1000000) := by have := HRS.out.2; rw [Hid]; omega
      have hS0 : (S : Int) = (sumL (yss.drop 0) : Int) := by rw [List.drop_zero, hsum]
      have HSB : Hid (∀ k, sumL (yss.drop k) ≤ 200) := fun k => by
        have h1 : sumL (yss.take k) + sumL (yss.drop k) = sumL yss := by rw [← sumL_app, List.take_append_drop]
        omega
      clear hCl hPe p1 p2 p3 hS4 hU hsum hpos hB4 HCn
      have HS0 := hide hS0
      clear hS0
      rw [hlen] at HG HROW
      rw [hlen]
      clear hlen
      go_wp2
      go_loopw [6, 9] (fun t i W => ∃ k : Nat, i = .int .i64 (k : Int) ∧ k ≤ R ∧ t = .int .i64 (sumL (yss.drop k) : Int) ∧ Below w4.heap.size w4 W) (fun _ i _ => R - (RowKit.intOf i).toNat)
      case atStart => exact ⟨0, rfl, Nat.zero_le _, by rw [HS0.out], Below.refl _ _⟩
      case round =>
        obtain ⟨k, rfl, hkR, rfl, hBr⟩ := hrel
        have hsb := HSB.out k
        by_cases hlt : k < R
        · have e1 : ((k : Int) < (R : Int)) = True := eq_true (by omega)
          obtain ⟨gb, rfl, hgb, gu, cu, y1, hgu, hy⟩ := HG.out k hlt
          obtain ⟨hl1, hl2, hl3, hl4⟩ := HROW.out k hlt
          have hd : sumL (yss.drop k) = (yss.getD k []).length + sumL (yss.drop (k + 1)) := sumL_drop (by rw [HLEN.out]; exact hlt)
          have x1 := (hBr.cell (p := ⟨gb, k, none⟩) hgb).trans y1
          have HD := hide hd
          have HY := hide hy
          have HL3 := hide hl3
          have HL4 := hide hl4
          have HLT := hide hlt
          have HBr := hide hBr
          have hkb : k ≤ 200 := by omega
          clear hy hl3 hl4 hlt hBr
          generalize hq0 : sumL (yss.drop (k + 1)) = s1 at *
          have HQ0 := hide hq0
          clear hq0
          generalize hs0 : sumL (yss.drop k) = s0 at *
          have hs1b : s1 ≤ 200 := by omega
          clear hs0
          generalize hlk : yss.getD k [] = l at *
          clear hlk
          generalize hln : l.length = m at *
          have HLN := hide hln
          clear hln hd
          have hcell0 := (HBr.out.cell (p := ⟨gu, 0, none⟩) hgu).trans (HY.out 0 hl2)
          have HC0 := hide hcell0
          clear hcell0
          go_wp2
          go_loopw [10] (fun j W => ∃ q : Nat, j = .int .i64 (q : Int) ∧ q ≤ m ∧ Below w4.heap.size w4 W) (fun j _ => m - (RowKit.intOf j).toNat)
          case atStart => exact ⟨0, rfl, Nat.zero_le _, HBr.out⟩
          case round =>
            obtain ⟨q, rfl, hqm, hBr2⟩ := hrel
            have x1 := (hBr2.cell (p := ⟨gb, k, none⟩) hgb).trans y1
            by_cases hql : q < m
            · have e2 : ((q : Int) < (m : Int)) = True := eq_true (by omega)
              have xq := (hBr2.cell (p := ⟨gu, q, none⟩) hgu).trans (HY.out q hql)
              have x0 := (hBr2.cell (p := ⟨gu, 0, none⟩) hgu).trans (HY.out 0 hl2)
              obtain ⟨hzf, hzk, hzl⟩ := HL4.out q hql
              have HZ := hide (And.intro hzk hzl)
              have HFI := hide (find_is w.heap.size X mb v st _ hzf HSTL.out _ (HS4.out.below hBr2))
              have HBr2 := hide hBr2
              have HQL := hide hql
              have HX : Hid (∀ W, Below w4.heap.size w4 W → W.cell? ⟨gb, k, none⟩ = some (.slice (some ⟨gu, 0, none⟩) m cu) ∧ W.cell? ⟨gu, 0, none⟩ = some (.int .i64 (l.getD 0 0)) ∧ W.cell? ⟨gu, q, none⟩ = some (.int .i64 (l.getD q 0)) ∧ (0 < q → W.cell? ⟨gu, q - 1, none⟩ = some (.int .i64 (l.getD (q - 1) 0)))) := fun W hb =>
                ⟨(hb.cell (p := ⟨gb, k, none⟩) hgb).trans y1, (hb.cell (p := ⟨gu, 0, none⟩) hgu).trans (HY.out 0 hl2), (hb.cell (p := ⟨gu, q, none⟩) hgu).trans (HY.out q hql), fun h0 => (hb.cell (p := ⟨gu, q - 1, none⟩) hgu).trans (HY.out (q - 1) (by omega))⟩
              have hqb : q ≤ 200 := by omega
              clear hBr2 hzf hzk hzl x0
              have HL3q : Hid (0 < q → l.getD (q - 1) 0 < l.getD q 0) := fun h0 => HL3.out q h0 (by omega)
              generalize l.getD q 0 = z at *
              generalize l.getD (q - 1) 0 = z1 at *
              generalize l.getD 0 0 = f0 at *
              go_wp2_with fail
              refine HFI.out.mono ?_
              clear HFI
              rintro e w5 ⟨hq5, ⟨hno, _⟩ | ⟨f, hf, rfl⟩⟩
              · exact absurd HZ.out.1 hno
              obtain rfl := HZ.out.2 f hf
              have hB5 := HBr2.out.trans ((bel_q hq5).mono HBr2.out.size)
              obtain ⟨k1, k2, k3, k4⟩ := HX.out w5 hB5
              have HB5 := hide hB5
              clear hf hq5 hB5 x1 xq
              have hff : (f0 != f0) = false := by simp
              by_cases hq0 : q = 0
              · subst hq0
                clear k4
                go_wp2
                go_quiet (fail)
                go_wp2
                go_roundw
                case rel => exact ⟨0 + 1, by go_num, by have := HQL.out; omega, bel_drewN HB5.out _⟩
                case measure => have := HQL.out; simp [RowKit.intOf]; omega
              · obtain ⟨q', rfl⟩ : ∃ q', q = q' + 1 := ⟨q - 1, by omega⟩
                have k4 := k4 (by omega)
                rw [Nat.add_sub_cancel] at k4
                have e3 : ((0 : Int) < ((q' + 1 : Nat) : Int)) = True := eq_true (by omega)
                have e3' : ((0 : Int) < (q' : Int) + 1) = True := eq_true (by omega)
                have hle : (z ≤ z1) = False := eq_false (by have := HL3q.out (by omega); omega)
                have e4 : ((q' : Int) < (m : Int)) = True := eq_true (by have := HQL.out; omega)
                have e5 : ((q' : Int) + 1 < (m : Int)) = True := eq_true (by have := HQL.out; omega)
                clear hq0
                go_wp2
                go_quiet (fail)
                go_wp2
                go_roundw
                case rel => exact ⟨q' + 1 + 1, by go_num, by have := HQL.out; omega, bel_drewN HB5.out _⟩
                case measure => have := HQL.out; simp [RowKit.intOf]; omega
            · have e2 : ((q : Int) < (m : Int)) = False := eq_false (by omega)
              have HBr2 := hide hBr2
              clear hBr2
              go_wp2
              go_roundw
              case rel => exact ⟨k + 1, by go_num, HLT.out, by have := HD.out; rw [HQ0.out]; congr 1; omega, HBr2.out⟩
              case measure => have := HLT.out; simp [RowKit.intOf]; omega
        · have e1 : ((k : Int) < (R : Int)) = False := eq_false (by omega)
          obtain rfl : k = R := by omega
          have hz : sumL (yss.drop k) = 0 := by rw [← HLEN.out]; exact sumL_all yss
          rw [hz]
          have HF := hide (HB4.out.trans (hBr.mono HB4.out.size))
          clear hBr hlt hkR hsb hz
          go_wp2
          go_ret
          exact ⟨rfl, HF.out⟩

end Go.Proofs.Ytcebidhfgdchlaa
