/-
  The law GraphOnward (layer 6): its walk.
-/
import Derived.Test.YtchnjjdhffmkpaaReaA
namespace Go.Proofs.Ytchnjjdhffmkpaa
open Go.ChangeShapes Go.WideShapes Go.ChangeAt Go.RowKit Go.Shelf

theorem memP_getD (r : List (Nat × Nat)) (k : Nat × Nat) : k ∈ r ↔ ∃ m, m < r.length ∧ r.getD m (0, 0) = k := by
  rw [List.mem_iff_getElem]
  constructor
  · rintro ⟨m, hm, e⟩; exact ⟨m, hm, by rw [List.getD_eq_getElem?_getD, List.getElem?_eq_getElem hm]; exact e⟩
  · rintro ⟨m, hm, e⟩; exact ⟨m, hm, by rw [List.getD_eq_getElem?_getD, List.getElem?_eq_getElem hm] at e; exact e⟩
theorem ex_succP (r : List (Nat × Nat)) (m : Nat) (k : Nat × Nat) : (∃ p, p < m + 1 ∧ r.getD p (0, 0) = k) ↔ (∃ p, p < m ∧ r.getD p (0, 0) = k) ∨ r.getD m (0, 0) = k := by
  constructor
  · rintro ⟨p, hp, e⟩
    rcases Nat.lt_or_ge p m with h | h
    · exact .inl ⟨p, h, e⟩
    · obtain rfl : p = m := by omega
      exact .inr e
  · rintro (⟨p, hp, e⟩ | e)
    · exact ⟨p, by omega, e⟩
    · exact ⟨m, by omega, e⟩
theorem eqI3 (d : Nat) (x y : Int) (w : World) : (Op.equalIn (d + 1) 3 (.int .i64 x) (.int .i64 y)).run Try.prog w = .ok (x == y) w := by
  simp [Op.equalIn, run_underlying Try.underlying3]
theorem items_two (d : Nat) (x y x' y' : Int) (w : World) : (Op.eqItems (d + 1) 3 1 #[.int .i64 x, .int .i64 y] #[.int .i64 x', .int .i64 y'] [0, 1]).run Try.prog w = .ok ((x == x') && (y == y')) w := by
  have p0 := part3 #[.int .i64 x, .int .i64 y] 0 x rfl w
  have p1 := part3 #[.int .i64 x, .int .i64 y] 1 y rfl w
  have q0 := part3 #[.int .i64 x', .int .i64 y'] 0 x' rfl w
  have q1 := part3 #[.int .i64 x', .int .i64 y'] 1 y' rfl w
  have h0 := eqI3 d x x' w
  have h1 := eqI3 d y y' w
  by_cases hx : x = x'
  · subst hx
    by_cases hy : y = y'
    · subst hy; simp [Op.eqItems, p0, p1, h0, h1]
    · simp [Op.eqItems, p0, p1, q0, q1, h0, h1, hy]
  · simp [Op.eqItems, p0, q0, h0, hx]
theorem run_eql37 (x y x' y' : Int) (w : World) : (binOp .eql 37 (.agg #[.int .i64 x, .int .i64 y]) (.agg #[.int .i64 x', .int .i64 y'])).run Try.prog w = .ok (.bool ((x == x') && (y == y'))) w := by
  obtain ⟨i, hi, _⟩ := typI
  rw [run_eql_struct, show (10000 : Nat) = 9998 + 1 + 1 from rfl, run_equalIn_array w (9998 + 1) _ _ under37 hi, cellsOf3, show List.range 2 = [0, 1] from rfl, items_two]
  rfl
theorem eqlP_same (x y : Int) (w : World) : (binOp .eql 37 (.agg #[.int .i64 x, .int .i64 y]) (.agg #[.int .i64 x, .int .i64 y])).run Try.prog w = .ok (.bool true) w := by rw [run_eql37]; simp
theorem eqlP_diff (x y x' y' : Int) (h : ¬ (x = x' ∧ y = y')) (w : World) : (binOp .eql 37 (.agg #[.int .i64 x, .int .i64 y]) (.agg #[.int .i64 x', .int .i64 y'])).run Try.prog w = .ok (.bool false) w := by
  rw [run_eql37, show ((x == x') && (y == y')) = false by simpa using h]

set_option maxRecDepth 100000 in
set_option maxHeartbeats 8000000 in
theorem onward_walk (av : Option Addr) (cap blk off : Nat) (hd : Nat → Hdr) (gi : List (List Int)) (w : World) (hG : GAt w av blk off hd gi) :
    Calls Try.prog 5 #[.slice av gi.length cap] w fun e w' => e = .returned (.bool true) ∧ Below w.heap.size w w' := by
  go_enter Try.func5, Try.ntmps5
  go_wp2_with fail
  refine (small_is w).mono ?_
  rintro e w1 ⟨rfl, hb1⟩
  have hG1 := hG.below hb1
  have hf := few_is av cap blk off hd gi w1 hG1
  go_wp2_with fail
  refine hf.mono ?_
  rintro e w1' ⟨rfl, ⟨rfl, hl40, hl20⟩ | rfl⟩
  case inr =>
    go_wp2
    go_ret
    exact ⟨rfl, hb1⟩
  clear hf hl20
  by_cases hri : RightI gi
  case neg =>
    have hn := order_none av cap blk off hd gi hri w1' hG1
    go_wp2_with fail
    refine hn.mono ?_
    rintro e w2 ⟨hb2, rfl⟩
    clear hn
    have hG2 := hG1.below hb2
    have hB2 := bel_two hb1 hb2
    have hr := right_any av cap blk off hd gi w2 hG2
    rw [rightB_false hri] at hr
    clear hG1 hG hb2 hb1
    go_wp2_with fail
    refine hr.mono ?_
    rintro e w3 ⟨rfl, hb3⟩
    have hB3 := bel_two hB2 hb3
    have hG3 := hG2.below hb3
    clear hr hG2 hb3 hB2
    have hbk := back_none av cap blk off hd gi hri w3 hG3
    go_wp2_with fail
    refine hbk.mono ?_
    rintro e w4 ⟨hb4, rfl⟩
    have hB4 := bel_two hB3 hb4
    have hG4 := hG3.below hb4
    clear hbk hG3 hb4 hB3
    have hlp := loops_none av cap blk off hd gi hri w4 hG4
    go_wp2_with fail
    refine hlp.mono ?_
    rintro e w5 ⟨hb5, rfl⟩
    go_wp2
    go_ret
    exact ⟨rfl, bel_two hB4 hb5⟩
  obtain ⟨g, hgr, rfl⟩ := hri.nat
  rw [castG_len] at *
  have hor := order_is av cap blk off hd g hgr w1' hG1
  go_wp2_with fail
  refine hor.mono ?_
  rintro e w2 ⟨hb2, vl, m', o, rfl, hov, hw⟩
  clear hor
  have hG2 := hG1.below hb2
  have hB2 := bel_two hb1 hb2
  obtain ⟨lav, lcap, hle, -⟩ := owns_shape hov
  subst hle
  have hr := right_any av cap blk off hd (castG g) w2 hG2
  rw [castG_len, rightB_true.2 hgr.toI] at hr
  clear hG1 hG hb1
  go_wp2_with fail
  refine hr.mono ?_
  rintro e w3 ⟨rfl, hb3⟩
  have hB3 := bel_two hB2 hb3
  have hG3 := hG2.below hb3
  have hov3 := owns_below hov hb3
  clear hr hG2 hb2 hB2 hov hb3
  have hone := hgr.one
  have hmost := hgr.most
  have hre := reach_is av cap blk off hd g hgr 0 (by omega) w3 hG3
  go_wp2_with fail
  refine hre.mono ?_
  rintro e w4 ⟨hb4, R, m2, o2, hR, rfl, kR, hw2⟩
  obtain rfl := (hw2.det hw).2
  clear hre hw2
  have hB4 := bel_two hB3 hb4
  have hG4 := hG3.below hb4
  have hov4 := owns_below hov3 hb4
  clear hG3 hov3 hb4 hB3
  have hbk := back_is av cap blk off hd g hgr w4 hG4
  go_wp2_with fail
  refine hbk.mono ?_
  rintro e w5 ⟨hb5, vb, m3, o3, rfl, hw3, hob⟩
  obtain rfl := (hw3.det hw).2
  clear hbk hw3
  have hB5 := bel_two hB4 hb5
  have hG5 := hG4.below hb5
  have hov5 := owns_below hov4 hb5
  have kR5 : w5.heap[R]? = some (flagsO (flg g.length o3)) := (hb5.block R (lt_of kR)).trans kR
  obtain ⟨bav, bcap, hbe, -⟩ := owns_shape hob
  subst hbe
  clear hG4 hov4 hb5 hB4 kR
  have hrows := hgr.rows
  have hnd : o3.reverse.Nodup := nodup_rev hw.nodup
  have hlt : ∀ x ∈ o3.reverse, x < g.length := fun x hx => by have := hw.lt x (List.mem_reverse.1 hx); simpa using this
  have hct := hw.count
  have hul := unmetN_le_len (List.replicate g.length false)
  rw [List.length_replicate] at hul
  obtain ⟨o1, ho1⟩ := hw.last (by rw [List.getElem?_replicate, if_pos (by omega)])
  have hfirst : o3.reverse.getD 0 0 = 0 ∧ 0 < o3.reverse.length := by rw [ho1]; simp
  have HCNT := hide (cntO_all o3 hw.nodup g.length (fun x hx => hlt x (List.mem_reverse.2 hx)))
  have HLO : Hid (∀ x, x ∈ o3.reverse ↔ x ∈ o3) := fun x => List.mem_reverse
  have hBl : (backL (plc o3.reverse) g).length ≤ 40000 := by have := backTo_len (plc o3.reverse) g hrows g.length; unfold backL; omega
  have hll : o3.length = o3.reverse.length := List.length_reverse.symm
  rw [hll] at hov5
  have HCO : Hid (o3 = o3) := rfl
  have HCL := HCNT
  rw [hll] at HCL
  clear HCNT hct hul ho1 hw hri
  rw [hll]
  clear hll
  have hrl : o3.reverse.length ≤ 4096 := by
    have h1 := hnd.length_le_of_subset (l₂ := List.range g.length) (fun x hx => List.mem_range.2 (hlt x hx))
    rw [List.length_range] at h1; omega
  generalize hlr : o3.reverse = l at *
  clear hlr HCO
  generalize hBB : backL (plc l) g = B at *
  have HBB := hide hBB
  obtain ⟨lg, lc', hle, hlb, hlg⟩ := hov5.form (by omega)
  injection hle with hle1 hle2 hle3
  subst hle1
  have HLC : Hid (∀ k, k < l.length → w5.cell? ⟨lg, k, none⟩ = some (.int .i64 ((l.getD k 0 : Nat) : Int))) := fun k hk => by
    rw [hov5.cellAt k (by omega), List.getElem?_map, List.getD_eq_getElem?_getD, List.getElem?_eq_getElem hk]; rfl
  have HBP : Hid (∀ m, m < B.length → ∃ gb, bav = some ⟨gb, 0, none⟩ ∧ w5.cell? ⟨gb, m * 2, none⟩ = some (.int .i64 ((B.getD m (0, 0)).1 : Int)) ∧ w5.cell? ⟨gb, m * 2 + 1, none⟩ = some (.int .i64 ((B.getD m (0, 0)).2 : Int)) ∧ gb < w5.heap.size) := fun m hm => by
    obtain ⟨gb, c', e, hb, hlt'⟩ := hob.form (by omega)
    injection e with e1 e2 e3
    subst e1
    obtain ⟨p1, p2⟩ := pairs_at B m hm
    exact ⟨gb, rfl, (hob.cellAt _ (by omega)).trans p1, (hob.cellAt _ (by omega)).trans p2, hlt'⟩
  have c0 := HLC.out 0 hfirst.2
  rw [hfirst.1] at c0
  have hl0 := hfirst.2
  have HTK : Hid (∀ k, k < l.length → l.getD k 0 < g.length ∧ l.getD k 0 ∈ l ∧ l.getD k 0 ∉ l.take k ∧ l.take (k + 1) = l.take k ++ [l.getD k 0]) := fun k hk => by
    have h1 := take_next l k hk
    refine ⟨hlt _ (getD_mem _ _ hk), getD_mem _ _ hk, fun hm => ?_, h1⟩
    have h2 := hnd.sublist (List.take_sublist (k + 1) l)
    rw [h1, List.nodup_append] at h2
    exact h2.2.2 _ hm _ (by simp) rfl
  have mk : ∀ w : World, (Instr.makeSlice 27 (.int .i64 (g.length : Int)) (.int .i64 (g.length : Int))).run Try.prog w = .ok (.slice (some ⟨w.heap.size, 0, none⟩) g.length g.length) (w.alloc (.cells (Array.replicate g.length (.int .i64 0)) 3)) := fun w => by rw [make_ints g.length (by omega) w, List.toArray_replicate]
  have hRl := lt_of kR5
  have HG5 := hide hG5
  have HB5 := hide hB5
  have e0 : ((l.length : Int) < 1) = False := eq_false (by omega)
  clear hov5 hob hfirst hnd hlt hG5 hB5 hBB
  generalize hllen : l.length = ll at *
  have HLLN := hide hllen
  clear hllen
  go_wp2
  have hb6 := bel_new w5 (.cells (Array.replicate g.length (.int .i64 0)) 3)
  have k6 : (w5.alloc (.cells (Array.replicate g.length (.int .i64 0)) 3)).heap[w5.heap.size]? = some (.cells (plcV g.length (l.take 0)).toArray 3 (0, 0)) := by
    rw [List.take_zero, plcV_nil, List.toArray_replicate]; exact World.alloc_heap_new w5 _
  have hs6 : (w5.alloc (.cells (Array.replicate g.length (.int .i64 0)) 3)).heap.size = w5.heap.size + 1 := by simp
  generalize w5.alloc (.cells (Array.replicate g.length (.int .i64 0)) 3) = w6 at *
  generalize hA : w5.heap.size = A at *
  clear mk c0
  go_loopw [9] (fun i wr => ∃ k : Nat, i = .int .i64 k ∧ k ≤ ll ∧ Turns (fun b => b = A) w6 wr ∧ wr.heap[A]? = some (.cells (plcV g.length (l.take k)).toArray 3 (0, 0))) (fun i _ => ll - (intOf i).toNat)
  case atStart => exact ⟨0, rfl, Nat.zero_le _, Turns.refl _ _, k6⟩
  case round =>
    obtain ⟨k, rfl, hk, ht, kp⟩ := hrel
    clear k6
    by_cases hkl : k < ll
    · have e1 : ((k : Int) < (ll : Int)) = True := eq_true (by omega)
      obtain ⟨hx1, hx2, hx3, hx4⟩ := HTK.out k hkl
      have c1 : wr.cell? ⟨lg, k, none⟩ = some (.int .i64 ((l.getD k 0 : Nat) : Int)) := (World.cell?_of_block ((ht.block lg (by omega) (by show ¬ lg = A; omega)).trans (hb6.block lg (by omega)))).trans (HLC.out k hkl)
      have kRr : wr.heap[R]? = some (flagsO (flg g.length o3)) := (ht.block R (by omega) (by omega)).trans ((hb6.block R (by omega)).trans kR5)
      have c2 : wr.cell? ⟨R, l.getD k 0, none⟩ = some (.bool true) := by
        rw [cell_of kRr, List.getElem?_toArray, List.getElem?_map, flg_at _ _ _ hx1, decide_eq_true ((HLO.out _).1 hx2)]; rfl
      have c3 : wr.cell? ⟨A, l.getD k 0, none⟩ = some (.int .i64 0) := by
        rw [cell_of kp, List.getElem?_toArray, plcV_at _ _ _ hx1, (plc_zero _ _).2 hx3]; rfl
      have f3 := frozen_of kp (l.getD k 0)
      have hset := plcV_set g.length (l.take k) (l.getD k 0) hx3
      rw [List.length_take, HLLN.out, Nat.min_eq_left (by omega), ← hx4] at hset
      have HS := hide hset
      have HKP := hide kp
      clear hset hx4 hx3 hx2 kRr
      generalize l.getD k 0 = x at *
      have hxi : ((x : Int) < (g.length : Int)) = True := eq_true (by omega)
      have hxg : ((g.length : Int) ≤ (x : Int)) = False := eq_false (by omega)
      have hxb : x ≤ 4096 := by omega
      clear kp
      go_wp2
      go_roundw
      case rel =>
        refine ⟨k + 1, by go_num, hkl, ht.trans (Turns.setCell (Q := fun b => b = A) wr ⟨A, x, none⟩ _ rfl), ?_⟩
        rw [← HS.out]
        exact heap_set_same HKP.out x _
      case measure => simp [intOf]; omega
    · have e1 : ((k : Int) < (ll : Int)) = False := eq_false (by omega)
      rw [List.take_of_length_le (by rw [HLLN.out]; omega)] at kp
      have hBr : Below w5.heap.size w5 wr := by rw [hA]; exact ht.below (by rw [← hA]; rw [hA]; exact hb6) (by omega) (fun b hb hq => by omega)
      have HPL : Hid (∀ x, x < g.length → wr.cell? ⟨A, x, none⟩ = some (.int .i64 (plc l x : Int))) := fun x hx => by rw [cell_of kp, List.getElem?_toArray]; exact plcV_at _ _ _ hx
      have kRr : wr.heap[R]? = some (flagsO (flg g.length o3)) := (hBr.block R (by omega)).trans kR5
      have HRD : Hid (∀ x, x < g.length → wr.cell? ⟨R, x, none⟩ = some (.bool (decide (x ∈ o3)))) := fun x hx => by rw [cell_of kRr, List.getElem?_toArray, List.getElem?_map, flg_at _ _ _ hx]; rfl
      have hG3 := HG5.out.below hBr
      have HGC : Hid ((∀ b, b < g.length → wr.cell? ⟨blk, off + b, none⟩ = some (.slice (hd b).av (g.getD b []).length (hd b).cap)) ∧ (∀ b, b < g.length → 0 < (g.getD b []).length → (hd b).av = some ⟨(hd b).blk, (hd b).off, none⟩) ∧ ∀ b k, b < g.length → k < (g.getD b []).length → wr.cell? ⟨(hd b).blk, (hd b).off + k, none⟩ = some (.int .i64 (((g.getD b []).getD k 0 : Nat) : Int))) :=
        ⟨fun b hb => by have := hG3.has b (by rw [castG_len]; exact hb); rwa [castG_at, List.length_map] at this, fun b hb => by have := hG3.rat b (by rw [castG_len]; exact hb); rwa [castG_at, List.length_map] at this, fun b k hb hk => by have := hG3.rhas b k (by rw [castG_len]; exact hb) (by rw [castG_at, List.length_map]; exact hk); rwa [castG_at, cast_at] at this⟩
      obtain rfl := hG3.at_ (by rw [castG_len]; omega)
      have HBC : Hid (∀ m, m < B.length → ∃ gb, bav = some ⟨gb, 0, none⟩ ∧ wr.cell? ⟨gb, m * 2, none⟩ = some (.int .i64 ((B.getD m (0, 0)).1 : Int)) ∧ wr.cell? ⟨gb, m * 2 + 1, none⟩ = some (.int .i64 ((B.getD m (0, 0)).2 : Int))) := fun m hm => by
        obtain ⟨gb, h1, h2, h3, h4⟩ := HBP.out m hm
        exact ⟨gb, h1, (hBr.cell (p := ⟨gb, m * 2, none⟩) (by rw [hA]; exact h4)).trans h2, (hBr.cell (p := ⟨gb, m * 2 + 1, none⟩) (by rw [hA]; exact h4)).trans h3⟩
      have HFIN := hide (bel_two HB5.out hBr)
      clear HBP HLC HTK kp kRr hG3 hBr ht hb6 kR5 hs6 HG5 HB5
      generalize hWW : wr = W at *
      clear hWW
      go_wp2
      go_loopw [11, 10] (fun i nv wr => ∃ k q0 : Nat, W.drewN q0 = wr ∧ i = .int .i64 k ∧ nv = .int .i64 (cntO o3 k) ∧ k ≤ g.length) (fun i _ _ => g.length - (intOf i).toNat)
      case atStart => exact ⟨0, 0, rfl, rfl, rfl, Nat.zero_le _⟩
      case round =>
        obtain ⟨k, q0, rfl, rfl, rfl, hk⟩ := hrel
        have HRD' : Hid (∀ x, x < g.length → (W.drewN q0).cell? ⟨R, x, none⟩ = some (.bool (decide (x ∈ o3)))) := HRD.out
        have HPL' : Hid (∀ x, x < g.length → (W.drewN q0).cell? ⟨A, x, none⟩ = some (.int .i64 (plc l x : Int))) := HPL.out
        have HGC' : Hid ((∀ b, b < g.length → (W.drewN q0).cell? ⟨blk, off + b, none⟩ = some (.slice (hd b).av (g.getD b []).length (hd b).cap)) ∧ (∀ b, b < g.length → 0 < (g.getD b []).length → (hd b).av = some ⟨(hd b).blk, (hd b).off, none⟩) ∧ ∀ b k, b < g.length → k < (g.getD b []).length → (W.drewN q0).cell? ⟨(hd b).blk, (hd b).off + k, none⟩ = some (.int .i64 (((g.getD b []).getD k 0 : Nat) : Int))) := HGC.out
        have HBC' : Hid (∀ m, m < B.length → ∃ gb, bav = some ⟨gb, 0, none⟩ ∧ (W.drewN q0).cell? ⟨gb, m * 2, none⟩ = some (.int .i64 ((B.getD m (0, 0)).1 : Int)) ∧ (W.drewN q0).cell? ⟨gb, m * 2 + 1, none⟩ = some (.int .i64 ((B.getD m (0, 0)).2 : Int))) := HBC.out
        have HFIN' := hide (below_drewN HFIN.out q0)
        clear HRD HPL HGC HBC HFIN
        have HRD := HRD'
        have HPL := HPL'
        have HGC := HGC'
        have HBC := HBC'
        have HFIN := HFIN'
        clear HRD' HPL' HGC' HBC' HFIN'
        revert HRD HPL HGC HBC HFIN
        generalize hQ0 : W.drewN q0 = W' 
        have HQ0 := hide hQ0
        clear hQ0
        intro HRD HPL HGC HBC HFIN
        by_cases hkl : k < g.length
        · have e1 : ((k : Int) < (g.length : Int)) = True := eq_true (by omega)
          have hkb : k ≤ 4096 := by omega
          by_cases hko : k ∈ o3
          · have ck : W'.cell? ⟨R, k, none⟩ = some (.bool true) := by rw [HRD.out k hkl, decide_eq_true hko]
            have hcnt : cntO o3 (k + 1) = cntO o3 k + 1 := by rw [cntO_succ, if_pos hko]
            have HCN := hide hcnt
            clear hcnt
            have hcl := cntO_le o3 k
            generalize hnn : cntO o3 k = nn at *
            clear hnn
            have HT : Hid (∀ j, j < (g.getD k []).length → (g.getD k []).getD j 0 < g.length ∧ (g.getD k []).getD j 0 ∈ g.getD k []) := fun j hj => ⟨hgr.lt k _ (getD_mem _ _ hj), getD_mem _ _ hj⟩
            have hr8 := hrows k
            have HRC : Hid (∀ j, j < (g.getD k []).length → W'.cell? ⟨(hd k).blk, (hd k).off + j, none⟩ = some (.int .i64 (((g.getD k []).getD j 0 : Nat) : Int))) := fun j hj => HGC.out.2.2 k j hkl hj
            have cg := HGC.out.1 k hkl
            have hav := HGC.out.2.1 k hkl
            generalize hrow : g.getD k [] = row at *
            have HROW := hide hrow
            clear hrow
            generalize hn : row.length = n at *
            clear hn
            go_wp2
            go_loopw [12] (fun i wr => ∃ (j q : Nat), W'.drewN q = wr ∧ i = .int .i64 j ∧ j ≤ n) (fun i _ => n - (intOf i).toNat)
            case atStart => exact ⟨0, 0, rfl, rfl, Nat.zero_le _⟩
            case round =>
              obtain ⟨j, q, rfl, rfl, hj⟩ := hrel
              have cgq : (W'.drewN q).cell? ⟨blk, off + k, none⟩ = some (.slice (hd k).av n (hd k).cap) := cg
              have ckq : (W'.drewN q).cell? ⟨R, k, none⟩ = some (.bool true) := ck
              by_cases hjl : j < n
              · have e2 : ((j : Int) < (n : Int)) = True := eq_true (by omega)
                obtain ⟨ht1, ht2⟩ := HT.out j hjl
                have hav2 := hav (by omega)
                rw [hav2] at cgq
                have crq : (W'.drewN q).cell? ⟨(hd k).blk, (hd k).off + j, none⟩ = some (.int .i64 ((row.getD j 0 : Nat) : Int)) := HRC.out j hjl
                have cpt : (W'.drewN q).cell? ⟨A, row.getD j 0, none⟩ = some (.int .i64 (plc l (row.getD j 0) : Int)) := HPL.out _ ht1
                have cpk : (W'.drewN q).cell? ⟨A, k, none⟩ = some (.int .i64 (plc l k : Int)) := HPL.out k hkl
                have hti : (((row.getD j 0 : Nat) : Int) < (g.length : Int)) = True := eq_true (by omega)
                have htb : row.getD j 0 ≤ 4096 := by omega
                have HMB : Hid ((k, row.getD j 0) ∈ B ↔ plc l (row.getD j 0) ≤ plc l k) := by
                  rw [Hid, ← HBB.out, mem_backL, HROW.out]
                  exact ⟨fun h => h.2.2, fun h => ⟨by rw [Ne, plc_zero]; exact fun hn => hn ((HLO.out k).2 hko), ht2, h⟩⟩
                have HPB : Hid (∀ m, m < B.length → ∃ gb, bav = some ⟨gb, 0, none⟩ ∧ (W'.drewN q).cell? ⟨gb, m * 2, none⟩ = some (.int .i64 ((B.getD m (0, 0)).1 : Int)) ∧ (W'.drewN q).cell? ⟨gb, m * 2 + 1, none⟩ = some (.int .i64 ((B.getD m (0, 0)).2 : Int))) := HBC.out
                generalize row.getD j 0 = t at *
                generalize hXX : W'.drewN q = X at *
                have HXX := hide hXX
                clear hXX cg ck
                generalize hbn : B.length = nb at *
                have HNB := hide hbn
                clear hbn
                go_wp2
                go_loopw [14, 13] (fun i isv wr => ∃ (m q2 : Nat) (b : Bool), X.drewN q2 = wr ∧ i = .int .i64 m ∧ isv = .bool b ∧ m ≤ nb ∧ (b = true ↔ ∃ p, p < m ∧ B.getD p (0, 0) = (k, t))) (fun i _ _ => nb - (intOf i).toNat)
                case atStart => exact ⟨0, 0, false, rfl, rfl, rfl, Nat.zero_le _, by simp⟩
                case round =>
                  obtain ⟨m, q2, b, rfl, rfl, rfl, hm, hb⟩ := hrel
                  have HB := hide hb
                  clear hb
                  have cgY : (X.drewN q2).cell? ⟨blk, off + k, none⟩ = some (.slice (some ⟨(hd k).blk, (hd k).off, none⟩) n (hd k).cap) := cgq
                  have crY : (X.drewN q2).cell? ⟨(hd k).blk, (hd k).off + j, none⟩ = some (.int .i64 (t : Int)) := crq
                  have cptY : (X.drewN q2).cell? ⟨A, t, none⟩ = some (.int .i64 (plc l t : Int)) := cpt
                  have cpkY : (X.drewN q2).cell? ⟨A, k, none⟩ = some (.int .i64 (plc l k : Int)) := cpk
                  by_cases hml : m < nb
                  · have e3 : ((m : Int) < (nb : Int)) = True := eq_true (by omega)
                    obtain ⟨gb, hgb, p1, p2⟩ := HPB.out m hml
                    have p1Y : (X.drewN q2).cell? ⟨gb, m * 2, none⟩ = some (.int .i64 ((B.getD m (0, 0)).1 : Int)) := p1
                    have p2Y : (X.drewN q2).cell? ⟨gb, m * 2 + 1, none⟩ = some (.int .i64 ((B.getD m (0, 0)).2 : Int)) := p2
                    have HSP : Hid ((∃ p, p < m + 1 ∧ B.getD p (0, 0) = (k, t)) ↔ (∃ p, p < m ∧ B.getD p (0, 0) = (k, t)) ∨ B.getD m (0, 0) = (k, t)) := ex_succP _ _ _
                    subst hgb
                    clear p1 p2 cptY cpkY
                    generalize hex : B.getD m (0, 0) = ex at *
                    clear hex
                    obtain ⟨ea, eb⟩ := ex
                    simp only at p1Y p2Y
                    generalize hYY : X.drewN q2 = Y at *
                    have HYY := hide hYY
                    clear hYY
                    cases b with
                    | true =>
                      have HR : Hid (∃ p, p < m + 1 ∧ B.getD p (0, 0) = (k, t)) := HSP.out.2 (.inl (HB.out.1 rfl))
                      go_wp2
                      go_quiet (fail)
                      go_wp2
                      go_roundw
                      case rel => exact ⟨m + 1, q2 + nq, true, by rw [← HYY.out, drewN_add], by go_num, rfl, hml, ⟨fun _ => HR.out, fun _ => rfl⟩⟩
                      case measure => simp [intOf]; omega
                    | false =>
                      have HNO : Hid (¬ ∃ p, p < m ∧ B.getD p (0, 0) = (k, t)) := fun h => by have := HB.out.2 h; cases this
                      by_cases heq : ea = k ∧ eb = t
                      · obtain ⟨rfl, rfl⟩ := heq
                        have hee := eqlP_same (ea : Int) (eb : Int)
                        have HR : Hid (∃ p, p < m + 1 ∧ B.getD p (0, 0) = (ea, eb)) := HSP.out.2 (.inr rfl)
                        go_wp2
                        go_quiet (fail)
                        go_wp2
                        go_roundw
                        case rel => exact ⟨m + 1, q2 + nq, true, by rw [← HYY.out, drewN_add], by go_num, rfl, hml, ⟨fun _ => HR.out, fun _ => rfl⟩⟩
                        case measure => simp [intOf]; omega
                      · have hee := eqlP_diff (ea : Int) (eb : Int) (k : Int) (t : Int) (fun h => heq ⟨by omega, by omega⟩)
                        have HR : Hid (¬ ∃ p, p < m + 1 ∧ B.getD p (0, 0) = (k, t)) := fun h => by
                          rcases HSP.out.1 h with h | h
                          · exact HNO.out h
                          · injection h with h1 h2; exact heq ⟨h1, h2⟩
                        clear heq
                        go_wp2
                        go_quiet (fail)
                        go_wp2
                        go_roundw
                        case rel => exact ⟨m + 1, q2 + nq, false, by rw [← HYY.out, drewN_add], by go_num, rfl, hml, ⟨fun h => (by cases h), fun h => (HR.out h).elim⟩⟩
                        case measure => simp [intOf]; omega
                  · have e3 : ((m : Int) < (nb : Int)) = False := eq_false (by omega)
                    have hbb : b = true ↔ plc l t ≤ plc l k := by
                      rw [HB.out, ← HMB.out, memP_getD]
                      constructor
                      · rintro ⟨p, h1, h2⟩; exact ⟨p, by rw [HNB.out]; omega, h2⟩
                      · rintro ⟨p, h1, h2⟩; rw [HNB.out] at h1; exact ⟨p, by omega, h2⟩
                    generalize hYY : X.drewN q2 = Y at *
                    have HYY := hide hYY
                    clear hYY
                    generalize plc l t = pt at *
                    generalize plc l k = pk at *
                    cases b with
                    | true =>
                      have e5 : (pk < pt) = False := eq_false (by have := hbb.1 rfl; omega)
                      have e4 : ((pk : Int) < (pt : Int)) = False := eq_false (by have := hbb.1 rfl; omega)
                      clear hbb
                      go_wp2
                      go_quiet (fail)
                      go_wp2
                      exact ⟨⟨j + 1, q + (q2 + nq), by rw [← HYY.out, ← HXX.out, drewN_add, drewN_add], by go_num, hjl⟩, by simp [intOf]; omega⟩
                    | false =>
                      have hnp : ¬ pt ≤ pk := fun h => by have := hbb.2 h; cases this
                      have e5 : (pk < pt) = True := eq_true (by omega)
                      have e4 : ((pk : Int) < (pt : Int)) = True := eq_true (by omega)
                      clear hbb
                      go_wp2
                      go_quiet (fail)
                      go_wp2
                      exact ⟨⟨j + 1, q + (q2 + nq), by rw [← HYY.out, ← HXX.out, drewN_add, drewN_add], by go_num, hjl⟩, by simp [intOf]; omega⟩
              · have e2 : ((j : Int) < (n : Int)) = False := eq_false (by omega)
                generalize hXX : W'.drewN q = X at *
                have HXX := hide hXX
                clear hXX
                go_wp2
                go_roundw
                case rel => exact ⟨k + 1, q0 + q, by rw [← HXX.out, ← HQ0.out, drewN_add], by go_num, by rw [HCN.out]; go_num, hkl⟩
                case measure => simp [intOf]; omega
          · have ck : W'.cell? ⟨R, k, none⟩ = some (.bool false) := by rw [HRD.out k hkl, decide_eq_false hko]
            have hcnt : cntO o3 (k + 1) = cntO o3 k := by rw [cntO_succ, if_neg hko, Nat.add_zero]
            have HCN := hide hcnt
            clear hcnt
            have hcl := cntO_le o3 k
            generalize hnn : cntO o3 k = nn at *
            clear hnn
            have HT : Hid (∀ j, j < (g.getD k []).length → (g.getD k []).getD j 0 < g.length ∧ (g.getD k []).getD j 0 ∈ g.getD k []) := fun j hj => ⟨hgr.lt k _ (getD_mem _ _ hj), getD_mem _ _ hj⟩
            have hr8 := hrows k
            have HRC : Hid (∀ j, j < (g.getD k []).length → W'.cell? ⟨(hd k).blk, (hd k).off + j, none⟩ = some (.int .i64 (((g.getD k []).getD j 0 : Nat) : Int))) := fun j hj => HGC.out.2.2 k j hkl hj
            have cg := HGC.out.1 k hkl
            have hav := HGC.out.2.1 k hkl
            generalize hrow : g.getD k [] = row at *
            have HROW := hide hrow
            clear hrow
            generalize hn : row.length = n at *
            clear hn
            go_wp2
            go_loopw [12] (fun i wr => ∃ (j q : Nat), W'.drewN q = wr ∧ i = .int .i64 j ∧ j ≤ n) (fun i _ => n - (intOf i).toNat)
            case atStart => exact ⟨0, 0, rfl, rfl, Nat.zero_le _⟩
            case round =>
              obtain ⟨j, q, rfl, rfl, hj⟩ := hrel
              have cgq : (W'.drewN q).cell? ⟨blk, off + k, none⟩ = some (.slice (hd k).av n (hd k).cap) := cg
              have ckq : (W'.drewN q).cell? ⟨R, k, none⟩ = some (.bool false) := ck
              generalize hXX : W'.drewN q = X at *
              have HXX := hide hXX
              clear hXX
              by_cases hjl : j < n
              · have e2 : ((j : Int) < (n : Int)) = True := eq_true (by omega)
                go_wp2
                go_roundw
                case rel => exact ⟨k + 1, q0 + q, by rw [← HXX.out, ← HQ0.out, drewN_add], by go_num, by rw [HCN.out], hkl⟩
                case measure => simp [intOf]; omega
              · have e2 : ((j : Int) < (n : Int)) = False := eq_false (by omega)
                go_wp2
                go_roundw
                case rel => exact ⟨k + 1, q0 + q, by rw [← HXX.out, ← HQ0.out, drewN_add], by go_num, by rw [HCN.out], hkl⟩
                case measure => simp [intOf]; omega
        · have e1 : ((k : Int) < (g.length : Int)) = False := eq_false (by omega)
          obtain rfl : k = g.length := by omega
          rw [HCL.out]
          go_wp2
          go_ret
          exact ⟨rfl, HFIN.out⟩

end Go.Proofs.Ytchnjjdhffmkpaa
