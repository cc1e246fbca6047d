/-
  Back edges (layer 6): contracts of Contains and of graph's own Back.
-/
import Derived.Test.YtchnjjdhffmkpaaCrit
namespace Go.Proofs.Ytchnjjdhffmkpaa
open Go.ChangeShapes Go.WideShapes Go.ChangeAt Go.RowKit Go.Shelf

attribute [local go_sem] Oper.semAt_some

theorem index_is (blk off i cap : Nat) (row : List Nat) (t : Nat) (hi : i ≤ 1000000) (w : World) (hc : ∀ k, k < i → w.cell? ⟨blk, off + k, none⟩ = some (.int .i64 ((row.getD k 0 : Nat) : Int))) :
    Calls Try.prog 44 #[.slice (some ⟨blk, off, none⟩) i cap, .int .i64 (t : Int)] w fun e w' => (∃ r : Int, e = .returned (.int .i64 r) ∧ (0 ≤ r ↔ ∃ k, k < i ∧ row.getD k 0 = t)) ∧ w' = w := by
  have HC := hide hc
  clear hc
  go_enter Try.func44, Try.ntmps44
  go_wp2
  go_loopw [8] (fun j wr => wr = w ∧ ∃ k : Nat, j = .int .i64 k ∧ k ≤ i ∧ ∀ m, m < k → row.getD m 0 ≠ t) (fun j _ => i - (intOf j).toNat)
  case atStart => exact ⟨rfl, 0, rfl, Nat.zero_le _, fun m hm => by omega⟩
  case round =>
    obtain ⟨rfl, k, rfl, hk, hno⟩ := hrel
    have HN := hide hno
    clear hno
    by_cases hlt : k < i
    · have e1 : ((k : Int) < (i : Int)) = True := by simp; omega
      have c1 := HC.out k hlt
      by_cases he : row.getD k 0 = t
      · have HE := hide (show ∃ k, k < i ∧ row.getD k 0 = t from ⟨k, hlt, he⟩)
        rw [he] at c1
        clear he
        go_wp2
        go_ret
        exact ⟨⟨_, rfl, ⟨fun _ => HE.out, fun _ => by omega⟩⟩, rfl⟩
      · have HN2 : Hid (∀ m, m < k + 1 → row.getD m 0 ≠ t) := fun m hm => by
          rcases Nat.lt_or_ge m k with h | h
          · exact HN.out m h
          · obtain rfl : m = k := by omega
            exact he
        have he2 : (((t : Int) == ((row.getD k 0 : Nat) : Int))) = false := by simp only [beq_eq_false_iff_ne, ne_eq]; omega
        generalize row.getD k 0 = x at *
        go_wp2
        go_roundw
        case rel => exact ⟨trivial, k + 1, by go_num, hlt, HN2.out⟩
        case measure => simp [intOf]; omega
    · have e1 : ((k : Int) < (i : Int)) = False := by simp; omega
      go_wp2
      go_ret
      refine ⟨⟨_, rfl, ⟨fun h => absurd h (by decide), fun ⟨m, hm, he⟩ => (HN.out m (by omega) he).elim⟩⟩, rfl⟩
theorem contains_is (blk off i cap : Nat) (row : List Nat) (t : Nat) (hi : i ≤ 1000000) (hir : i ≤ row.length) (w : World) (hc : ∀ k, k < i → w.cell? ⟨blk, off + k, none⟩ = some (.int .i64 ((row.getD k 0 : Nat) : Int))) :
    Calls Try.prog 36 #[.slice (some ⟨blk, off, none⟩) i cap, .int .i64 (t : Int)] w fun e w' => e = .returned (.bool (decide (t ∈ row.take i))) ∧ w' = w := by
  have h1 := index_is blk off i cap row t hi w hc
  have HM : Hid ((∃ k, k < i ∧ row.getD k 0 = t) ↔ t ∈ row.take i) := by
    rw [Hid, List.mem_take_iff_getElem]
    constructor
    · rintro ⟨k, hk, e⟩
      refine ⟨k, by omega, ?_⟩
      rw [List.getD_eq_getElem?_getD, List.getElem?_eq_getElem (by omega)] at e
      exact e
    · rintro ⟨k, hk, e⟩
      refine ⟨k, by omega, ?_⟩
      rw [List.getD_eq_getElem?_getD, List.getElem?_eq_getElem (by omega)]
      exact e
  clear hc
  go_enter Try.func36, Try.ntmps36
  go_wp2_with fail
  refine h1.mono ?_
  rintro e w' ⟨⟨r, rfl, hr⟩, rfl⟩
  have hd : decide (t ∈ row.take i) = decide (0 ≤ r) := by rw [decide_eq_decide, ← HM.out, hr]
  have HD := hide hd
  clear hd hr
  go_wp2
  go_ret
  exact ⟨ret_bool (by rw [HD.out]), rfl⟩

abbrev plcV (n : Nat) (l : List Nat) : List Value := (List.range n).map fun x => .int .i64 (plc l x : Int)
theorem plcV_nil (n : Nat) : plcV n [] = List.replicate n (.int .i64 0) := by
  unfold plcV
  apply List.ext_getElem?
  intro i
  by_cases h : i < n
  · simp [h, plc]
  · simp [h]
theorem plcV_set (n : Nat) (l : List Nat) (b : Nat) (hb : b ∉ l) : (plcV n l).set b (.int .i64 ((l.length + 1 : Nat) : Int)) = plcV n (l ++ [b]) := by
  apply List.ext_getElem?
  intro i
  by_cases hi : i < n
  · by_cases hx : b = i
    · subst hx; rw [List.getElem?_set_self (by simpa using hi)]; simp [hi, plc_snoc _ _ _ hb]
    · rw [List.getElem?_set_ne hx]; simp [hi, plc_snoc _ _ _ hb, Ne.symm hx]
  · rw [List.getElem?_eq_none (by simp; omega), List.getElem?_eq_none (by simp; omega)]
theorem plcV_at (n : Nat) (l : List Nat) (x : Nat) (h : x < n) : (plcV n l)[x]? = some (.int .i64 (plc l x : Int)) := by simp [plcV, h]
theorem nodup_rev {l : List Nat} (h : l.Nodup) : l.reverse.Nodup := by
  unfold List.Nodup
  rw [List.pairwise_reverse]
  exact List.Pairwise.imp (fun h => h.symm) h
theorem below_drewN {B : Nat} {a w : World} (h : Below B a w) (n : Nat) : Below B a (w.drewN n) := ⟨h.os, h.tape, h.output, h.size, h.block⟩

theorem backRow_len (pl : Nat → Nat) (f : Nat) (row : List Nat) : ∀ k, (backRow pl f row k).length ≤ k
  | 0 => by simp [backRow]
  | k + 1 => by
    have := backRow_len pl f row k
    rw [backRow_succ, List.length_append]
    split
    · simp; omega
    · simp; omega
theorem backTo_len (pl : Nat → Nat) (g : List (List Nat)) (h : ∀ b, (g.getD b []).length ≤ 8) : ∀ k, (backTo pl g k).length ≤ 8 * k
  | 0 => by simp [backTo]
  | k + 1 => by
    have h1 := backTo_len pl g h k
    have h2 := backRow_len pl k (g.getD k []) (g.getD k []).length
    have h3 := h k
    rw [backTo_succ, List.length_append]
    split
    · simp; omega
    · omega

set_option maxRecDepth 100000 in
set_option maxHeartbeats 2000000 in
/-- Back of a right graph. -/
theorem back_is (av : Option Addr) (cap blk off : Nat) (hd : Nat → Hdr) (g : List (List Nat)) (hgr : Right g) (w : World) (hG : GAt w av blk off hd (castG g)) :
    Calls Try.prog 26 #[.slice av g.length cap] w fun e w' => Below w.heap.size w w' ∧ ∃ v m' o, e = .returned v ∧ Walk g [0] (List.replicate g.length false) m' o ∧ w'.ownsRow w.heap.size 37 2 v (backL (plc o.reverse) g).length (pairsV (backL (plc o.reverse) g)) := by
  have hone := hgr.one
  have hmost := hgr.most
  have hrows := hgr.rows
  have hlt := hgr.lt
  have hr := right_any av cap blk off hd (castG g) w hG
  rw [castG_len, rightB_true.2 hgr.toI] at hr
  have HG := hide hG
  clear hG
  have mk : ∀ w : World, (Instr.makeSlice 27 (.int .i64 (g.length : Int)) (.int .i64 (g.length : Int))).run Try.prog w = .ok (.slice (some ⟨w.heap.size, 0, none⟩) g.length g.length) (w.alloc (.cells (Array.replicate g.length (.int .i64 0)) 3)) := fun w => by rw [make_ints g.length (by omega) w, List.toArray_replicate]
  go_enter Try.func26, Try.ntmps26
  go_wp2_with fail
  refine hr.mono ?_
  rintro e w1 ⟨rfl, hb1⟩
  have hs1 := hb1.size
  clear hr
  have hb2 : Below w1.heap.size w1 (w1.alloc (.cells (Array.replicate g.length (.int .i64 0)) 3)) := (Below.refl _ w1).alloc (Nat.le_refl _) _
  have k2 : (w1.alloc (.cells (Array.replicate g.length (.int .i64 0)) 3)).heap[w1.heap.size]? = some (.cells (plcV g.length []).toArray 3 (0, 0)) := by
    rw [plcV_nil, List.toArray_replicate]; exact World.alloc_heap_new w1 _
  have hs2 : (w1.alloc (.cells (Array.replicate g.length (.int .i64 0)) 3)).heap.size = w1.heap.size + 1 := by simp
  have HO := hide (order_is av cap blk off hd g hgr (w1.alloc (.cells (Array.replicate g.length (.int .i64 0)) 3)) (HG.out.below (hb1.trans (hb2.mono hs1))))
  go_wp2_with fail
  refine HO.out.mono ?_
  clear HO mk
  generalize w1.alloc (.cells (Array.replicate g.length (.int .i64 0)) 3) = w2 at *
  rw [hs2]
  rintro e w3 ⟨hb3, v, m', o, rfl, ho, hw⟩
  generalize hh : w1.heap.size = h at *
  have hnd : o.reverse.Nodup := nodup_rev hw.nodup
  have hol : o.reverse.length = o.length := List.length_reverse
  have hox : ∀ x ∈ o.reverse, x < g.length := fun x hx => by have := hw.lt x (List.mem_reverse.1 hx); simpa using this
  have hln : o.reverse.length ≤ 4096 := by
    have h1 := hw.count
    have h2 := unmetN_le_len (List.replicate g.length false)
    rw [List.length_replicate] at h2
    omega
  have HW := hide (show ∃ m', Walk g [0] (List.replicate g.length false) m' o from ⟨m', hw⟩)
  have hl0 : 0 < o.reverse.length := by
    obtain ⟨o1, rfl⟩ := hw.last (by rw [List.getElem?_replicate, if_pos (by omega)])
    simp
  rw [← hol] at ho
  clear hw hol
  generalize hrv : o.reverse = l at *
  have HRV := hide hrv
  clear hrv
  obtain ⟨gv, cv, rfl, hgb, hgl⟩ := ho.form hl0
  have hB3 : Below w.heap.size w w3 := (hb1.trans (hb2.mono hs1)).trans (hb3.mono (by omega))
  have k3 : w3.heap[h]? = some (.cells (plcV g.length []).toArray 3 (0, 0)) := (hb3.block h (by omega)).trans k2
  have hs3 := hb3.size
  clear hb1 hb2 hb3 k2 hh
  have HC : Hid (∀ k, k < l.length → w3.cell? ⟨gv, k, none⟩ = some (.int .i64 ((l.getD k 0 : Nat) : Int))) := fun k hk => by
    rw [ho.cellAt k (by omega), List.getElem?_map, List.getD_eq_getElem?_getD, List.getElem?_eq_getElem hk]; rfl
  have HT : Hid (∀ k, k < l.length → l.getD k 0 < g.length ∧ l.getD k 0 ∉ l.take k ∧ l.take (k + 1) = l.take k ++ [l.getD k 0]) := fun k hk => by
    have h1 := take_next l k hk
    refine ⟨hox _ (getD_mem _ _ hk), fun hm => ?_, h1⟩
    have h2 := hnd.sublist (List.take_sublist (k + 1) l)
    rw [h1, List.nodup_append] at h2
    exact h2.2.2 _ hm _ (by simp) rfl
  clear hnd hox ho
  go_wp2_with fail
  generalize hll : l.length = ll at *
  have HLL := hide hll
  clear hll
  go_loopw [20] (fun i wr => ∃ k : Nat, i = .int .i64 k ∧ k ≤ ll ∧ Turns (fun b => b = h) w3 wr ∧ wr.heap[h]? = some (.cells (plcV g.length (l.take k)).toArray 3 (0, 0))) (fun i _ => ll - (intOf i).toNat)
  case atStart => exact ⟨0, rfl, Nat.zero_le _, Turns.refl _ _, by simpa using k3⟩
  case round =>
    obtain ⟨k, rfl, hk, ht, kp⟩ := hrel
    by_cases hkl : k < ll
    · have e1 : ((k : Int) < (ll : Int)) = True := by simp; omega
      obtain ⟨hx1, hx2, hx3⟩ := HT.out k hkl
      have c1 : wr.cell? ⟨gv, k, none⟩ = some (.int .i64 ((l.getD k 0 : Nat) : Int)) := (World.cell?_of_block (ht.block gv (by omega) (by show ¬ gv = h; omega))).trans (HC.out k hkl)
      have hset := plcV_set g.length (l.take k) (l.getD k 0) hx2
      rw [List.length_take, HLL.out, Nat.min_eq_left (by omega), ← hx3] at hset
      have HS := hide hset
      clear hset hx3 hx2
      have c2 : wr.cell? ⟨h, l.getD k 0, none⟩ = some (.int .i64 (plc (l.take k) (l.getD k 0) : Int)) := by rw [cell_of kp, List.getElem?_toArray]; exact plcV_at _ _ _ hx1
      have f2 := frozen_of kp (l.getD k 0)
      generalize hxx : l.getD k 0 = x at *
      clear hxx
      generalize hpp : (plc (l.take k) x : Int) = pp at *
      clear hpp
      have hxi : ((x : Int) < (g.length : Int)) = True := by simp; omega
      have hxb : x ≤ 4096 := by omega
      go_wp2
      go_roundw
      case rel =>
        refine ⟨k + 1, by go_num, hkl, ht.trans (Turns.setCell (Q := fun b => b = h) wr ⟨h, x, none⟩ _ rfl), ?_⟩
        rw [← HS.out]
        exact heap_set_same kp x _
      case measure => simp [intOf]; omega
    · have e1 : ((k : Int) < (ll : Int)) = False := by simp; omega
      rw [List.take_of_length_le (by rw [HLL.out]; omega)] at kp
      have hBr : Below w.heap.size w wr := ht.below hB3 hB3.size (fun b hb hq => by omega)
      have hsr := ht.size
      clear HC HT hB3 k3 ht
      have hle : w.heap.size ≤ h := by omega
      have hlh : h < wr.heap.size := by omega
      clear hgb hgl hs1 hs2 hs3 hsr
      have kp' : wr.heap[h]? = some (.cells ((List.range g.length).map fun x => Value.int .i64 (plc l x : Int)).toArray 3 (0, 0)) := kp
      clear kp
      go_wp2
      generalize hpl : plc l = pl at *
      have HPL := hide hpl
      clear hpl
      have HP : Hid (∀ (W : World), W.heap[h]? = some (.cells ((List.range g.length).map fun x => Value.int .i64 (pl x : Int)).toArray 3 (0, 0)) → ∀ x, x < g.length → W.cell? ⟨h, x, none⟩ = some (.int .i64 (pl x : Int))) := fun W hW x hx => by rw [cell_of hW, List.getElem?_toArray]; simp [hx]
      go_loopw [33, 6] (fun i bv W => ∃ k : Nat, i = .int .i64 k ∧ k ≤ g.length ∧ Below w.heap.size w W ∧ h + 1 ≤ W.heap.size ∧ W.heap[h]? = some (.cells ((List.range g.length).map fun x => Value.int .i64 (pl x : Int)).toArray 3 (0, 0)) ∧ W.ownsRow (h + 1) 37 2 bv (backTo pl g k).length (pairsV (backTo pl g k))) (fun i _ _ => g.length - (intOf i).toNat)
      case atStart => exact ⟨0, rfl, Nat.zero_le _, hBr, hlh, kp', World.ownsRow_nil _ _ _ _⟩
      case round =>
        obtain ⟨f, rfl, hf, hB, hsz, kP, hO⟩ := hrel
        clear kp' hBr hlh
        by_cases hfl : f < g.length
        · have e2 : ((f : Int) < (g.length : Int)) = True := by simp; omega
          have hfb : f ≤ 4096 := by omega
          have hG := HG.out.below hB
          obtain rfl := hG.at_ (by rw [castG_len]; omega)
          have c1 : wr.cell? ⟨blk, off + f, none⟩ = some (.slice (hd f).av (g.getD f []).length (hd f).cap) := by
            have := hG.has f (by rw [castG_len]; exact hfl); rwa [castG_at, List.length_map] at this
          have c2 := HP.out wr kP f hfl
          have hcap : (g.getD f []).length ≤ (hd f).cap := by
            have := hG.rcap f (by rw [castG_len]; exact hfl); rwa [castG_at, List.length_map] at this
          have hav : 0 < (g.getD f []).length → (hd f).av = some ⟨(hd f).blk, (hd f).off, none⟩ := by
            have := hG.rat f (by rw [castG_len]; exact hfl); rwa [castG_at, List.length_map] at this
          have HCC : Hid (∀ W, Below w.heap.size w W → ∀ j, j < (g.getD f []).length → W.cell? ⟨(hd f).blk, (hd f).off + j, none⟩ = some (.int .i64 (((g.getD f []).getD j 0 : Nat) : Int))) := fun W hW j hj => by
            have := (HG.out.below hW).rhas f j (by rw [castG_len]; exact hfl) (by rw [castG_at, List.length_map]; exact hj)
            rwa [castG_at, cast_at] at this
          have hr8 := hrows f
          have HLT : Hid (∀ j, j < (g.getD f []).length → (g.getD f []).getD j 0 < g.length) := fun j hj => hlt f _ (getD_mem _ _ hj)
          have HBT := hide (backTo_succ pl g f)
          have HBL : Hid (∀ k, (backTo pl g f).length ≤ 8 * f ∧ (k ≤ 8 → (backRow pl f (g.getD f []) k).length ≤ k)) := fun k => ⟨backTo_len pl g hrows f, fun _ => backRow_len pl f _ k⟩
          clear hG
          by_cases hz : pl f = 0
          · have c2' : wr.cell? ⟨h, f, none⟩ = some (.int .i64 0) := by rw [c2, hz]; rfl
            have hb0 := HBT.out
            rw [if_pos hz, List.append_nil] at hb0
            have HB0 := hide hb0
            clear c2 hb0 hz
            generalize (g.getD f []).length = n at *
            go_wp2
            go_roundw
            case rel => exact ⟨f + 1, by go_num, hfl, hB, hsz, kP, by rw [HB0.out]; exact hO⟩
            case measure => simp [intOf]; omega
          · have hb0 := HBT.out
            rw [if_neg hz] at hb0
            have HB0 := hide hb0
            clear hb0
            have hz2 : ((pl f : Int) == 0) = false := by simp only [beq_eq_false_iff_ne, ne_eq]; omega
            have HRS : Hid (∀ j, backRow pl f (g.getD f []) (j + 1) = backRow pl f (g.getD f []) j ++ (if pl ((g.getD f []).getD j 0) ≤ pl f ∧ (g.getD f []).getD j 0 ∉ (g.getD f []).take j then [(f, (g.getD f []).getD j 0)] else [])) := fun j => backRow_succ pl f _ j
            rw [show backTo pl g f = backTo pl g f ++ backRow pl f (g.getD f []) 0 by simp [backRow]] at hO
            have hO' := hO
            clear hO
            generalize hrow : g.getD f [] = row at *
            clear hrow
            generalize hn : row.length = n at *
            have HLN := hide hn
            clear hn
            go_wp2
            go_loopw [45, 6] (fun i bv W => ∃ j : Nat, i = .int .i64 j ∧ j ≤ n ∧ Below w.heap.size w W ∧ h + 1 ≤ W.heap.size ∧ W.heap[h]? = some (.cells ((List.range g.length).map fun x => Value.int .i64 (pl x : Int)).toArray 3 (0, 0)) ∧ W.ownsRow (h + 1) 37 2 bv (backTo pl g f ++ backRow pl f row j).length (pairsV (backTo pl g f ++ backRow pl f row j))) (fun i _ _ => n - (intOf i).toNat)
            case atStart => exact ⟨0, rfl, Nat.zero_le _, hB, hsz, kP, hO'⟩
            case round =>
              obtain ⟨j, rfl, hj, hB5, hsz5, kP5, hO5⟩ := hrel
              clear hB hsz kP hO' c1 c2
              by_cases hjl : j < n
              · have e3 : ((j : Int) < (n : Int)) = True := by simp; omega
                have hjb : j ≤ 8 := by omega
                have ht := HLT.out j hjl
                obtain ⟨hL1, hL2⟩ := HBL.out j
                have hL3 := hL2 hjb
                have hav2 := hav (by omega)
                have c3 := HCC.out wr hB5 j hjl
                have c4 := HP.out wr kP5 f hfl
                have c5 := HP.out wr kP5 _ ht
                have HCT : Hid (∀ q, Calls Try.prog 36 #[.slice (some ⟨(hd f).blk, (hd f).off, none⟩) j (hd f).cap, .int .i64 ((row.getD j 0 : Nat) : Int)] (wr.drewN q) fun e w' => e = .returned (.bool (decide (row.getD j 0 ∈ row.take j))) ∧ w' = wr.drewN q) := fun q =>
                  contains_is (hd f).blk (hd f).off j (hd f).cap row (row.getD j 0) (by omega) (by rw [HLN.out]; omega) (wr.drewN q) (fun k hk => HCC.out wr hB5 k (by omega))
                have hrs := HRS.out j
                have hti : (((row.getD j 0 : Nat) : Int) < (g.length : Int)) = True := eq_true (by omega)
                have htb : row.getD j 0 ≤ 4096 := by omega
                have hjc : j ≤ (hd f).cap := by omega
                rw [hav2]
                generalize row.getD j 0 = t at *
                by_cases hp : pl t ≤ pl f
                · have e4 : ((pl t : Int) ≤ (pl f : Int)) = True := by simp; omega
                  by_cases hm : t ∈ row.take j
                  · rw [if_neg (fun h => h.2 hm), List.append_nil] at hrs
                    rw [← hrs] at hO5
                    have HOF := hide hO5
                    rw [decide_eq_true hm] at HCT
                    clear hO5 hrs hL1 hL2 hL3 hm hp
                    generalize pl t = pt at *
                    generalize pl f = pf at *
                    go_wp2
                    go_quiet ((go_at_call 36; exact Calls.quiet_of_same (HCT.out _)))
                    go_wp2
                    go_roundw
                    case rel => exact ⟨j + 1, by go_num, hjl, below_drewN hB5 _, hsz5, kP5, HOF.out⟩
                    case measure => simp [intOf]; omega
                  · rw [if_pos ⟨hp, hm⟩] at hrs
                    rw [decide_eq_false hm] at HCT
                    obtain ⟨bav, bcap, hbv, _⟩ := owns_shape hO5
                    have HAP : Hid (∀ q, ∃ g' cp w', (Builtin.append_ #[32, 32] 32 #[.slice bav (backTo pl g f ++ backRow pl f row j).length bcap, .slice (some ⟨wr.heap.size, 0, none⟩) 1 1]).run Try.prog ((wr.drewN q).alloc (.cells #[.int .i64 (f : Int), .int .i64 (t : Int)] 37)) = .ok (.slice (some ⟨g', 0, none⟩) ((backTo pl g f ++ backRow pl f row j).length + 1) cp) w' ∧
                        Turns (fun b => h + 1 ≤ b) wr w' ∧ w'.ownsRow (h + 1) 37 2 (.slice (some ⟨g', 0, none⟩) ((backTo pl g f ++ backRow pl f row j).length + 1) cp) (backTo pl g f ++ backRow pl f row (j + 1)).length (pairsV (backTo pl g f ++ backRow pl f row (j + 1)))) := fun q => by
                      rw [hbv] at hO5
                      obtain ⟨g', cp, w', hap, ho, hgb, _, _⟩ := app_pair (wr.drewN q) 32 (h + 1) _ _ _ hO5 (f : Int) (t : Int) (by rw [List.length_append]; omega) hsz5
                      have hT := grown_turns (W := wr.drewN q) hO5 hgb
                      refine ⟨g', cp, w', hap, ⟨hT.os, hT.tape, hT.output, hT.size, hT.block⟩, ?_⟩
                      rw [hrs, ← List.append_assoc, show ((backTo pl g f ++ backRow pl f row j) ++ [(f, t)]).length = (backTo pl g f ++ backRow pl f row j).length + 1 by simp [Nat.add_assoc], show pairsV ((backTo pl g f ++ backRow pl f row j) ++ [(f, t)]) = pairsV (backTo pl g f ++ backRow pl f row j) ++ [.int .i64 (f : Int), .int .i64 (t : Int)] by simp [pairsV]]
                      exact ho
                    subst hbv
                    clear hO5 hrs hL1 hL2 hL3 hm hp
                    generalize hmm : (backTo pl g f ++ backRow pl f row j).length = mm at *
                    clear hmm
                    generalize pl t = pt at *
                    generalize pl f = pf at *
                    go_wp2
                    go_quiet ((go_at_call 36; exact Calls.quiet_of_same (HCT.out _)))
                    obtain ⟨g', cp, w', hap, hT, hof⟩ := HAP.out nq
                    have HA := hide hap
                    have HOF := hide hof
                    have hsz6 := hT.size
                    clear hap hof HAP
                    go_wp2_with (at_builtin; refine wpList_append_run rfl _ _ 32 rfl rfl rfl HA.out ?_)
                    go_roundw
                    case rel => exact ⟨j + 1, by go_num, hjl, hT.below hB5 hB5.size (fun b hb hq => by omega), by omega, (hT.block h (by omega) (by omega)).trans kP5, HOF.out⟩
                    case measure => simp [intOf]; omega
                · have e4 : decide ((pl t : Int) ≤ (pl f : Int)) = false := by simp; omega
                  rw [if_neg (fun h => hp h.1), List.append_nil] at hrs
                  rw [← hrs] at hO5
                  have HOF := hide hO5
                  clear hO5 hrs hL1 hL2 hL3
                  generalize pl t = pt at *
                  generalize pl f = pf at *
                  go_wp2
                  go_quiet (fail)
                  go_wp2
                  go_roundw
                  case rel => exact ⟨j + 1, by go_num, hjl, below_drewN hB5 _, hsz5, kP5, HOF.out⟩
                  case measure => simp [intOf]; omega
              · have e3 : ((j : Int) < (n : Int)) = False := by simp; omega
                obtain rfl : j = n := by omega
                rw [← HB0.out] at hO5
                have HOF := hide hO5
                clear hO5
                go_wp2
                go_roundw
                case rel => exact ⟨f + 1, by go_num, hfl, hB5, hsz5, kP5, HOF.out⟩
                case measure => simp [intOf]; omega
        · have e2 : ((f : Int) < (g.length : Int)) = False := by simp; omega
          obtain rfl : f = g.length := by omega
          have HOO := hide hO
          obtain ⟨bav, bcap, rfl, _⟩ := owns_shape hO
          clear hO
          go_wp2
          go_ret
          obtain ⟨m', hw⟩ := HW.out
          refine ⟨hB, _, m', o, rfl, hw, ?_⟩
          rw [HRV.out, HPL.out]
          refine ⟨HOO.out.1, ?_⟩
          rcases HOO.out.2 with h' | ⟨g', cp, cur, h1, h2, h3⟩
          · exact .inl h'
          · exact .inr ⟨g', cp, cur, h1, by omega, h3⟩

theorem back_none (av : Option Addr) (cap blk off : Nat) (hd : Nat → Hdr) (g : List (List Int)) (hno : ¬ RightI g) (w : World) (hG : GAt w av blk off hd g) :
    Calls Try.prog 26 #[.slice av g.length cap] w fun e w' => Below w.heap.size w w' ∧ e = .returned (.slice none 0 0) := by
  have hr := right_any av cap blk off hd g w hG
  rw [rightB_false hno] at hr
  clear hG
  go_enter Try.func26, Try.ntmps26
  go_wp2_with fail
  refine hr.mono ?_
  rintro e w1 ⟨rfl, hb1⟩
  go_wp2
  go_ret
  exact ⟨hb1, rfl⟩

end Go.Proofs.Ytchnjjdhffmkpaa
