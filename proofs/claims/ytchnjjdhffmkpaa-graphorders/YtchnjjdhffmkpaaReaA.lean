/-
  The law GraphReaches (layer 6): its walk.
-/
import Derived.Test.YtchnjjdhffmkpaaSmall
namespace Go.Proofs.Ytchnjjdhffmkpaa
open Go.ChangeShapes Go.WideShapes Go.ChangeAt Go.RowKit Go.Shelf

theorem mem_getD (r : List Nat) (k : Nat) : k ∈ r ↔ ∃ m, m < r.length ∧ r.getD m 0 = k := by
  rw [List.mem_iff_getElem]
  constructor
  · rintro ⟨m, hm, e⟩; exact ⟨m, hm, by rw [List.getD_eq_getElem?_getD, List.getElem?_eq_getElem hm]; exact e⟩
  · rintro ⟨m, hm, e⟩; exact ⟨m, hm, by rw [List.getD_eq_getElem?_getD, List.getElem?_eq_getElem hm] at e; exact e⟩
theorem ex_succ (r : List Nat) (m k : Nat) : (∃ p, p < m + 1 ∧ r.getD p 0 = k) ↔ (∃ p, p < m ∧ r.getD p 0 = k) ∨ r.getD m 0 = k := by
  constructor
  · rintro ⟨p, hp, e⟩
    rcases Nat.lt_or_ge p m with h | h
    · exact .inl ⟨p, h, e⟩
    · obtain rfl : p = m := by omega
      exact .inr e
  · rintro (⟨p, hp, e⟩ | e)
    · exact ⟨p, by omega, e⟩
    · exact ⟨m, by omega, e⟩
/-- How many of the first k are among some. -/
def cntO (o : List Nat) (k : Nat) : Nat := ((List.range k).filter fun x => decide (x ∈ o)).length
theorem cntO_succ (o : List Nat) (k : Nat) : cntO o (k + 1) = cntO o k + (if k ∈ o then 1 else 0) := by
  unfold cntO
  rw [List.range_succ, List.filter_append, List.length_append]
  by_cases h : k ∈ o <;> simp [h]
theorem cntO_le (o : List Nat) : ∀ k, cntO o k ≤ k
  | 0 => by simp [cntO]
  | k + 1 => by have := cntO_le o k; rw [cntO_succ]; split <;> omega
theorem cntO_all (o : List Nat) (hn : o.Nodup) (k : Nat) (hl : ∀ x ∈ o, x < k) : cntO o k = o.length := by
  unfold cntO
  have h1 : ((List.range k).filter fun x => decide (x ∈ o)).Nodup := (List.nodup_range (n := k)).sublist List.filter_sublist
  apply Nat.le_antisymm
  · refine List.Nodup.length_le_of_subset h1 (fun x hx => ?_)
    simpa using (List.mem_filter.1 hx).2
  · refine List.Nodup.length_le_of_subset hn (fun x hx => ?_)
    exact List.mem_filter.2 ⟨List.mem_range.2 (hl x hx), by simpa using hx⟩

set_option maxRecDepth 100000 in
set_option maxHeartbeats 8000000 in
theorem reaches_walk (av : Option Addr) (cap blk off : Nat) (hd : Nat → Hdr) (gi : List (List Int)) (a : Int) (w : World) (hG : GAt w av blk off hd gi) :
    Calls Try.prog 7 #[.slice av gi.length cap, .int .i64 a] w fun e w' => e = .returned (.bool true) ∧ Below w.heap.size w w' := by
  go_enter Try.func7, Try.ntmps7
  go_wp2_with fail
  refine (small_is w).mono ?_
  rintro e w1 ⟨rfl, hb1⟩
  have hG1 := hG.below hb1
  have hf := few_is av cap blk off hd gi w1 hG1
  go_wp2_with fail
  refine hf.mono ?_
  rintro e w1' ⟨rfl, ⟨rfl, hl40, hl20⟩ | rfl⟩
  case inr =>
    go_wp2
    go_ret
    exact ⟨rfl, hb1⟩
  clear hf hl20
  by_cases hok : RightI gi ∧ 0 ≤ a ∧ a < (gi.length : Int)
  case neg =>
    have hn := reach_none av cap blk off hd gi a hok w1' hG1
    go_wp2_with fail
    refine hn.mono ?_
    rintro e w2 ⟨hb2, rfl⟩
    clear hn
    have hG2 := hG1.below hb2
    have hB2 := bel_two hb1 hb2
    have hr := right_any av cap blk off hd gi w2 hG2
    clear hG1 hG hb2 hb1
    go_wp2_with fail
    refine hr.mono ?_
    rintro e w3 ⟨rfl, hb3⟩
    have hB3 := bel_two hB2 hb3
    clear hr hG2 hb3 hB2
    by_cases h1 : RightI gi
    · rw [rightB_true.2 h1]
      by_cases h2 : a < 0
      · go_wp2
        go_ret
        exact ⟨rfl, hB3⟩
      · have h3 : ((gi.length : Int) ≤ a) = True := eq_true (by rcases Int.lt_or_le a gi.length with h | h; exact absurd ⟨h1, by omega, h⟩ hok; exact h)
        go_wp2
        go_ret
        exact ⟨rfl, hB3⟩
    · rw [rightB_false h1]
      go_wp2
      go_ret
      exact ⟨rfl, hB3⟩
  obtain ⟨hri, ha1, ha2⟩ := hok
  obtain ⟨g, hgr, rfl⟩ := hri.nat
  obtain ⟨s0, rfl⟩ : ∃ s0 : Nat, a = (s0 : Int) := ⟨a.toNat, by omega⟩
  rw [castG_len] at *
  have hs0 : s0 < g.length := by omega
  have hre := reach_is av cap blk off hd g hgr s0 hs0 w1' hG1
  go_wp2_with fail
  refine hre.mono ?_
  rintro e w2 ⟨hb2, R, m', o, hR, rfl, kR, hw⟩
  clear hre
  have hG2 := hG1.below hb2
  have hB2 := bel_two hb1 hb2
  have hr := right_any av cap blk off hd (castG g) w2 hG2
  rw [castG_len, rightB_true.2 hgr.toI] at hr
  clear hG1 hG hb1
  go_wp2_with fail
  refine hr.mono ?_
  rintro e W ⟨rfl, hb3⟩
  have hB3 := bel_two hB2 hb3
  have hG3 := hG2.below hb3
  have kR3 : W.heap[R]? = some (flagsO (flg g.length o)) := (hb3.block R (lt_of kR)).trans kR
  clear hr hG2 hb3 hb2 hB2 kR
  have hone := hgr.one
  have hrows := hgr.rows
  have hso : s0 ∈ o := by
    have := (hw.met s0).1 (hw.todo s0 (by simp))
    rw [repl_at] at this; exact this.resolve_left id
  have HCLO : Hid (∀ x ∈ o, ∀ t ∈ g.getD x [], t ∈ o) := fun x hx t ht => by
    have := (hw.met t).1 (hw.closed x hx t ht)
    rw [repl_at] at this; exact this.resolve_left id
  have HFR : Hid (∀ x ∈ o, x = s0 ∨ ∃ u, u ∈ o ∧ x ∈ g.getD u []) := fun x hx => (hw.from_ x hx).imp (fun h => by simpa using h) (fun ⟨u, h1, h2⟩ => ⟨u, h1, h2⟩)
  have HLT : Hid (∀ x ∈ o, x < g.length) := fun x hx => by have := hw.lt x hx; simpa using this
  have HRD : Hid (∀ x, x < g.length → W.cell? ⟨R, x, none⟩ = some (.bool (decide (x ∈ o)))) := fun x hx => by rw [cell_of kR3, List.getElem?_toArray, List.getElem?_map, flg_at _ _ _ hx]; rfl
  have HGC : Hid ((∀ b, b < g.length → W.cell? ⟨blk, off + b, none⟩ = some (.slice (hd b).av (g.getD b []).length (hd b).cap)) ∧ (∀ b, b < g.length → 0 < (g.getD b []).length → (hd b).av = some ⟨(hd b).blk, (hd b).off, none⟩) ∧ ∀ b k, b < g.length → k < (g.getD b []).length → W.cell? ⟨(hd b).blk, (hd b).off + k, none⟩ = some (.int .i64 (((g.getD b []).getD k 0 : Nat) : Int))) :=
    ⟨fun b hb => by have := hG3.has b (by rw [castG_len]; exact hb); rwa [castG_at, List.length_map] at this, fun b hb => by have := hG3.rat b (by rw [castG_len]; exact hb); rwa [castG_at, List.length_map] at this, fun b k hb hk => by have := hG3.rhas b k (by rw [castG_len]; exact hb) (by rw [castG_at, List.length_map]; exact hk); rwa [castG_at, cast_at] at this⟩
  obtain rfl := hG3.at_ (by rw [castG_len]; omega)
  have c0 : W.cell? ⟨R, s0, none⟩ = some (.bool true) := by rw [HRD.out s0 hs0, decide_eq_true hso]
  have hsi : ((s0 : Int) < (g.length : Int)) = True := eq_true (by omega)
  have hsb : s0 ≤ 4096 := by omega
  have HNL := hide (cntO_all o hw.nodup g.length HLT.out)
  have HW := hide (show ∃ m', Walk g [s0] (List.replicate g.length false) m' o from ⟨m', hw⟩)
  have HGG := hide hG3
  have HBB := hide hB3
  clear hw kR3 hso hG3 hB3 ha1 ha2 hri
  go_wp2
  go_loopw [9, 8] (fun i nv wr => W = wr ∧ ∃ k : Nat, i = .int .i64 k ∧ nv = .int .i64 (cntO o k) ∧ k ≤ g.length) (fun i _ _ => g.length - (intOf i).toNat)
  case atStart => exact ⟨rfl, 0, rfl, rfl, Nat.zero_le _⟩
  case round =>
    obtain ⟨rfl, k, rfl, rfl, hk⟩ := hrel
    clear c0
    by_cases hkl : k < g.length
    · have e1 : ((k : Int) < (g.length : Int)) = True := eq_true (by omega)
      have hkb : k ≤ 4096 := by omega
      by_cases hko : k ∈ o
      · have ck : W.cell? ⟨R, k, none⟩ = some (.bool true) := by rw [HRD.out k hkl, decide_eq_true hko]
        have hcnt : cntO o (k + 1) = cntO o k + 1 := by rw [cntO_succ, if_pos hko]
        have HCN := hide hcnt
        clear hcnt
        have hcl := cntO_le o k
        generalize hnn : cntO o k = nn at *
        have HNN := hide hnn
        clear hnn
        have HT : Hid (∀ j, j < (g.getD k []).length → (g.getD k []).getD j 0 < g.length ∧ (k ∈ o → (g.getD k []).getD j 0 ∈ o)) := fun j hj => ⟨hgr.lt k _ (getD_mem _ _ hj), fun hk => HCLO.out k hk _ (getD_mem _ _ hj)⟩
        have hr8 := hrows k
        have HRC : Hid (∀ j, j < (g.getD k []).length → W.cell? ⟨(hd k).blk, (hd k).off + j, none⟩ = some (.int .i64 (((g.getD k []).getD j 0 : Nat) : Int))) := fun j hj => HGC.out.2.2 k j hkl hj
        have cg := HGC.out.1 k hkl
        have hav := HGC.out.2.1 k hkl
        generalize hrow : g.getD k [] = row at *
        clear hrow
        generalize hn : row.length = n at *
        clear hn
        go_wp2
        go_loopw [10] (fun i wr => W = wr ∧ ∃ j : Nat, i = .int .i64 j ∧ j ≤ n) (fun i _ => n - (intOf i).toNat)
        case atStart => exact ⟨rfl, 0, rfl, Nat.zero_le _⟩
        case round =>
          obtain ⟨rfl, j, rfl, hj⟩ := hrel
          by_cases hjl : j < n
          · have e2 : ((j : Int) < (n : Int)) = True := eq_true (by omega)
            obtain ⟨ht1, ht2⟩ := HT.out j hjl
            have cr := HRC.out j hjl
            have ct : W.cell? ⟨R, row.getD j 0, none⟩ = some (.bool true) := by rw [HRD.out _ ht1, decide_eq_true (ht2 hko)]
            have hti : (((row.getD j 0 : Nat) : Int) < (g.length : Int)) = True := eq_true (by omega)
            have htb : row.getD j 0 ≤ 4096 := by omega
            have hav2 := hav (by omega)
            rw [hav2] at cg
            generalize row.getD j 0 = t at *
            go_wp2
            go_roundw
            case rel => exact ⟨trivial, j + 1, by go_num, hjl⟩
            case measure => simp [intOf]; omega
          · have e2 : ((j : Int) < (n : Int)) = False := eq_false (by omega)
            clear HT HRC
            go_wp2
            go_loopw [12, 11] (fun i inn wr => W = wr ∧ ∃ (q : Nat) (b : Bool), i = .int .i64 q ∧ inn = .bool b ∧ q ≤ g.length ∧ (b = true ↔ k = s0 ∨ ∃ u, u < q ∧ u ∈ o ∧ k ∈ g.getD u [])) (fun i _ _ => g.length - (intOf i).toNat)
            case atStart => exact ⟨rfl, 0, _, rfl, rfl, Nat.zero_le _, by simp; omega⟩
            case round =>
              obtain ⟨rfl, q, b, rfl, rfl, hq, hb⟩ := hrel
              have HB := hide hb
              clear hb
              by_cases hql : q < g.length
              · have e3 : ((q : Int) < (g.length : Int)) = True := eq_true (by omega)
                have hqb : q ≤ 4096 := by omega
                have hq8 := hrows q
                have HQC : Hid (∀ j, j < (g.getD q []).length → W.cell? ⟨(hd q).blk, (hd q).off + j, none⟩ = some (.int .i64 (((g.getD q []).getD j 0 : Nat) : Int))) := fun j hj => HGC.out.2.2 q j hql hj
                have cq := HGC.out.1 q hql
                have hqv := HGC.out.2.1 q hql
                have cqo := HRD.out q hql
                have HMEM : Hid (k ∈ g.getD q [] ↔ ∃ m, m < (g.getD q []).length ∧ (g.getD q []).getD m 0 = k) := mem_getD _ _
                generalize hrow : g.getD q [] = rw2 at *
                have HROW := hide hrow
                clear hrow
                generalize hn : rw2.length = n2 at *
                clear hn
                go_wp2
                go_loopw [13, 11] (fun i inn wr => W = wr ∧ ∃ (m : Nat) (b' : Bool), i = .int .i64 m ∧ inn = .bool b' ∧ m ≤ n2 ∧ (b' = true ↔ b = true ∨ (q ∈ o ∧ ∃ p, p < m ∧ rw2.getD p 0 = k))) (fun i _ _ => n2 - (intOf i).toNat)
                case atStart => exact ⟨rfl, 0, b, rfl, rfl, Nat.zero_le _, by simp⟩
                case round =>
                  obtain ⟨rfl, m, b', rfl, rfl, hm, hb'⟩ := hrel
                  have HB' := hide hb'
                  clear hb'
                  by_cases hml : m < n2
                  · have e4 : ((m : Int) < (n2 : Int)) = True := eq_true (by omega)
                    have hqv2 := hqv (by omega)
                    rw [hqv2] at cq
                    have cm := HQC.out m hml
                    have HSP : Hid ((∃ p, p < m + 1 ∧ rw2.getD p 0 = k) ↔ (∃ p, p < m ∧ rw2.getD p 0 = k) ∨ rw2.getD m 0 = k) := ex_succ _ _ _
                    have HXX : Hid (∃ x, rw2.getD m 0 = x) := ⟨_, rfl⟩
                    generalize hxx : rw2.getD m 0 = x at *
                    clear hxx
                    cases b' with
                    | true =>
                      clear cqo
                      go_wp2
                      go_roundw
                      case rel => exact ⟨trivial, m + 1, true, by go_num, rfl, hml, ⟨fun _ => (HB'.out.1 rfl).imp id (fun h => ⟨h.1, HSP.out.2 (.inl h.2)⟩), fun _ => rfl⟩⟩
                      case measure => simp [intOf]; omega
                    | false =>
                      have HNO : Hid (¬ (b = true ∨ (q ∈ o ∧ ∃ p, p < m ∧ rw2.getD p 0 = k))) := fun h => by have := HB'.out.2 h; cases this
                      by_cases hqo : q ∈ o
                      · have cq2 : W.cell? ⟨R, q, none⟩ = some (.bool true) := by rw [cqo, decide_eq_true hqo]
                        have HQO := hide hqo
                        clear cqo hqo
                        by_cases hxk : x = k
                        · have e5 : ((x : Int) == (k : Int)) = true := by simp [hxk]
                          have HXK := hide hxk
                          clear hxk
                          go_wp2
                          go_roundw
                          case rel => exact ⟨trivial, m + 1, true, by go_num, rfl, hml, ⟨fun _ => .inr ⟨HQO.out, HSP.out.2 (.inr HXK.out)⟩, fun _ => rfl⟩⟩
                          case measure => simp [intOf]; omega
                        · have e5 : ((x : Int) == (k : Int)) = false := by simp; omega
                          have HXK := hide hxk
                          clear hxk
                          go_wp2
                          go_roundw
                          case rel => exact ⟨trivial, m + 1, false, by go_num, rfl, hml, ⟨fun h => (by cases h), fun h => (HNO.out (h.imp id (fun h => ⟨h.1, (HSP.out.1 h.2).resolve_right HXK.out⟩))).elim⟩⟩
                          case measure => simp [intOf]; omega
                      · have cq2 : W.cell? ⟨R, q, none⟩ = some (.bool false) := by rw [cqo, decide_eq_false hqo]
                        have HQO := hide hqo
                        clear cqo hqo
                        go_wp2
                        go_roundw
                        case rel => exact ⟨trivial, m + 1, false, by go_num, rfl, hml, ⟨fun h => (by cases h), fun h => (HNO.out (h.imp id (fun h => absurd h.1 HQO.out))).elim⟩⟩
                        case measure => simp [intOf]; omega
                  · have e4 : ((m : Int) < (n2 : Int)) = False := eq_false (by omega)
                    clear cqo
                    go_wp2
                    go_roundw
                    case rel =>
                      refine ⟨trivial, q + 1, b', by go_num, rfl, hql, HB'.out.trans ?_⟩
                      rw [HB.out]
                      constructor
                      · rintro ((h | ⟨u, h1, h2, h3⟩) | ⟨h1, p, h2, h3⟩)
                        · exact .inl h
                        · exact .inr ⟨u, by omega, h2, h3⟩
                        · exact .inr ⟨q, by omega, h1, by rw [HROW.out]; exact HMEM.out.2 ⟨p, by omega, h3⟩⟩
                      · rintro (h | ⟨u, h1, h2, h3⟩)
                        · exact .inl (.inl h)
                        · rcases Nat.lt_or_ge u q with h | h
                          · exact .inl (.inr ⟨u, h, h2, h3⟩)
                          · obtain rfl : u = q := by omega
                            obtain ⟨p, h4, h5⟩ := HMEM.out.1 (by rw [← HROW.out]; exact h3)
                            exact .inr ⟨h2, p, by omega, h5⟩
                    case measure => simp [intOf]; omega
              · have e3 : ((q : Int) < (g.length : Int)) = False := eq_false (by omega)
                obtain rfl : b = true := HB.out.2 ((HFR.out k hko).imp id (fun ⟨u, h1, h2⟩ => ⟨u, by have := HLT.out u h1; omega, h1, h2⟩))
                have HKO := hide hko
                clear hko
                go_wp2
                go_roundw
                case rel => exact ⟨trivial, k + 1, by go_num, by rw [HCN.out]; go_num, hkl⟩
                case measure => simp [intOf]; omega
      · have ck : W.cell? ⟨R, k, none⟩ = some (.bool false) := by rw [HRD.out k hkl, decide_eq_false hko]
        have hcnt : cntO o (k + 1) = cntO o k := by rw [cntO_succ, if_neg hko, Nat.add_zero]
        have HCN := hide hcnt
        clear hcnt
        have hcl := cntO_le o k
        generalize hnn : cntO o k = nn at *
        have HNN := hide hnn
        clear hnn
        have HT : Hid (∀ j, j < (g.getD k []).length → (g.getD k []).getD j 0 < g.length ∧ (k ∈ o → (g.getD k []).getD j 0 ∈ o)) := fun j hj => ⟨hgr.lt k _ (getD_mem _ _ hj), fun hk => HCLO.out k hk _ (getD_mem _ _ hj)⟩
        have hr8 := hrows k
        have HRC : Hid (∀ j, j < (g.getD k []).length → W.cell? ⟨(hd k).blk, (hd k).off + j, none⟩ = some (.int .i64 (((g.getD k []).getD j 0 : Nat) : Int))) := fun j hj => HGC.out.2.2 k j hkl hj
        have cg := HGC.out.1 k hkl
        have hav := HGC.out.2.1 k hkl
        generalize hrow : g.getD k [] = row at *
        clear hrow
        generalize hn : row.length = n at *
        clear hn
        go_wp2
        go_loopw [10] (fun i wr => W = wr ∧ ∃ j : Nat, i = .int .i64 j ∧ j ≤ n) (fun i _ => n - (intOf i).toNat)
        case atStart => exact ⟨rfl, 0, rfl, Nat.zero_le _⟩
        case round =>
          obtain ⟨rfl, j, rfl, hj⟩ := hrel
          by_cases hjl : j < n
          · have e2 : ((j : Int) < (n : Int)) = True := eq_true (by omega)
            obtain ⟨ht1, ht2⟩ := HT.out j hjl
            have cr := HRC.out j hjl
            clear ht1 ht2
            have hav2 := hav (by omega)
            rw [hav2] at cg
            generalize row.getD j 0 = t at *
            go_wp2
            go_roundw
            case rel => exact ⟨trivial, j + 1, by go_num, hjl⟩
            case measure => simp [intOf]; omega
          · have e2 : ((j : Int) < (n : Int)) = False := eq_false (by omega)
            clear HT HRC
            go_wp2
            go_loopw [12, 11] (fun i inn wr => W = wr ∧ ∃ (q : Nat) (b : Bool), i = .int .i64 q ∧ inn = .bool b ∧ q ≤ g.length ∧ (b = true ↔ k = s0 ∨ ∃ u, u < q ∧ u ∈ o ∧ k ∈ g.getD u [])) (fun i _ _ => g.length - (intOf i).toNat)
            case atStart => exact ⟨rfl, 0, _, rfl, rfl, Nat.zero_le _, by simp; omega⟩
            case round =>
              obtain ⟨rfl, q, b, rfl, rfl, hq, hb⟩ := hrel
              have HB := hide hb
              clear hb
              by_cases hql : q < g.length
              · have e3 : ((q : Int) < (g.length : Int)) = True := eq_true (by omega)
                have hqb : q ≤ 4096 := by omega
                have hq8 := hrows q
                have HQC : Hid (∀ j, j < (g.getD q []).length → W.cell? ⟨(hd q).blk, (hd q).off + j, none⟩ = some (.int .i64 (((g.getD q []).getD j 0 : Nat) : Int))) := fun j hj => HGC.out.2.2 q j hql hj
                have cq := HGC.out.1 q hql
                have hqv := HGC.out.2.1 q hql
                have cqo := HRD.out q hql
                have HMEM : Hid (k ∈ g.getD q [] ↔ ∃ m, m < (g.getD q []).length ∧ (g.getD q []).getD m 0 = k) := mem_getD _ _
                generalize hrow : g.getD q [] = rw2 at *
                have HROW := hide hrow
                clear hrow
                generalize hn : rw2.length = n2 at *
                clear hn
                go_wp2
                go_loopw [13, 11] (fun i inn wr => W = wr ∧ ∃ (m : Nat) (b' : Bool), i = .int .i64 m ∧ inn = .bool b' ∧ m ≤ n2 ∧ (b' = true ↔ b = true ∨ (q ∈ o ∧ ∃ p, p < m ∧ rw2.getD p 0 = k))) (fun i _ _ => n2 - (intOf i).toNat)
                case atStart => exact ⟨rfl, 0, b, rfl, rfl, Nat.zero_le _, by simp⟩
                case round =>
                  obtain ⟨rfl, m, b', rfl, rfl, hm, hb'⟩ := hrel
                  have HB' := hide hb'
                  clear hb'
                  by_cases hml : m < n2
                  · have e4 : ((m : Int) < (n2 : Int)) = True := eq_true (by omega)
                    have hqv2 := hqv (by omega)
                    rw [hqv2] at cq
                    have cm := HQC.out m hml
                    have HSP : Hid ((∃ p, p < m + 1 ∧ rw2.getD p 0 = k) ↔ (∃ p, p < m ∧ rw2.getD p 0 = k) ∨ rw2.getD m 0 = k) := ex_succ _ _ _
                    have HXX : Hid (∃ x, rw2.getD m 0 = x) := ⟨_, rfl⟩
                    generalize hxx : rw2.getD m 0 = x at *
                    clear hxx
                    cases b' with
                    | true =>
                      clear cqo
                      go_wp2
                      go_roundw
                      case rel => exact ⟨trivial, m + 1, true, by go_num, rfl, hml, ⟨fun _ => (HB'.out.1 rfl).imp id (fun h => ⟨h.1, HSP.out.2 (.inl h.2)⟩), fun _ => rfl⟩⟩
                      case measure => simp [intOf]; omega
                    | false =>
                      have HNO : Hid (¬ (b = true ∨ (q ∈ o ∧ ∃ p, p < m ∧ rw2.getD p 0 = k))) := fun h => by have := HB'.out.2 h; cases this
                      by_cases hqo : q ∈ o
                      · have cq2 : W.cell? ⟨R, q, none⟩ = some (.bool true) := by rw [cqo, decide_eq_true hqo]
                        have HQO := hide hqo
                        clear cqo hqo
                        by_cases hxk : x = k
                        · have e5 : ((x : Int) == (k : Int)) = true := by simp [hxk]
                          have HXK := hide hxk
                          clear hxk
                          go_wp2
                          go_roundw
                          case rel => exact ⟨trivial, m + 1, true, by go_num, rfl, hml, ⟨fun _ => .inr ⟨HQO.out, HSP.out.2 (.inr HXK.out)⟩, fun _ => rfl⟩⟩
                          case measure => simp [intOf]; omega
                        · have e5 : ((x : Int) == (k : Int)) = false := by simp; omega
                          have HXK := hide hxk
                          clear hxk
                          go_wp2
                          go_roundw
                          case rel => exact ⟨trivial, m + 1, false, by go_num, rfl, hml, ⟨fun h => (by cases h), fun h => (HNO.out (h.imp id (fun h => ⟨h.1, (HSP.out.1 h.2).resolve_right HXK.out⟩))).elim⟩⟩
                          case measure => simp [intOf]; omega
                      · have cq2 : W.cell? ⟨R, q, none⟩ = some (.bool false) := by rw [cqo, decide_eq_false hqo]
                        have HQO := hide hqo
                        clear cqo hqo
                        go_wp2
                        go_roundw
                        case rel => exact ⟨trivial, m + 1, false, by go_num, rfl, hml, ⟨fun h => (by cases h), fun h => (HNO.out (h.imp id (fun h => absurd h.1 HQO.out))).elim⟩⟩
                        case measure => simp [intOf]; omega
                  · have e4 : ((m : Int) < (n2 : Int)) = False := eq_false (by omega)
                    clear cqo
                    go_wp2
                    go_roundw
                    case rel =>
                      refine ⟨trivial, q + 1, b', by go_num, rfl, hql, HB'.out.trans ?_⟩
                      rw [HB.out]
                      constructor
                      · rintro ((h | ⟨u, h1, h2, h3⟩) | ⟨h1, p, h2, h3⟩)
                        · exact .inl h
                        · exact .inr ⟨u, by omega, h2, h3⟩
                        · exact .inr ⟨q, by omega, h1, by rw [HROW.out]; exact HMEM.out.2 ⟨p, by omega, h3⟩⟩
                      · rintro (h | ⟨u, h1, h2, h3⟩)
                        · exact .inl (.inl h)
                        · rcases Nat.lt_or_ge u q with h | h
                          · exact .inl (.inr ⟨u, h, h2, h3⟩)
                          · obtain rfl : u = q := by omega
                            obtain ⟨p, h4, h5⟩ := HMEM.out.1 (by rw [← HROW.out]; exact h3)
                            exact .inr ⟨h2, p, by omega, h5⟩
                    case measure => simp [intOf]; omega
              · have e3 : ((q : Int) < (g.length : Int)) = False := eq_false (by omega)
                have HKO := hide hko
                clear hko
                go_wp2
                go_roundw
                case rel => exact ⟨trivial, k + 1, by go_num, by rw [HCN.out], hkl⟩
                case measure => simp [intOf]; omega
    · have e1 : ((k : Int) < (g.length : Int)) = False := eq_false (by omega)
      obtain rfl : k = g.length := by omega
      rw [HNL.out]
      by_cases hz : s0 = 0
      · subst hz
        have hor := order_is _ cap blk off hd g hgr W HGG.out
        have HOR := hide hor
        clear hor
        go_wp2_with fail
        refine HOR.out.mono ?_
        rintro e w5 ⟨hb5, v, m2, o2, rfl, hov, hw2⟩
        obtain ⟨m3, hw3⟩ := HW.out
        obtain rfl := (hw2.det hw3).2
        obtain ⟨oav, ocap, hoe, -⟩ := owns_shape hov
        subst hoe
        have HB5 := hide (bel_two HBB.out hb5)
        clear hb5 hov
        go_wp2
        go_ret
        exact ⟨rfl, HB5.out⟩
      · have e5 : (((s0 : Nat) : Int) == 0) = false := by simp; omega
        have hz2 : ¬ ((s0 : Int) = 0) := by omega
        go_wp2
        go_ret
        exact ⟨rfl, HBB.out⟩

end Go.Proofs.Ytchnjjdhffmkpaa
