/-
  The law AsmLeads (layer 5): its walk.
-/
import Derived.Test.YtbfmadcppnfgpaaDoorSmall
import Derived.Lib.QuietBelow
namespace Go.Proofs.YtbfmadcppnfgpaaDoor
open Go.ChangeShapes Go.WideShapes Go.ChangeAt Go.RowKit

theorem hide {p : Prop} (h : p) : Hid p := h
/-- A line of a row, or an empty one. -/
def lnAt (ls : List Ln) (k : Nat) : Ln := ls.getD k ⟨0, 0, 0, 0, 0, 0, 0⟩
theorem lnAt_eq (ls : List Ln) (k : Nat) (h : k < ls.length) : lnAt ls k = ls[k]'h := by
  unfold lnAt; rw [List.getD_eq_getElem?_getD, List.getElem?_eq_getElem h]; rfl
theorem plc_next (ls : List Ln) (k : Nat) (h : k < ls.length) : plc ls (k + 1) = plc ls k + (if (lnAt ls k).L = 0 then 1 else 0) := by rw [lnAt_eq ls k h]; exact plc_succ ls k h
/-- The code at an instruction's place. -/
theorem asmL_at (ls : List Ln) (k : Nat) (h : k < ls.length) (hz : (lnAt ls k).L = 0) : (asmL ls)[plc ls k]? = some ((lnAt ls k).ins (tab ls ls.length)) := by
  rw [lnAt_eq ls k h] at hz ⊢
  have h1 := codeL_inst (tab ls ls.length) ls k h hz
  have h2 := codeL_len (tab ls ls.length) ls k
  have h3 : asmL ls = codeL (tab ls ls.length) (ls.take (k + 1)) ++ codeL (tab ls ls.length) (ls.drop (k + 1)) := by
    unfold asmL codeL
    rw [← List.map_append, ← List.filter_append, List.take_append_drop]
  rw [h3, h1, List.append_assoc, List.getElem?_append_right (by omega), h2, Nat.sub_self]
  rfl
theorem tab_mem (ls : List Ln) (k : Nat) (h : k < ls.length) (hz : ¬ (lnAt ls k).L = 0) : ((lnAt ls k).L, (plc ls k : Int)) ∈ tab ls ls.length := by
  rw [lnAt_eq ls k h] at hz ⊢
  obtain ⟨m, hm⟩ : ∃ m, ls.length = k + 1 + m := ⟨ls.length - (k + 1), by omega⟩
  have hp := tab_pre ls (k + 1) m
  rw [hm]
  refine hp.subset ?_
  rw [tab_label ls k h hz]; simp
theorem labs_ex (ls : List Ln) (t : Int) : ∀ k, k ≤ ls.length → t ∈ (tab ls k).map Prod.fst → ∃ m, m < k ∧ (lnAt ls m).L = t ∧ t ≠ 0
  | 0, _, h => by simp [tab] at h
  | k + 1, hk, h => by
    by_cases hz : (ls[k]'(by omega)).L = 0
    · rw [tab_inst ls k (by omega) hz] at h
      obtain ⟨m, h1, h2⟩ := labs_ex ls t k (by omega) h
      exact ⟨m, by omega, h2⟩
    · rw [tab_label ls k (by omega) hz, List.map_append, List.mem_append] at h
      rcases h with h | h
      · obtain ⟨m, h1, h2⟩ := labs_ex ls t k (by omega) h
        exact ⟨m, by omega, h2⟩
      · simp at h
        exact ⟨k, by omega, by rw [lnAt_eq ls k (by omega)]; exact h.symm, by rw [h]; exact hz⟩
theorem right_jump {o a b c : Int} (h : jmpB o a b c 0 = true) (p : Nat) (hp : p ≤ 1000) : rightB o a b c (p : Int) = true := by
  unfold jmpB at h
  rw [Bool.and_eq_true, decide_eq_true_eq] at h
  obtain ⟨h1, h2⟩ := h
  unfold rightB holdB at h1 ⊢
  simp only [Bool.and_eq_true] at h1 ⊢
  refine ⟨h1.1, h1.2.1, ?_⟩
  have : fI o = 2 := by rcases h2 with rfl | rfl | rfl <;> decide
  rw [this]
  simp [immB]; omega

set_option maxRecDepth 100000 in
set_option maxHeartbeats 8000000 in
theorem leadsLaw (av : Option Addr) (cap blk off : Nat) (ls : List Ln) (w : World) (hT : Tabs w) (hfL : ∀ x ∈ ls, Fits x.L) (hfT : ∀ x ∈ ls, Fits x.t) (hin : IsLines w av blk off ls) :
    Calls Tryd.prog 4 #[.slice av ls.length cap] w fun e w' => e = .returned (.bool true) ∧ Below w.heap.size w w' := by
  go_enter Tryd.func4, Tryd.ntmps4
  go_wp2_with fail
  refine (small_is w hT).mono ?_; rintro e w1 ⟨rfl, hb1⟩
  by_cases hbig : (150 : Int) < (ls.length : Int)
  · go_wp2_with fail
    go_ret
    exact ⟨rfl, hb1⟩
  have hl : ls.length ≤ 150 := by omega
  have hin1 := hin.later hb1
  have HAS := hide (assemble_any av cap blk off ls w1 (by omega) hfL hfT hin1)
  go_wp2_with fail
  refine HAS.out.mono ?_
  clear HAS
  rintro e w2 ⟨hb2, ⟨n, hn, rfl⟩ | ⟨hgood, g, hg1, hg2, rfl, hc⟩⟩
  · have hn0 : ((n : Int) == 0) = false := by cases hn <;> rfl
    have HB := hide (bel_two hb1 hb2)
    have hn1 : ¬ n = 0 := by intro e; rw [e] at hn0; cases hn0
    clear hn hb1 hb2 hin1 hT hin
    go_wp2
    go_ret
    exact ⟨rfl, HB.out⟩
  have hB2 := bel_two hb1 hb2
  have hin2 := hin1.later hb2
  have hal := asmL_len ls
  have hpl := plc_le ls ls.length
  have HGD := hide hgood
  have HC : Hid (∀ k, k < ls.length → (lnAt ls k).L = 0 → plc ls k < plc ls ls.length ∧ AtIns w2 g (plc ls k * 5) ((lnAt ls k).ins (tab ls ls.length))) := fun k hk hz => by
    have h1 := asmL_at ls k hk hz
    obtain ⟨h2, h3⟩ := List.getElem?_eq_some_iff.1 h1
    have h4 := hc _ h2
    rw [h3, Nat.zero_add] at h4
    exact ⟨by omega, h4⟩
  have HLN : Hid (∀ k, k < ls.length → av = some ⟨blk, off, none⟩ ∧ AtLn w2 blk (off + k * 7) (lnAt ls k)) := fun k hk => ⟨hin2.at_ (by omega), by rw [lnAt_eq ls k hk]; exact hin2.has k hk⟩
  have hbl : 0 < ls.length → blk < w2.heap.size := hin2.lt
  rw [hal]
  generalize hN : plc ls ls.length = nn at *
  clear hgood hc hin2 hin1 hb1 hb2 hal hin hT
  generalize hlen : ls.length = len at *
  have HLEN := hide hlen
  have HN := hide hN
  clear hlen hN
  go_wp2
  go_loopw [7, 6] (fun i nv wr => ∃ k : Nat, i = .int .i64 k ∧ nv = .int .i64 (plc ls k) ∧ k ≤ len ∧ Below w2.heap.size w2 wr) (fun i _ _ => len - (intOf i).toNat)
  case atStart => exact ⟨0, rfl, by rw [plc_zero]; rfl, Nat.zero_le _, Below.refl _ _⟩
  case round =>
    obtain ⟨k, rfl, rfl, hk, hB⟩ := hrel
    have hsz := hB.size
    by_cases hkl : k < len
    · have e1 : ((k : Int) < (len : Int)) = True := eq_true (by omega)
      obtain ⟨rfl, hx2⟩ := HLN.out k hkl
      have hbk := hbl (by omega)
      have hx := hx2.below hB hbk
      have hc2 := HC.out k hkl
      have hpn := plc_next ls k (by rw [HLEN.out]; exact hkl)
      have hple := plc_le ls k
      have hxr := HGD.out.right (lnAt ls k) (by rw [lnAt_eq ls k (by rw [HLEN.out]; exact hkl)]; exact List.getElem_mem _)
      have hxl := HGD.out.lead (lnAt ls k) (by rw [lnAt_eq ls k (by rw [HLEN.out]; exact hkl)]; exact List.getElem_mem _)
      have HPN := hide hpn
      clear hx2 hpn
      generalize hxx : lnAt ls k = x at *
      generalize hpp : plc ls k = p at *
      clear hxx hpp
      obtain ⟨c0, c1, c2, c3, c4, c5, c6⟩ := hx
      by_cases hz : x.L = 0
      · have hpn2 := HPN.out
        rw [if_pos hz] at hpn2
        have HP2 := hide hpn2
        obtain ⟨hpl2, hy2⟩ := hc2 hz
        have hy := hy2.below hB hg2
        clear hc2 hy2 hpn2
        rw [hz] at c0
        have e2 : ((nn : Int) ≤ (p : Int)) = False := eq_false (by omega)
        have hpi : ((p : Int) < (nn : Int)) = True := eq_true (by omega)
        by_cases ht : x.t = 0
        · have hy3 : x.ins (tab ls len) = ⟨x.o, x.a, x.b, x.c, x.i⟩ := by simp [Ln.ins, ht]
          rw [hy3] at hy
          rw [ht] at c6
          obtain ⟨d0, d1, d2, d3, d4⟩ := hy
          have hne := neqI_same x.o x.a x.b x.c x.i
          have hbn := bel_new wr (.cells #[.int .i64 x.o, .int .i64 x.a, .int .i64 x.b, .int .i64 x.c, .int .i64 x.i] 32)
          have hBn := hB.trans (hbn.mono hsz)
          clear hxr hxl hz ht hbn
          have hblk : blk < wr.heap.size := by omega
          go_wp2
          go_quiet (fail)
          go_wp2
          go_roundw
          case rel => exact ⟨k + 1, by go_num, by rw [HP2.out]; go_num, hkl, below_drewN hBn _⟩
          case measure => simp [intOf]; omega
        · have hy3 : x.ins (tab ls len) = ⟨x.o, x.a, x.b, x.c, placeOf (tab ls len) x.t⟩ := by simp [Ln.ins, ht]
          rw [hy3] at hy
          obtain ⟨d0, d1, d2, d3, d4⟩ := hy
          have HJ : Hid (jmpB x.o x.a x.b x.c 0 = true) := by
            unfold Ln.right at hxr
            rw [if_neg (by simpa using hz), if_neg ht, Bool.and_eq_true, decide_eq_true_eq] at hxr
            obtain ⟨h1, h2, _⟩ := hxr
            rw [h2] at h1; exact h1
          have htl : x.t ∈ (tab ls len).map Prod.fst := by
            have := hxl.resolve_left ht
            unfold labs at this; rwa [HLEN.out] at this
          have HEX := hide (labs_ex ls x.t len (by rw [HLEN.out]; exact Nat.le_refl _) htl)
          have HTZ := hide ht
          have ht2 : ((x.t == (0 : Int))) = false := by simpa using ht
          have hbn := bel_new wr (.cells #[.int .i64 x.o, .int .i64 x.a, .int .i64 x.b, .int .i64 x.c, .int .i64 (placeOf (tab ls len) x.t)] 32)
          have hBn := hB.trans (hbn.mono hsz)
          have kX := World.alloc_heap_new wr (.cells #[.int .i64 x.o, .int .i64 x.a, .int .i64 x.b, .int .i64 x.c, .int .i64 (placeOf (tab ls len) x.t)] 32)
          have hs3 : (wr.alloc (.cells #[.int .i64 x.o, .int .i64 x.a, .int .i64 x.b, .int .i64 x.c, .int .i64 (placeOf (tab ls len) x.t)] 32)).heap.size = wr.heap.size + 1 := by simp
          have hblk : blk < wr.heap.size := by omega
          have cx : (wr.alloc (.cells #[.int .i64 x.o, .int .i64 x.a, .int .i64 x.b, .int .i64 x.c, .int .i64 (placeOf (tab ls len) x.t)] 32)).cell? ⟨blk, off + k * 7 + 6, none⟩ = some (.int .i64 x.t) := (World.cell?_of_block (Below.heap_alloc _ _ _ hblk)).trans c6
          have cy1 : (wr.alloc (.cells #[.int .i64 x.o, .int .i64 x.a, .int .i64 x.b, .int .i64 x.c, .int .i64 (placeOf (tab ls len) x.t)] 32)).cell? ⟨blk, off + k * 7 + 1, none⟩ = some (.int .i64 x.o) := (World.cell?_of_block (Below.heap_alloc _ _ _ hblk)).trans c1
          have cy2 : (wr.alloc (.cells #[.int .i64 x.o, .int .i64 x.a, .int .i64 x.b, .int .i64 x.c, .int .i64 (placeOf (tab ls len) x.t)] 32)).cell? ⟨blk, off + k * 7 + 2, none⟩ = some (.int .i64 x.a) := (World.cell?_of_block (Below.heap_alloc _ _ _ hblk)).trans c2
          go_wp2
          generalize wr.alloc (.cells #[.int .i64 x.o, .int .i64 x.a, .int .i64 x.b, .int .i64 x.c, .int .i64 (placeOf (tab ls len) x.t)] 32) = W3 at *
          have HLM : Hid (∀ m, m < len → W3.cell? ⟨blk, off + m * 7, none⟩ = some (.int .i64 (lnAt ls m).L)) := fun m hm => ((HLN.out m hm).2.below hBn hbk).c0
          clear c0 c1 c2 c3 c4 c5 c6 d0 d1 d2 d3 d4 hxr hxl htl hz ht hbn
          go_loopw [11, 9, 10] (fun i atv fv wr' => ∃ (m q : Nat) (fb : Bool), i = .int .i64 m ∧ atv = .int .i64 (plc ls m) ∧ fv = .bool fb ∧ m ≤ len ∧ wr' = W3.drewN q ∧ (fb = false → ∀ r, r < m → (lnAt ls r).L ≠ x.t) ∧ (fb = true → 0 < m ∧ (lnAt ls (m - 1)).L = x.t)) (fun i _ fv _ => 2 * (len - (intOf i).toNat) + 1)
          case atStart => exact ⟨0, 0, false, rfl, by rw [plc_zero]; rfl, rfl, Nat.zero_le _, rfl, fun _ r hr => absurd hr (Nat.not_lt_zero _), fun h => by cases h⟩
          case round =>
            obtain ⟨m, q, fb, rfl, rfl, rfl, hm, rfl, hff, hft⟩ := hrel
            have HFF := hide hff
            have HFT := hide hft
            clear hff hft
            have hmp := plc_le ls m
            by_cases hgo : m < len ∧ fb = false
            · obtain ⟨hml, rfl⟩ := hgo
              have e3 : ((m : Int) < (len : Int)) = True := eq_true (by omega)
              have cm := HLM.out m hml
              have hpm := plc_next ls m (by rw [HLEN.out]; exact hml)
              have HPM := hide hpm
              clear hpm
              have cm' : (W3.drewN q).cell? ⟨blk, off + m * 7, none⟩ = some (.int .i64 (lnAt ls m).L) := cm
              have cx' : (W3.drewN q).cell? ⟨blk, off + k * 7 + 6, none⟩ = some (.int .i64 x.t) := cx
              clear cm
              generalize hX : W3.drewN q = X at *
              have HX := hide hX
              clear hX
              have HE : Hid (((lnAt ls m).L == x.t) = true ↔ (lnAt ls m).L = x.t) := by rw [Hid]; simp
              generalize hLm : (lnAt ls m).L = L at *
              have HLM2 := hide hLm
              clear hLm
              generalize hpq : plc ls m = pm at *
              have HPQ := hide hpq
              clear hpq
              have HREL : Hid (∀ nq, ∃ (m' q' : Nat) (fb' : Bool), (.int .i64 ((m : Int) + 1) : Value) = .int .i64 m' ∧ (.int .i64 (plc ls (m + 1) : Int) : Value) = .int .i64 (plc ls m') ∧ (.bool (L == x.t) : Value) = .bool fb' ∧ m' ≤ len ∧ X.drewN nq = W3.drewN q' ∧ (fb' = false → ∀ r, r < m' → (lnAt ls r).L ≠ x.t) ∧ (fb' = true → 0 < m' ∧ (lnAt ls (m' - 1)).L = x.t)) := fun nq =>
                ⟨m + 1, q + nq, L == x.t, by simp, rfl, rfl, hml, by rw [← HX.out]; simp [World.drewN, Nat.add_assoc], fun hf r hr => by
                  rcases Nat.lt_or_ge r m with h | h
                  · exact HFF.out rfl r h
                  · obtain rfl : r = m := by omega
                    rw [HLM2.out]; simpa using hf, fun hf => ⟨by omega, by show (lnAt ls m).L = x.t; rw [HLM2.out]; simpa using hf⟩⟩
              by_cases hLz : L = 0
              · have hp1 := HPM.out
                rw [if_pos hLz] at hp1
                rw [hp1] at HREL
                have cm2 : X.cell? ⟨blk, off + m * 7, none⟩ = some (.int .i64 0) := by rw [cm', hLz]
                rw [hLz] at HREL
                clear cm' hLz hp1
                go_wp2
                go_quiet (fail)
                go_wp2
                go_roundw
                case rel => simpa using HREL.out nq
                case measure => simp [intOf]; omega
              · have hp1 := HPM.out
                rw [if_neg hLz, Nat.add_zero] at hp1
                rw [hp1] at HREL
                have hLz2 : (L == (0 : Int)) = false := by simpa using hLz
                clear hp1
                go_wp2
                go_quiet (fail)
                go_wp2
                go_roundw
                case rel => simpa using HREL.out nq
                case measure => simp [intOf]; omega
            · have hfb : fb = true := by
                cases fb with
                | true => rfl
                | false =>
                  exfalso
                  have hml : m = len := by by_cases h : m < len; exact absurd ⟨h, rfl⟩ hgo; omega
                  obtain ⟨r, h1, h2, _⟩ := HEX.out
                  exact HFF.out rfl r (by omega) h2
              subst hfb
              obtain ⟨hm0, hmL⟩ := HFT.out rfl
              have hat : (plc ls m : Int) = placeOf (tab ls len) x.t := by
                obtain ⟨m', rfl⟩ : ∃ m', m = m' + 1 := ⟨m - 1, by omega⟩
                have h1 := plc_next ls m' (by rw [HLEN.out]; omega)
                have hLm : (lnAt ls m').L = x.t := by simpa using hmL
                rw [if_neg (by rw [hLm]; exact HTZ.out)] at h1
                have h2 := tab_mem ls m' (by rw [HLEN.out]; omega) (by rw [hLm]; exact HTZ.out)
                rw [hLm, HLEN.out] at h2
                have h3 := placeOf_mem (by have := HGD.out.once; unfold labs at this; rwa [HLEN.out] at this) h2
                rw [h3, h1]; rfl
              have hrb : rightB x.o x.a x.b x.c (placeOf (tab ls len) x.t) = true := by
                rw [← hat]; exact right_jump HJ.out _ (by omega)
              rw [hat]
              have kX4 : (W3.drewN q).heap[wr.heap.size]? = some (.cells #[.int .i64 x.o, .int .i64 x.a, .int .i64 x.b, .int .i64 x.c, .int .i64 (placeOf (tab ls len) x.t)] 32 (0, 0)) := kX
              have cz1 : (W3.drewN q).cell? ⟨blk, off + k * 7 + 1, none⟩ = some (.int .i64 x.o) := cy1
              have cz2 : (W3.drewN q).cell? ⟨blk, off + k * 7 + 2, none⟩ = some (.int .i64 x.a) := cy2
              have hB4 : Below w2.heap.size w2 (W3.drewN q) := below_drewN hBn q
              clear kX cx cy1 cy2 HLM hat hm0 hmL hgo
              generalize placeOf (tab ls len) x.t = pv at *
              generalize W3.drewN q = W4 at *
              have hs4 : wr.heap.size < W4.heap.size := (Array.getElem?_eq_some_iff.1 kX4).1
              have y0 := fun d os => cell_regrown (show W4.cell? ⟨wr.heap.size, 0, none⟩ = some (.int .i64 x.o) by simp [World.cell?, kX4]) d os
              have y1 := fun d os => cell_regrown (show W4.cell? ⟨wr.heap.size, 1, none⟩ = some (.int .i64 x.a) by simp [World.cell?, kX4]) d os
              have y2 := fun d os => cell_regrown (show W4.cell? ⟨wr.heap.size, 2, none⟩ = some (.int .i64 x.b) by simp [World.cell?, kX4]) d os
              have y3 := fun d os => cell_regrown (show W4.cell? ⟨wr.heap.size, 3, none⟩ = some (.int .i64 x.c) by simp [World.cell?, kX4]) d os
              have y4 := fun d os => cell_regrown (show W4.cell? ⟨wr.heap.size, 4, none⟩ = some (.int .i64 pv) by simp [World.cell?, kX4]) d os
              have z1 := fun d os => cell_regrown cz1 d os
              have z2 := fun d os => cell_regrown cz2 d os
              have CL : Hid (∀ d os, Calls Tryd.prog 20 #[.agg #[.int .i64 x.o, .int .i64 x.a, .int .i64 x.b, .int .i64 x.c, .int .i64 pv]] (Sort.grow (redrawn W4 d) os) fun e w'' => e = .returned (.bool true) ∧ ∃ p : Regrown, w'' = Sort.grow (redrawn W4 p.d) p.os) := fun d os => Calls.regrown_of (by have := right_any x.o x.a x.b x.c pv (Sort.grow (redrawn W4 d) os); rwa [hrb] at this)
              clear cz1 cz2 kX4
              have e3 : (((m : Int) < (len : Int)) = True) ∨ (((m : Int) < (len : Int)) = False) := by
                by_cases h : m < len
                · exact .inl (eq_true (by omega))
                · exact .inr (eq_false (by omega))
              have HP3 := HP2
              rcases e3 with e3 | e3
              all_goals
                go_wp2
                refine wp_region_quiet_below (by kernel_rfl) (by kernel_rfl) ?_
                repeat (go_big_quiet_step (first | (go_at_call 20; exact CL.out _ _)))
                refine wpQuiet_nil ?_
                intro w5 hw'
                have hb5 : Below W4.heap.size W4 w5 := by obtain ⟨⟨dq, osq⟩, hw''⟩ := hw'; rw [hw'']; exact below_regrown W4 dq osq
                have hB5 : Below w2.heap.size w2 w5 := hB4.trans (hb5.mono hB4.size)
                clear hw' hb5
                go_wp2
                go_roundw
                case rel => exact ⟨k + 1, by go_num, by rw [HP3.out]; go_num, hkl, hB5⟩
                case measure => simp [intOf]; omega
      · have hpn2 := HPN.out
        rw [if_neg hz, Nat.add_zero] at hpn2
        have HP2 := hide hpn2
        have hz2 : ((x.L == (0 : Int))) = false := by simpa using hz
        clear hc2 hpn2 hxr hxl c1 c2 c3 c4 c5 c6
        go_wp2
        go_roundw
        case rel => exact ⟨k + 1, by go_num, by rw [HP2.out]; rfl, hkl, hB⟩
        case measure => simp [intOf]; omega
    · have e1 : ((k : Int) < (len : Int)) = False := eq_false (by omega)
      obtain rfl : k = len := by omega
      rw [show plc ls k = nn by rw [← HN.out]]
      have HBB := hide (bel_two hB2 hB)
      go_wp2
      go_ret
      exact ⟨rfl, HBB.out⟩

end Go.Proofs.YtbfmadcppnfgpaaDoor
