/-
  The document's own Text of lines (layer 5); the walk of AsmMakes.
-/
import Derived.Test.YtbfmadcppnfgpaaDoorMkB
import Derived.Test.YtbfmadcppnfgpaaDoorMkC
import Derived.Test.YtbfmadcppnfgpaaDoorRefH
import Derived.Test.YtbfmadcppnfgpaaDoorSmall
namespace Go.Proofs.YtbfmadcppnfgpaaDoor
open Go.ChangeShapes Go.WideShapes Go.ChangeAt Go.RowKit

set_option maxRecDepth 100000 in
set_option maxHeartbeats 2000000 in
theorem reftexts_is (av : Option Addr) (cap blk off : Nat) (ls : List Ln) (w : World) (hl : ls.length ≤ 100000) (hfL : ∀ x ∈ ls, Fits x.L) (hfT : ∀ x ∈ ls, Fits x.t) (hin : IsLines w av blk off ls) :
    Calls Tryd.prog 15 #[.slice av ls.length cap] w fun e w' => e = .returned (.string (bs (textsL ls))) ∧ Below w.heap.size w w' := by
  have HIN : Hid (IsLines w av blk off ls) := hin
  clear hin
  generalize hn : ls.length = n at *
  have HN : Hid (ls.length = n) := hn
  clear hn
  go_enter Tryd.func15, Tryd.ntmps15
  go_wp2
  go_loopw [3, 4] (fun s i wr => ∃ k : Nat, k ≤ n ∧ i = .int .i64 k ∧ s = .string (bs (textsL (ls.take k))) ∧ Below w.heap.size w wr) (fun _ i _ => n - (intOf i).toNat)
  case atStart => exact ⟨0, Nat.zero_le _, rfl, rfl, Below.refl _ _⟩
  case round =>
    obtain ⟨k, hk, rfl, rfl, hbr⟩ := hrel
    by_cases hlt : k < n
    · have e1 : ((k : Int) < (n : Int)) = True := eq_true (by omega)
      have hkl : k < ls.length := by rw [HN.out]; exact hlt
      have hinr := HIN.out.later hbr
      obtain rfl := HIN.out.at_ (by omega)
      have hblk : blk < wr.heap.size := Nat.lt_of_lt_of_le (HIN.out.lt (by omega)) hbr.size
      have hfl := hfL _ (List.getElem_mem hkl)
      have hft := hfT _ (List.getElem_mem hkl)
      have hsu := textsL_succ ls k hkl
      have tl := textsL_len (ls.take k) (fun x hx => hfL x (List.mem_of_mem_take hx)) (fun x hx => hfT x (List.mem_of_mem_take hx))
      rw [List.length_take] at tl
      have HAT : Hid (AtLn wr blk (off + k * 7) (ls[k]'hkl)) := hinr.has k hkl
      have HLT : Hid (k < n) := hlt
      have HBr : Hid (Below w.heap.size w wr) := hbr
      generalize ls[k]'hkl = x at *
      have HS : Hid (textsL (ls.take (k + 1)) = textsL (ls.take k) ++ x.text ++ [10]) := hsu
      generalize textsL (ls.take k) = tx at *
      clear hsu hinr hlt hbr hkl
      have hkb : k ≤ 100000 := by omega
      have htl : tx.length ≤ 100000 * 201 := Nat.le_trans tl (Nat.mul_le_mul_right _ (by omega))
      have hts := htl
      rw [← bs_size] at hts
      have i1 := itoa_len' hfl
      have i2 := itoa_len' hft
      have i3 := textL_len x.o x.a x.b x.c x.i
      have j1 := i1
      have j2 := i2
      have j3 := i3
      rw [← bs_size] at j1 j2 j3
      clear tl i1 i2 i3 htl
      obtain ⟨c0, c1, c2, c3, c4, c5, c6⟩ := HAT.out
      by_cases hz : x.L = 0
      · have e2 : (x.L != 0) = false := by simp [hz]
        have HR : Hid (∀ W : World, Calls Tryd.prog 34 #[.agg #[.int .i64 x.o, .int .i64 x.a, .int .i64 x.b, .int .i64 x.c, .int .i64 x.i]] W fun e w' => e = .returned (.string (bs (textL x.o x.a x.b x.c x.i))) ∧ Below W.heap.size W w') := fun W => reftext_any _ _ _ _ _ W
        have HNU : Hid (∀ W : World, Calls Tryd.prog 33 #[.int .i64 x.t] W fun e w' => e = .returned (.string (bs (Lib.itoa x.t))) ∧ Below W.heap.size W w') := fun W => number_any _ hft W
        have HX : Hid (x.text = [32, 32] ++ textL x.o x.a x.b x.c x.i ++ (if x.t = 0 then [] else [32, 62, 76] ++ Lib.itoa x.t)) := by rw [Hid]; unfold Ln.text; rw [if_pos hz]
        have HC6 : Hid (∀ W : World, Below wr.heap.size wr W → W.cell? ⟨blk, off + k * 7 + 6, none⟩ = some (.int .i64 x.t)) := fun W hb => (hb.cell (p := ⟨blk, off + k * 7 + 6, none⟩) hblk).trans c6
        generalize textL x.o x.a x.b x.c x.i = tt at *
        generalize Lib.itoa x.t = ti at *
        have s1 : ¬ 9223372036854775807 < (bs tx).size + 2 := by omega
        have s2 : ¬ 9223372036854775807 < (bs tx).size + 2 + (bs tt).size := by omega
        go_wp2_with fail
        refine (HR.out _).mono ?_; rintro e w2 ⟨rfl, hb2⟩
        have c6 := HC6.out w2 hb2
        have HB2 : Hid (Below w.heap.size w w2) := HBr.out.trans (hb2.mono HBr.out.size)
        clear c0 c1 c2 c3 c4 c5 hb2 HC6
        by_cases ht : x.t = 0
        · have e3 : (x.t != 0) = false := by simp [ht]
          have HX' : Hid (x.text = [32, 32] ++ tt) := by rw [Hid, HX.out, if_pos ht, List.append_nil]
          have s3 : ¬ 9223372036854775807 < (bs tx).size + 2 + (bs tt).size + 1 := by omega
          clear ht hz
          go_wp2_with fail
          go_roundw
          case rel => exact ⟨k + 1, HLT.out, by go_num, by rw [HS.out, HX'.out]; exact congrArg Value.string (bs_of (by simp only [ba_app, bs_data]; simp)), HB2.out⟩
          case measure => have := HLT.out; simp [intOf]; omega
        · have e3 : (x.t != 0) = true := by simp [ht]
          have HX' : Hid (x.text = [32, 32] ++ tt ++ ([32, 62, 76] ++ ti)) := by rw [Hid, HX.out, if_neg ht]
          have s3 : ¬ 9223372036854775807 < (bs tx).size + 2 + (bs tt).size + 3 := by omega
          have s4 : ¬ 9223372036854775807 < (bs tx).size + 2 + (bs tt).size + 3 + (bs ti).size := by omega
          have s5 : ¬ 9223372036854775807 < (bs tx).size + 2 + (bs tt).size + 3 + (bs ti).size + 1 := by omega
          clear ht hz
          go_wp2_with fail
          refine (HNU.out _).mono ?_; rintro e w3 ⟨rfl, hb3⟩
          have HB3 : Hid (Below w.heap.size w w3) := HB2.out.trans (hb3.mono HB2.out.size)
          clear hb3 c6
          go_wp2_with fail
          go_roundw
          case rel => exact ⟨k + 1, HLT.out, by go_num, by rw [HS.out, HX'.out]; exact congrArg Value.string (bs_of (by simp only [ba_app, bs_data]; simp)), HB3.out⟩
          case measure => have := HLT.out; simp [intOf]; omega
      · have e2 : (x.L != 0) = true := by simp [hz]
        have HNU : Hid (∀ W : World, Calls Tryd.prog 33 #[.int .i64 x.L] W fun e w' => e = .returned (.string (bs (Lib.itoa x.L))) ∧ Below W.heap.size W w') := fun W => number_any _ hfl W
        have HX : Hid (x.text = [76] ++ Lib.itoa x.L ++ [58]) := by rw [Hid]; unfold Ln.text; rw [if_neg hz]
        generalize Lib.itoa x.L = ti at *
        have s1 : ¬ 9223372036854775807 < (bs tx).size + 1 := by omega
        have s2 : ¬ 9223372036854775807 < (bs tx).size + 1 + (bs ti).size := by omega
        have s3 : ¬ 9223372036854775807 < (bs tx).size + 1 + (bs ti).size + 2 := by omega
        clear hz
        go_wp2_with fail
        refine (HNU.out _).mono ?_; rintro e w2 ⟨rfl, hb2⟩
        have HB2 : Hid (Below w.heap.size w w2) := HBr.out.trans (hb2.mono HBr.out.size)
        clear hb2 c0 c1 c2 c3 c4 c5 c6
        go_wp2_with fail
        go_roundw
        case rel => exact ⟨k + 1, HLT.out, by go_num, by rw [HS.out, HX.out]; exact congrArg Value.string (bs_of (by simp only [ba_app, bs_data]; simp)), HB2.out⟩
        case measure => have := HLT.out; simp [intOf]; omega
    · have e1 : ((k : Int) < (n : Int)) = False := eq_false (by omega)
      have hall : ls.take k = ls := List.take_of_length_le (by rw [HN.out]; omega)
      rw [hall]
      have HB : Hid (Below w.heap.size w wr) := hbr
      clear hall hbr hlt
      go_wp2
      go_ret
      exact ⟨rfl, HB.out⟩

/-- What comes of Assemble, told of both. -/
def ResA (ls : List Ln) (lc : List Ins) (ec : Int) : Prop := (Told ls ec ∧ lc = []) ∨ (Good ls ∧ lc = asmL ls ∧ ec = 0)
theorem ResA.det {ls : List Ln} {l1 l2 : List Ins} {e1 e2 : Int} (h : ResA ls l1 e1) (k : ResA ls l2 e2) : l1 = l2 ∧ e1 = e2 := by
  rcases h with ⟨h1, rfl⟩ | ⟨h1, rfl, rfl⟩ <;> rcases k with ⟨k1, rfl⟩ | ⟨k1, rfl, rfl⟩
  · exact ⟨rfl, h1.det k1⟩
  · exact (h1.good k1).elim
  · exact (k1.good h1).elim
  · exact ⟨rfl, rfl⟩
def ResP (ls : List Ln) (lp : List (Int × Int)) (ec : Int) : Prop := (ToldP ls ec ∧ lp = []) ∨ ((∀ x ∈ ls, x.right = true) ∧ (labs ls).Nodup ∧ lp = placesL ls ∧ ec = 0)
theorem ResP.det {ls : List Ln} {l1 l2 : List (Int × Int)} {e1 e2 : Int} (h : ResP ls l1 e1) (k : ResP ls l2 e2) : l1 = l2 ∧ e1 = e2 := by
  rcases h with ⟨h1, rfl⟩ | ⟨h1, h2, rfl, rfl⟩ <;> rcases k with ⟨k1, rfl⟩ | ⟨k1, k2, rfl, rfl⟩
  · exact ⟨rfl, h1.det k1⟩
  · exact (h1.ok k1 k2).elim
  · exact (k1.ok h1 h2).elim
  · exact ⟨rfl, rfl⟩
theorem insOf_nil (W : World) : IsIns W none 0 0 [] := ⟨fun h => absurd h (by simp), fun h => absurd h (by simp), fun j hj => absurd hj (by simp)⟩
theorem prsOf_nil (W : World) : IsPairs W none 0 [] := ⟨fun h => absurd h (by simp), fun h => absurd h (by simp), fun j hj => absurd hj (by simp)⟩
theorem asm_uni {ls : List Ln} {w : World} {e : Ending} {w' : World} (h : AsmAns ls w e w') : Below w.heap.size w w' ∧ ∃ (lc : List Ins) (ec : Int) (av : Option Addr) (c g off : Nat), e = .returned (.tuple #[.slice av lc.length c, .int .i64 ec]) ∧ IsIns w' av g off lc ∧ ResA ls lc ec := by
  obtain ⟨hb, ⟨n, hn, rfl⟩ | ⟨hg, g, hg1, hg2, rfl, hi⟩⟩ := h
  · exact ⟨hb, [], n, none, 0, 0, 0, rfl, insOf_nil _, .inl ⟨hn, rfl⟩⟩
  · exact ⟨hb, asmL ls, 0, some ⟨g, 0, none⟩, (asmL ls).length, g, 0, rfl, ⟨fun _ => rfl, fun _ => hg2, hi⟩, .inr ⟨hg, rfl, rfl⟩⟩
theorem ras_uni {ls : List Ln} {w : World} {e : Ending} {w' : World} (h : RAs ls w e w') : Below w.heap.size w w' ∧ ∃ (lc : List Ins) (ec : Int) (av : Option Addr) (c g off : Nat), e = .returned (.tuple #[.slice av lc.length c, .int .i64 ec]) ∧ IsIns w' av g off lc ∧ ResA ls lc ec := by
  obtain ⟨hb, ⟨n, hn, rfl⟩ | ⟨hg, av, c, rfl, ho⟩⟩ := h
  · exact ⟨hb, [], n, none, 0, 0, 0, rfl, insOf_nil _, .inl ⟨hn, rfl⟩⟩
  · obtain ⟨av2, c2, blk, off, e, _, hi⟩ := owns_ins ho
    injection e with e1 e2 e3
    subst e1
    exact ⟨hb, asmL ls, 0, av, c, blk, off, rfl, hi, .inr ⟨hg, rfl, rfl⟩⟩
theorem pl_uni {ls : List Ln} {w : World} {e : Ending} {w' : World} (h : PlAns ls w e w') : Below w.heap.size w w' ∧ ∃ (lp : List (Int × Int)) (ec : Int) (av : Option Addr) (c g : Nat), e = .returned (.tuple #[.slice av lp.length c, .int .i64 ec]) ∧ IsPairs w' av g lp ∧ ResP ls lp ec := by
  obtain ⟨hb, ⟨n, hn, rfl⟩ | ⟨h1, h2, g, c, hg1, hg2, rfl, hi⟩⟩ := h
  · exact ⟨hb, [], n, none, 0, 0, rfl, prsOf_nil _, .inl ⟨hn, rfl⟩⟩
  · exact ⟨hb, placesL ls, 0, some ⟨g, 0, none⟩, c, g, rfl, ⟨fun _ => rfl, fun _ => hg2, hi⟩, .inr ⟨h1, h2, rfl, rfl⟩⟩
theorem rpl_uni {ls : List Ln} {w : World} {e : Ending} {w' : World} (h : RPl ls w e w') : Below w.heap.size w w' ∧ ∃ (lp : List (Int × Int)) (ec : Int) (av : Option Addr) (c g : Nat), e = .returned (.tuple #[.slice av lp.length c, .int .i64 ec]) ∧ IsPairs w' av g lp ∧ ResP ls lp ec := by
  obtain ⟨hb, ⟨n, hn, rfl⟩ | ⟨h1, h2, av, c, rfl, ho⟩⟩ := h
  · exact ⟨hb, [], n, none, 0, 0, rfl, prsOf_nil _, .inl ⟨hn, rfl⟩⟩
  · obtain ⟨g, hP⟩ := own_pairsAt ho
    exact ⟨hb, placesL ls, 0, av, c, g, rfl, ⟨hP.at_, hP.lt, fun j hj => by have := hP.has j hj; rwa [Nat.zero_add] at this⟩, .inr ⟨h1, h2, rfl, rfl⟩⟩

set_option maxRecDepth 100000 in
set_option maxHeartbeats 4000000 in
theorem makes_walk (av : Option Addr) (cap blk off : Nat) (ls : List Ln) (op a t : Int) (w : World) (hT : Tabs w) (hfL : ∀ x ∈ ls, Fits x.L) (hfT : ∀ x ∈ ls, Fits x.t) (hin : IsLines w av blk off ls) :
    Calls Tryd.prog 3 #[.slice av ls.length cap, .int .i64 op, .int .i64 a, .int .i64 t] w fun e w' => e = .returned (.bool true) ∧ Below w.heap.size w w' := by
  have HT : Hid (Tabs w) := hT
  have HIN : Hid (IsLines w av blk off ls) := hin
  have HS : Hid (Calls Tryd.prog 7 #[] w fun e w' => e = .returned (.bool true) ∧ Below w.heap.size w w') := small_is w hT
  clear hT hin
  go_enter Tryd.func3, Tryd.ntmps3
  go_wp2_with fail
  refine HS.out.mono ?_
  clear HS
  rintro e w1 ⟨rfl, hb1⟩
  have HB1 : Hid (Below w.heap.size w w1) := hb1
  by_cases hbig : 150 < ls.length
  · have e1 : ((150 : Int) < (ls.length : Int)) = True := eq_true (by omega)
    clear hb1 hbig
    go_wp2
    go_ret
    exact ⟨rfl, HB1.out⟩
  have e1 : ((150 : Int) < (ls.length : Int)) = False := eq_false (by omega)
  have hl : ls.length ≤ 150 := by omega
  have hb2 : Below w1.heap.size w1 (w1.alloc (.cells #[] 38)) := bel_new _ _
  have hin1 := HIN.out.later (bel_two hb1 hb2)
  obtain ⟨v1, w2, ha, ho2, hg2⟩ := append_lines (w1.alloc (.cells #[] 38)) 22 w1.heap.size _ 0 [] (owns_empty w1 w1.heap.size 38 7 (Nat.le_refl _)) av cap blk off ls hin1 (by omega) (by simp)
  rw [Nat.zero_add, List.nil_append] at ho2
  have hb3 : Below w1.heap.size w1 w2 := hb2.trans (grown_base (owns_empty w1 w1.heap.size 38 7 (Nat.le_refl _)) hg2 (by simp))
  obtain ⟨av1, cap1, blk1, off1, rfl, hcp, hin2, -⟩ := owns_lines ho2
  have HA : Hid ((Builtin.append_ #[22, 22] 22 #[.slice (some ⟨w1.heap.size, 0, none⟩) 0 0, .slice av ls.length cap]).run Tryd.prog (w1.alloc (.cells #[] 38)) = .ok (.slice av1 ls.length cap1) w2) := ha
  have HB2 : Hid (Below w.heap.size w w2) := bel_two hb1 hb3
  have HI2 : Hid (IsLines w2 av1 blk1 off1 ls) := hin2
  clear ha ho2 hg2 hb1 hb2 hb3 hin1 hin2 hcp hbig
  have H8 : Hid (Calls Tryd.prog 8 #[.slice av1 ls.length cap1] w2 (AsmAns ls w2)) := assemble_any av1 cap1 blk1 off1 ls w2 (by omega) hfL hfT HI2.out
  have H9 : Hid (∀ W, Below w2.heap.size w2 W → Calls Tryd.prog 9 #[.slice av ls.length cap] W (RAs ls W)) := fun W hb => refassemble_is av cap blk off ls W (by omega) (HIN.out.later (bel_two HB2.out hb)) (refplaces_is av cap blk off ls W (by omega) (HIN.out.later (bel_two HB2.out hb)))
  have H10 : Hid (∀ W, Below w2.heap.size w2 W → Calls Tryd.prog 10 #[.slice av1 ls.length cap1] W (PlAns ls W)) := fun W hb => places_any av1 cap1 blk1 off1 ls W (by omega) hfL (HI2.out.later hb)
  have H11 : Hid (∀ W, Below w2.heap.size w2 W → Calls Tryd.prog 11 #[.slice av ls.length cap] W (RPl ls W)) := fun W hb => refplaces_is av cap blk off ls W (by omega) (HIN.out.later (bel_two HB2.out hb))
  have H14 : Hid (∀ W, Below w2.heap.size w2 W → Calls Tryd.prog 14 #[.slice av1 ls.length cap1] W fun e w' => e = .returned (.string (bs (textsL ls))) ∧ Below W.heap.size W w') := fun W hb => texts_any av1 cap1 blk1 off1 ls W (HT.out.on (bel_two HB2.out hb)) (by omega) hfL hfT (HI2.out.later hb)
  have H15 : Hid (∀ W, Below w2.heap.size w2 W → Calls Tryd.prog 15 #[.slice av ls.length cap] W fun e w' => e = .returned (.string (bs (textsL ls))) ∧ Below W.heap.size W w') := fun W hb => reftexts_is av cap blk off ls W (by omega) hfL hfT (HIN.out.later (bel_two HB2.out hb))
  have H16 : Hid (∀ W, Below w2.heap.size w2 W → Calls Tryd.prog 16 #[.slice av1 ls.length cap1, .slice av ls.length cap] W fun e w' => e = .returned (.bool true) ∧ Below W.heap.size W w') := fun W hb => same_lines (by omega) (HI2.out.later hb) (HIN.out.later (bel_two HB2.out hb))
  have HLN : Hid (∀ (lc : List Ins) (ec : Int), ResA ls lc ec → lc.length ≤ 150) := fun lc ec h => by
    rcases h with ⟨_, rfl⟩ | ⟨_, rfl, _⟩
    · simp
    · rw [asmL_len]; have := plc_le ls ls.length; omega
  have HLP : Hid (∀ (lp : List (Int × Int)) (ec : Int), ResP ls lp ec → lp.length ≤ 150) := fun lp ec h => by
    rcases h with ⟨_, rfl⟩ | ⟨_, _, rfl, _⟩
    · simp
    · rw [placesL_len]; have := tab_len ls ls.length (Nat.le_refl _); omega
  generalize ls.length = n at *
  go_wp2_with (at_builtin; refine wpList_append_run rfl _ _ 22 rfl rfl rfl HA.out ?_)
  refine H8.out.mono ?_
  clear HA H8
  intro e w3 h8
  obtain ⟨hb3, lc, ec, av8, c8, g8, o8, rfl, hI8, hR8⟩ := asm_uni h8
  clear h8
  have HB3 : Hid (Below w2.heap.size w2 w3) := hb3
  have HI8 : Hid (IsIns w3 av8 g8 o8 lc ∧ ResA ls lc ec) := ⟨hI8, hR8⟩
  clear hb3 hI8 hR8
  go_wp2_with fail
  refine (H9.out w3 HB3.out).mono ?_
  clear H9
  intro e w4 h9
  obtain ⟨hb4, lc', ec', av9, c9, g9, o9, rfl, hI9, hR9⟩ := ras_uni h9
  obtain ⟨rfl, rfl⟩ := HI8.out.2.det hR9
  have HB4 : Hid (Below w2.heap.size w2 w4 ∧ Below w3.heap.size w3 w4) := ⟨bel_two HB3.out hb4, hb4⟩
  have HI9 : Hid (IsIns w4 av9 g9 o9 lc) := hI9
  clear hb4 hI9 hR9 h9
  go_wp2_with fail
  refine (H10.out w4 HB4.out.1).mono ?_
  clear H10
  intro e w5 h10
  obtain ⟨hb5, lp, ep, av10, c10, g10, rfl, hI10, hR10⟩ := pl_uni h10
  have HB5 : Hid (Below w2.heap.size w2 w5 ∧ Below w4.heap.size w4 w5) := ⟨bel_two HB4.out.1 hb5, hb5⟩
  have HI10 : Hid (IsPairs w5 av10 g10 lp ∧ ResP ls lp ep) := ⟨hI10, hR10⟩
  clear hb5 hI10 hR10 h10
  go_wp2_with fail
  refine (H11.out w5 HB5.out.1).mono ?_
  clear H11
  intro e w6 h11
  obtain ⟨hb6, lp', ep', av11, c11, g11, rfl, hI11, hR11⟩ := rpl_uni h11
  obtain ⟨rfl, rfl⟩ := HI10.out.2.det hR11
  have HB6 : Hid (Below w2.heap.size w2 w6 ∧ Below w5.heap.size w5 w6) := ⟨bel_two HB5.out.1 hb6, hb6⟩
  have HI11 : Hid (IsPairs w6 av11 g11 lp) := hI11
  clear hb6 hI11 hR11 h11
  have hlc := HLN.out _ _ HI8.out.2
  have hlp := HLP.out _ _ HI10.out.2
  have hIa : IsIns w6 av8 g8 o8 lc := ((HI8.out.1.later HB4.out.2).later HB5.out.2).later HB6.out.2
  have hIb : IsIns w6 av9 g9 o9 lc := (HI9.out.later HB5.out.2).later HB6.out.2
  have hPa : IsPairs w6 av10 g10 lp := HI10.out.1.later HB6.out.2
  have HAL : Hid ((IsIns w6 av8 g8 o8 lc ∧ IsIns w6 av9 g9 o9 lc) ∧ IsPairs w6 av10 g10 lp ∧ IsPairs w6 av11 g11 lp) := ⟨⟨hIa, hIb⟩, hPa, HI11.out⟩
  clear hIa hIb hPa
  go_wp2_with fail
  have hb7 := bel_new w6 (.cells #[.int .i64 op, .int .i64 a, .int .i64 0, .int .i64 0, .int .i64 0] 32)
  have hk7 := World.alloc_heap_new w6 (.cells #[.int .i64 op, .int .i64 a, .int .i64 0, .int .i64 0, .int .i64 0] 32)
  generalize w6.alloc (.cells #[.int .i64 op, .int .i64 a, .int .i64 0, .int .i64 0, .int .i64 0] 32) = w7 at *
  have x0 := fun d os => cell_regrown (show w7.cell? ⟨w6.heap.size, 0, none⟩ = some (.int .i64 op) from by simp [World.cell?, hk7]) d os
  have x1 := fun d os => cell_regrown (show w7.cell? ⟨w6.heap.size, 1, none⟩ = some (.int .i64 a) from by simp [World.cell?, hk7]) d os
  have x2 := fun d os => cell_regrown (show w7.cell? ⟨w6.heap.size, 2, none⟩ = some (.int .i64 0) from by simp [World.cell?, hk7]) d os
  have x3 := fun d os => cell_regrown (show w7.cell? ⟨w6.heap.size, 3, none⟩ = some (.int .i64 0) from by simp [World.cell?, hk7]) d os
  have x4 := fun d os => cell_regrown (show w7.cell? ⟨w6.heap.size, 4, none⟩ = some (.int .i64 0) from by simp [World.cell?, hk7]) d os
  have HB7 : Hid (Below w2.heap.size w2 w7) := bel_two HB6.out.1 hb7
  have GR : ∀ d os, Below w6.heap.size w6 (Sort.grow (redrawn w7 d) os) := fun d os => bel_two hb7 (below_regrown w7 d os)
  have GR2 : ∀ d os, Below w2.heap.size w2 (Sort.grow (redrawn w7 d) os) := fun d os => bel_two HB7.out (below_regrown w7 d os)
  have C12 : Hid (∀ d os, Calls Tryd.prog 12 #[.slice av8 lc.length c8, .slice av9 lc.length c9] (Sort.grow (redrawn w7 d) os) fun e w'' => e = .returned (.bool true) ∧ ∃ p : Regrown, w'' = Sort.grow (redrawn w7 p.d) p.os) := fun d os => Calls.regrown_of (same_rows (by omega) (HAL.out.1.1.later (GR d os)) (HAL.out.1.2.later (GR d os)))
  have C13 : Hid (∀ d os, Calls Tryd.prog 13 #[.slice av10 lp.length c10, .slice av11 lp.length c11] (Sort.grow (redrawn w7 d) os) fun e w'' => e = .returned (.bool true) ∧ ∃ p : Regrown, w'' = Sort.grow (redrawn w7 p.d) p.os) := fun d os => Calls.regrown_of (same_pairs (by omega) (HAL.out.2.1.later (GR d os)) (HAL.out.2.2.later (GR d os)))
  have C14 : Hid (∀ d os, Calls Tryd.prog 14 #[.slice av1 n cap1] (Sort.grow (redrawn w7 d) os) fun e w'' => e = .returned (.string (bs (textsL ls))) ∧ ∃ p : Regrown, w'' = Sort.grow (redrawn w7 p.d) p.os) := fun d os => Calls.regrown_of (H14.out _ (GR2 d os))
  have C15 : Hid (∀ d os, Calls Tryd.prog 15 #[.slice av n cap] (Sort.grow (redrawn w7 d) os) fun e w'' => e = .returned (.string (bs (textsL ls))) ∧ ∃ p : Regrown, w'' = Sort.grow (redrawn w7 p.d) p.os) := fun d os => Calls.regrown_of (H15.out _ (GR2 d os))
  have C16 : Hid (∀ d os, Calls Tryd.prog 16 #[.slice av1 n cap1, .slice av n cap] (Sort.grow (redrawn w7 d) os) fun e w'' => e = .returned (.bool true) ∧ ∃ p : Regrown, w'' = Sort.grow (redrawn w7 p.d) p.os) := fun d os => Calls.regrown_of (H16.out _ (GR2 d os))
  have C17 : Hid (∀ d os, Calls Tryd.prog 17 #[.int .i64 t] (Sort.grow (redrawn w7 d) os) fun e w'' => e = .returned (.agg #[.int .i64 t, .int .i64 0, .int .i64 0, .int .i64 0, .int .i64 0, .int .i64 0, .int .i64 0]) ∧ ∃ p : Regrown, w'' = Sort.grow (redrawn w7 p.d) p.os) := fun d os => Calls.regrown_of (label_any t _)
  have C18 : Hid (∀ d os, Calls Tryd.prog 18 #[.agg #[.int .i64 op, .int .i64 a, .int .i64 0, .int .i64 0, .int .i64 0]] (Sort.grow (redrawn w7 d) os) fun e w'' => e = .returned (.agg #[.int .i64 0, .int .i64 op, .int .i64 a, .int .i64 0, .int .i64 0, .int .i64 0, .int .i64 0]) ∧ ∃ p : Regrown, w'' = Sort.grow (redrawn w7 p.d) p.os) := fun d os => Calls.regrown_of (plain_any op a 0 0 0 _)
  have C19 : Hid (∀ d os, Calls Tryd.prog 19 #[.int .i64 op, .int .i64 a, .int .i64 t] (Sort.grow (redrawn w7 d) os) fun e w'' => e = .returned (.agg #[.int .i64 0, .int .i64 op, .int .i64 a, .int .i64 0, .int .i64 0, .int .i64 0, .int .i64 t]) ∧ ∃ p : Regrown, w'' = Sort.grow (redrawn w7 p.d) p.os) := fun d os => Calls.regrown_of (jump_any op a t _)
  have HBF : Hid (Below w.heap.size w w7) := bel_two HB2.out HB7.out
  have y1 := eqlL_same t 0 0 0 0 0 0
  have y2 := eqlL_same 0 op a 0 0 0 0
  have y3 := eqlL_same 0 op a 0 0 0 t
  have z1 : (ec == ec) = true := by simp
  have z2 : (ep == ep) = true := by simp
  clear hb7 hk7 GR GR2
  generalize textsL ls = tl at *
  generalize lc.length = ln at *
  generalize lp.length = pn at *
  refine wp_region_quiet_below (by kernel_rfl) (by kernel_rfl) ?_
  repeat (go_big_quiet_step (first | (go_at_call 12; exact C12.out _ _) | (go_at_call 13; exact C13.out _ _) | (go_at_call 14; exact C14.out _ _) | (go_at_call 15; exact C15.out _ _) | (go_at_call 16; exact C16.out _ _) | (go_at_call 17; exact C17.out _ _) | (go_at_call 18; exact C18.out _ _) | (go_at_call 19; exact C19.out _ _)))
  refine wpQuiet_nil ?_
  intro w8 hw'
  have hb8 : Below w7.heap.size w7 w8 := by obtain ⟨⟨dq, osq⟩, hw''⟩ := hw'; rw [hw'']; exact below_regrown w7 dq osq
  have HB8 : Hid (Below w.heap.size w w8) := bel_two HBF.out hb8
  clear hw' hb8
  go_wp2
  go_ret
  exact ⟨rfl, HB8.out⟩

end Go.Proofs.YtbfmadcppnfgpaaDoor
