/-
  The document's own Lex (layer 9): its contract.
-/
import Derived.Test.YtekangigfhhkoaaRef
namespace Go.Proofs.Ytekangigfhhkoaa
open Go.ChangeShapes Go.WideShapes Go.ChangeAt Go.RowKit Go.Shelf

theorem from_le (s : ByteArray) (p : UInt8 → Bool) (k : Nat) (hk : k ≤ s.size) : k + cnt p (s.data.toList.drop k) ≤ s.size := by
  have := cnt_le p (s.data.toList.drop k)
  rw [List.length_drop, s_size] at this
  omega
theorem from_yes (s : ByteArray) (p : UInt8 → Bool) (k j : Nat) (h1 : k ≤ j) (h2 : j < k + cnt p (s.data.toList.drop k)) (hj : j < s.size) : p (s[j]'hj) = true := by
  have h := cnt_yes p (s.data.toList.drop k) (j - k) (by omega)
  rw [List.getElem_drop] at h
  simp only [show k + (j - k) = j by omega] at h
  rw [s_at s j hj] at h; exact h
theorem from_no (s : ByteArray) (p : UInt8 → Bool) (k j : Nat) (hk : k ≤ s.size) (h2 : j = k + cnt p (s.data.toList.drop k)) (hj : j < s.size) : p (s[j]'hj) = false := by
  subst h2
  have h := cnt_no p (s.data.toList.drop k) (by rw [List.length_drop, s_size]; omega)
  rw [List.getElem_drop] at h
  rw [s_at s _ hj] at h; exact h
theorem sl_at (s : ByteArray) (k : Nat) (hk : k < s.size) : sl (s.data.toList.drop k) = true ↔ (s[k]'hk).toNat = 47 ∧ ∃ h : k + 1 < s.size, (s[k + 1]'h).toNat = 47 := by
  rw [drop_at s k hk]
  by_cases h1 : k + 1 < s.size
  · rw [drop_at s (k + 1) h1]
    simp [sl, h1]
  · rw [List.drop_of_length_le (by rw [s_size]; omega)]
    simp [sl, h1]

set_option maxRecDepth 100000 in
set_option maxHeartbeats 100000000 in
theorem lexR_s (s : ByteArray) (hl : s.size ≤ 65536) (w0 : World) :
    Calls Try.prog 11 #[.string s] w0 fun e w' => ∃ r, e = .returned r ∧ LexAns s.data.toList w0.heap.size r w' ∧ Below w0.heap.size w0 w' := by
  have e0 : ((65536 : Int) < (s.size : Int)) = False := eq_false (by omega)
  obtain ⟨base, hbase⟩ : ∃ b, b = w0.heap.size := ⟨_, rfl⟩
  have HBASE := hide hbase
  have hss := s_size s
  rw [← hbase]
  clear hbase
  go_enter Try.func11, Try.ntmps11
  go_wp2
  go_loopw [5, 6] (fun o a wr => ∃ (k : Nat) (ts : List Tok) (v : Value), v = o ∧ a = .int .i64 (k : Int) ∧ k ≤ s.size ∧ lexS s.data.toList = (ts ++ (restL k (s.data.toList.drop k)).1, (restL k (s.data.toList.drop k)).2) ∧ wr.ownsRow base 30 3 v ts.length (ts.flatMap tcells) ∧ Below w0.heap.size w0 wr) (fun _ a _ => s.size - (RowKit.intOf a).toNat)
  case atStart => exact ⟨0, [], .slice none 0 0, rfl, rfl, Nat.zero_le _, by rw [List.drop_zero, ← lexS_rest]; rfl, World.ownsRow_nil _ _ _ _, Below.refl _ _⟩
  case round =>
    obtain ⟨k, ts, v, rfl, rfl, hk, hlx, hown, hbw⟩ := hrel
    have HLX := hide hlx
    have HO := hide hown
    have HBW := hide hbw
    have HTS : Hid (ts.length ≤ 65536) := by
      have h1 := lexS_len s.data.toList
      rw [hlx, hss] at h1
      simp only [List.length_append] at h1
      rw [Hid]; omega
    clear hlx hown hbw
    by_cases hlt : k < s.size
    · have e1 : ((k : Int) < (s.size : Int)) = True := eq_true (by omega)
      have HBL := blankR_is (s[k]'hlt) wr
      have hdk := drop_at s k hlt
      by_cases hbl : blank (s[k]'hlt) = true
      · rw [hbl] at HBL
        have HLX2 : Hid (lexS s.data.toList = (ts ++ (restL (k + 1) (s.data.toList.drop (k + 1))).1, (restL (k + 1) (s.data.toList.drop (k + 1))).2)) := by
          rw [Hid, HLX.out, hdk, restL_blank k hbl]
        clear hbl hdk
        go_wp2_with fail
        refine HBL.mono ?_
        rintro e w' ⟨rfl, rfl⟩
        go_wp2
        go_roundw
        case rel => exact ⟨k + 1, ts, v, rfl, by go_num, hlt, HLX2.out, HO.out, HBW.out⟩
        case measure => simp [RowKit.intOf]; omega
      have hbl' : blank (s[k]'hlt) = false := by simpa using hbl
      rw [hbl'] at HBL
      by_cases hsl : sl (s.data.toList.drop k) = true
      · obtain ⟨h47, hk1, h47b⟩ := (sl_at s k hlt).1 hsl
        have HLX2 : Hid (lexS s.data.toList = (ts ++ (restL (k + cnt ofRow (s.data.toList.drop k)) (s.data.toList.drop (k + cnt ofRow (s.data.toList.drop k)))).1, (restL (k + cnt ofRow (s.data.toList.drop k)) (s.data.toList.drop (k + cnt ofRow (s.data.toList.drop k)))).2)) := by
          rw [Hid, HLX.out, restL_row k hsl, drop_sub]
        have hm2 := sl_row hsl
        have hle := from_le s ofRow k (by omega)
        have HY := hide (from_yes s ofRow k)
        have HN := hide (fun j => from_no s ofRow k j (by omega))
        have v1 : ((s[k]'hlt).toNat : Int) = 47 := by omega
        rw [v1] at HBL
        have v2 : ((k : Int) + 1 < (s.size : Int)) = True := eq_true (by omega)
        have v3 : ((s[k + 1]'hk1).toNat : Int) = 47 := by omega
        clear hsl h47 h47b hbl hbl' hdk
        generalize cnt ofRow (s.data.toList.drop k) = m at *
        go_wp2_with fail
        refine HBL.mono ?_
        rintro e w1 ⟨rfl, rfl⟩
        clear HBL
        go_wp2_with fail
        go_loopw [6] (fun a wq => ∃ j : Nat, a = .int .i64 (j : Int) ∧ k ≤ j ∧ j ≤ k + m ∧ wq = w1) (fun a _ => s.size - (RowKit.intOf a).toNat)
        case atStart => exact ⟨k, rfl, Nat.le_refl _, by omega, rfl⟩
        case round =>
          obtain ⟨j, rfl, hj1, hj2, rfl⟩ := hrel
          by_cases hjm : j < k + m
          · have hjs : j < s.size := by omega
            have e3 : ((j : Int) < (s.size : Int)) = True := eq_true (by omega)
            have hrow := HY.out j hj1 hjm hjs
            have f1 : (((s[j]'hjs).toNat : Int) != 10) = true := bne_iff_ne.2 (by simp [ofRow] at hrow; omega)
            have f2 : (((s[j]'hjs).toNat : Int) = 10) = False := eq_false (by simp [ofRow] at hrow; omega)
            clear hrow
            go_wp2
            go_roundw
            case rel => exact ⟨j + 1, by go_num, by omega, by omega, by first | rfl | trivial⟩
            case measure => simp [RowKit.intOf]; omega
          · have hjk : j = k + m := by omega
            by_cases hjs : j < s.size
            · have e3 : ((j : Int) < (s.size : Int)) = True := eq_true (by omega)
              have hrow := HN.out j hjk hjs
              have f1 : ((s[j]'hjs).toNat : Int) = 10 := by simp [ofRow] at hrow; omega
              have HJK := hide hjk
              clear hrow hjk hjm
              go_wp2
              go_roundw
              case rel => exact ⟨j, ts, v, rfl, rfl, by omega, by rw [HJK.out]; exact HLX2.out, HO.out, HBW.out⟩
              case measure => have := HJK.out; simp [RowKit.intOf]; omega
            · have e3 : ((j : Int) < (s.size : Int)) = False := eq_false (by omega)
              have HJK := hide hjk
              clear hjk hjm
              go_wp2
              go_roundw
              case rel => exact ⟨j, ts, v, rfl, rfl, by omega, by rw [HJK.out]; exact HLX2.out, HO.out, HBW.out⟩
              case measure => have := HJK.out; simp [RowKit.intOf]; omega
      have hsl' : sl (s.data.toList.drop k) = false := by simpa using hsl
      have hhere : restL k (s.data.toList.drop k) = toks k (s.data.toList.drop k) := by
        rw [hdk] at hsl' ⊢; exact restL_here k hbl' hsl'
      rw [hhere] at HLX
      have hfirst : first (s.data.toList.drop k) = (if letter (s[k]'hlt) = true then (1, cnt ofName (s.data.toList.drop k)) else if digit (s[k]'hlt) = true then (2, numSize (s.data.toList.drop k)) else (3, signSize (s.data.toList.drop k))) := by
        conv => lhs; rw [hdk]
        conv => rhs; rw [hdk]
        rfl
      have hne : s.data.toList.drop k ≠ [] := by rw [hdk]; simp
      have HT : Hid (∀ kd n, first (s.data.toList.drop k) = (kd, n) → n ≠ 0 → toks k (s.data.toList.drop k) = (⟨kd, (s.data.toList.drop k).take n, k⟩ :: (restL (k + n) (s.data.toList.drop (k + n))).1, (restL (k + n) (s.data.toList.drop (k + n))).2)) := fun kd n hf hn => by
        rw [toks_rest k (by rw [hf]; exact hn), hf, drop_sub]
      have HT0 : Hid ((first (s.data.toList.drop k)).2 = 0 → toks k (s.data.toList.drop k) = ([], some k)) := fun h => toks_bad k hne h
      have HF := hide hfirst
      have H1 := letterR_is (s[k]'hlt)
      have H2 := digitR_is (s[k]'hlt)
      -- the // test falls
      have hcases : ((s[k]'hlt).toNat ≠ 47) ∨ ((s[k]'hlt).toNat = 47 ∧ ¬ k + 1 < s.size) ∨ ((s[k]'hlt).toNat = 47 ∧ ∃ h : k + 1 < s.size, (s[k + 1]'h).toNat ≠ 47) := by
        by_cases a : (s[k]'hlt).toNat = 47
        · by_cases b : k + 1 < s.size
          · exact .inr (.inr ⟨a, b, fun c => hsl ((sl_at s k hlt).2 ⟨a, b, c⟩)⟩)
          · exact .inr (.inl ⟨a, b⟩)
        · exact .inl a
      clear hfirst hhere hne hsl hsl' hdk hbl hbl'
      by_cases h1 : letter (s[k]'hlt) = true
      · have h47 : (s[k]'hlt).toNat ≠ 47 := by simp [letter] at h1; omega
        have f1 : (((s[k]'hlt).toNat : Int) == 47) = false := beq_eq_false_iff_ne.2 (by omega)
        have f2 : (((s[k]'hlt).toNat : Int) = 47) = False := eq_false (by omega)
        have HL := H1 wr
        rw [h1] at HL
        obtain ⟨m, hm⟩ : ∃ m, m = cnt ofName (s.data.toList.drop k) := ⟨_, rfl⟩
        have hmp : 0 < m := by
          rw [hm, drop_at s k hlt, cnt, if_pos (by unfold ofName; rw [h1]; rfl)]; omega
        have hle := from_le s ofName k (by omega)
        have HFIRST : Hid (toks k (s.data.toList.drop k) = (⟨1, (s.data.toList.drop k).take m, k⟩ :: (restL (k + m) (s.data.toList.drop (k + m))).1, (restL (k + m) (s.data.toList.drop (k + m))).2)) := HT.out 1 m (by rw [HF.out, if_pos h1, hm]) (by omega)
        have HY := hide (from_yes s ofName k)
        have HN := hide (fun j => from_no s ofName k j (by omega))
        rw [← hm] at hle HY HN
        clear h1 h47 hcases hm H1 H2 HF HT HT0
        go_wp2_with fail
        refine HBL.mono ?_
        rintro e w1 ⟨rfl, rfl⟩
        clear HBL
        go_wp2_with fail
        refine HL.mono ?_
        rintro e w1 ⟨rfl, rfl⟩
        clear HL
        go_wp2_with fail
        go_loopw [7] (fun a wq => ∃ j : Nat, a = .int .i64 (j : Int) ∧ k ≤ j ∧ j ≤ k + m ∧ wq = w1) (fun a _ => s.size - (RowKit.intOf a).toNat)
        case atStart => exact ⟨k, rfl, Nat.le_refl _, by omega, rfl⟩
        case round =>
          obtain ⟨j, rfl, hj1, hj2, rfl⟩ := hrel
          by_cases hjm : j < k + m
          · have hjs : j < s.size := by omega
            have e3 : ((j : Int) < (s.size : Int)) = True := eq_true (by omega)
            have hnm := HY.out j hj1 hjm hjs
            have HLj := letterR_is (s[j]'hjs) wr
            have HDj := digitR_is (s[j]'hjs) wr
            by_cases hlj : letter (s[j]'hjs) = true
            · rw [hlj] at HLj
              clear hlj hnm HDj
              go_wp2_with fail
              refine HLj.mono ?_
              rintro e w2 ⟨rfl, rfl⟩
              go_wp2
              go_roundw
              case rel => exact ⟨j + 1, by go_num, by omega, by omega, by first | rfl | trivial⟩
              case measure => simp [RowKit.intOf]; omega
            · have hlj' : letter (s[j]'hjs) = false := by simpa using hlj
              rw [hlj'] at HLj
              have hdj : digit (s[j]'hjs) = true := by unfold ofName at hnm; rw [hlj'] at hnm; simpa using hnm
              rw [hdj] at HDj
              clear hlj hlj' hnm hdj
              go_wp2_with fail
              refine HLj.mono ?_
              rintro e w2 ⟨rfl, rfl⟩
              go_wp2_with fail
              refine HDj.mono ?_
              rintro e w2 ⟨rfl, rfl⟩
              go_wp2
              go_roundw
              case rel => exact ⟨j + 1, by go_num, by omega, by omega, by first | rfl | trivial⟩
              case measure => simp [RowKit.intOf]; omega
          · have hjk : j = k + m := by omega
            by_cases hjs : j < s.size
            · have e3 : ((j : Int) < (s.size : Int)) = True := eq_true (by omega)
              have hnm := HN.out j hjk hjs
              have HLj := letterR_is (s[j]'hjs) wr
              have HDj := digitR_is (s[j]'hjs) wr
              have hlj : letter (s[j]'hjs) = false := by unfold ofName at hnm; simp at hnm; exact hnm.1
              have hdj : digit (s[j]'hjs) = false := by unfold ofName at hnm; simp at hnm; exact hnm.2
              rw [hlj] at HLj
              rw [hdj] at HDj
              clear hlj hnm hdj hjm
              have HJK := hide hjk
              clear hjk
              go_wp2_with fail
              refine HLj.mono ?_
              rintro e w2 ⟨rfl, rfl⟩
              clear HLj
              go_wp2_with fail
              refine HDj.mono ?_
              rintro e w2 ⟨rfl, rfl⟩
              clear HDj
              have heq : j = k + m := HJK.out
              have hslice := run_cut s k j (k : Int) (j : Int) rfl (by omega) (by omega) (by omega)
              have hcut : s.extract k j = bs ((s.data.toList.drop k).take m) := bs_of (by rw [s_cut, heq, Nat.add_sub_cancel_left])
              rw [hcut] at hslice
              have hsize := HBW.out.size
              have hbs := HBASE.out
              have hts := HTS.out
              obtain ⟨g', cp, w', hap, ho, hgb, hat, hgl⟩ := app_tok w2 23 base v ts.length _ HO.out ⟨1, (s.data.toList.drop k).take m, k⟩ (by omega) (by omega)
              have hTn : Turns (fun b => v.ownBlock = some b) w2 w' := ⟨hgb.os, hgb.tape, hgb.output, by have := hgb.size; rw [World.size_alloc] at this; omega, fun b hb hq => (hgb.block b (by rw [World.size_alloc]; omega) (fun e => hq e.symm)).trans (Below.heap_alloc _ _ _ hb)⟩
              have HBF : Hid (Below w0.heap.size w0 w') := hTn.below HBW.out hsize (fun b hb e => by have := owns_ge HO.out b e; omega)
              have HOF : Hid (w'.ownsRow base 30 3 (.slice (some ⟨g', 0, none⟩) (ts.length + 1) cp) (ts ++ [(⟨1, (s.data.toList.drop k).take m, k⟩ : Tok)]).length ((ts ++ [(⟨1, (s.data.toList.drop k).take m, k⟩ : Tok)]).flatMap tcells)) := by
                rw [Hid, List.length_append, List.flatMap_append]; simpa using ho
              have HAP : Hid ((Builtin.append_ #[23, 23] 23 #[v, .slice (some ⟨w2.heap.size, 0, none⟩) 1 1]).run Try.prog (w2.alloc (.cells #[.int .i64 1, .string (bs ((s.data.toList.drop k).take m)), .int .i64 (k : Int)] 30)) = .ok (.slice (some ⟨g', 0, none⟩) (ts.length + 1) cp) w') := hap
              have HLX2 : Hid (lexS s.data.toList = ((ts ++ [(⟨1, (s.data.toList.drop k).take m, k⟩ : Tok)]) ++ (restL j (s.data.toList.drop j)).1, (restL j (s.data.toList.drop j)).2)) := by
                rw [Hid, HLX.out, HFIRST.out, heq]; simp
              have hend : j ≤ s.size := by omega
              have hkl : k < j := by omega
              clear hap ho hgb hat hgl hcut hTn hsize hbs hts heq
              generalize hnl : ts.length = nl at *
              clear hnl
              go_wp2_with (at_builtin; refine wpList_append_run rfl _ _ 23 rfl rfl rfl HAP.out ?_)
              go_roundw
              case rel => exact ⟨j, _, _, rfl, by first | rfl | go_num, hend, HLX2.out, HOF.out, HBF.out⟩
              case measure => simp [RowKit.intOf]; omega
            · have e3 : ((j : Int) < (s.size : Int)) = False := eq_false (by omega)
              clear hjm
              have HJK := hide hjk
              clear hjk
              have heq : j = k + m := HJK.out
              have hslice := run_cut s k j (k : Int) (j : Int) rfl (by omega) (by omega) (by omega)
              have hcut : s.extract k j = bs ((s.data.toList.drop k).take m) := bs_of (by rw [s_cut, heq, Nat.add_sub_cancel_left])
              rw [hcut] at hslice
              have hsize := HBW.out.size
              have hbs := HBASE.out
              have hts := HTS.out
              obtain ⟨g', cp, w', hap, ho, hgb, hat, hgl⟩ := app_tok wr 23 base v ts.length _ HO.out ⟨1, (s.data.toList.drop k).take m, k⟩ (by omega) (by omega)
              have hTn : Turns (fun b => v.ownBlock = some b) wr w' := ⟨hgb.os, hgb.tape, hgb.output, by have := hgb.size; rw [World.size_alloc] at this; omega, fun b hb hq => (hgb.block b (by rw [World.size_alloc]; omega) (fun e => hq e.symm)).trans (Below.heap_alloc _ _ _ hb)⟩
              have HBF : Hid (Below w0.heap.size w0 w') := hTn.below HBW.out hsize (fun b hb e => by have := owns_ge HO.out b e; omega)
              have HOF : Hid (w'.ownsRow base 30 3 (.slice (some ⟨g', 0, none⟩) (ts.length + 1) cp) (ts ++ [(⟨1, (s.data.toList.drop k).take m, k⟩ : Tok)]).length ((ts ++ [(⟨1, (s.data.toList.drop k).take m, k⟩ : Tok)]).flatMap tcells)) := by
                rw [Hid, List.length_append, List.flatMap_append]; simpa using ho
              have HAP : Hid ((Builtin.append_ #[23, 23] 23 #[v, .slice (some ⟨wr.heap.size, 0, none⟩) 1 1]).run Try.prog (wr.alloc (.cells #[.int .i64 1, .string (bs ((s.data.toList.drop k).take m)), .int .i64 (k : Int)] 30)) = .ok (.slice (some ⟨g', 0, none⟩) (ts.length + 1) cp) w') := hap
              have HLX2 : Hid (lexS s.data.toList = ((ts ++ [(⟨1, (s.data.toList.drop k).take m, k⟩ : Tok)]) ++ (restL j (s.data.toList.drop j)).1, (restL j (s.data.toList.drop j)).2)) := by
                rw [Hid, HLX.out, HFIRST.out, heq]; simp
              have hend : j ≤ s.size := by omega
              have hkl : k < j := by omega
              clear hap ho hgb hat hgl hcut hTn hsize hbs hts heq
              generalize hnl : ts.length = nl at *
              clear hnl
              go_wp2_with (at_builtin; refine wpList_append_run rfl _ _ 23 rfl rfl rfl HAP.out ?_)
              go_roundw
              case rel => exact ⟨j, _, _, rfl, by first | rfl | go_num, hend, HLX2.out, HOF.out, HBF.out⟩
              case measure => simp [RowKit.intOf]; omega
      have h1' : letter (s[k]'hlt) = false := by simpa using h1
      have HL := H1 wr
      rw [h1'] at HL
      have HD := H2 wr
      by_cases h2 : digit (s[k]'hlt) = true
      · have h47 : (s[k]'hlt).toNat ≠ 47 := by have := digit_fits _ h2; omega
        have f1 : (((s[k]'hlt).toNat : Int) == 47) = false := beq_eq_false_iff_ne.2 (by omega)
        have f2 : (((s[k]'hlt).toNat : Int) = 47) = False := eq_false (by omega)
        rw [h2] at HD
        have hf0 : first (s.data.toList.drop k) = (2, numSize (s.data.toList.drop k)) := by rw [HF.out, if_neg h1, if_pos h2]
        obtain ⟨m, hm⟩ : ∃ m, m = cnt digit (s.data.toList.drop k) := ⟨_, rfl⟩
        have hmp : 0 < m := by
          rw [hm, drop_at s k hlt, cnt, if_pos h2]; omega
        have hle := from_le s digit k (by omega)
        have hnz : numSize (s.data.toList.drop k) = if (num ((s.data.toList.drop k).take m)).isNone = true then 0 else if headLetter (s.data.toList.drop (k + m)) = true then 0 else m := by
          rw [hm, ← drop_sub]; rfl
        have HNZ := hide hnz
        have HF0 := hide hf0
        have HY := hide (from_yes s digit k)
        have HN := hide (fun j => from_no s digit k j (by omega))
        rw [← hm] at hle HY HN
        clear h1 h1' h2 h47 hcases hm H2 HF hf0 hnz
        go_wp2_with fail
        refine HBL.mono ?_
        rintro e w1 ⟨rfl, rfl⟩
        clear HBL
        go_wp2_with fail
        refine HL.mono ?_
        rintro e w1 ⟨rfl, rfl⟩
        clear HL
        go_wp2_with fail
        refine HD.mono ?_
        rintro e w1 ⟨rfl, rfl⟩
        clear HD
        go_wp2_with fail
        go_loopw [7] (fun a wq => ∃ j : Nat, a = .int .i64 (j : Int) ∧ k ≤ j ∧ j ≤ k + m ∧ wq = w1) (fun a _ => s.size - (RowKit.intOf a).toNat)
        case atStart => exact ⟨k, rfl, Nat.le_refl _, by omega, rfl⟩
        case round =>
          obtain ⟨j, rfl, hj1, hj2, rfl⟩ := hrel
          by_cases hjm : j < k + m
          · have hjs : j < s.size := by omega
            have e3 : ((j : Int) < (s.size : Int)) = True := eq_true (by omega)
            have hnm := HY.out j hj1 hjm hjs
            have HDj := digitR_is (s[j]'hjs) wr
            rw [hnm] at HDj
            clear hnm
            go_wp2_with fail
            refine HDj.mono ?_
            rintro e w2 ⟨rfl, rfl⟩
            go_wp2
            go_roundw
            case rel => exact ⟨j + 1, by go_num, by omega, by omega, by first | rfl | trivial⟩
            case measure => simp [RowKit.intOf]; omega
          · have hjk : j = k + m := by omega
            have hslice0 := run_cut s k j (k : Int) (j : Int) rfl (by omega) (by omega) (by omega)
            have hcut0 : s.extract k j = bs ((s.data.toList.drop k).take m) := bs_of (by rw [s_cut, hjk, Nat.add_sub_cancel_left])
            rw [hcut0] at hslice0
            have hNU := numberR_s (bs ((s.data.toList.drop k).take m)) (by rw [bs_size, List.length_take]; omega) wr
            rw [bs_data] at hNU
            have HJK := hide hjk
            clear hcut0 hjm hjk
            by_cases hjs : j < s.size
            · have e3 : ((j : Int) < (s.size : Int)) = True := eq_true (by omega)
              have hnm := HN.out j HJK.out hjs
              have HDj := digitR_is (s[j]'hjs) wr
              have HLj := letterR_is (s[j]'hjs) wr
              rw [hnm] at HDj
              have hhl := headLetter_at s j hjs
              rw [← HJK.out, hhl] at HNZ
              clear hnm hhl
              cases ho : num ((s.data.toList.drop k).take m) with
              | none =>
                rw [ho] at hNU HNZ
                rw [numV_none] at hNU
                have HZ : Hid ((first (s.data.toList.drop k)).2 = 0) := by rw [Hid, HF0.out]; exact HNZ.out
                clear ho HLj
                go_wp2_with fail
                refine HDj.mono ?_
                rintro e w2 ⟨rfl, rfl⟩
                clear HDj
                go_wp2_with fail
                refine hNU.mono ?_
                rintro e w2 ⟨rfl, rfl⟩
                clear hNU
                have HBAD : Hid (lexS s.data.toList = (ts, some k)) := by
                  rw [Hid, HLX.out, HT0.out HZ.out]; simp
                go_wp2
                go_ret3
                exact ⟨_, rfl, .bad ts k _ HBAD.out, by rw [HBASE.out]; exact HBW.out⟩
              | some q =>
                rw [ho] at hNU HNZ
                rw [numV_some] at hNU
                by_cases hlj : letter (s[j]'hjs) = true
                · rw [hlj] at HLj HNZ
                  have HZ : Hid ((first (s.data.toList.drop k)).2 = 0) := by rw [Hid, HF0.out]; exact HNZ.out
                  clear ho hlj
                  go_wp2_with fail
                  refine HDj.mono ?_
                  rintro e w2 ⟨rfl, rfl⟩
                  clear HDj
                  go_wp2_with fail
                  refine hNU.mono ?_
                  rintro e w2 ⟨rfl, rfl⟩
                  clear hNU
                  go_wp2_with fail
                  refine HLj.mono ?_
                  rintro e w2 ⟨rfl, rfl⟩
                  clear HLj
                  have HBAD : Hid (lexS s.data.toList = (ts, some k)) := by
                    rw [Hid, HLX.out, HT0.out HZ.out]; simp
                  go_wp2
                  go_ret3
                  exact ⟨_, rfl, .bad ts k _ HBAD.out, by rw [HBASE.out]; exact HBW.out⟩
                · have hlj' : letter (s[j]'hjs) = false := by simpa using hlj
                  rw [hlj'] at HLj HNZ
                  have hnz : numSize (s.data.toList.drop k) = m := by rw [HNZ.out]; simp
                  have HFIRST : Hid (toks k (s.data.toList.drop k) = (⟨2, (s.data.toList.drop k).take m, k⟩ :: (restL (k + m) (s.data.toList.drop (k + m))).1, (restL (k + m) (s.data.toList.drop (k + m))).2)) := HT.out 2 m (by rw [HF0.out, hnz]) (by omega)
                  clear ho hlj hlj' hnz HT0
                  go_wp2_with fail
                  refine HDj.mono ?_
                  rintro e w2 ⟨rfl, rfl⟩
                  clear HDj
                  go_wp2_with fail
                  refine hNU.mono ?_
                  rintro e w2 ⟨rfl, rfl⟩
                  clear hNU
                  go_wp2_with fail
                  refine HLj.mono ?_
                  rintro e w2 ⟨rfl, rfl⟩
                  clear HLj hslice0
                  have heq : j = k + m := HJK.out
                  have hslice := run_cut s k j (k : Int) (j : Int) rfl (by omega) (by omega) (by omega)
                  have hcut : s.extract k j = bs ((s.data.toList.drop k).take m) := bs_of (by rw [s_cut, heq, Nat.add_sub_cancel_left])
                  rw [hcut] at hslice
                  have hsize := HBW.out.size
                  have hbs := HBASE.out
                  have hts := HTS.out
                  obtain ⟨g', cp, w', hap, ho, hgb, hat, hgl⟩ := app_tok w2 23 base v ts.length _ HO.out ⟨2, (s.data.toList.drop k).take m, k⟩ (by omega) (by omega)
                  have hTn : Turns (fun b => v.ownBlock = some b) w2 w' := ⟨hgb.os, hgb.tape, hgb.output, by have := hgb.size; rw [World.size_alloc] at this; omega, fun b hb hq => (hgb.block b (by rw [World.size_alloc]; omega) (fun e => hq e.symm)).trans (Below.heap_alloc _ _ _ hb)⟩
                  have HBF : Hid (Below w0.heap.size w0 w') := hTn.below HBW.out hsize (fun b hb e => by have := owns_ge HO.out b e; omega)
                  have HOF : Hid (w'.ownsRow base 30 3 (.slice (some ⟨g', 0, none⟩) (ts.length + 1) cp) (ts ++ [(⟨2, (s.data.toList.drop k).take m, k⟩ : Tok)]).length ((ts ++ [(⟨2, (s.data.toList.drop k).take m, k⟩ : Tok)]).flatMap tcells)) := by
                    rw [Hid, List.length_append, List.flatMap_append]; simpa using ho
                  have HAP : Hid ((Builtin.append_ #[23, 23] 23 #[v, .slice (some ⟨w2.heap.size, 0, none⟩) 1 1]).run Try.prog (w2.alloc (.cells #[.int .i64 2, .string (bs ((s.data.toList.drop k).take m)), .int .i64 (k : Int)] 30)) = .ok (.slice (some ⟨g', 0, none⟩) (ts.length + 1) cp) w') := hap
                  have HLX2 : Hid (lexS s.data.toList = ((ts ++ [(⟨2, (s.data.toList.drop k).take m, k⟩ : Tok)]) ++ (restL j (s.data.toList.drop j)).1, (restL j (s.data.toList.drop j)).2)) := by
                    rw [Hid, HLX.out, HFIRST.out, heq]; simp
                  have hend : j ≤ s.size := by omega
                  have hkl : k < j := by omega
                  clear hap ho hgb hat hgl hcut hTn hsize hbs hts heq
                  generalize hnl : ts.length = nl at *
                  clear hnl
                  go_wp2_with (at_builtin; refine wpList_append_run rfl _ _ 23 rfl rfl rfl HAP.out ?_)
                  go_roundw
                  case rel => exact ⟨j, _, _, rfl, by first | rfl | go_num, hend, HLX2.out, HOF.out, HBF.out⟩
                  case measure => simp [RowKit.intOf]; omega
            · have e3 : ((j : Int) < (s.size : Int)) = False := eq_false (by omega)
              have hdl : s.data.toList.drop j = [] := List.drop_of_length_le (by rw [hss]; omega)
              rw [← HJK.out, hdl, show headLetter [] = false from rfl] at HNZ
              clear hdl
              cases ho : num ((s.data.toList.drop k).take m) with
              | none =>
                rw [ho] at hNU HNZ
                rw [numV_none] at hNU
                have HZ : Hid ((first (s.data.toList.drop k)).2 = 0) := by rw [Hid, HF0.out]; exact HNZ.out
                clear ho
                go_wp2_with fail
                refine hNU.mono ?_
                rintro e w2 ⟨rfl, rfl⟩
                clear hNU
                have HBAD : Hid (lexS s.data.toList = (ts, some k)) := by
                  rw [Hid, HLX.out, HT0.out HZ.out]; simp
                go_wp2
                go_ret3
                exact ⟨_, rfl, .bad ts k _ HBAD.out, by rw [HBASE.out]; exact HBW.out⟩
              | some q =>
                rw [ho] at hNU HNZ
                rw [numV_some] at hNU
                have hnz : numSize (s.data.toList.drop k) = m := by rw [HNZ.out]; simp
                have HFIRST : Hid (toks k (s.data.toList.drop k) = (⟨2, (s.data.toList.drop k).take m, k⟩ :: (restL (k + m) (s.data.toList.drop (k + m))).1, (restL (k + m) (s.data.toList.drop (k + m))).2)) := HT.out 2 m (by rw [HF0.out, hnz]) (by omega)
                clear ho hnz HT0
                go_wp2_with fail
                refine hNU.mono ?_
                rintro e w2 ⟨rfl, rfl⟩
                clear hNU hslice0
                have heq : j = k + m := HJK.out
                have hslice := run_cut s k j (k : Int) (j : Int) rfl (by omega) (by omega) (by omega)
                have hcut : s.extract k j = bs ((s.data.toList.drop k).take m) := bs_of (by rw [s_cut, heq, Nat.add_sub_cancel_left])
                rw [hcut] at hslice
                have hsize := HBW.out.size
                have hbs := HBASE.out
                have hts := HTS.out
                obtain ⟨g', cp, w', hap, ho, hgb, hat, hgl⟩ := app_tok w2 23 base v ts.length _ HO.out ⟨2, (s.data.toList.drop k).take m, k⟩ (by omega) (by omega)
                have hTn : Turns (fun b => v.ownBlock = some b) w2 w' := ⟨hgb.os, hgb.tape, hgb.output, by have := hgb.size; rw [World.size_alloc] at this; omega, fun b hb hq => (hgb.block b (by rw [World.size_alloc]; omega) (fun e => hq e.symm)).trans (Below.heap_alloc _ _ _ hb)⟩
                have HBF : Hid (Below w0.heap.size w0 w') := hTn.below HBW.out hsize (fun b hb e => by have := owns_ge HO.out b e; omega)
                have HOF : Hid (w'.ownsRow base 30 3 (.slice (some ⟨g', 0, none⟩) (ts.length + 1) cp) (ts ++ [(⟨2, (s.data.toList.drop k).take m, k⟩ : Tok)]).length ((ts ++ [(⟨2, (s.data.toList.drop k).take m, k⟩ : Tok)]).flatMap tcells)) := by
                  rw [Hid, List.length_append, List.flatMap_append]; simpa using ho
                have HAP : Hid ((Builtin.append_ #[23, 23] 23 #[v, .slice (some ⟨w2.heap.size, 0, none⟩) 1 1]).run Try.prog (w2.alloc (.cells #[.int .i64 2, .string (bs ((s.data.toList.drop k).take m)), .int .i64 (k : Int)] 30)) = .ok (.slice (some ⟨g', 0, none⟩) (ts.length + 1) cp) w') := hap
                have HLX2 : Hid (lexS s.data.toList = ((ts ++ [(⟨2, (s.data.toList.drop k).take m, k⟩ : Tok)]) ++ (restL j (s.data.toList.drop j)).1, (restL j (s.data.toList.drop j)).2)) := by
                  rw [Hid, HLX.out, HFIRST.out, heq]; simp
                have hend : j ≤ s.size := by omega
                have hkl : k < j := by omega
                clear hap ho hgb hat hgl hcut hTn hsize hbs hts heq
                generalize hnl : ts.length = nl at *
                clear hnl
                go_wp2_with (at_builtin; refine wpList_append_run rfl _ _ 23 rfl rfl rfl HAP.out ?_)
                go_roundw
                case rel => exact ⟨j, _, _, rfl, by first | rfl | go_num, hend, HLX2.out, HOF.out, HBF.out⟩
                case measure => simp [RowKit.intOf]; omega
      have h2' : digit (s[k]'hlt) = false := by simpa using h2
      rw [h2'] at HD
      have hf0 : first (s.data.toList.drop k) = (3, signSize (s.data.toList.drop k)) := by rw [HF.out, if_neg h1, if_neg h2]
      have HF0 := hide hf0
      have hdl : (s.data.toList.drop k).length = s.size - k := by rw [List.length_drop, hss]
      have hs1 := run_cut s k (k + 1) (k : Int) ((k : Int) + 1) rfl (by omega) (by omega) (by omega)
      have hcut1 : s.extract k (k + 1) = bs ((s.data.toList.drop k).take 1) := bs_of (by rw [s_cut, Nat.add_sub_cancel_left])
      rw [hcut1] at hs1
      have HS1 := hide (signR_s (bs ((s.data.toList.drop k).take 1)))
      have HS2 := hide (signR_s (bs ((s.data.toList.drop k).take 2)))
      rw [bs_data] at HS1 HS2
      have hcut2 : s.extract k (k + 2) = bs ((s.data.toList.drop k).take 2) := bs_of (by rw [s_cut, Nat.add_sub_cancel_left])
      have HC2 := hide hcut2
      have HZ2 : Hid (∀ b1 : k + 1 < s.size → sign ((s.data.toList.drop k).take 2) = false, sign ((s.data.toList.drop k).take 1) = false → (first (s.data.toList.drop k)).2 = 0) := fun a b => by
        rw [HF0.out]
        show signSize _ = 0
        unfold signSize
        rw [if_neg, if_neg]
        · rintro ⟨_, h⟩; rw [b] at h; cases h
        · rintro ⟨h, h'⟩; rw [a (by omega)] at h'; cases h'
      have HY2 : Hid (k + 1 < s.size → sign ((s.data.toList.drop k).take 2) = true → toks k (s.data.toList.drop k) = (⟨3, (s.data.toList.drop k).take 2, k⟩ :: (restL (k + 2) (s.data.toList.drop (k + 2))).1, (restL (k + 2) (s.data.toList.drop (k + 2))).2)) := fun a b => HT.out 3 2 (by
        rw [HF0.out]; unfold signSize; rw [if_pos ⟨by omega, b⟩]) (by decide)
      have HY1 : Hid ((k + 1 < s.size → sign ((s.data.toList.drop k).take 2) = false) → sign ((s.data.toList.drop k).take 1) = true → toks k (s.data.toList.drop k) = (⟨3, (s.data.toList.drop k).take 1, k⟩ :: (restL (k + 1) (s.data.toList.drop (k + 1))).1, (restL (k + 1) (s.data.toList.drop (k + 1))).2)) := fun a b => HT.out 3 1 (by
        rw [HF0.out]; unfold signSize
        rw [if_neg, if_pos ⟨by omega, b⟩]
        rintro ⟨h, h'⟩; rw [a (by omega)] at h'; cases h') (by decide)
      have HH := hide hcases
      clear h1 h1' h2 h2' hcases H1 H2 HF hf0 hdl hcut1 hcut2 HT
      rcases HH.out with h47 | ⟨h47, hk1⟩ | ⟨h47, hk1, h47b⟩
      · have f1 : (((s[k]'hlt).toNat : Int) == 47) = false := beq_eq_false_iff_ne.2 (by omega)
        have f2 : (((s[k]'hlt).toNat : Int) = 47) = False := eq_false (by omega)
        clear h47 HH
        by_cases hk1 : k + 1 < s.size
        · have e2 : ((k : Int) + 1 < (s.size : Int)) = True := eq_true (by omega)
          have hs2 := run_cut s k (k + 2) (k : Int) ((k : Int) + 2) rfl (by omega) (by omega) (by omega)
          rw [HC2.out] at hs2
          by_cases hsB : sign ((s.data.toList.drop k).take 2) = true
          · have HFIRST := hide (HY2.out hk1 hsB)
            rw [hsB] at HS2
            clear hsB HY1 HY2 HZ2 HT0 hs1
            go_wp2_with fail
            refine HBL.mono ?_
            rintro e w1 ⟨rfl, rfl⟩
            clear HBL
            go_wp2_with fail
            refine HL.mono ?_
            rintro e w1 ⟨rfl, rfl⟩
            clear HL
            go_wp2_with fail
            refine HD.mono ?_
            rintro e w1 ⟨rfl, rfl⟩
            clear HD
            go_wp2_with fail
            refine (HS2.out _).mono ?_
            rintro e w2 ⟨rfl, hb2⟩
            have HBWx := hide (HBW.out.trans (hb2.mono HBW.out.size))
            have HOx := hide (owns_below HO.out hb2)
            clear hb2
            have heq : (k + 2) = k + 2 := rfl
            have hslice := run_cut s k (k + 2) (k : Int) ((k : Int) + 2) rfl (by omega) (by omega) (by omega)
            have hcut : s.extract k (k + 2) = bs ((s.data.toList.drop k).take 2) := bs_of (by rw [s_cut, heq, Nat.add_sub_cancel_left])
            rw [hcut] at hslice
            have hsize := HBWx.out.size
            have hbs := HBASE.out
            have hts := HTS.out
            obtain ⟨g', cp, w', hap, ho, hgb, hat, hgl⟩ := app_tok w2 23 base v ts.length _ HOx.out ⟨3, (s.data.toList.drop k).take 2, k⟩ (by omega) (by omega)
            have hTn : Turns (fun b => v.ownBlock = some b) w2 w' := ⟨hgb.os, hgb.tape, hgb.output, by have := hgb.size; rw [World.size_alloc] at this; omega, fun b hb hq => (hgb.block b (by rw [World.size_alloc]; omega) (fun e => hq e.symm)).trans (Below.heap_alloc _ _ _ hb)⟩
            have HBF : Hid (Below w0.heap.size w0 w') := hTn.below HBWx.out hsize (fun b hb e => by have := owns_ge HOx.out b e; omega)
            have HOF : Hid (w'.ownsRow base 30 3 (.slice (some ⟨g', 0, none⟩) (ts.length + 1) cp) (ts ++ [(⟨3, (s.data.toList.drop k).take 2, k⟩ : Tok)]).length ((ts ++ [(⟨3, (s.data.toList.drop k).take 2, k⟩ : Tok)]).flatMap tcells)) := by
              rw [Hid, List.length_append, List.flatMap_append]; simpa using ho
            have HAP : Hid ((Builtin.append_ #[23, 23] 23 #[v, .slice (some ⟨w2.heap.size, 0, none⟩) 1 1]).run Try.prog (w2.alloc (.cells #[.int .i64 3, .string (bs ((s.data.toList.drop k).take 2)), .int .i64 (k : Int)] 30)) = .ok (.slice (some ⟨g', 0, none⟩) (ts.length + 1) cp) w') := hap
            have HLX2 : Hid (lexS s.data.toList = ((ts ++ [(⟨3, (s.data.toList.drop k).take 2, k⟩ : Tok)]) ++ (restL (k + 2) (s.data.toList.drop (k + 2))).1, (restL (k + 2) (s.data.toList.drop (k + 2))).2)) := by
              rw [Hid, HLX.out, HFIRST.out, heq]; simp
            have hend : (k + 2) ≤ s.size := by omega
            have hkl : k < (k + 2) := by omega
            clear hap ho hgb hat hgl hcut hTn hsize hbs hts heq
            generalize hnl : ts.length = nl at *
            clear hnl
            go_wp2_with (at_builtin; refine wpList_append_run rfl _ _ 23 rfl rfl rfl HAP.out ?_)
            go_roundw
            case rel => exact ⟨(k + 2), _, _, rfl, by first | rfl | go_num, hend, HLX2.out, HOF.out, HBF.out⟩
            case measure => simp [RowKit.intOf]; omega
          · have hs2F : sign ((s.data.toList.drop k).take 2) = false := by simpa using hsB
            rw [hs2F] at HS2
            go_wp2_with fail
            refine HBL.mono ?_
            rintro e w1 ⟨rfl, rfl⟩
            clear HBL
            go_wp2_with fail
            refine HL.mono ?_
            rintro e w1 ⟨rfl, rfl⟩
            clear HL
            go_wp2_with fail
            refine HD.mono ?_
            rintro e w1 ⟨rfl, rfl⟩
            clear HD
            go_wp2_with fail
            refine (HS2.out _).mono ?_
            rintro e w2 ⟨rfl, hb2⟩
            have HBWx := hide (HBW.out.trans (hb2.mono HBW.out.size))
            have HOx := hide (owns_below HO.out hb2)
            clear hb2
            by_cases hsA : sign ((s.data.toList.drop k).take 1) = true
            · have HFIRST := hide (HY1.out (fun _ => hs2F) hsA)
              rw [hsA] at HS1
              clear hsA HY1 HY2 HZ2 HT0 hs2F
              go_wp2_with fail
              refine (HS1.out _).mono ?_
              rintro e w3 ⟨rfl, hb2⟩
              have HBWy := hide (HBWx.out.trans (hb2.mono HBWx.out.size))
              have HOy := hide (owns_below HOx.out hb2)
              clear hb2
              have heq : (k + 1) = k + 1 := rfl
              have hslice := run_cut s k (k + 1) (k : Int) ((k : Int) + 1) rfl (by omega) (by omega) (by omega)
              have hcut : s.extract k (k + 1) = bs ((s.data.toList.drop k).take 1) := bs_of (by rw [s_cut, heq, Nat.add_sub_cancel_left])
              rw [hcut] at hslice
              have hsize := HBWy.out.size
              have hbs := HBASE.out
              have hts := HTS.out
              obtain ⟨g', cp, w', hap, ho, hgb, hat, hgl⟩ := app_tok w3 23 base v ts.length _ HOy.out ⟨3, (s.data.toList.drop k).take 1, k⟩ (by omega) (by omega)
              have hTn : Turns (fun b => v.ownBlock = some b) w3 w' := ⟨hgb.os, hgb.tape, hgb.output, by have := hgb.size; rw [World.size_alloc] at this; omega, fun b hb hq => (hgb.block b (by rw [World.size_alloc]; omega) (fun e => hq e.symm)).trans (Below.heap_alloc _ _ _ hb)⟩
              have HBF : Hid (Below w0.heap.size w0 w') := hTn.below HBWy.out hsize (fun b hb e => by have := owns_ge HOy.out b e; omega)
              have HOF : Hid (w'.ownsRow base 30 3 (.slice (some ⟨g', 0, none⟩) (ts.length + 1) cp) (ts ++ [(⟨3, (s.data.toList.drop k).take 1, k⟩ : Tok)]).length ((ts ++ [(⟨3, (s.data.toList.drop k).take 1, k⟩ : Tok)]).flatMap tcells)) := by
                rw [Hid, List.length_append, List.flatMap_append]; simpa using ho
              have HAP : Hid ((Builtin.append_ #[23, 23] 23 #[v, .slice (some ⟨w3.heap.size, 0, none⟩) 1 1]).run Try.prog (w3.alloc (.cells #[.int .i64 3, .string (bs ((s.data.toList.drop k).take 1)), .int .i64 (k : Int)] 30)) = .ok (.slice (some ⟨g', 0, none⟩) (ts.length + 1) cp) w') := hap
              have HLX2 : Hid (lexS s.data.toList = ((ts ++ [(⟨3, (s.data.toList.drop k).take 1, k⟩ : Tok)]) ++ (restL (k + 1) (s.data.toList.drop (k + 1))).1, (restL (k + 1) (s.data.toList.drop (k + 1))).2)) := by
                rw [Hid, HLX.out, HFIRST.out, heq]; simp
              have hend : (k + 1) ≤ s.size := by omega
              have hkl : k < (k + 1) := by omega
              clear hap ho hgb hat hgl hcut hTn hsize hbs hts heq
              generalize hnl : ts.length = nl at *
              clear hnl
              go_wp2_with (at_builtin; refine wpList_append_run rfl _ _ 23 rfl rfl rfl HAP.out ?_)
              go_roundw
              case rel => exact ⟨(k + 1), _, _, rfl, by first | rfl | go_num, hend, HLX2.out, HOF.out, HBF.out⟩
              case measure => simp [RowKit.intOf]; omega
            · have hsA' : sign ((s.data.toList.drop k).take 1) = false := by simpa using hsA
              have HZ := hide (HZ2.out (fun _ => hs2F) hsA')
              rw [hsA'] at HS1
              clear hsA hsA' HY1 HY2 hs2F
              go_wp2_with fail
              refine (HS1.out _).mono ?_
              rintro e w3 ⟨rfl, hb2⟩
              have HBWy := hide (HBWx.out.trans (hb2.mono HBWx.out.size))
              have HOy := hide (owns_below HOx.out hb2)
              clear hb2
              have HBAD : Hid (lexS s.data.toList = (ts, some k)) := by
                rw [Hid, HLX.out, HT0.out HZ.out]; simp
              go_wp2
              go_ret3
              exact ⟨_, rfl, .bad ts k _ HBAD.out, by rw [HBASE.out]; exact HBWy.out⟩
        · have e2 : ((k : Int) + 1 < (s.size : Int)) = False := eq_false (by omega)
          by_cases hsA : sign ((s.data.toList.drop k).take 1) = true
          · have HFIRST := hide (HY1.out (fun h => absurd h (by omega)) hsA)
            rw [hsA] at HS1
            clear hsA HY1 HY2 HZ2 HT0 
            go_wp2_with fail
            refine HBL.mono ?_
            rintro e w1 ⟨rfl, rfl⟩
            clear HBL
            go_wp2_with fail
            refine HL.mono ?_
            rintro e w1 ⟨rfl, rfl⟩
            clear HL
            go_wp2_with fail
            refine HD.mono ?_
            rintro e w1 ⟨rfl, rfl⟩
            clear HD
            go_wp2_with fail
            refine (HS1.out _).mono ?_
            rintro e w3 ⟨rfl, hb2⟩
            have HBWy := hide (HBW.out.trans (hb2.mono HBW.out.size))
            have HOy := hide (owns_below HO.out hb2)
            clear hb2
            have heq : (k + 1) = k + 1 := rfl
            have hslice := run_cut s k (k + 1) (k : Int) ((k : Int) + 1) rfl (by omega) (by omega) (by omega)
            have hcut : s.extract k (k + 1) = bs ((s.data.toList.drop k).take 1) := bs_of (by rw [s_cut, heq, Nat.add_sub_cancel_left])
            rw [hcut] at hslice
            have hsize := HBWy.out.size
            have hbs := HBASE.out
            have hts := HTS.out
            obtain ⟨g', cp, w', hap, ho, hgb, hat, hgl⟩ := app_tok w3 23 base v ts.length _ HOy.out ⟨3, (s.data.toList.drop k).take 1, k⟩ (by omega) (by omega)
            have hTn : Turns (fun b => v.ownBlock = some b) w3 w' := ⟨hgb.os, hgb.tape, hgb.output, by have := hgb.size; rw [World.size_alloc] at this; omega, fun b hb hq => (hgb.block b (by rw [World.size_alloc]; omega) (fun e => hq e.symm)).trans (Below.heap_alloc _ _ _ hb)⟩
            have HBF : Hid (Below w0.heap.size w0 w') := hTn.below HBWy.out hsize (fun b hb e => by have := owns_ge HOy.out b e; omega)
            have HOF : Hid (w'.ownsRow base 30 3 (.slice (some ⟨g', 0, none⟩) (ts.length + 1) cp) (ts ++ [(⟨3, (s.data.toList.drop k).take 1, k⟩ : Tok)]).length ((ts ++ [(⟨3, (s.data.toList.drop k).take 1, k⟩ : Tok)]).flatMap tcells)) := by
              rw [Hid, List.length_append, List.flatMap_append]; simpa using ho
            have HAP : Hid ((Builtin.append_ #[23, 23] 23 #[v, .slice (some ⟨w3.heap.size, 0, none⟩) 1 1]).run Try.prog (w3.alloc (.cells #[.int .i64 3, .string (bs ((s.data.toList.drop k).take 1)), .int .i64 (k : Int)] 30)) = .ok (.slice (some ⟨g', 0, none⟩) (ts.length + 1) cp) w') := hap
            have HLX2 : Hid (lexS s.data.toList = ((ts ++ [(⟨3, (s.data.toList.drop k).take 1, k⟩ : Tok)]) ++ (restL (k + 1) (s.data.toList.drop (k + 1))).1, (restL (k + 1) (s.data.toList.drop (k + 1))).2)) := by
              rw [Hid, HLX.out, HFIRST.out, heq]; simp
            have hend : (k + 1) ≤ s.size := by omega
            have hkl : k < (k + 1) := by omega
            clear hap ho hgb hat hgl hcut hTn hsize hbs hts heq
            generalize hnl : ts.length = nl at *
            clear hnl
            go_wp2_with (at_builtin; refine wpList_append_run rfl _ _ 23 rfl rfl rfl HAP.out ?_)
            go_roundw
            case rel => exact ⟨(k + 1), _, _, rfl, by first | rfl | go_num, hend, HLX2.out, HOF.out, HBF.out⟩
            case measure => simp [RowKit.intOf]; omega
          · have hsA' : sign ((s.data.toList.drop k).take 1) = false := by simpa using hsA
            have HZ := hide (HZ2.out (fun h => absurd h (by omega)) hsA')
            rw [hsA'] at HS1
            clear hsA hsA' HY1 HY2 
            go_wp2_with fail
            refine HBL.mono ?_
            rintro e w1 ⟨rfl, rfl⟩
            clear HBL
            go_wp2_with fail
            refine HL.mono ?_
            rintro e w1 ⟨rfl, rfl⟩
            clear HL
            go_wp2_with fail
            refine HD.mono ?_
            rintro e w1 ⟨rfl, rfl⟩
            clear HD
            go_wp2_with fail
            refine (HS1.out _).mono ?_
            rintro e w3 ⟨rfl, hb2⟩
            have HBWy := hide (HBW.out.trans (hb2.mono HBW.out.size))
            have HOy := hide (owns_below HO.out hb2)
            clear hb2
            have HBAD : Hid (lexS s.data.toList = (ts, some k)) := by
              rw [Hid, HLX.out, HT0.out HZ.out]; simp
            go_wp2
            go_ret3
            exact ⟨_, rfl, .bad ts k _ HBAD.out, by rw [HBASE.out]; exact HBWy.out⟩
      · have v1 : ((s[k]'hlt).toNat : Int) = 47 := by omega
        rw [v1] at HBL HL HD
        have e2 : ((k : Int) + 1 < (s.size : Int)) = False := eq_false (by omega)
        clear h47 HH
        by_cases hsA : sign ((s.data.toList.drop k).take 1) = true
        · have HFIRST := hide (HY1.out (fun h => absurd h (by omega)) hsA)
          rw [hsA] at HS1
          clear hsA HY1 HY2 HZ2 HT0 
          go_wp2_with fail
          refine HBL.mono ?_
          rintro e w1 ⟨rfl, rfl⟩
          clear HBL
          go_wp2_with fail
          refine HL.mono ?_
          rintro e w1 ⟨rfl, rfl⟩
          clear HL
          go_wp2_with fail
          refine HD.mono ?_
          rintro e w1 ⟨rfl, rfl⟩
          clear HD
          go_wp2_with fail
          refine (HS1.out _).mono ?_
          rintro e w3 ⟨rfl, hb2⟩
          have HBWy := hide (HBW.out.trans (hb2.mono HBW.out.size))
          have HOy := hide (owns_below HO.out hb2)
          clear hb2
          have heq : (k + 1) = k + 1 := rfl
          have hslice := run_cut s k (k + 1) (k : Int) ((k : Int) + 1) rfl (by omega) (by omega) (by omega)
          have hcut : s.extract k (k + 1) = bs ((s.data.toList.drop k).take 1) := bs_of (by rw [s_cut, heq, Nat.add_sub_cancel_left])
          rw [hcut] at hslice
          have hsize := HBWy.out.size
          have hbs := HBASE.out
          have hts := HTS.out
          obtain ⟨g', cp, w', hap, ho, hgb, hat, hgl⟩ := app_tok w3 23 base v ts.length _ HOy.out ⟨3, (s.data.toList.drop k).take 1, k⟩ (by omega) (by omega)
          have hTn : Turns (fun b => v.ownBlock = some b) w3 w' := ⟨hgb.os, hgb.tape, hgb.output, by have := hgb.size; rw [World.size_alloc] at this; omega, fun b hb hq => (hgb.block b (by rw [World.size_alloc]; omega) (fun e => hq e.symm)).trans (Below.heap_alloc _ _ _ hb)⟩
          have HBF : Hid (Below w0.heap.size w0 w') := hTn.below HBWy.out hsize (fun b hb e => by have := owns_ge HOy.out b e; omega)
          have HOF : Hid (w'.ownsRow base 30 3 (.slice (some ⟨g', 0, none⟩) (ts.length + 1) cp) (ts ++ [(⟨3, (s.data.toList.drop k).take 1, k⟩ : Tok)]).length ((ts ++ [(⟨3, (s.data.toList.drop k).take 1, k⟩ : Tok)]).flatMap tcells)) := by
            rw [Hid, List.length_append, List.flatMap_append]; simpa using ho
          have HAP : Hid ((Builtin.append_ #[23, 23] 23 #[v, .slice (some ⟨w3.heap.size, 0, none⟩) 1 1]).run Try.prog (w3.alloc (.cells #[.int .i64 3, .string (bs ((s.data.toList.drop k).take 1)), .int .i64 (k : Int)] 30)) = .ok (.slice (some ⟨g', 0, none⟩) (ts.length + 1) cp) w') := hap
          have HLX2 : Hid (lexS s.data.toList = ((ts ++ [(⟨3, (s.data.toList.drop k).take 1, k⟩ : Tok)]) ++ (restL (k + 1) (s.data.toList.drop (k + 1))).1, (restL (k + 1) (s.data.toList.drop (k + 1))).2)) := by
            rw [Hid, HLX.out, HFIRST.out, heq]; simp
          have hend : (k + 1) ≤ s.size := by omega
          have hkl : k < (k + 1) := by omega
          clear hap ho hgb hat hgl hcut hTn hsize hbs hts heq
          generalize hnl : ts.length = nl at *
          clear hnl
          go_wp2_with (at_builtin; refine wpList_append_run rfl _ _ 23 rfl rfl rfl HAP.out ?_)
          go_roundw
          case rel => exact ⟨(k + 1), _, _, rfl, by first | rfl | go_num, hend, HLX2.out, HOF.out, HBF.out⟩
          case measure => simp [RowKit.intOf]; omega
        · have hsA' : sign ((s.data.toList.drop k).take 1) = false := by simpa using hsA
          have HZ := hide (HZ2.out (fun h => absurd h (by omega)) hsA')
          rw [hsA'] at HS1
          clear hsA hsA' HY1 HY2 
          go_wp2_with fail
          refine HBL.mono ?_
          rintro e w1 ⟨rfl, rfl⟩
          clear HBL
          go_wp2_with fail
          refine HL.mono ?_
          rintro e w1 ⟨rfl, rfl⟩
          clear HL
          go_wp2_with fail
          refine HD.mono ?_
          rintro e w1 ⟨rfl, rfl⟩
          clear HD
          go_wp2_with fail
          refine (HS1.out _).mono ?_
          rintro e w3 ⟨rfl, hb2⟩
          have HBWy := hide (HBW.out.trans (hb2.mono HBW.out.size))
          have HOy := hide (owns_below HO.out hb2)
          clear hb2
          have HBAD : Hid (lexS s.data.toList = (ts, some k)) := by
            rw [Hid, HLX.out, HT0.out HZ.out]; simp
          go_wp2
          go_ret3
          exact ⟨_, rfl, .bad ts k _ HBAD.out, by rw [HBASE.out]; exact HBWy.out⟩
      · have v1 : ((s[k]'hlt).toNat : Int) = 47 := by omega
        rw [v1] at HBL HL HD
        have e2 : ((k : Int) + 1 < (s.size : Int)) = True := eq_true (by omega)
        have f3 : (((s[k + 1]'hk1).toNat : Int) == 47) = false := beq_eq_false_iff_ne.2 (by omega)
        have f4 : (((s[k + 1]'hk1).toNat : Int) = 47) = False := eq_false (by omega)
        clear h47 h47b HH
        have hs2 := run_cut s k (k + 2) (k : Int) ((k : Int) + 2) rfl (by omega) (by omega) (by omega)
        rw [HC2.out] at hs2
        by_cases hsB : sign ((s.data.toList.drop k).take 2) = true
        · have HFIRST := hide (HY2.out hk1 hsB)
          rw [hsB] at HS2
          clear hsB HY1 HY2 HZ2 HT0 hs1
          go_wp2_with fail
          refine HBL.mono ?_
          rintro e w1 ⟨rfl, rfl⟩
          clear HBL
          go_wp2_with fail
          refine HL.mono ?_
          rintro e w1 ⟨rfl, rfl⟩
          clear HL
          go_wp2_with fail
          refine HD.mono ?_
          rintro e w1 ⟨rfl, rfl⟩
          clear HD
          go_wp2_with fail
          refine (HS2.out _).mono ?_
          rintro e w2 ⟨rfl, hb2⟩
          have HBWx := hide (HBW.out.trans (hb2.mono HBW.out.size))
          have HOx := hide (owns_below HO.out hb2)
          clear hb2
          have heq : (k + 2) = k + 2 := rfl
          have hslice := run_cut s k (k + 2) (k : Int) ((k : Int) + 2) rfl (by omega) (by omega) (by omega)
          have hcut : s.extract k (k + 2) = bs ((s.data.toList.drop k).take 2) := bs_of (by rw [s_cut, heq, Nat.add_sub_cancel_left])
          rw [hcut] at hslice
          have hsize := HBWx.out.size
          have hbs := HBASE.out
          have hts := HTS.out
          obtain ⟨g', cp, w', hap, ho, hgb, hat, hgl⟩ := app_tok w2 23 base v ts.length _ HOx.out ⟨3, (s.data.toList.drop k).take 2, k⟩ (by omega) (by omega)
          have hTn : Turns (fun b => v.ownBlock = some b) w2 w' := ⟨hgb.os, hgb.tape, hgb.output, by have := hgb.size; rw [World.size_alloc] at this; omega, fun b hb hq => (hgb.block b (by rw [World.size_alloc]; omega) (fun e => hq e.symm)).trans (Below.heap_alloc _ _ _ hb)⟩
          have HBF : Hid (Below w0.heap.size w0 w') := hTn.below HBWx.out hsize (fun b hb e => by have := owns_ge HOx.out b e; omega)
          have HOF : Hid (w'.ownsRow base 30 3 (.slice (some ⟨g', 0, none⟩) (ts.length + 1) cp) (ts ++ [(⟨3, (s.data.toList.drop k).take 2, k⟩ : Tok)]).length ((ts ++ [(⟨3, (s.data.toList.drop k).take 2, k⟩ : Tok)]).flatMap tcells)) := by
            rw [Hid, List.length_append, List.flatMap_append]; simpa using ho
          have HAP : Hid ((Builtin.append_ #[23, 23] 23 #[v, .slice (some ⟨w2.heap.size, 0, none⟩) 1 1]).run Try.prog (w2.alloc (.cells #[.int .i64 3, .string (bs ((s.data.toList.drop k).take 2)), .int .i64 (k : Int)] 30)) = .ok (.slice (some ⟨g', 0, none⟩) (ts.length + 1) cp) w') := hap
          have HLX2 : Hid (lexS s.data.toList = ((ts ++ [(⟨3, (s.data.toList.drop k).take 2, k⟩ : Tok)]) ++ (restL (k + 2) (s.data.toList.drop (k + 2))).1, (restL (k + 2) (s.data.toList.drop (k + 2))).2)) := by
            rw [Hid, HLX.out, HFIRST.out, heq]; simp
          have hend : (k + 2) ≤ s.size := by omega
          have hkl : k < (k + 2) := by omega
          clear hap ho hgb hat hgl hcut hTn hsize hbs hts heq
          generalize hnl : ts.length = nl at *
          clear hnl
          go_wp2_with (at_builtin; refine wpList_append_run rfl _ _ 23 rfl rfl rfl HAP.out ?_)
          go_roundw
          case rel => exact ⟨(k + 2), _, _, rfl, by first | rfl | go_num, hend, HLX2.out, HOF.out, HBF.out⟩
          case measure => simp [RowKit.intOf]; omega
        · have hs2F : sign ((s.data.toList.drop k).take 2) = false := by simpa using hsB
          rw [hs2F] at HS2
          go_wp2_with fail
          refine HBL.mono ?_
          rintro e w1 ⟨rfl, rfl⟩
          clear HBL
          go_wp2_with fail
          refine HL.mono ?_
          rintro e w1 ⟨rfl, rfl⟩
          clear HL
          go_wp2_with fail
          refine HD.mono ?_
          rintro e w1 ⟨rfl, rfl⟩
          clear HD
          go_wp2_with fail
          refine (HS2.out _).mono ?_
          rintro e w2 ⟨rfl, hb2⟩
          have HBWx := hide (HBW.out.trans (hb2.mono HBW.out.size))
          have HOx := hide (owns_below HO.out hb2)
          clear hb2
          by_cases hsA : sign ((s.data.toList.drop k).take 1) = true
          · have HFIRST := hide (HY1.out (fun _ => hs2F) hsA)
            rw [hsA] at HS1
            clear hsA HY1 HY2 HZ2 HT0 hs2F
            go_wp2_with fail
            refine (HS1.out _).mono ?_
            rintro e w3 ⟨rfl, hb2⟩
            have HBWy := hide (HBWx.out.trans (hb2.mono HBWx.out.size))
            have HOy := hide (owns_below HOx.out hb2)
            clear hb2
            have heq : (k + 1) = k + 1 := rfl
            have hslice := run_cut s k (k + 1) (k : Int) ((k : Int) + 1) rfl (by omega) (by omega) (by omega)
            have hcut : s.extract k (k + 1) = bs ((s.data.toList.drop k).take 1) := bs_of (by rw [s_cut, heq, Nat.add_sub_cancel_left])
            rw [hcut] at hslice
            have hsize := HBWy.out.size
            have hbs := HBASE.out
            have hts := HTS.out
            obtain ⟨g', cp, w', hap, ho, hgb, hat, hgl⟩ := app_tok w3 23 base v ts.length _ HOy.out ⟨3, (s.data.toList.drop k).take 1, k⟩ (by omega) (by omega)
            have hTn : Turns (fun b => v.ownBlock = some b) w3 w' := ⟨hgb.os, hgb.tape, hgb.output, by have := hgb.size; rw [World.size_alloc] at this; omega, fun b hb hq => (hgb.block b (by rw [World.size_alloc]; omega) (fun e => hq e.symm)).trans (Below.heap_alloc _ _ _ hb)⟩
            have HBF : Hid (Below w0.heap.size w0 w') := hTn.below HBWy.out hsize (fun b hb e => by have := owns_ge HOy.out b e; omega)
            have HOF : Hid (w'.ownsRow base 30 3 (.slice (some ⟨g', 0, none⟩) (ts.length + 1) cp) (ts ++ [(⟨3, (s.data.toList.drop k).take 1, k⟩ : Tok)]).length ((ts ++ [(⟨3, (s.data.toList.drop k).take 1, k⟩ : Tok)]).flatMap tcells)) := by
              rw [Hid, List.length_append, List.flatMap_append]; simpa using ho
            have HAP : Hid ((Builtin.append_ #[23, 23] 23 #[v, .slice (some ⟨w3.heap.size, 0, none⟩) 1 1]).run Try.prog (w3.alloc (.cells #[.int .i64 3, .string (bs ((s.data.toList.drop k).take 1)), .int .i64 (k : Int)] 30)) = .ok (.slice (some ⟨g', 0, none⟩) (ts.length + 1) cp) w') := hap
            have HLX2 : Hid (lexS s.data.toList = ((ts ++ [(⟨3, (s.data.toList.drop k).take 1, k⟩ : Tok)]) ++ (restL (k + 1) (s.data.toList.drop (k + 1))).1, (restL (k + 1) (s.data.toList.drop (k + 1))).2)) := by
              rw [Hid, HLX.out, HFIRST.out, heq]; simp
            have hend : (k + 1) ≤ s.size := by omega
            have hkl : k < (k + 1) := by omega
            clear hap ho hgb hat hgl hcut hTn hsize hbs hts heq
            generalize hnl : ts.length = nl at *
            clear hnl
            go_wp2_with (at_builtin; refine wpList_append_run rfl _ _ 23 rfl rfl rfl HAP.out ?_)
            go_roundw
            case rel => exact ⟨(k + 1), _, _, rfl, by first | rfl | go_num, hend, HLX2.out, HOF.out, HBF.out⟩
            case measure => simp [RowKit.intOf]; omega
          · have hsA' : sign ((s.data.toList.drop k).take 1) = false := by simpa using hsA
            have HZ := hide (HZ2.out (fun _ => hs2F) hsA')
            rw [hsA'] at HS1
            clear hsA hsA' HY1 HY2 hs2F
            go_wp2_with fail
            refine (HS1.out _).mono ?_
            rintro e w3 ⟨rfl, hb2⟩
            have HBWy := hide (HBWx.out.trans (hb2.mono HBWx.out.size))
            have HOy := hide (owns_below HOx.out hb2)
            clear hb2
            have HBAD : Hid (lexS s.data.toList = (ts, some k)) := by
              rw [Hid, HLX.out, HT0.out HZ.out]; simp
            go_wp2
            go_ret3
            exact ⟨_, rfl, .bad ts k _ HBAD.out, by rw [HBASE.out]; exact HBWy.out⟩
    · have hks : k = s.size := by omega
      have e1 : ((k : Int) < (s.size : Int)) = False := eq_false (by omega)
      have hfin : lexS s.data.toList = (ts, none) := by
        rw [HLX.out, List.drop_of_length_le (by rw [hss]; omega), restL_nil]; simp
      have HFI := hide hfin
      clear hfin hks
      go_wp2
      go_ret3
      refine ⟨_, rfl, ?_, by rw [HBASE.out]; exact HBW.out⟩
      rw [← hss]
      exact .good ts v _ HFI.out HO.out

end Go.Proofs.Ytekangigfhhkoaa
