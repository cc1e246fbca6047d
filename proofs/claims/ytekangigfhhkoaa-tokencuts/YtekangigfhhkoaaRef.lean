/-
  The document's own Number, Name, Sign, Join (layer 9): their contracts.
-/
import Derived.Test.YtekangigfhhkoaaMorA
namespace Go.Proofs.Ytekangigfhhkoaa
open Go.ChangeShapes Go.WideShapes Go.ChangeAt Go.RowKit Go.Shelf

theorem num_of (s : ByteArray) (h0 : s.size ≠ 0) : num s.data.toList = if lead0 s.data.toList = true then none else numTo 0 s.data.toList := by
  unfold num
  rw [if_neg]
  intro h; exact h0 (by rw [← s_size, h]; rfl)
theorem num_fell (s : ByteArray) (h : numTo 0 s.data.toList = none) : num s.data.toList = none := by
  unfold num
  split
  · rfl
  · split
    · rfl
    · exact h
set_option maxRecDepth 100000 in
set_option maxHeartbeats 2000000 in
theorem numberR_s (s : ByteArray) (hl : s.size ≤ 100000000) (w : World) :
    Calls Try.prog 14 #[.string s] w fun e w' => e = .returned (numV (num s.data.toList)) ∧ w' = w := by
  go_enter Try.func14, Try.ntmps14
  go_wp2
  go_loopw [4, 5] (fun n i wr => ∃ m k : Nat, n = .int .i64 (m : Int) ∧ i = .int .i64 (k : Int) ∧ k ≤ s.size ∧ m ≤ 9223372036854775807 ∧ numTo m (s.data.toList.drop k) = numTo 0 s.data.toList ∧ wr = w) (fun _ i _ => s.size - (RowKit.intOf i).toNat)
  case atStart => exact ⟨0, 0, rfl, rfl, Nat.zero_le _, by omega, rfl, rfl⟩
  case round =>
    obtain ⟨m, k, rfl, rfl, hk, hm, hnt, rfl⟩ := hrel
    by_cases hlt : k < s.size
    · have e1 : ((k : Int) < (s.size : Int)) = True := eq_true (by omega)
      have H := digitR_is (s[k]'hlt) wr
      have HNT := hide hnt
      rw [drop_at s k hlt, numTo] at HNT
      clear hnt
      by_cases hd : digit (s[k]'hlt) = true
      · rw [hd] at H
        have hf := digit_fits _ hd
        rw [if_pos hd] at HNT
        obtain ⟨d, hdv⟩ : ∃ d : Nat, (s[k]'hlt).toNat = d + 48 := ⟨(s[k]'hlt).toNat - 48, by omega⟩
        have HNT' : Hid ((if (9223372036854775807 - d) / 10 < m then none else numTo (10 * m + d) (s.data.toList.drop (k + 1))) = numTo 0 s.data.toList) := by
          have := HNT.out
          rw [hdv, show d + 48 - 48 = d by omega] at this
          exact this
        have hdi : ((s[k]'hlt).toNat : Int) - 48 = (d : Int) := by omega
        have hd9 : d ≤ 9 := by omega
        clear HNT hd hf hdv
        by_cases hbig : 922337203685477580 < m
        · have e3 : ((922337203685477580 : Int) < (m : Int)) = True := eq_true (by omega)
          have HNT := HNT'
          rw [if_pos (by omega)] at HNT
          have HN := hide (num_fell s HNT.out.symm)
          clear hbig HNT' HNT
          go_wp2_with fail
          refine H.mono ?_
          rintro e w' ⟨rfl, rfl⟩
          go_wp2
          go_ret2
          exact ⟨by rw [HN.out]; rfl, rfl⟩
        · have e3 : ((922337203685477580 : Int) < (m : Int)) = False := eq_false (by omega)
          by_cases heq : m = 922337203685477580
          · have e4 : ((m : Int) == 922337203685477580) = true := beq_iff_eq.2 (by omega)
            have e4' : ((m : Int) = 922337203685477580) = True := eq_true (by omega)
            by_cases h7 : 7 < d
            · have e5 : ((7 : Int) < (d : Int)) = True := eq_true (by omega)
              have HNT := HNT'
              rw [if_pos (by omega)] at HNT
              have HN := hide (num_fell s HNT.out.symm)
              clear hbig HNT' HNT heq h7
              go_wp2_with fail
              refine H.mono ?_
              rintro e w' ⟨rfl, rfl⟩
              go_wp2
              go_ret2
              exact ⟨by rw [HN.out]; rfl, rfl⟩
            · have e5 : ((7 : Int) < (d : Int)) = False := eq_false (by omega)
              have HNT := HNT'
              rw [if_neg (by omega)] at HNT
              have b1 : 10 * m + d ≤ 9223372036854775807 := by omega
              clear hbig HNT' heq h7
              go_wp2_with fail
              refine H.mono ?_
              rintro e w' ⟨rfl, rfl⟩
              go_wp2
              go_roundw
              case rel => exact ⟨10 * m + d, k + 1, by go_num, by go_num, hlt, b1, HNT.out, by first | rfl | trivial⟩
              case measure => simp [RowKit.intOf]; omega
          · have e4 : ((m : Int) == 922337203685477580) = false := beq_eq_false_iff_ne.2 (by omega)
            have e4' : ((m : Int) = 922337203685477580) = False := eq_false (by omega)
            have HNT := HNT'
            rw [if_neg (by omega)] at HNT
            have b1 : 10 * m + d ≤ 9223372036854775807 := by omega
            clear hbig HNT' heq
            go_wp2_with fail
            refine H.mono ?_
            rintro e w' ⟨rfl, rfl⟩
            go_wp2
            go_roundw
            case rel => exact ⟨10 * m + d, k + 1, by go_num, by go_num, hlt, b1, HNT.out, by first | rfl | trivial⟩
            case measure => simp [RowKit.intOf]; omega
      · have hd' : digit (s[k]'hlt) = false := by simpa using hd
        rw [hd'] at H
        rw [if_neg hd] at HNT
        have HN := hide (num_fell s HNT.out.symm)
        clear hd hd' HNT
        go_wp2_with fail
        refine H.mono ?_
        rintro e w' ⟨rfl, rfl⟩
        go_wp2
        go_ret2
        exact ⟨by rw [HN.out]; rfl, rfl⟩
    · have hkn : k = s.size := by omega
      have e1 : ((k : Int) < (s.size : Int)) = False := eq_false (by omega)
      have HNT : Hid (numTo 0 s.data.toList = some m) := by rw [Hid, ← hnt, List.drop_of_length_le (by rw [s_size]; omega)]; rfl
      clear hnt
      by_cases h0 : s.size = 0
      · have e2 : ((s.size : Int) == 0) = true := beq_iff_eq.2 (by omega)
        have e2' : ((s.size : Int) = 0) = True := eq_true (by omega)
        have HN : Hid (num s.data.toList = none) := by
          rw [Hid, num, if_pos (List.length_eq_zero_iff.1 (by rw [s_size]; exact h0))]
        clear hkn hlt HNT h0
        go_wp2
        go_ret2
        exact ⟨by rw [HN.out]; rfl, rfl⟩
      · have e2 : ((s.size : Int) == 0) = false := beq_eq_false_iff_ne.2 (by omega)
        have e2' : ((s.size : Int) = 0) = False := eq_false (by omega)
        have hnum := num_of s h0
        by_cases h1 : s.size = 1
        · have q2 : ((1 : Int) < (s.size : Int)) = False := eq_false (by omega)
          have HN : Hid (num s.data.toList = some m) := by rw [Hid, hnum, lead0_short (by rw [s_size]; omega)]; simpa using HNT.out
          clear hnum h0 h1 hkn hlt HNT
          go_wp2
          go_ret2
          exact ⟨by rw [HN.out]; rfl, rfl⟩
        · have q2 : ((1 : Int) < (s.size : Int)) = True := eq_true (by omega)
          have h3 : 0 < s.size := by omega
          have hld := lead0_at s (by omega)
          by_cases h4 : (s[0]'h3).toNat = 48
          · have q3 : (((s[0]'h3).toNat : Int) == 48) = true := beq_iff_eq.2 (by omega)
            have HN : Hid (num s.data.toList = none) := by rw [Hid, hnum, hld, decide_eq_true h4, if_pos rfl]
            clear hnum h0 h1 hkn hlt HNT hld h4
            go_wp2
            go_ret2
            exact ⟨by rw [HN.out]; rfl, rfl⟩
          · have q3 : (((s[0]'h3).toNat : Int) == 48) = false := beq_eq_false_iff_ne.2 (by omega)
            have HN : Hid (num s.data.toList = some m) := by rw [Hid, hnum, hld, decide_eq_false h4]; simpa using HNT.out
            clear hnum h0 h1 hkn hlt HNT hld h4
            go_wp2
            go_ret2
            exact ⟨by rw [HN.out]; rfl, rfl⟩

theorem nameB_false (s : ByteArray) (k : Nat) (h : k < s.size) (hn : ofName (s[k]'h) = false) : nameB s.data.toList = false := by
  unfold nameB
  have : ¬ cnt ofName s.data.toList = s.data.toList.length := by
    intro e
    have := cnt_yes ofName s.data.toList k (by rw [e, s_size]; exact h)
    rw [s_at s k h, hn] at this; cases this
  rw [decide_eq_false this, Bool.and_false]
set_option maxRecDepth 100000 in
set_option maxHeartbeats 2000000 in
theorem nameR_s (s : ByteArray) (hl : s.size ≤ 100000000) (w : World) :
    Calls Try.prog 16 #[.string s] w fun e w' => e = .returned (.bool (nameB s.data.toList)) ∧ w' = w := by
  go_enter Try.func16, Try.ntmps16
  go_wp2
  go_loopw [3] (fun i wr => ∃ k : Nat, i = .int .i64 (k : Int) ∧ k ≤ s.size ∧ (∀ j (h : j < s.size), j < k → ofName (s[j]'h) = true) ∧ (0 < k → ∃ h : 0 < s.size, letter (s[0]'h) = true) ∧ wr = w) (fun i _ => s.size - (RowKit.intOf i).toNat)
  case atStart => exact ⟨0, rfl, Nat.zero_le _, fun j _ h => absurd h (Nat.not_lt_zero j), fun h => absurd h (Nat.lt_irrefl 0), rfl⟩
  case round =>
    obtain ⟨k, rfl, hk, hall, hhd, rfl⟩ := hrel
    have HALL := hide hall
    have HHD := hide hhd
    clear hall hhd
    by_cases hlt : k < s.size
    · have e1 : ((k : Int) < (s.size : Int)) = True := eq_true (by omega)
      have H1 := letterR_is (s[k]'hlt) wr
      have H2 := digitR_is (s[k]'hlt) wr
      have hnext : ofName (s[k]'hlt) = true → ∀ j (h : j < s.size), j < k + 1 → ofName (s[j]'h) = true := fun ho j h hj => by
        by_cases e : j = k
        · subst e; exact ho
        · exact HALL.out j h (by omega)
      by_cases h1 : letter (s[k]'hlt) = true
      · rw [h1] at H1
        have HN := hide (hnext (by unfold ofName; rw [h1]; rfl))
        have HH : Hid (0 < k + 1 → ∃ h : 0 < s.size, letter (s[0]'h) = true) := fun _ => by
          by_cases e : k = 0
          · subst e; exact ⟨hlt, h1⟩
          · exact HHD.out (by omega)
        clear h1 hnext
        go_wp2_with fail
        refine H1.mono ?_
        rintro e w' ⟨rfl, rfl⟩
        go_wp2
        go_roundw
        case rel => exact ⟨k + 1, by go_num, hlt, HN.out, HH.out, by first | rfl | trivial⟩
        case measure => simp [RowKit.intOf]; omega
      · have h1' : letter (s[k]'hlt) = false := by simpa using h1
        rw [h1'] at H1
        by_cases hk0 : k = 0
        · subst hk0
          have e2 : (((0 : Nat) : Int) == 0) = true := by simp
          have HN : Hid (nameB s.data.toList = false) := by
            rw [Hid, nameB, show headLetter s.data.toList = letter (s[0]'hlt) by rw [← headLetter_at s 0 hlt, List.drop_zero], h1']; rfl
          clear h1 h1' hnext H2
          go_wp2_with fail
          refine H1.mono ?_
          rintro e w' ⟨rfl, rfl⟩
          go_wp2
          go_ret
          exact ⟨by rw [HN.out]; rfl, rfl⟩
        · have e2 : ((k : Int) == 0) = false := beq_eq_false_iff_ne.2 (by omega)
          have e2' : ((k : Int) = 0) = False := eq_false (by omega)
          by_cases h2 : digit (s[k]'hlt) = true
          · rw [h2] at H2
            have HN := hide (hnext (by unfold ofName; rw [h2, Bool.or_true]))
            have HH : Hid (0 < k + 1 → ∃ h : 0 < s.size, letter (s[0]'h) = true) := fun _ => HHD.out (by omega)
            clear h1 h1' h2 hnext hk0
            go_wp2_with fail
            refine H1.mono ?_
            rintro e w' ⟨rfl, rfl⟩
            go_wp2_with fail
            refine H2.mono ?_
            rintro e w' ⟨rfl, rfl⟩
            go_wp2
            go_roundw
            case rel => exact ⟨k + 1, by go_num, hlt, HN.out, HH.out, by first | rfl | trivial⟩
            case measure => simp [RowKit.intOf]; omega
          · have h2' : digit (s[k]'hlt) = false := by simpa using h2
            rw [h2'] at H2
            have HN := hide (nameB_false s k hlt (by unfold ofName; rw [h1', h2']; rfl))
            clear h1 h1' h2 h2' hnext hk0
            go_wp2_with fail
            refine H1.mono ?_
            rintro e w' ⟨rfl, rfl⟩
            go_wp2_with fail
            refine H2.mono ?_
            rintro e w' ⟨rfl, rfl⟩
            go_wp2
            go_ret
            exact ⟨by rw [HN.out]; rfl, rfl⟩
    · have hkn : k = s.size := by omega
      have e1 : ((k : Int) < (s.size : Int)) = False := eq_false (by omega)
      by_cases h0 : s.size = 0
      · have e2 : ((0 : Int) < (s.size : Int)) = False := eq_false (by omega)
        have HD0 : Hid (decide (0 < s.size) = false) := decide_eq_false (by omega)
        have HN : Hid (nameB s.data.toList = false) := by
          rw [Hid, List.length_eq_zero_iff.1 (show s.data.toList.length = 0 by rw [s_size]; exact h0)]; rfl
        clear hkn hlt h0
        go_wp2
        go_ret
        exact ⟨by show Ending.returned (Value.bool (decide (0 < s.size))) = _; rw [HD0.out, HN.out], rfl⟩
      · have e2 : ((0 : Int) < (s.size : Int)) = True := eq_true (by omega)
        have HD0 : Hid (decide (0 < s.size) = true) := decide_eq_true (by omega)
        have HN : Hid (nameB s.data.toList = true) := by
          obtain ⟨h, hh⟩ := HHD.out (by omega)
          have hc : cnt ofName s.data.toList = s.data.toList.length := cnt_of ofName _ _ (Nat.le_refl _) (fun j hj => by rw [s_size] at hj; rw [s_at s j hj]; exact HALL.out j hj (by omega)) (fun h => absurd h (Nat.lt_irrefl _))
          rw [Hid, nameB, show headLetter s.data.toList = letter (s[0]'h) by rw [← headLetter_at s 0 h, List.drop_zero], hh, hc]; simp
        clear hkn hlt h0
        go_wp2
        go_ret
        exact ⟨by show Ending.returned (Value.bool (decide (0 < s.size))) = _; rw [HD0.out, HN.out], rfl⟩

abbrev signCells : Array Value := #[.string ⟨#[61, 61]⟩, .string ⟨#[33, 61]⟩, .string ⟨#[60, 61]⟩, .string ⟨#[60, 60]⟩, .string ⟨#[62, 62]⟩, .string ⟨#[40]⟩, .string ⟨#[41]⟩, .string ⟨#[123]⟩, .string ⟨#[125]⟩, .string ⟨#[91]⟩, .string ⟨#[93]⟩, .string ⟨#[44]⟩, .string ⟨#[59]⟩, .string ⟨#[46]⟩, .string ⟨#[61]⟩, .string ⟨#[43]⟩, .string ⟨#[45]⟩, .string ⟨#[42]⟩, .string ⟨#[47]⟩, .string ⟨#[37]⟩, .string ⟨#[38]⟩, .string ⟨#[124]⟩, .string ⟨#[94]⟩, .string ⟨#[60]⟩]
theorem sign_cell (k : Nat) (h : k < 24) : signCells[k]? = some (.string (bs (signsL.getD k []))) := by
  have : k = 0 ∨ k = 1 ∨ k = 2 ∨ k = 3 ∨ k = 4 ∨ k = 5 ∨ k = 6 ∨ k = 7 ∨ k = 8 ∨ k = 9 ∨ k = 10 ∨ k = 11 ∨ k = 12 ∨ k = 13 ∨ k = 14 ∨ k = 15 ∨ k = 16 ∨ k = 17 ∨ k = 18 ∨ k = 19 ∨ k = 20 ∨ k = 21 ∨ k = 22 ∨ k = 23 := by omega
  rcases this with rfl | rfl | rfl | rfl | rfl | rfl | rfl | rfl | rfl | rfl | rfl | rfl | rfl | rfl | rfl | rfl | rfl | rfl | rfl | rfl | rfl | rfl | rfl | rfl <;> rfl
set_option maxRecDepth 100000 in
theorem signs_is (w : World) : Calls Try.prog 30 #[] w fun e w' => e = .returned (.slice (some ⟨w.heap.size, 0, none⟩) 24 24) ∧ w' = w.alloc (.cells signCells 9) := by
  go_enter Try.func30, Try.ntmps30
  go_wp2
  go_ret
  exact ⟨rfl, rfl⟩
theorem sign_at {l : List UInt8} (k : Nat) (h : k < 24) (e : signsL.getD k [] = l) : sign l = true := by
  refine decide_eq_true ?_
  rw [← e, List.getD_eq_getElem?_getD, List.getElem?_eq_getElem (show k < signsL.length from h)]
  exact List.getElem_mem _
theorem sign_none {l : List UInt8} (h : ∀ j, j < 24 → signsL.getD j [] ≠ l) : sign l = false := by
  refine decide_eq_false fun hm => ?_
  obtain ⟨j, hj, e⟩ := List.getElem_of_mem hm
  exact h j hj (by rw [List.getD_eq_getElem?_getD, List.getElem?_eq_getElem hj]; exact e)
set_option maxRecDepth 100000 in
set_option maxHeartbeats 2000000 in
theorem signR_s (s : ByteArray) (w : World) :
    Calls Try.prog 18 #[.string s] w fun e w' => e = .returned (.bool (sign s.data.toList)) ∧ Below w.heap.size w w' := by
  go_enter Try.func18, Try.ntmps18
  go_wp2_with fail
  refine (signs_is w).mono ?_
  rintro e w1 ⟨rfl, hw1⟩
  have hblk : w1.heap[w.heap.size]? = some (.cells signCells 9 (0, 0)) := by rw [hw1]; exact World.alloc_heap_new w _
  have HB : Hid (Below w.heap.size w w1) := by rw [hw1]; exact bel_new w _
  have HC : Hid (∀ k, k < 24 → w1.cell? ⟨w.heap.size, 0 + k, none⟩ = some (.string (bs (signsL.getD k [])))) := fun k hk => by rw [Nat.zero_add, cell_of hblk, sign_cell k hk]
  clear hw1 hblk
  go_wp2_with fail
  go_loopw [4] (fun i wr => ∃ k : Nat, i = .int .i64 (k : Int) ∧ k ≤ 24 ∧ (∀ j, j < k → signsL.getD j [] ≠ s.data.toList) ∧ wr = w1) (fun i _ => 24 - (RowKit.intOf i).toNat)
  case atStart => exact ⟨0, rfl, by omega, fun j h => absurd h (Nat.not_lt_zero j), rfl⟩
  case round =>
    obtain ⟨k, rfl, hk, hno, rfl⟩ := hrel
    have HNO := hide hno
    clear hno
    by_cases hlt : k < 24
    · have e1 : ((k : Int) < 24) = True := eq_true (by omega)
      have c0 := HC.out k hlt
      rw [Nat.zero_add] at c0
      have hts := bs_toList (signsL.getD k [])
      have hss : s.toList = s.data.toList := ByteArray.toList_eq s
      by_cases he : signsL.getD k [] = s.data.toList
      · have HS := hide (sign_at k hlt he)
        have f1 : ((bs (signsL.getD k [])).toList == s.toList) = true := by rw [hts, hss, he]; simp
        have f1' : ((bs (signsL.getD k [])).toList = s.toList) = True := eq_true (by rw [hts, hss, he])
        clear hts hss he
        generalize bs (signsL.getD k []) = t at *
        go_wp2
        go_ret
        exact ⟨by rw [HS.out]; rfl, HB.out⟩
      · have HN : Hid (∀ j, j < k + 1 → signsL.getD j [] ≠ s.data.toList) := fun j hj => by
          by_cases e : j = k
          · rw [e]; exact he
          · exact HNO.out j (by omega)
        have f1 : ((bs (signsL.getD k [])).toList == s.toList) = false := by rw [hts, hss]; exact beq_eq_false_iff_ne.2 he
        have f1' : ((bs (signsL.getD k [])).toList = s.toList) = False := eq_false (by rw [hts, hss]; exact he)
        clear hts hss he
        generalize bs (signsL.getD k []) = t at *
        go_wp2
        go_roundw
        case rel => exact ⟨k + 1, by go_num, hlt, HN.out, by first | rfl | trivial⟩
        case measure => simp [RowKit.intOf]; omega
    · have hk24 : k = 24 := by omega
      subst hk24
      have HS := hide (sign_none HNO.out)
      go_wp2
      go_ret
      exact ⟨by rw [HS.out]; rfl, HB.out⟩

set_option maxRecDepth 100000 in
set_option maxHeartbeats 2000000 in
theorem joinR_is (v : Value) (zs : List Tz) (w : World) (hr : TokRow w v zs) (hn : zs.length ≤ 1000000) (hl : (joinL zs).length ≤ 100000000) :
    Calls Try.prog 20 #[v] w fun e w' => e = .returned (.string (bs (joinL zs))) ∧ w' = w := by
  obtain ⟨av, cap, blk, off, rfl, ha, hc⟩ := hr
  have HC := hide hc
  have HA := hide ha
  clear hc ha
  generalize hln : zs.length = n at *
  have HLN := hide hln
  clear hln
  go_enter Try.func20, Try.ntmps20
  go_wp2
  go_loopw [3, 4] (fun st i wr => ∃ (k : Nat) (l : List UInt8), st = .string (bs l) ∧ i = .int .i64 (k : Int) ∧ k ≤ n ∧ l ++ jleft k zs = joinL zs ∧ wr = w) (fun _ i _ => n - (RowKit.intOf i).toNat)
  case atStart => exact ⟨0, [], rfl, rfl, Nat.zero_le _, rfl, rfl⟩
  case round =>
    obtain ⟨k, l, rfl, rfl, hk, hj, rfl⟩ := hrel
    by_cases hlt : k < n
    · have e1 : ((k : Int) < (n : Int)) = True := eq_true (by omega)
      obtain ⟨rfl, hblk⟩ := HA.out (by omega)
      have x1 := HC.out k 1 hlt (by decide)
      rw [jleft_at zs k (by rw [HLN.out]; exact hlt)] at hj
      generalize zs.getD k z0 = x at *
      have x1 : wr.cell? ⟨blk, off + k * 3 + 1, none⟩ = some (.string (bs x.t)) := x1
      have hlen : l.length + 1 + x.t.length ≤ 100000001 := by
        have := congrArg List.length hj
        simp only [List.length_append] at this
        omega
      have h1 := bs_size l
      have h2 := bs_size x.t
      have h3 : (bs l ++ (⟨#[32]⟩ : ByteArray)).size = l.length + 1 := by rw [ByteArray.size_append, h1]; rfl
      by_cases hk0 : k = 0
      · subst hk0
        simp only [Nat.zero_mul, Nat.add_zero] at x1
        have e2 : ((0 : Int) < ((0 : Nat) : Int)) = False := by simp
        have HJ : Hid (l ++ x.t ++ jleft (0 + 1) zs = joinL zs) := by rw [Hid, ← hj]; simp
        have hb0 : ¬ 9223372036854775807 < (bs l).size + (bs x.t).size := by rw [h1, h2]; omega
        have hb1 : ¬ 9223372036854775807 < l.length + x.t.length := by omega
        clear hj h3
        go_wp2
        go_roundw
        case rel => exact ⟨0 + 1, l ++ x.t, by rw [bs_app], by go_num, hlt, HJ.out, by first | rfl | trivial⟩
        case measure => simp [RowKit.intOf]; omega
      · have e2 : ((0 : Int) < (k : Int)) = True := eq_true (by omega)
        have HJ : Hid (l ++ [32] ++ x.t ++ jleft (k + 1) zs = joinL zs) := by rw [Hid, ← hj, if_neg hk0]; simp
        have hb0 : ¬ 9223372036854775807 < (bs l).size + (⟨#[32]⟩ : ByteArray).size := by rw [h1]; show ¬ _ < _ + 1; omega
        have hb1 : ¬ 9223372036854775807 < l.length + 1 := by omega
        have hb2 : ¬ 9223372036854775807 < (bs l ++ (⟨#[32]⟩ : ByteArray)).size + (bs x.t).size := by rw [h3, h2]; omega
        have hb3 : ¬ 9223372036854775807 < l.length + 1 + x.t.length := by omega
        clear hj
        go_wp2
        go_roundw
        case rel => exact ⟨k + 1, l ++ [32] ++ x.t, by rw [bs_app, bs_app]; rfl, by go_num, hlt, HJ.out, by first | rfl | trivial⟩
        case measure => simp [RowKit.intOf]; omega
    · have hkn : k = n := by omega
      have e1 : ((k : Int) < (n : Int)) = False := eq_false (by omega)
      have hjl : l = joinL zs := by
        rw [← hj]
        have : jleft k zs = [] := by
          unfold jleft
          by_cases h0 : k = 0
          · rw [if_pos h0]; rw [hkn] at h0; rw [h0] at HLN
            rw [List.length_eq_zero_iff.1 HLN.out]; rfl
          · rw [if_neg h0, List.drop_of_length_le (by rw [HLN.out]; omega)]; rfl
        rw [this, List.append_nil]
      have HJ := hide hjl
      clear hj hjl
      go_wp2
      go_ret
      exact ⟨by rw [HJ.out]; rfl, rfl⟩

end Go.Proofs.Ytekangigfhhkoaa
