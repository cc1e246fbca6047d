/-
  What stands between tokens (layer 9): the contract of between.
  Numbers (layer 9): the contract of Number.
  Signs (layer 9): contracts of Sign and signSize.
  The first token of a text (layer 9): contracts of signSize, numberSize, first, Name, strings.Clone.
-/
import Derived.Test.YtgndnodahlabiaaPrd
import Derived.Test.YtgndnodahlabiaaShelf

/- What stands between tokens (layer 9): the contract of between. -/
namespace Go.Proofs.Ytgndnodahlabiaa
open Go.ChangeShapes Go.WideShapes Go.ChangeAt Go.RowKit Go.Shelf

theorem s_cut (s : ByteArray) (a b : Nat) : (s.extract a b).data.toList = (s.data.toList.drop a).take (b - a) := by
  rw [ByteArray.data_extract]
  simp
theorem s_drop (s : ByteArray) (k : Nat) : (s.extract k s.size).data.toList = s.data.toList.drop k := by
  rw [s_cut]
  exact List.take_of_length_le (by rw [List.length_drop, s_size]; exact Nat.le_refl _)
theorem prefix_sl (s : ByteArray) : Lib.hasPrefix s.data.toList [47, 47] = sl s.data.toList := by
  match s.data.toList with
  | [] => rfl
  | [a] => simp [Lib.hasPrefix, sl, List.isPrefixOf]
  | a :: b :: t =>
    have h : ∀ c : UInt8, ((47 : UInt8) == c) = decide (c.toNat = 47) := fun c => by
      by_cases hc : c.toNat = 47
      · have : c = 47 := UInt8.toNat_inj.1 hc
        subst this; simp
      · have : c ≠ 47 := fun e => hc (by rw [e]; rfl)
        simp [hc, Ne.symm this]
    simp [Lib.hasPrefix, sl, List.isPrefixOf, h]
set_option maxRecDepth 100000 in
set_option maxHeartbeats 1000000 in
theorem between_s (s : ByteArray) (hl : s.size ≤ 100000000) (w : World) :
    Calls Try.prog 36 #[.string s] w fun e w' => e = .returned (.int .i64 (betw s.data.toList : Int)) ∧ w' = w := by
  have HS : Hid (∀ k, k ≤ s.size → (s.extract k s.size).size = s.size - k) := fun k hk => by rw [← s_size, s_drop, List.length_drop, s_size]
  have HD := hide (s_drop s)
  go_enter Try.func36, Try.ntmps36
  go_wp2
  go_loopw [3] (fun i wr => ∃ k : Nat, i = .int .i64 (k : Int) ∧ k ≤ s.size ∧ k + betw (s.data.toList.drop k) = betw s.data.toList ∧ wr = w) (fun i _ => s.size - (RowKit.intOf i).toNat)
  case atStart => exact ⟨0, rfl, Nat.zero_le _, by simp, rfl⟩
  case round =>
    obtain ⟨k, rfl, hk, hb, rfl⟩ := hrel
    have H1 := count_s (s.extract k s.size) 47 blank tells39 (by rw [HS.out k hk]; omega) wr
    have hle1 := cnt_le blank (s.extract k s.size).data.toList
    rw [HD.out] at H1 hle1
    rw [List.length_drop, s_size] at hle1
    rw [betw_eq, drop_sub] at hb
    have HB := hide hb
    clear hb
    generalize hc1 : cnt blank (s.data.toList.drop k) = c1 at *
    have HC1 := hide hc1
    clear hc1
    have hk1 : k + c1 ≤ s.size := by omega
    have H2 := Try.strings_HasPrefix (s.extract (k + c1) s.size) (bs [47, 47]) wr
    rw [bs_data, prefix_sl, HD.out] at H2
    have H3 := count_s (s.extract (k + c1) s.size) 49 ofRow tells41 (by rw [HS.out _ hk1]; omega) wr
    have hle3 := cnt_le ofRow (s.extract (k + c1) s.size).data.toList
    rw [HD.out] at H3 hle3
    rw [List.length_drop, s_size] at hle3
    by_cases hsl : sl (s.data.toList.drop (k + c1)) = true
    · have h2 := sl_row hsl
      rw [hsl] at H2 HB
      rw [if_pos rfl, ← Nat.add_assoc] at HB
      clear hsl
      rw [drop_sub] at HB
      generalize hc2 : cnt ofRow (s.data.toList.drop (k + c1)) = c2 at *
      clear hc2
      go_wp2_with fail
      refine H1.mono ?_
      rintro e w' ⟨rfl, rfl⟩
      go_wp2_with fail
      refine H2.mono ?_
      rintro e w' ⟨rfl, rfl⟩
      go_wp2_with fail
      refine H3.mono ?_
      rintro e w' ⟨rfl, rfl⟩
      go_wp2
      go_roundw
      case rel => exact ⟨k + c1 + c2, by go_num, by omega, by have := HB.out; rw [show k + c1 + c2 = k + (c1 + c2) by omega]; omega, by first | rfl | trivial⟩
      case measure => simp [RowKit.intOf]; omega
    · have hsl' : sl (s.data.toList.drop (k + c1)) = false := by simpa using hsl
      rw [hsl'] at H2 HB
      rw [if_neg (by simp)] at HB
      clear hsl hsl'
      go_wp2_with fail
      refine H1.mono ?_
      rintro e w' ⟨rfl, rfl⟩
      go_wp2_with fail
      refine H2.mono ?_
      rintro e w' ⟨rfl, rfl⟩
      go_wp2
      go_ret
      exact ⟨by rw [← HB.out]; first | rfl | simp, rfl⟩
end Go.Proofs.Ytgndnodahlabiaa

/- Numbers (layer 9): the contract of Number. -/
namespace Go.Proofs.Ytgndnodahlabiaa
open Go.ChangeShapes Go.WideShapes Go.ChangeAt Go.RowKit Go.Shelf

/-- What Number answers. -/
def numV : Option Nat → Value
  | some n => .tuple #[.int .i64 (n : Int), .bool true]
  | none => .tuple #[.int .i64 0, .bool false]
theorem numV_some (n : Nat) : numV (some n) = .tuple #[.int .i64 (n : Int), .bool true] := rfl
theorem numV_none : numV none = .tuple #[.int .i64 0, .bool false] := rfl
theorem lead0_l (l : List UInt8) (h : 2 ≤ l.length) : lead0 l = decide ((l[0]'(by omega)).toNat = 48) := by
  match l, h with
  | a :: b :: t, _ => rfl
theorem lead0_at (s : ByteArray) (h : 2 ≤ s.size) : lead0 s.data.toList = decide ((s[0]'(by omega)).toNat = 48) := by
  rw [← s_at, lead0_l _ (by rw [s_size]; exact h)]
theorem lead0_short {l : List UInt8} (h : l.length ≤ 1) : lead0 l = false := by
  match l, h with
  | [], _ => rfl
  | [a], _ => rfl
  | a :: b :: t, h => simp at h
theorem digit_fits (c : UInt8) (h : digit c = true) : 48 ≤ c.toNat ∧ c.toNat ≤ 57 := by
  simpa [digit] using h
theorem drop_at (s : ByteArray) (k : Nat) (h : k < s.size) : s.data.toList.drop k = (s[k]'h) :: s.data.toList.drop (k + 1) := by
  rw [← s_at]; exact List.drop_eq_getElem_cons (by rw [s_size]; exact h)
set_option maxRecDepth 100000 in
set_option maxHeartbeats 1000000 in
theorem number_s (s : ByteArray) (hl : s.size ≤ 100000000) (w : World) :
    Calls Try.prog 66 #[.string s] w fun e w' => e = .returned (numV (num s.data.toList)) ∧ w' = w := by
  by_cases h0 : s.size = 0
  · have hn : s.data.toList = [] := List.length_eq_zero_iff.1 (by rw [s_size]; exact h0)
    rw [hn]
    have q0 : (s.toList = []) = True := eq_true (by rw [ByteArray.toList_eq]; exact hn)
    have q1 : s.toList.isEmpty = true := by rw [ByteArray.toList_eq, hn]; rfl
    have q2 : ((1 : Int) < (s.size : Int)) = False := eq_false (by omega)
    clear hn h0
    go_enter Try.func66, Try.ntmps66
    go_wp2
    go_ret2
    exact ⟨rfl, rfl⟩
  have hne : s.data.toList ≠ [] := fun h => h0 (by rw [← s_size, h]; rfl)
  have q0 : (s.toList = []) = False := eq_false (by rw [ByteArray.toList_eq]; exact hne)
  have q1 : s.toList.isEmpty = false := by rw [ByteArray.toList_eq]; simpa using hne
  have HS : Hid (num s.data.toList = if lead0 s.data.toList = true then none else numTo 0 s.data.toList) := by rw [Hid, num, if_neg hne]
  clear hne
  by_cases h1 : s.size = 1
  · have HS' : Hid (num s.data.toList = numTo 0 s.data.toList) := by have := HS.out; rw [lead0_short (by rw [s_size]; omega)] at this; rw [Hid]; simpa using this
    have q2 : ((1 : Int) < (s.size : Int)) = False := eq_false (by omega)
    clear HS h0 h1
    go_enter Try.func66, Try.ntmps66
    go_wp2
    go_loopw [4, 21] (fun n i wr => ∃ m k : Nat, n = .int .i64 (m : Int) ∧ i = .int .i64 (k : Int) ∧ k ≤ s.size ∧ m ≤ 9223372036854775807 ∧ numTo m (s.data.toList.drop k) = numTo 0 s.data.toList ∧ wr = w) (fun _ i _ => s.size - (RowKit.intOf i).toNat)
    case atStart => exact ⟨0, 0, rfl, rfl, Nat.zero_le _, by omega, rfl, rfl⟩
    case round =>
      obtain ⟨m, k, rfl, rfl, hk, hm, hnt, rfl⟩ := hrel
      by_cases hlt : k < s.size
      · have e1 : ((k : Int) < (s.size : Int)) = True := eq_true (by omega)
        have H := digit_is (s[k]'hlt) wr
        have HNT := hide hnt
        rw [drop_at s k hlt, numTo] at HNT
        clear hnt
        by_cases hd : digit (s[k]'hlt) = true
        · rw [hd] at H
          have HF := hide (digit_fits _ hd)
          rw [if_pos hd] at HNT
          clear hd
          go_wp2_with fail
          refine H.mono ?_
          rintro e w' ⟨rfl, rfl⟩
          clear H
          obtain ⟨f1, f2⟩ := HF.out
          clear HF
          obtain ⟨d, hd⟩ : ∃ d : Nat, (s[k]'hlt).toNat = d + 48 := ⟨(s[k]'hlt).toNat - 48, by omega⟩
          have HNT' : Hid ((if (9223372036854775807 - d) / 10 < m then none else numTo (10 * m + d) (s.data.toList.drop (k + 1))) = numTo 0 s.data.toList) := by
            have := HNT.out
            rw [hd, show d + 48 - 48 = d by omega] at this
            exact this
          have hdv : (((s[k]'hlt).toNat : Int) - 48) % 256 = (d : Int) := by omega
          have hd9 : d ≤ 9 := by omega
          clear HNT hd f1 f2
          by_cases hov : (9223372036854775807 - d) / 10 < m
          · have e3 : ((9223372036854775807 - (d : Int)) / 10 < (m : Int)) = True := eq_true (by omega)
            have HNT := HNT'
            rw [if_pos hov] at HNT
            clear hov HNT'
            go_wp2
            go_ret2
            exact ⟨by rw [HS'.out, ← HNT.out]; rfl, rfl⟩
          · have e3 : ((9223372036854775807 - (d : Int)) / 10 < (m : Int)) = False := eq_false (by omega)
            have HNT := HNT'
            rw [if_neg hov] at HNT
            have b1 : 10 * m + d ≤ 9223372036854775807 := by omega
            clear hov HNT'
            go_wp2
            go_roundw
            case rel => exact ⟨10 * m + d, k + 1, by go_num, by go_num, hlt, b1, HNT.out, by first | rfl | trivial⟩
            case measure => simp [RowKit.intOf]; omega
        · have hd' : digit (s[k]'hlt) = false := by simpa using hd
          rw [hd'] at H
          rw [if_neg hd] at HNT
          clear hd hd'
          go_wp2_with fail
          refine H.mono ?_
          rintro e w' ⟨rfl, rfl⟩
          go_wp2
          go_ret2
          exact ⟨by rw [HS'.out, ← HNT.out]; rfl, rfl⟩
      · have hkn : k = s.size := by omega
        have e1 : ((k : Int) < (s.size : Int)) = False := eq_false (by omega)
        have HNT : Hid (numTo 0 s.data.toList = some m) := by rw [Hid, ← hnt, List.drop_of_length_le (by rw [s_size]; omega)]; rfl
        clear hnt
        go_wp2
        go_ret2
        exact ⟨by rw [HS'.out, HNT.out]; rfl, rfl⟩
  have q2 : ((1 : Int) < (s.size : Int)) = True := eq_true (by omega)
  have h2 : 2 ≤ s.size := by omega
  have h3 : 0 < s.size := by omega
  have HL := hide (lead0_at s h2)
  by_cases h4 : (s[0]'h3).toNat = 48
  · have q3 : (((s[0]'h3).toNat : Int) == 48) = true := beq_iff_eq.2 (by omega)
    have HN : Hid (num s.data.toList = none) := by have := HS.out; rw [HL.out, decide_eq_true h4] at this; rw [Hid]; simpa using this
    clear HL h0 h1 h4 HS
    go_enter Try.func66, Try.ntmps66
    go_wp2
    go_ret2
    exact ⟨by rw [HN.out]; rfl, rfl⟩
  · have q3 : (((s[0]'h3).toNat : Int) == 48) = false := beq_eq_false_iff_ne.2 (by omega)
    have HS' : Hid (num s.data.toList = numTo 0 s.data.toList) := by have := HS.out; rw [HL.out, decide_eq_false h4] at this; rw [Hid]; simpa using this
    clear HL h0 h1 h4 HS
    go_enter Try.func66, Try.ntmps66
    go_wp2
    go_loopw [4, 21] (fun n i wr => ∃ m k : Nat, n = .int .i64 (m : Int) ∧ i = .int .i64 (k : Int) ∧ k ≤ s.size ∧ m ≤ 9223372036854775807 ∧ numTo m (s.data.toList.drop k) = numTo 0 s.data.toList ∧ wr = w) (fun _ i _ => s.size - (RowKit.intOf i).toNat)
    case atStart => exact ⟨0, 0, rfl, rfl, Nat.zero_le _, by omega, rfl, rfl⟩
    case round =>
      obtain ⟨m, k, rfl, rfl, hk, hm, hnt, rfl⟩ := hrel
      by_cases hlt : k < s.size
      · have e1 : ((k : Int) < (s.size : Int)) = True := eq_true (by omega)
        have H := digit_is (s[k]'hlt) wr
        have HNT := hide hnt
        rw [drop_at s k hlt, numTo] at HNT
        clear hnt
        by_cases hd : digit (s[k]'hlt) = true
        · rw [hd] at H
          have HF := hide (digit_fits _ hd)
          rw [if_pos hd] at HNT
          clear hd
          go_wp2_with fail
          refine H.mono ?_
          rintro e w' ⟨rfl, rfl⟩
          clear H
          obtain ⟨f1, f2⟩ := HF.out
          clear HF
          obtain ⟨d, hd⟩ : ∃ d : Nat, (s[k]'hlt).toNat = d + 48 := ⟨(s[k]'hlt).toNat - 48, by omega⟩
          have HNT' : Hid ((if (9223372036854775807 - d) / 10 < m then none else numTo (10 * m + d) (s.data.toList.drop (k + 1))) = numTo 0 s.data.toList) := by
            have := HNT.out
            rw [hd, show d + 48 - 48 = d by omega] at this
            exact this
          have hdv : (((s[k]'hlt).toNat : Int) - 48) % 256 = (d : Int) := by omega
          have hd9 : d ≤ 9 := by omega
          clear HNT hd f1 f2
          by_cases hov : (9223372036854775807 - d) / 10 < m
          · have e3 : ((9223372036854775807 - (d : Int)) / 10 < (m : Int)) = True := eq_true (by omega)
            have HNT := HNT'
            rw [if_pos hov] at HNT
            clear hov HNT'
            go_wp2
            go_ret2
            exact ⟨by rw [HS'.out, ← HNT.out]; rfl, rfl⟩
          · have e3 : ((9223372036854775807 - (d : Int)) / 10 < (m : Int)) = False := eq_false (by omega)
            have HNT := HNT'
            rw [if_neg hov] at HNT
            have b1 : 10 * m + d ≤ 9223372036854775807 := by omega
            clear hov HNT'
            go_wp2
            go_roundw
            case rel => exact ⟨10 * m + d, k + 1, by go_num, by go_num, hlt, b1, HNT.out, by first | rfl | trivial⟩
            case measure => simp [RowKit.intOf]; omega
        · have hd' : digit (s[k]'hlt) = false := by simpa using hd
          rw [hd'] at H
          rw [if_neg hd] at HNT
          clear hd hd'
          go_wp2_with fail
          refine H.mono ?_
          rintro e w' ⟨rfl, rfl⟩
          go_wp2
          go_ret2
          exact ⟨by rw [HS'.out, ← HNT.out]; rfl, rfl⟩
      · have hkn : k = s.size := by omega
        have e1 : ((k : Int) < (s.size : Int)) = False := eq_false (by omega)
        have HNT : Hid (numTo 0 s.data.toList = some m) := by rw [Hid, ← hnt, List.drop_of_length_le (by rw [s_size]; omega)]; rfl
        clear hnt
        go_wp2
        go_ret2
        exact ⟨by rw [HS'.out, HNT.out]; rfl, rfl⟩
end Go.Proofs.Ytgndnodahlabiaa

/- Signs (layer 9): contracts of Sign and signSize. -/
namespace Go.Proofs.Ytgndnodahlabiaa
open Go.ChangeShapes Go.WideShapes Go.ChangeAt Go.RowKit Go.Shelf

set_option maxRecDepth 100000 in
set_option maxHeartbeats 1000000 in
theorem sign_no (s : ByteArray) (h : sign s.data.toList = false) (w : World) :
    Calls Try.prog 67 #[.string s] w fun e w' => e = .returned (.bool false) ∧ w' = w := by
  have h1 : s.data.toList ∉ signsL := of_decide_eq_false h
  have hs : s.toList = s.data.toList := ByteArray.toList_eq s
  have e0 : (s.toList == [61, 61]) = false := beq_eq_false_iff_ne.2 fun e => h1 (by rw [← hs, e]; decide)
  have d0 : (s.toList = [61, 61]) = False := eq_false fun e => h1 (by rw [← hs, e]; decide)
  have e1 : (s.toList == [33, 61]) = false := beq_eq_false_iff_ne.2 fun e => h1 (by rw [← hs, e]; decide)
  have d1 : (s.toList = [33, 61]) = False := eq_false fun e => h1 (by rw [← hs, e]; decide)
  have e2 : (s.toList == [60, 61]) = false := beq_eq_false_iff_ne.2 fun e => h1 (by rw [← hs, e]; decide)
  have d2 : (s.toList = [60, 61]) = False := eq_false fun e => h1 (by rw [← hs, e]; decide)
  have e3 : (s.toList == [60, 60]) = false := beq_eq_false_iff_ne.2 fun e => h1 (by rw [← hs, e]; decide)
  have d3 : (s.toList = [60, 60]) = False := eq_false fun e => h1 (by rw [← hs, e]; decide)
  have e4 : (s.toList == [62, 62]) = false := beq_eq_false_iff_ne.2 fun e => h1 (by rw [← hs, e]; decide)
  have d4 : (s.toList = [62, 62]) = False := eq_false fun e => h1 (by rw [← hs, e]; decide)
  have e5 : (s.toList == [40]) = false := beq_eq_false_iff_ne.2 fun e => h1 (by rw [← hs, e]; decide)
  have d5 : (s.toList = [40]) = False := eq_false fun e => h1 (by rw [← hs, e]; decide)
  have e6 : (s.toList == [41]) = false := beq_eq_false_iff_ne.2 fun e => h1 (by rw [← hs, e]; decide)
  have d6 : (s.toList = [41]) = False := eq_false fun e => h1 (by rw [← hs, e]; decide)
  have e7 : (s.toList == [123]) = false := beq_eq_false_iff_ne.2 fun e => h1 (by rw [← hs, e]; decide)
  have d7 : (s.toList = [123]) = False := eq_false fun e => h1 (by rw [← hs, e]; decide)
  have e8 : (s.toList == [125]) = false := beq_eq_false_iff_ne.2 fun e => h1 (by rw [← hs, e]; decide)
  have d8 : (s.toList = [125]) = False := eq_false fun e => h1 (by rw [← hs, e]; decide)
  have e9 : (s.toList == [91]) = false := beq_eq_false_iff_ne.2 fun e => h1 (by rw [← hs, e]; decide)
  have d9 : (s.toList = [91]) = False := eq_false fun e => h1 (by rw [← hs, e]; decide)
  have e10 : (s.toList == [93]) = false := beq_eq_false_iff_ne.2 fun e => h1 (by rw [← hs, e]; decide)
  have d10 : (s.toList = [93]) = False := eq_false fun e => h1 (by rw [← hs, e]; decide)
  have e11 : (s.toList == [44]) = false := beq_eq_false_iff_ne.2 fun e => h1 (by rw [← hs, e]; decide)
  have d11 : (s.toList = [44]) = False := eq_false fun e => h1 (by rw [← hs, e]; decide)
  have e12 : (s.toList == [59]) = false := beq_eq_false_iff_ne.2 fun e => h1 (by rw [← hs, e]; decide)
  have d12 : (s.toList = [59]) = False := eq_false fun e => h1 (by rw [← hs, e]; decide)
  have e13 : (s.toList == [46]) = false := beq_eq_false_iff_ne.2 fun e => h1 (by rw [← hs, e]; decide)
  have d13 : (s.toList = [46]) = False := eq_false fun e => h1 (by rw [← hs, e]; decide)
  have e14 : (s.toList == [61]) = false := beq_eq_false_iff_ne.2 fun e => h1 (by rw [← hs, e]; decide)
  have d14 : (s.toList = [61]) = False := eq_false fun e => h1 (by rw [← hs, e]; decide)
  have e15 : (s.toList == [43]) = false := beq_eq_false_iff_ne.2 fun e => h1 (by rw [← hs, e]; decide)
  have d15 : (s.toList = [43]) = False := eq_false fun e => h1 (by rw [← hs, e]; decide)
  have e16 : (s.toList == [45]) = false := beq_eq_false_iff_ne.2 fun e => h1 (by rw [← hs, e]; decide)
  have d16 : (s.toList = [45]) = False := eq_false fun e => h1 (by rw [← hs, e]; decide)
  have e17 : (s.toList == [42]) = false := beq_eq_false_iff_ne.2 fun e => h1 (by rw [← hs, e]; decide)
  have d17 : (s.toList = [42]) = False := eq_false fun e => h1 (by rw [← hs, e]; decide)
  have e18 : (s.toList == [47]) = false := beq_eq_false_iff_ne.2 fun e => h1 (by rw [← hs, e]; decide)
  have d18 : (s.toList = [47]) = False := eq_false fun e => h1 (by rw [← hs, e]; decide)
  have e19 : (s.toList == [37]) = false := beq_eq_false_iff_ne.2 fun e => h1 (by rw [← hs, e]; decide)
  have d19 : (s.toList = [37]) = False := eq_false fun e => h1 (by rw [← hs, e]; decide)
  have e20 : (s.toList == [38]) = false := beq_eq_false_iff_ne.2 fun e => h1 (by rw [← hs, e]; decide)
  have d20 : (s.toList = [38]) = False := eq_false fun e => h1 (by rw [← hs, e]; decide)
  have e21 : (s.toList == [124]) = false := beq_eq_false_iff_ne.2 fun e => h1 (by rw [← hs, e]; decide)
  have d21 : (s.toList = [124]) = False := eq_false fun e => h1 (by rw [← hs, e]; decide)
  have e22 : (s.toList == [94]) = false := beq_eq_false_iff_ne.2 fun e => h1 (by rw [← hs, e]; decide)
  have d22 : (s.toList = [94]) = False := eq_false fun e => h1 (by rw [← hs, e]; decide)
  have e23 : (s.toList == [60]) = false := beq_eq_false_iff_ne.2 fun e => h1 (by rw [← hs, e]; decide)
  have d23 : (s.toList = [60]) = False := eq_false fun e => h1 (by rw [← hs, e]; decide)
  clear h1 hs h
  go_enter Try.func67, Try.ntmps67
  go_wp2
  go_ret
  exact ⟨rfl, rfl⟩
set_option maxRecDepth 100000 in
set_option maxHeartbeats 2000000 in
theorem sign_yes (s : ByteArray) (h : sign s.data.toList = true) (w : World) :
    Calls Try.prog 67 #[.string s] w fun e w' => e = .returned (.bool true) ∧ w' = w := by
  have h1 : s.data.toList ∈ signsL := of_decide_eq_true h
  simp only [signsL, List.mem_cons, List.not_mem_nil, or_false] at h1
  clear h
  rcases h1 with h1 | h1 | h1 | h1 | h1 | h1 | h1 | h1 | h1 | h1 | h1 | h1 | h1 | h1 | h1 | h1 | h1 | h1 | h1 | h1 | h1 | h1 | h1 | h1
  · obtain rfl := bs_of h1
    have ht : (bs [61, 61]).toList = [61, 61] := bs_toList _
    clear h1
    go_enter Try.func67, Try.ntmps67
    go_wp2
    go_ret
    exact ⟨rfl, rfl⟩
  · obtain rfl := bs_of h1
    have ht : (bs [33, 61]).toList = [33, 61] := bs_toList _
    clear h1
    go_enter Try.func67, Try.ntmps67
    go_wp2
    go_ret
    exact ⟨rfl, rfl⟩
  · obtain rfl := bs_of h1
    have ht : (bs [60, 61]).toList = [60, 61] := bs_toList _
    clear h1
    go_enter Try.func67, Try.ntmps67
    go_wp2
    go_ret
    exact ⟨rfl, rfl⟩
  · obtain rfl := bs_of h1
    have ht : (bs [60, 60]).toList = [60, 60] := bs_toList _
    clear h1
    go_enter Try.func67, Try.ntmps67
    go_wp2
    go_ret
    exact ⟨rfl, rfl⟩
  · obtain rfl := bs_of h1
    have ht : (bs [62, 62]).toList = [62, 62] := bs_toList _
    clear h1
    go_enter Try.func67, Try.ntmps67
    go_wp2
    go_ret
    exact ⟨rfl, rfl⟩
  · obtain rfl := bs_of h1
    have ht : (bs [40]).toList = [40] := bs_toList _
    clear h1
    go_enter Try.func67, Try.ntmps67
    go_wp2
    go_ret
    exact ⟨rfl, rfl⟩
  · obtain rfl := bs_of h1
    have ht : (bs [41]).toList = [41] := bs_toList _
    clear h1
    go_enter Try.func67, Try.ntmps67
    go_wp2
    go_ret
    exact ⟨rfl, rfl⟩
  · obtain rfl := bs_of h1
    have ht : (bs [123]).toList = [123] := bs_toList _
    clear h1
    go_enter Try.func67, Try.ntmps67
    go_wp2
    go_ret
    exact ⟨rfl, rfl⟩
  · obtain rfl := bs_of h1
    have ht : (bs [125]).toList = [125] := bs_toList _
    clear h1
    go_enter Try.func67, Try.ntmps67
    go_wp2
    go_ret
    exact ⟨rfl, rfl⟩
  · obtain rfl := bs_of h1
    have ht : (bs [91]).toList = [91] := bs_toList _
    clear h1
    go_enter Try.func67, Try.ntmps67
    go_wp2
    go_ret
    exact ⟨rfl, rfl⟩
  · obtain rfl := bs_of h1
    have ht : (bs [93]).toList = [93] := bs_toList _
    clear h1
    go_enter Try.func67, Try.ntmps67
    go_wp2
    go_ret
    exact ⟨rfl, rfl⟩
  · obtain rfl := bs_of h1
    have ht : (bs [44]).toList = [44] := bs_toList _
    clear h1
    go_enter Try.func67, Try.ntmps67
    go_wp2
    go_ret
    exact ⟨rfl, rfl⟩
  · obtain rfl := bs_of h1
    have ht : (bs [59]).toList = [59] := bs_toList _
    clear h1
    go_enter Try.func67, Try.ntmps67
    go_wp2
    go_ret
    exact ⟨rfl, rfl⟩
  · obtain rfl := bs_of h1
    have ht : (bs [46]).toList = [46] := bs_toList _
    clear h1
    go_enter Try.func67, Try.ntmps67
    go_wp2
    go_ret
    exact ⟨rfl, rfl⟩
  · obtain rfl := bs_of h1
    have ht : (bs [61]).toList = [61] := bs_toList _
    clear h1
    go_enter Try.func67, Try.ntmps67
    go_wp2
    go_ret
    exact ⟨rfl, rfl⟩
  · obtain rfl := bs_of h1
    have ht : (bs [43]).toList = [43] := bs_toList _
    clear h1
    go_enter Try.func67, Try.ntmps67
    go_wp2
    go_ret
    exact ⟨rfl, rfl⟩
  · obtain rfl := bs_of h1
    have ht : (bs [45]).toList = [45] := bs_toList _
    clear h1
    go_enter Try.func67, Try.ntmps67
    go_wp2
    go_ret
    exact ⟨rfl, rfl⟩
  · obtain rfl := bs_of h1
    have ht : (bs [42]).toList = [42] := bs_toList _
    clear h1
    go_enter Try.func67, Try.ntmps67
    go_wp2
    go_ret
    exact ⟨rfl, rfl⟩
  · obtain rfl := bs_of h1
    have ht : (bs [47]).toList = [47] := bs_toList _
    clear h1
    go_enter Try.func67, Try.ntmps67
    go_wp2
    go_ret
    exact ⟨rfl, rfl⟩
  · obtain rfl := bs_of h1
    have ht : (bs [37]).toList = [37] := bs_toList _
    clear h1
    go_enter Try.func67, Try.ntmps67
    go_wp2
    go_ret
    exact ⟨rfl, rfl⟩
  · obtain rfl := bs_of h1
    have ht : (bs [38]).toList = [38] := bs_toList _
    clear h1
    go_enter Try.func67, Try.ntmps67
    go_wp2
    go_ret
    exact ⟨rfl, rfl⟩
  · obtain rfl := bs_of h1
    have ht : (bs [124]).toList = [124] := bs_toList _
    clear h1
    go_enter Try.func67, Try.ntmps67
    go_wp2
    go_ret
    exact ⟨rfl, rfl⟩
  · obtain rfl := bs_of h1
    have ht : (bs [94]).toList = [94] := bs_toList _
    clear h1
    go_enter Try.func67, Try.ntmps67
    go_wp2
    go_ret
    exact ⟨rfl, rfl⟩
  · obtain rfl := bs_of h1
    have ht : (bs [60]).toList = [60] := bs_toList _
    clear h1
    go_enter Try.func67, Try.ntmps67
    go_wp2
    go_ret
    exact ⟨rfl, rfl⟩
theorem sign_s (s : ByteArray) (w : World) :
    Calls Try.prog 67 #[.string s] w fun e w' => e = .returned (.bool (sign s.data.toList)) ∧ w' = w := by
  by_cases h : sign s.data.toList = true
  · rw [h]; exact sign_yes s h w
  · have h' : sign s.data.toList = false := by simpa using h
    rw [h']; exact sign_no s h' w

end Go.Proofs.Ytgndnodahlabiaa

/- The first token of a text (layer 9): contracts of signSize, numberSize, first, Name, strings.Clone. -/
namespace Go.Proofs.Ytgndnodahlabiaa
open Go.ChangeShapes Go.WideShapes Go.ChangeAt Go.RowKit Go.Shelf

theorem s_take (s : ByteArray) (k : Nat) : (s.extract 0 k).data.toList = s.data.toList.take k := by
  rw [s_cut, List.drop_zero, Nat.sub_zero]
theorem signSize_at (l : List UInt8) (k m : Nat) (hm : m = min l.length 2) (hk : k ≤ m) (hk0 : 0 < k) (h1 : sign (l.take k) = true) (h2 : ∀ j, k < j → j ≤ m → sign (l.take j) = false) : signSize l = k := by
  unfold signSize
  have : k = 1 ∨ k = 2 := by omega
  rcases this with rfl | rfl
  · rw [if_neg, if_pos ⟨by omega, h1⟩]
    rintro ⟨h3, h4⟩
    rw [h2 2 (by omega) (by omega)] at h4; cases h4
  · rw [if_pos ⟨by omega, h1⟩]
theorem signSize_none (l : List UInt8) (m : Nat) (hm : m = min l.length 2) (h2 : ∀ j, 0 < j → j ≤ m → sign (l.take j) = false) : signSize l = 0 := by
  unfold signSize
  rw [if_neg, if_neg]
  · rintro ⟨h3, h4⟩
    rw [h2 1 (by omega) (by omega)] at h4; cases h4
  · rintro ⟨h3, h4⟩
    rw [h2 2 (by omega) (by omega)] at h4; cases h4
set_option maxRecDepth 100000 in
set_option maxHeartbeats 1000000 in
theorem signSize_s (s : ByteArray) (hl : s.size ≤ 100000000) (w : World) :
    Calls Try.prog 54 #[.string s] w fun e w' => e = .returned (.int .i64 (signSize s.data.toList : Int)) ∧ w' = w := by
  obtain ⟨m, hm⟩ : ∃ m, m = min s.data.toList.length 2 := ⟨_, rfl⟩
  have hms : m = min s.size 2 := by rw [hm, s_size]
  have e0 : min (s.size : Int) 2 = (m : Int) := by omega
  have HM := hide hm
  have hm2 : m ≤ s.size := by omega
  have hm3 : m ≤ 2 := by omega
  clear hm hms
  go_enter Try.func54, Try.ntmps54
  go_wp2
  go_loopw [3] (fun i wr => ∃ k : Nat, i = .int .i64 (k : Int) ∧ k ≤ m ∧ (∀ j, k < j → j ≤ m → sign (s.data.toList.take j) = false) ∧ wr = w) (fun i _ => (RowKit.intOf i).toNat)
  case atStart => exact ⟨m, by simp, Nat.le_refl _, fun j h1 h2 => by omega, rfl⟩
  case round =>
    obtain ⟨k, rfl, hk, hno, rfl⟩ := hrel
    have HNO := hide hno
    clear hno
    by_cases hk0 : 0 < k
    · have e1 : ((0 : Int) < (k : Int)) = True := eq_true (by omega)
      have H := sign_s (s.extract 0 k) wr
      rw [s_take] at H
      by_cases hs : sign (s.data.toList.take k) = true
      · rw [hs] at H
        have HR := hide (signSize_at _ k m HM.out hk hk0 hs HNO.out)
        clear hs
        go_wp2_with fail
        refine H.mono ?_
        rintro e w' ⟨rfl, rfl⟩
        go_wp2
        go_ret
        exact ⟨by rw [HR.out]; rfl, rfl⟩
      · have hs' : sign (s.data.toList.take k) = false := by simpa using hs
        rw [hs'] at H
        have HR : Hid (∀ j, k - 1 < j → j ≤ m → sign (s.data.toList.take j) = false) := fun j h1 h2 => by
          by_cases e : j = k
          · rw [e]; exact hs'
          · exact HNO.out j (by omega) h2
        clear hs hs'
        go_wp2_with fail
        refine H.mono ?_
        rintro e w' ⟨rfl, rfl⟩
        go_wp2
        go_roundw
        case rel => exact ⟨k - 1, by rw [show ((k - 1 : Nat) : Int) = (k : Int) - 1 by omega], by omega, HR.out, by first | rfl | trivial⟩
        case measure => simp [RowKit.intOf]; omega
    · have hk1 : k = 0 := by omega
      subst hk1
      have HR := hide (signSize_none _ m HM.out HNO.out)
      go_wp2
      go_ret
      exact ⟨by rw [HR.out]; rfl, rfl⟩

theorem headLetter_at (s : ByteArray) (k : Nat) (h : k < s.size) : headLetter (s.data.toList.drop k) = letter (s[k]'h) := by
  rw [drop_at s k h]; rfl
set_option maxRecDepth 100000 in
set_option maxHeartbeats 1000000 in
theorem numberSize_s (s : ByteArray) (hl : s.size ≤ 100000000) (w : World) :
    Calls Try.prog 53 #[.string s] w fun e w' => e = .returned (.int .i64 (numSize s.data.toList : Int)) ∧ w' = w := by
  have H1 := count_s s 52 digit tells26 hl w
  have hle := cnt_le digit s.data.toList
  rw [s_size] at hle
  have HZ : Hid (numSize s.data.toList = if (num (s.data.toList.take (cnt digit s.data.toList))).isNone = true then 0 else if headLetter (s.data.toList.drop (cnt digit s.data.toList)) = true then 0 else cnt digit s.data.toList) := rfl
  generalize cnt digit s.data.toList = n at *
  have H2 := number_s (s.extract 0 n) (by rw [← s_size, s_take, List.length_take, s_size]; omega) w
  rw [s_take] at H2
  generalize num (s.data.toList.take n) = o at *
  cases o with
  | none =>
    have HR : Hid (numSize s.data.toList = 0) := HZ.out
    clear HZ
    rw [numV_none] at H2
    go_enter Try.func53, Try.ntmps53
    go_wp2_with fail
    refine H1.mono ?_
    rintro e w' ⟨rfl, rfl⟩
    go_wp2_with fail
    refine H2.mono ?_
    rintro e w' ⟨rfl, rfl⟩
    go_wp2
    go_ret
    exact ⟨by rw [HR.out]; rfl, rfl⟩
  | some m =>
    have HZ' : Hid (numSize s.data.toList = if headLetter (s.data.toList.drop n) = true then 0 else n) := HZ.out
    clear HZ
    rw [numV_some] at H2
    by_cases hn : n < s.size
    · have e1 : ((n : Int) < (s.size : Int)) = True := eq_true (by omega)
      have H3 := letter_is (s[n]'hn) w
      rw [headLetter_at s n hn] at HZ'
      by_cases hlt : letter (s[n]'hn) = true
      · rw [hlt] at H3
        have HR : Hid (numSize s.data.toList = 0) := by have := HZ'.out; rw [if_pos hlt] at this; exact this
        clear HZ' hlt
        go_enter Try.func53, Try.ntmps53
        go_wp2_with fail
        refine H1.mono ?_
        rintro e w' ⟨rfl, rfl⟩
        go_wp2_with fail
        refine H2.mono ?_
        rintro e w' ⟨rfl, rfl⟩
        go_wp2_with fail
        refine H3.mono ?_
        rintro e w' ⟨rfl, rfl⟩
        go_wp2
        go_ret
        exact ⟨by rw [HR.out]; rfl, rfl⟩
      · have hlt' : letter (s[n]'hn) = false := by simpa using hlt
        rw [hlt'] at H3
        have HR : Hid (numSize s.data.toList = n) := by have := HZ'.out; rw [if_neg hlt] at this; exact this
        clear HZ' hlt hlt'
        go_enter Try.func53, Try.ntmps53
        go_wp2_with fail
        refine H1.mono ?_
        rintro e w' ⟨rfl, rfl⟩
        go_wp2_with fail
        refine H2.mono ?_
        rintro e w' ⟨rfl, rfl⟩
        go_wp2_with fail
        refine H3.mono ?_
        rintro e w' ⟨rfl, rfl⟩
        go_wp2
        go_ret
        exact ⟨by rw [HR.out]; rfl, rfl⟩
    · have e1 : ((n : Int) < (s.size : Int)) = False := eq_false (by omega)
      have HR : Hid (numSize s.data.toList = n) := by
        have := HZ'.out
        rw [List.drop_of_length_le (by rw [s_size]; omega)] at this
        exact this
      clear HZ'
      go_enter Try.func53, Try.ntmps53
      go_wp2_with fail
      refine H1.mono ?_
      rintro e w' ⟨rfl, rfl⟩
      go_wp2_with fail
      refine H2.mono ?_
      rintro e w' ⟨rfl, rfl⟩
      go_wp2
      go_ret
      exact ⟨by rw [HR.out]; rfl, rfl⟩

set_option maxRecDepth 100000 in
set_option maxHeartbeats 1000000 in
theorem first_s (s : ByteArray) (h0 : 0 < s.size) (hl : s.size ≤ 100000000) (w : World) :
    Calls Try.prog 37 #[.string s] w fun e w' => e = .returned (.tuple #[.int .i64 ((first s.data.toList).1 : Int), .int .i64 ((first s.data.toList).2 : Int)]) ∧ w' = w := by
  have HF : Hid (first s.data.toList = if letter (s[0]'h0) = true then (1, cnt ofName s.data.toList) else if digit (s[0]'h0) = true then (2, numSize s.data.toList) else (3, signSize s.data.toList)) := by
    have e := drop_at s 0 h0
    rw [List.drop_zero] at e
    rw [Hid, e]; rfl
  have H1 := letter_is (s[0]'h0) w
  have H2 := digit_is (s[0]'h0) w
  by_cases h1 : letter (s[0]'h0) = true
  · rw [h1] at H1
    have HR : Hid (first s.data.toList = (1, cnt ofName s.data.toList)) := by have := HF.out; rw [if_pos h1] at this; exact this
    have H3 := count_s s 51 ofName tells29 hl w
    clear HF h1 H2
    go_enter Try.func37, Try.ntmps37
    go_wp2_with fail
    refine H1.mono ?_
    rintro e w' ⟨rfl, rfl⟩
    go_wp2_with fail
    refine H3.mono ?_
    rintro e w' ⟨rfl, rfl⟩
    go_wp2
    go_ret2
    exact ⟨by rw [HR.out]; rfl, rfl⟩
  · have h1' : letter (s[0]'h0) = false := by simpa using h1
    rw [h1'] at H1
    have HF' : Hid (first s.data.toList = if digit (s[0]'h0) = true then (2, numSize s.data.toList) else (3, signSize s.data.toList)) := by have := HF.out; rw [if_neg h1] at this; exact this
    clear HF h1 h1'
    by_cases h2 : digit (s[0]'h0) = true
    · rw [h2] at H2
      have HR : Hid (first s.data.toList = (2, numSize s.data.toList)) := by have := HF'.out; rw [if_pos h2] at this; exact this
      have H3 := numberSize_s s hl w
      clear HF' h2
      go_enter Try.func37, Try.ntmps37
      go_wp2_with fail
      refine H1.mono ?_
      rintro e w' ⟨rfl, rfl⟩
      go_wp2_with fail
      refine H2.mono ?_
      rintro e w' ⟨rfl, rfl⟩
      go_wp2_with fail
      refine H3.mono ?_
      rintro e w' ⟨rfl, rfl⟩
      go_wp2
      go_ret2
      exact ⟨by rw [HR.out]; rfl, rfl⟩
    · have h2' : digit (s[0]'h0) = false := by simpa using h2
      rw [h2'] at H2
      have HR : Hid (first s.data.toList = (3, signSize s.data.toList)) := by have := HF'.out; rw [if_neg h2] at this; exact this
      have H3 := signSize_s s hl w
      clear HF' h2 h2'
      go_enter Try.func37, Try.ntmps37
      go_wp2_with fail
      refine H1.mono ?_
      rintro e w' ⟨rfl, rfl⟩
      go_wp2_with fail
      refine H2.mono ?_
      rintro e w' ⟨rfl, rfl⟩
      go_wp2_with fail
      refine H3.mono ?_
      rintro e w' ⟨rfl, rfl⟩
      go_wp2
      go_ret2
      exact ⟨by rw [HR.out]; rfl, rfl⟩

set_option maxRecDepth 100000 in
theorem clone_s (s : ByteArray) (hl : s.size ≤ 100000000) (w : World) :
    Calls Try.prog 38 #[.string s] w fun e w' => e = .returned (.string s) ∧ Below w.heap.size w w' := by
  have H := Try.stringslite_Clone s w (by omega)
  go_enter Try.func38, Try.ntmps38
  go_wp2_with fail
  refine H.mono ?_
  rintro e w' ⟨rfl, hb⟩
  have HB := hide hb
  clear hb
  go_wp2
  go_ret
  exact ⟨rfl, HB.out⟩

end Go.Proofs.Ytgndnodahlabiaa
