/-
  Numbers (layer 9): the contract of Number.
-/
import Derived.Test.YtekangigfhhkoaaBtw
namespace Go.Proofs.Ytekangigfhhkoaa
open Go.ChangeShapes Go.WideShapes Go.ChangeAt Go.RowKit Go.Shelf

/-- What Number answers. -/
def numV : Option Nat → Value
  | some n => .tuple #[.int .i64 (n : Int), .bool true]
  | none => .tuple #[.int .i64 0, .bool false]
theorem numV_some (n : Nat) : numV (some n) = .tuple #[.int .i64 (n : Int), .bool true] := rfl
theorem numV_none : numV none = .tuple #[.int .i64 0, .bool false] := rfl
theorem lead0_l (l : List UInt8) (h : 2 ≤ l.length) : lead0 l = decide ((l[0]'(by omega)).toNat = 48) := by
  match l, h with
  | a :: b :: t, _ => rfl
theorem lead0_at (s : ByteArray) (h : 2 ≤ s.size) : lead0 s.data.toList = decide ((s[0]'(by omega)).toNat = 48) := by
  rw [← s_at, lead0_l _ (by rw [s_size]; exact h)]
theorem lead0_short {l : List UInt8} (h : l.length ≤ 1) : lead0 l = false := by
  match l, h with
  | [], _ => rfl
  | [a], _ => rfl
  | a :: b :: t, h => simp at h
theorem digit_fits (c : UInt8) (h : digit c = true) : 48 ≤ c.toNat ∧ c.toNat ≤ 57 := by
  simpa [digit] using h
theorem drop_at (s : ByteArray) (k : Nat) (h : k < s.size) : s.data.toList.drop k = (s[k]'h) :: s.data.toList.drop (k + 1) := by
  rw [← s_at]; exact List.drop_eq_getElem_cons (by rw [s_size]; exact h)
set_option maxRecDepth 100000 in
set_option maxHeartbeats 1000000 in
theorem number_s (s : ByteArray) (hl : s.size ≤ 100000000) (w : World) :
    Calls Try.prog 13 #[.string s] w fun e w' => e = .returned (numV (num s.data.toList)) ∧ w' = w := by
  by_cases h0 : s.size = 0
  · have hn : s.data.toList = [] := List.length_eq_zero_iff.1 (by rw [s_size]; exact h0)
    rw [hn]
    have q0 : (s.toList = []) = True := eq_true (by rw [ByteArray.toList_eq]; exact hn)
    have q1 : s.toList.isEmpty = true := by rw [ByteArray.toList_eq, hn]; rfl
    have q2 : ((1 : Int) < (s.size : Int)) = False := eq_false (by omega)
    clear hn h0
    go_enter Try.func13, Try.ntmps13
    go_wp2
    go_ret2
    exact ⟨rfl, rfl⟩
  have hne : s.data.toList ≠ [] := fun h => h0 (by rw [← s_size, h]; rfl)
  have q0 : (s.toList = []) = False := eq_false (by rw [ByteArray.toList_eq]; exact hne)
  have q1 : s.toList.isEmpty = false := by rw [ByteArray.toList_eq]; simpa using hne
  have HS : Hid (num s.data.toList = if lead0 s.data.toList = true then none else numTo 0 s.data.toList) := by rw [Hid, num, if_neg hne]
  clear hne
  by_cases h1 : s.size = 1
  · have HS' : Hid (num s.data.toList = numTo 0 s.data.toList) := by have := HS.out; rw [lead0_short (by rw [s_size]; omega)] at this; rw [Hid]; simpa using this
    have q2 : ((1 : Int) < (s.size : Int)) = False := eq_false (by omega)
    clear HS h0 h1
    go_enter Try.func13, Try.ntmps13
    go_wp2
    go_loopw [4, 21] (fun n i wr => ∃ m k : Nat, n = .int .i64 (m : Int) ∧ i = .int .i64 (k : Int) ∧ k ≤ s.size ∧ m ≤ 9223372036854775807 ∧ numTo m (s.data.toList.drop k) = numTo 0 s.data.toList ∧ wr = w) (fun _ i _ => s.size - (RowKit.intOf i).toNat)
    case atStart => exact ⟨0, 0, rfl, rfl, Nat.zero_le _, by omega, rfl, rfl⟩
    case round =>
      obtain ⟨m, k, rfl, rfl, hk, hm, hnt, rfl⟩ := hrel
      by_cases hlt : k < s.size
      · have e1 : ((k : Int) < (s.size : Int)) = True := eq_true (by omega)
        have H := digit_is (s[k]'hlt) wr
        have HNT := hide hnt
        rw [drop_at s k hlt, numTo] at HNT
        clear hnt
        by_cases hd : digit (s[k]'hlt) = true
        · rw [hd] at H
          have HF := hide (digit_fits _ hd)
          rw [if_pos hd] at HNT
          clear hd
          go_wp2_with fail
          refine H.mono ?_
          rintro e w' ⟨rfl, rfl⟩
          clear H
          obtain ⟨f1, f2⟩ := HF.out
          clear HF
          obtain ⟨d, hd⟩ : ∃ d : Nat, (s[k]'hlt).toNat = d + 48 := ⟨(s[k]'hlt).toNat - 48, by omega⟩
          have HNT' : Hid ((if (9223372036854775807 - d) / 10 < m then none else numTo (10 * m + d) (s.data.toList.drop (k + 1))) = numTo 0 s.data.toList) := by
            have := HNT.out
            rw [hd, show d + 48 - 48 = d by omega] at this
            exact this
          have hdv : (((s[k]'hlt).toNat : Int) - 48) % 256 = (d : Int) := by omega
          have hd9 : d ≤ 9 := by omega
          clear HNT hd f1 f2
          by_cases hov : (9223372036854775807 - d) / 10 < m
          · have e3 : ((9223372036854775807 - (d : Int)) / 10 < (m : Int)) = True := eq_true (by omega)
            have HNT := HNT'
            rw [if_pos hov] at HNT
            clear hov HNT'
            go_wp2
            go_ret2
            exact ⟨by rw [HS'.out, ← HNT.out]; rfl, rfl⟩
          · have e3 : ((9223372036854775807 - (d : Int)) / 10 < (m : Int)) = False := eq_false (by omega)
            have HNT := HNT'
            rw [if_neg hov] at HNT
            have b1 : 10 * m + d ≤ 9223372036854775807 := by omega
            clear hov HNT'
            go_wp2
            go_roundw
            case rel => exact ⟨10 * m + d, k + 1, by go_num, by go_num, hlt, b1, HNT.out, by first | rfl | trivial⟩
            case measure => simp [RowKit.intOf]; omega
        · have hd' : digit (s[k]'hlt) = false := by simpa using hd
          rw [hd'] at H
          rw [if_neg hd] at HNT
          clear hd hd'
          go_wp2_with fail
          refine H.mono ?_
          rintro e w' ⟨rfl, rfl⟩
          go_wp2
          go_ret2
          exact ⟨by rw [HS'.out, ← HNT.out]; rfl, rfl⟩
      · have hkn : k = s.size := by omega
        have e1 : ((k : Int) < (s.size : Int)) = False := eq_false (by omega)
        have HNT : Hid (numTo 0 s.data.toList = some m) := by rw [Hid, ← hnt, List.drop_of_length_le (by rw [s_size]; omega)]; rfl
        clear hnt
        go_wp2
        go_ret2
        exact ⟨by rw [HS'.out, HNT.out]; rfl, rfl⟩
  have q2 : ((1 : Int) < (s.size : Int)) = True := eq_true (by omega)
  have h2 : 2 ≤ s.size := by omega
  have h3 : 0 < s.size := by omega
  have HL := hide (lead0_at s h2)
  by_cases h4 : (s[0]'h3).toNat = 48
  · have q3 : (((s[0]'h3).toNat : Int) == 48) = true := beq_iff_eq.2 (by omega)
    have HN : Hid (num s.data.toList = none) := by have := HS.out; rw [HL.out, decide_eq_true h4] at this; rw [Hid]; simpa using this
    clear HL h0 h1 h4 HS
    go_enter Try.func13, Try.ntmps13
    go_wp2
    go_ret2
    exact ⟨by rw [HN.out]; rfl, rfl⟩
  · have q3 : (((s[0]'h3).toNat : Int) == 48) = false := beq_eq_false_iff_ne.2 (by omega)
    have HS' : Hid (num s.data.toList = numTo 0 s.data.toList) := by have := HS.out; rw [HL.out, decide_eq_false h4] at this; rw [Hid]; simpa using this
    clear HL h0 h1 h4 HS
    go_enter Try.func13, Try.ntmps13
    go_wp2
    go_loopw [4, 21] (fun n i wr => ∃ m k : Nat, n = .int .i64 (m : Int) ∧ i = .int .i64 (k : Int) ∧ k ≤ s.size ∧ m ≤ 9223372036854775807 ∧ numTo m (s.data.toList.drop k) = numTo 0 s.data.toList ∧ wr = w) (fun _ i _ => s.size - (RowKit.intOf i).toNat)
    case atStart => exact ⟨0, 0, rfl, rfl, Nat.zero_le _, by omega, rfl, rfl⟩
    case round =>
      obtain ⟨m, k, rfl, rfl, hk, hm, hnt, rfl⟩ := hrel
      by_cases hlt : k < s.size
      · have e1 : ((k : Int) < (s.size : Int)) = True := eq_true (by omega)
        have H := digit_is (s[k]'hlt) wr
        have HNT := hide hnt
        rw [drop_at s k hlt, numTo] at HNT
        clear hnt
        by_cases hd : digit (s[k]'hlt) = true
        · rw [hd] at H
          have HF := hide (digit_fits _ hd)
          rw [if_pos hd] at HNT
          clear hd
          go_wp2_with fail
          refine H.mono ?_
          rintro e w' ⟨rfl, rfl⟩
          clear H
          obtain ⟨f1, f2⟩ := HF.out
          clear HF
          obtain ⟨d, hd⟩ : ∃ d : Nat, (s[k]'hlt).toNat = d + 48 := ⟨(s[k]'hlt).toNat - 48, by omega⟩
          have HNT' : Hid ((if (9223372036854775807 - d) / 10 < m then none else numTo (10 * m + d) (s.data.toList.drop (k + 1))) = numTo 0 s.data.toList) := by
            have := HNT.out
            rw [hd, show d + 48 - 48 = d by omega] at this
            exact this
          have hdv : (((s[k]'hlt).toNat : Int) - 48) % 256 = (d : Int) := by omega
          have hd9 : d ≤ 9 := by omega
          clear HNT hd f1 f2
          by_cases hov : (9223372036854775807 - d) / 10 < m
          · have e3 : ((9223372036854775807 - (d : Int)) / 10 < (m : Int)) = True := eq_true (by omega)
            have HNT := HNT'
            rw [if_pos hov] at HNT
            clear hov HNT'
            go_wp2
            go_ret2
            exact ⟨by rw [HS'.out, ← HNT.out]; rfl, rfl⟩
          · have e3 : ((9223372036854775807 - (d : Int)) / 10 < (m : Int)) = False := eq_false (by omega)
            have HNT := HNT'
            rw [if_neg hov] at HNT
            have b1 : 10 * m + d ≤ 9223372036854775807 := by omega
            clear hov HNT'
            go_wp2
            go_roundw
            case rel => exact ⟨10 * m + d, k + 1, by go_num, by go_num, hlt, b1, HNT.out, by first | rfl | trivial⟩
            case measure => simp [RowKit.intOf]; omega
        · have hd' : digit (s[k]'hlt) = false := by simpa using hd
          rw [hd'] at H
          rw [if_neg hd] at HNT
          clear hd hd'
          go_wp2_with fail
          refine H.mono ?_
          rintro e w' ⟨rfl, rfl⟩
          go_wp2
          go_ret2
          exact ⟨by rw [HS'.out, ← HNT.out]; rfl, rfl⟩
      · have hkn : k = s.size := by omega
        have e1 : ((k : Int) < (s.size : Int)) = False := eq_false (by omega)
        have HNT : Hid (numTo 0 s.data.toList = some m) := by rw [Hid, ← hnt, List.drop_of_length_le (by rw [s_size]; omega)]; rfl
        clear hnt
        go_wp2
        go_ret2
        exact ⟨by rw [HS'.out, HNT.out]; rfl, rfl⟩
end Go.Proofs.Ytekangigfhhkoaa
