/-
  What stands between tokens (layer 9): the contract of between.
-/
import Derived.Test.YtekangigfhhkoaaPrd
import Derived.Test.YtekangigfhhkoaaShelf
namespace Go.Proofs.Ytekangigfhhkoaa
open Go.ChangeShapes Go.WideShapes Go.ChangeAt Go.RowKit Go.Shelf

theorem s_cut (s : ByteArray) (a b : Nat) : (s.extract a b).data.toList = (s.data.toList.drop a).take (b - a) := by
  rw [ByteArray.data_extract]
  simp
theorem s_drop (s : ByteArray) (k : Nat) : (s.extract k s.size).data.toList = s.data.toList.drop k := by
  rw [s_cut]
  exact List.take_of_length_le (by rw [List.length_drop, s_size]; exact Nat.le_refl _)
theorem prefix_sl (s : ByteArray) : Lib.hasPrefix s.data.toList [47, 47] = sl s.data.toList := by
  match s.data.toList with
  | [] => rfl
  | [a] => simp [Lib.hasPrefix, sl, List.isPrefixOf]
  | a :: b :: t =>
    have h : ∀ c : UInt8, ((47 : UInt8) == c) = decide (c.toNat = 47) := fun c => by
      by_cases hc : c.toNat = 47
      · have : c = 47 := UInt8.toNat_inj.1 hc
        subst this; simp
      · have : c ≠ 47 := fun e => hc (by rw [e]; rfl)
        simp [hc, Ne.symm this]
    simp [Lib.hasPrefix, sl, List.isPrefixOf, h]
set_option maxRecDepth 100000 in
set_option maxHeartbeats 1000000 in
theorem between_s (s : ByteArray) (hl : s.size ≤ 100000000) (w : World) :
    Calls Try.prog 35 #[.string s] w fun e w' => e = .returned (.int .i64 (betw s.data.toList : Int)) ∧ w' = w := by
  have HS : Hid (∀ k, k ≤ s.size → (s.extract k s.size).size = s.size - k) := fun k hk => by rw [← s_size, s_drop, List.length_drop, s_size]
  have HD := hide (s_drop s)
  go_enter Try.func35, Try.ntmps35
  go_wp2
  go_loopw [3] (fun i wr => ∃ k : Nat, i = .int .i64 (k : Int) ∧ k ≤ s.size ∧ k + betw (s.data.toList.drop k) = betw s.data.toList ∧ wr = w) (fun i _ => s.size - (RowKit.intOf i).toNat)
  case atStart => exact ⟨0, rfl, Nat.zero_le _, by simp, rfl⟩
  case round =>
    obtain ⟨k, rfl, hk, hb, rfl⟩ := hrel
    have H1 := count_s (s.extract k s.size) 39 blank tells39 (by rw [HS.out k hk]; omega) wr
    have hle1 := cnt_le blank (s.extract k s.size).data.toList
    rw [HD.out] at H1 hle1
    rw [List.length_drop, s_size] at hle1
    rw [betw_eq, drop_sub] at hb
    have HB := hide hb
    clear hb
    generalize hc1 : cnt blank (s.data.toList.drop k) = c1 at *
    have HC1 := hide hc1
    clear hc1
    have hk1 : k + c1 ≤ s.size := by omega
    have H2 := Try.strings_HasPrefix (s.extract (k + c1) s.size) (bs [47, 47]) wr
    rw [bs_data, prefix_sl, HD.out] at H2
    have H3 := count_s (s.extract (k + c1) s.size) 41 ofRow tells41 (by rw [HS.out _ hk1]; omega) wr
    have hle3 := cnt_le ofRow (s.extract (k + c1) s.size).data.toList
    rw [HD.out] at H3 hle3
    rw [List.length_drop, s_size] at hle3
    by_cases hsl : sl (s.data.toList.drop (k + c1)) = true
    · have h2 := sl_row hsl
      rw [hsl] at H2 HB
      rw [if_pos rfl, ← Nat.add_assoc] at HB
      clear hsl
      rw [drop_sub] at HB
      generalize hc2 : cnt ofRow (s.data.toList.drop (k + c1)) = c2 at *
      clear hc2
      go_wp2_with fail
      refine H1.mono ?_
      rintro e w' ⟨rfl, rfl⟩
      go_wp2_with fail
      refine H2.mono ?_
      rintro e w' ⟨rfl, rfl⟩
      go_wp2_with fail
      refine H3.mono ?_
      rintro e w' ⟨rfl, rfl⟩
      go_wp2
      go_roundw
      case rel => exact ⟨k + c1 + c2, by go_num, by omega, by have := HB.out; rw [show k + c1 + c2 = k + (c1 + c2) by omega]; omega, by first | rfl | trivial⟩
      case measure => simp [RowKit.intOf]; omega
    · have hsl' : sl (s.data.toList.drop (k + c1)) = false := by simpa using hsl
      rw [hsl'] at H2 HB
      rw [if_neg (by simp)] at HB
      clear hsl hsl'
      go_wp2_with fail
      refine H1.mono ?_
      rintro e w' ⟨rfl, rfl⟩
      go_wp2_with fail
      refine H2.mono ?_
      rintro e w' ⟨rfl, rfl⟩
      go_wp2
      go_ret
      exact ⟨by rw [← HB.out]; first | rfl | simp, rfl⟩
end Go.Proofs.Ytekangigfhhkoaa
