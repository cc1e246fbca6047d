/-
  The law TokenStands (layer 9): the contract of gap.
-/
import Derived.Test.YtekangigfhhkoaaStdP
import Derived.Test.YtekangigfhhkoaaMorA
namespace Go.Proofs.Ytekangigfhhkoaa
open Go.ChangeShapes Go.WideShapes Go.ChangeAt Go.RowKit Go.Shelf

theorem slice_cons (s : ByteArray) (k to : Nat) (h : k < to) (h2 : to ≤ s.size) : (s.data.toList.drop k).take (to - k) = (s[k]'(by omega)) :: (s.data.toList.drop (k + 1)).take (to - (k + 1)) := by
  rw [drop_at s k (by omega)]
  obtain ⟨m, hm⟩ : ∃ m, to - k = m + 1 := ⟨to - k - 1, by omega⟩
  rw [hm, List.take_succ_cons, show to - (k + 1) = m by omega]
set_option maxRecDepth 100000 in
set_option maxHeartbeats 2000000 in
theorem gap_s (s : ByteArray) (a b : Nat) (h1 : a ≤ b) (h2 : b ≤ s.size) (hl : s.size ≤ 100000000) (hg : gapL false ((s.data.toList.drop a).take (b - a)) = true) (w : World) :
    Calls Try.prog 21 #[.string s, .int .i64 (a : Int), .int .i64 (b : Int)] w fun e w' => e = .returned (.bool true) ∧ w' = w := by
  have e1 : ((a : Int) < 0) = False := eq_false (by omega)
  have e2 : ((b : Int) < (a : Int)) = False := eq_false (by omega)
  have e3 : ((s.size : Int) < (b : Int)) = False := eq_false (by omega)
  have HG := hide hg
  clear hg
  go_enter Try.func21, Try.ntmps21
  go_wp2
  go_loopw [7, 8] (fun r i wr => ∃ (k : Nat) (row : Bool), i = .int .i64 (k : Int) ∧ r = .bool row ∧ k ≤ b ∧ gapL row ((s.data.toList.drop k).take (b - k)) = true ∧ wr = w) (fun _ i _ => b - (RowKit.intOf i).toNat)
  case atStart => exact ⟨a, false, rfl, rfl, h1, HG.out, rfl⟩
  case round =>
    clear e1 e2 HG
    obtain ⟨k, row, rfl, rfl, hk, hg, rfl⟩ := hrel
    by_cases hlt : k < b
    · have e1 : ((k : Int) < (b : Int)) = True := eq_true (by omega)
      have hks : k < s.size := by omega
      rw [slice_cons s k b hlt h2] at hg
      have hg' : ((rowN row (s[k]'hks) ((s.data.toList.drop (k + 1)).take (b - (k + 1))) || blank (s[k]'hks)) && gapL (rowN row (s[k]'hks) ((s.data.toList.drop (k + 1)).take (b - (k + 1)))) ((s.data.toList.drop (k + 1)).take (b - (k + 1)))) = true := hg
      rw [Bool.and_eq_true] at hg'
      obtain ⟨hg1, hg2⟩ := hg'
      clear hg
      by_cases hr : row = true
      · subst hr
        by_cases h10 : (s[k]'hks).toNat = 10
        · have hn : rowN true (s[k]'hks) ((s.data.toList.drop (k + 1)).take (b - (k + 1))) = false := by simp [rowN, h10]
          rw [hn] at hg2
          have HG := hide hg2
          have hv : ((s[k]'hks).toNat : Int) = 10 := by omega
          clear hg1 hg2 hn h10
          go_wp2
          go_roundw
          case rel => exact ⟨k + 1, false, by go_num, by first | rfl | trivial, hlt, HG.out, by first | rfl | trivial⟩
          case measure => simp [RowKit.intOf]; omega
        · have hn : rowN true (s[k]'hks) ((s.data.toList.drop (k + 1)).take (b - (k + 1))) = true := by simp [rowN, h10]
          rw [hn] at hg2
          have HG := hide hg2
          have hv : (((s[k]'hks).toNat : Int) != 10) = true := bne_iff_ne.2 (by omega)
          have hv2 : (((s[k]'hks).toNat : Int) = 10) = False := eq_false (by omega)
          clear hg1 hg2 hn h10
          go_wp2
          go_roundw
          case rel => exact ⟨k + 1, true, by go_num, by first | rfl | trivial, hlt, HG.out, by first | rfl | trivial⟩
          case measure => simp [RowKit.intOf]; omega
      · have hr' : row = false := by simpa using hr
        subst hr'
        by_cases h47 : (s[k]'hks).toNat = 47
        · have hv : ((s[k]'hks).toNat : Int) = 47 := by omega
          by_cases hk1 : k + 1 < b
          · have hks1 : k + 1 < s.size := by omega
            by_cases hn47 : (s[k + 1]'hks1).toNat = 47
            · have hn : rowN false (s[k]'hks) ((s.data.toList.drop (k + 1)).take (b - (k + 1))) = true := by
                rw [slice_cons s (k + 1) b hk1 h2]; simp [rowN, head47, h47, hn47]
              rw [hn] at hg2
              have HG := hide hg2
              have e4 : ((k : Int) + 1 < (b : Int)) = True := eq_true (by omega)
              have hv3 : ((s[k + 1]'hks1).toNat : Int) = 47 := by omega
              clear hg1 hg2 hn h47 hn47
              go_wp2
              go_roundw
              case rel => exact ⟨k + 1, true, by go_num, by first | rfl | trivial, hlt, HG.out, by first | rfl | trivial⟩
              case measure => simp [RowKit.intOf]; omega
            · exfalso
              have hn : rowN false (s[k]'hks) ((s.data.toList.drop (k + 1)).take (b - (k + 1))) = false := by
                rw [slice_cons s (k + 1) b hk1 h2]; simp [rowN, head47, hn47]
              rw [hn] at hg1
              simp [blank, h47] at hg1
          · exfalso
            have hn : rowN false (s[k]'hks) ((s.data.toList.drop (k + 1)).take (b - (k + 1))) = false := by
              rw [show b - (k + 1) = 0 by omega, List.take_zero]; simp [rowN, head47]
            rw [hn] at hg1
            simp [blank, h47] at hg1
        · have hn : rowN false (s[k]'hks) ((s.data.toList.drop (k + 1)).take (b - (k + 1))) = false := by simp [rowN, h47]
          rw [hn] at hg1 hg2
          have HG := hide hg2
          have hbl : (s[k]'hks).toNat = 32 ∨ (s[k]'hks).toNat = 9 ∨ (s[k]'hks).toNat = 10 ∨ (s[k]'hks).toNat = 13 := by
            simp [blank] at hg1
            omega
          clear hg1 hg2 hn h47
          rcases hbl with h | h | h | h
          · have hv : ((s[k]'hks).toNat : Int) = 32 := by omega
            clear h
            go_wp2
            go_roundw
            case rel => exact ⟨k + 1, false, by go_num, by first | rfl | trivial, hlt, HG.out, by first | rfl | trivial⟩
            case measure => simp [RowKit.intOf]; omega
          · have hv : ((s[k]'hks).toNat : Int) = 9 := by omega
            clear h
            go_wp2
            go_roundw
            case rel => exact ⟨k + 1, false, by go_num, by first | rfl | trivial, hlt, HG.out, by first | rfl | trivial⟩
            case measure => simp [RowKit.intOf]; omega
          · have hv : ((s[k]'hks).toNat : Int) = 10 := by omega
            clear h
            go_wp2
            go_roundw
            case rel => exact ⟨k + 1, false, by go_num, by first | rfl | trivial, hlt, HG.out, by first | rfl | trivial⟩
            case measure => simp [RowKit.intOf]; omega
          · have hv : ((s[k]'hks).toNat : Int) = 13 := by omega
            clear h
            go_wp2
            go_roundw
            case rel => exact ⟨k + 1, false, by go_num, by first | rfl | trivial, hlt, HG.out, by first | rfl | trivial⟩
            case measure => simp [RowKit.intOf]; omega
    · have hkb : k = b := by omega
      have e1 : ((k : Int) < (b : Int)) = False := eq_false (by omega)
      go_wp2
      go_ret
      exact ⟨rfl, rfl⟩

end Go.Proofs.Ytekangigfhhkoaa
