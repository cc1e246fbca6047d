/-
  The document's own Const (layer 5): its contract, by walks over the translation.
-/
import Derived.Test.YtbfmadcppnfgpaaGreatDoorConst
namespace Go.Proofs.YtbfmadcppnfgpaaGreatDoor
open Go.ChangeShapes Go.WideShapes Go.ChangeAt Go.RowKit

theorem tdiv_is (n : Int) : Int.tdiv n 4294967296 = if n < 0 ∧ n % 4294967296 ≠ 0 then n / 4294967296 + 1 else n / 4294967296 := by
  have hs : Int.sign 4294967296 = 1 := rfl
  rw [Int.tdiv_eq_ediv, hs]
  have hd := Int.dvd_iff_emod_eq_zero (a := 4294967296) (b := n)
  split <;> split <;> rename_i h1 h2 <;> rw [hd] at h1 <;> omega
theorem tmod_is (n : Int) : Int.tmod n 4294967296 = if n < 0 ∧ n % 4294967296 ≠ 0 then n % 4294967296 - 4294967296 else n % 4294967296 := by
  have hs : ((Int.natAbs 4294967296 : Nat) : Int) = 4294967296 := rfl
  rw [Int.tmod_eq_emod]
  have hd := Int.dvd_iff_emod_eq_zero (a := 4294967296) (b := n)
  split <;> split <;> rename_i h1 h2 <;> rw [hd] at h1 <;> first | omega | (rw [hs]) | (simp; omega)

set_option maxHeartbeats 4000000 in
set_option maxRecDepth 100000 in
theorem refconst_any (r n : Int) (hn : Fits n) (w : World) :
    Calls Tryz.prog 7 #[.int .i64 r, .int .i64 n] w fun e w' => ∃ g, e = .returned (.slice (some ⟨g, 0, none⟩) (constL r n).length (constL r n).length) ∧ IsIns w' (some ⟨g, 0, none⟩) g 0 (constL r n) ∧ w.heap.size ≤ g ∧ Below w.heap.size w w' := by
  obtain ⟨hn1, hn2⟩ := hn
  by_cases h0 : -2147483648 ≤ n ∧ n ≤ 2147483647
  · obtain ⟨h1, h2⟩ := h0
    have hc : constL r n = [⟨1, r, 0, 0, n⟩] := by unfold constL; rw [if_pos ⟨h1, h2⟩]
    rw [hc]
    go_enter Tryz.func7, Tryz.ntmps7
    go_wp2
    go_ret
    exact ⟨w.heap.size, rfl, new_ins w [⟨1, r, 0, 0, n⟩], Nat.le_refl _, (Below.refl _ w).alloc (Nat.le_refl _) _⟩
  · have hc : constL r n = [⟨1, r, 0, 0, n / 4294967296⟩, ⟨2, r, 0, 0, lowOf n⟩] := by unfold constL; rw [if_neg h0]
    rw [hc]
    by_cases hneg : n < 0
    · have hA : n < -2147483648 := by omega
      by_cases hz : n % 4294967296 = 0
      · have h3 : n % 4294967296 < 2147483648 := by omega
        have hd : Int.tdiv n 4294967296 = n / 4294967296 := by rw [tdiv_is, if_neg (by omega)]
        have hm : Int.tmod n 4294967296 = n % 4294967296 := by rw [tmod_is, if_neg (by omega)]
        have hl : lowOf n = n % 4294967296 := if_pos h3
        rw [hl, hz]
        have e1 : n / 4294967296 + 1 - 1 = n / 4294967296 := by omega
        have e2 : n % 4294967296 - 4294967296 + 4294967296 = n % 4294967296 := by omega
        clear hc hl
        go_enter Tryz.func7, Tryz.ntmps7
        go_wp2
        all_goals go_ret
        all_goals exact ⟨w.heap.size, rfl, by first | exact new_ins w [⟨1, r, 0, 0, n / 4294967296⟩, ⟨2, r, 0, 0, 0⟩] | (simp only [e1, e2]; exact new_ins w [⟨1, r, 0, 0, n / 4294967296⟩, ⟨2, r, 0, 0, 0⟩]), Nat.le_refl _, (Below.refl _ w).alloc (Nat.le_refl _) _⟩
      · by_cases h3 : n % 4294967296 < 2147483648
        · have hd : Int.tdiv n 4294967296 = n / 4294967296 + 1 := by rw [tdiv_is, if_pos (by omega)]
          have hm : Int.tmod n 4294967296 = n % 4294967296 - 4294967296 := by rw [tmod_is, if_pos (by omega)]
          have hl : lowOf n = n % 4294967296 := if_pos h3
          rw [hl]
          have e1 : n / 4294967296 + 1 - 1 = n / 4294967296 := by omega
          have e2 : n % 4294967296 - 4294967296 + 4294967296 = n % 4294967296 := by omega
          clear hc hl
          go_enter Tryz.func7, Tryz.ntmps7
          go_wp2
          all_goals go_ret
          all_goals exact ⟨w.heap.size, rfl, by first | exact new_ins w [⟨1, r, 0, 0, n / 4294967296⟩, ⟨2, r, 0, 0, n % 4294967296⟩] | (simp only [e1, e2]; exact new_ins w [⟨1, r, 0, 0, n / 4294967296⟩, ⟨2, r, 0, 0, n % 4294967296⟩]), Nat.le_refl _, (Below.refl _ w).alloc (Nat.le_refl _) _⟩
        · have hd : Int.tdiv n 4294967296 = n / 4294967296 + 1 := by rw [tdiv_is, if_pos (by omega)]
          have hm : Int.tmod n 4294967296 = n % 4294967296 - 4294967296 := by rw [tmod_is, if_pos (by omega)]
          have hl : lowOf n = n % 4294967296 - 4294967296 := if_neg h3
          rw [hl]
          have e1 : n / 4294967296 + 1 - 1 = n / 4294967296 := by omega
          have e2 : n % 4294967296 - 4294967296 + 4294967296 = n % 4294967296 := by omega
          clear hc hl
          go_enter Tryz.func7, Tryz.ntmps7
          go_wp2
          all_goals go_ret
          all_goals exact ⟨w.heap.size, rfl, by first | exact new_ins w [⟨1, r, 0, 0, n / 4294967296⟩, ⟨2, r, 0, 0, n % 4294967296 - 4294967296⟩] | (simp only [e1, e2]; exact new_ins w [⟨1, r, 0, 0, n / 4294967296⟩, ⟨2, r, 0, 0, n % 4294967296 - 4294967296⟩]), Nat.le_refl _, (Below.refl _ w).alloc (Nat.le_refl _) _⟩
    · have hA : 2147483647 < n := by omega
      by_cases h3 : n % 4294967296 < 2147483648
      · have hd : Int.tdiv n 4294967296 = n / 4294967296 := by rw [tdiv_is, if_neg (by omega)]
        have hm : Int.tmod n 4294967296 = n % 4294967296 := by rw [tmod_is, if_neg (by omega)]
        have hl : lowOf n = n % 4294967296 := if_pos h3
        rw [hl]
        have e1 : n / 4294967296 + 1 - 1 = n / 4294967296 := by omega
        have e2 : n % 4294967296 - 4294967296 + 4294967296 = n % 4294967296 := by omega
        clear hc hl
        go_enter Tryz.func7, Tryz.ntmps7
        go_wp2
        all_goals go_ret
        all_goals exact ⟨w.heap.size, rfl, by first | exact new_ins w [⟨1, r, 0, 0, n / 4294967296⟩, ⟨2, r, 0, 0, n % 4294967296⟩] | (simp only [e1, e2]; exact new_ins w [⟨1, r, 0, 0, n / 4294967296⟩, ⟨2, r, 0, 0, n % 4294967296⟩]), Nat.le_refl _, (Below.refl _ w).alloc (Nat.le_refl _) _⟩
      · have hd : Int.tdiv n 4294967296 = n / 4294967296 := by rw [tdiv_is, if_neg (by omega)]
        have hm : Int.tmod n 4294967296 = n % 4294967296 := by rw [tmod_is, if_neg (by omega)]
        have hl : lowOf n = n % 4294967296 - 4294967296 := if_neg h3
        rw [hl]
        have e1 : n / 4294967296 + 1 - 1 = n / 4294967296 := by omega
        have e2 : n % 4294967296 - 4294967296 + 4294967296 = n % 4294967296 := by omega
        clear hc hl
        go_enter Tryz.func7, Tryz.ntmps7
        go_wp2
        all_goals go_ret
        all_goals exact ⟨w.heap.size, rfl, by first | exact new_ins w [⟨1, r, 0, 0, n / 4294967296⟩, ⟨2, r, 0, 0, n % 4294967296 - 4294967296⟩] | (simp only [e1, e2]; exact new_ins w [⟨1, r, 0, 0, n / 4294967296⟩, ⟨2, r, 0, 0, n % 4294967296 - 4294967296⟩]), Nat.le_refl _, (Below.refl _ w).alloc (Nat.le_refl _) _⟩

end Go.Proofs.YtbfmadcppnfgpaaGreatDoor
