/-
  The document's own memory (layer 3): SetFloor and Alloc.
-/
import Derived.Test.YtmpfcplkgkhboaaRef
namespace Go.Proofs.Ytmpfcplkgkhboaa
open Go.ChangeShapes Go.WideShapes Go.ChangeAt Go.RowKit Go.Maps

theorem refSetFloor_no {w : World} {Q M n : Nat} {g : Int → Int} {N h f : Nat} (m : RefM w Q M n g N h f) (a : Int) (ha : a < (h : Int) ∨ (N : Int) < a) :
    Calls Try.prog 19 #[ptr Q, iv a] w fun e w' => e = .returned (iv 8) ∧ w' = w := by
  have k0 := m.c0
  have k1 := m.c1
  by_cases h1 : a < (h : Int)
  · go_enter Try.func19, Try.ntmps19
    go_wp2
    go_ret
    exact ⟨rfl, rfl⟩
  · have h2 : (N : Int) < a := by omega
    go_enter Try.func19, Try.ntmps19
    go_wp2
    go_ret
    exact ⟨rfl, rfl⟩

/-- What the map holds where the cells from a to j were set to nought. -/
def nought (g : Int → Int) (a j : Nat) : Int → Int := fun b => if (a : Int) ≤ b ∧ b < (j : Int) then 0 else g b
theorem nought_put (g : Int → Int) (a j : Nat) (h : a ≤ j) (b : Int) : nought g a (j + 1) b = if b = (j : Int) then 0 else nought g a j b := by
  unfold nought
  by_cases h1 : b = (j : Int)
  · rw [if_pos h1, if_pos (by omega)]
  · rw [if_neg h1]
    by_cases h2 : (a : Int) ≤ b ∧ b < (j : Int)
    · rw [if_pos h2, if_pos (by omega)]
    · rw [if_neg h2, if_neg (by omega)]
theorem nought_none (g : Int → Int) (a : Nat) (b : Int) : nought g a a b = g b := by
  unfold nought; rw [if_neg (by omega)]

set_option maxRecDepth 100000 in
theorem refSetFloor_is {w : World} {Q M n : Nat} {g : Int → Int} {N h f : Nat} (m : RefM w Q M n g N h f) (a : Nat) (h1 : h ≤ a) (h2 : a ≤ N) (hn : n < 1000000000) :
    Calls Try.prog 19 #[ptr Q, iv a] w fun e w' => e = .returned (iv 0) ∧ Turn Q M w w' ∧ RefM w' Q M (n + N) (nought g a f) N h a := by
  have k0 := m.c0
  have k1 := m.c1
  have b1 := m.one
  have b2 := m.hf
  have b3 := m.fn
  have b4 := m.cap
  have e1 : ((a : Int) < h) = False := by simp; omega
  have e2 : ((N : Int) < a) = False := by simp; omega
  go_enter Try.func19, Try.ntmps19
  go_wp2
  clear k0 k1 e1 e2
  go_loopw [5] (fun i wr => ∃ j : Nat, a ≤ j ∧ (j ≤ f ∨ j = a) ∧ i = iv j ∧ RefM wr Q M (n + (j - a)) (nought g a j) N h f ∧ Turn Q M w wr) (fun i _ => f - (intOf i).toNat)
  case atStart => exact ⟨a, Nat.le_refl _, .inr rfl, rfl, (m.mono (by omega)).same (nought_none g a), Turn.refl _ _ _⟩
  case round =>
    obtain ⟨j, j1, j2, rfl, mj, tj⟩ := hrel
    have k2 := mj.c2
    have k3 := mj.c3
    have kf := mj.fr 2
    by_cases hj : j < f
    · have e3 : ((j : Int) < f) = True := by simp; omega
      obtain ⟨D, hown, hr⟩ := mj.own
      have hkey : keyOf Try.prog 3 (.int .i64 (j : Int)) = some (.int .i64 (j : Int)) := keyOf_int_mk Try.underlying3 (WalkArith.wf_i64 (by omega))
      go_wp2_with (at_mapUpdate; refine wpList_mapUpdate_own _ rfl _ _ _ 34 rfl 3 3 law3 Try.underlying34 _ M (n + (j - a)) D rfl hown (by unfold maxLen; omega) _ _ _ rfl rfl hkey _ [] (plainElem_int Try.underlying3 (WalkArith.wf_i64 (by omega))) ?_; intro w1 hown1 hgrow1)
      go_roundw
      case rel => exact ⟨j + 1, by omega, by omega, by go_num, ((mj.put hown hr hown1 hgrow1).mono (by omega)).same (nought_put g a j j1), tj.grown hgrow1⟩
      case measure => simp [intOf]; omega
    · have e3 : ((j : Int) < f) = False := by simp; omega
      go_wp2
      go_ret
      refine ⟨rfl, tj.setCell 2 _, ?_⟩
      refine (((mj.setF (x := a) h1 h2).mono (by omega)).same fun b => ?_)
      unfold nought
      rcases j2 with j2 | j2
      · rw [show f = j by omega]
      · by_cases hb : (a : Int) ≤ b ∧ b < (f : Int)
        · omega
        · rw [if_neg hb, if_neg (by omega)]

theorem refAlloc_arg {w : World} {Q M n : Nat} {g : Int → Int} {N h f : Nat} (_ : RefM w Q M n g N h f) (k : Int) (hk : k < 0) :
    Calls Try.prog 20 #[ptr Q, iv k] w fun e w' => e = .returned (.tuple #[iv 0, iv 1]) ∧ w' = w := by
  go_enter Try.func20, Try.ntmps20
  go_wp2
  go_ret2
  exact ⟨rfl, rfl⟩

theorem refAlloc_no {w : World} {Q M n : Nat} {g : Int → Int} {N h f : Nat} (m : RefM w Q M n g N h f) (k : Int) (h0 : 0 ≤ k) (hk : (f : Int) - h < k) :
    Calls Try.prog 20 #[ptr Q, iv k] w fun e w' => e = .returned (.tuple #[iv 0, iv 9]) ∧ w' = w.drew := by
  have k1 := m.drew.c1
  have k2 := m.drew.c2
  have b1 := m.one
  have b2 := m.hf
  have b3 := m.fn
  have b4 := m.cap
  have e1 : (k < 0) = False := by simp; omega
  go_enter Try.func20, Try.ntmps20
  go_wp2
  go_region
  all_goals go_wp2
  all_goals go_ret2
  all_goals exact ⟨rfl, rfl⟩

set_option maxRecDepth 100000 in
theorem refAlloc_is {w : World} {Q M n : Nat} {g : Int → Int} {N h f : Nat} (m : RefM w Q M n g N h f) (k : Nat) (hk : h + k ≤ f) (hn : n < 1000000000) :
    Calls Try.prog 20 #[ptr Q, iv k] w fun e w' => e = .returned (.tuple #[iv h, iv 0]) ∧ Turn Q M w w' ∧ RefM w' Q M (n + N) (nought g h (h + k)) N (h + k) f := by
  have k1 := m.drew.c1
  have k2 := m.drew.c2
  have b1 := m.one
  have b2 := m.hf
  have b3 := m.fn
  have b4 := m.cap
  have e1 : ((k : Int) < 0) = False := by simp
  have e2 : ((f : Int) - h < (k : Int)) = False := by simp; omega
  go_enter Try.func20, Try.ntmps20
  go_wp2
  go_region
  go_wp2
  clear k1 k2 e1 e2
  go_loopw [7] (fun i wr => ∃ j : Nat, h ≤ j ∧ j ≤ h + k ∧ i = iv j ∧ RefM wr Q M (n + (j - h)) (nought g h j) N h f ∧ Turn Q M w wr) (fun i _ => h + k - (intOf i).toNat)
  case atStart => exact ⟨h, Nat.le_refl _, by omega, rfl, (m.drew.mono (by omega)).same (nought_none g h), (Turn.refl _ _ _).drew⟩
  case round =>
    obtain ⟨j, j1, j2, rfl, mj, tj⟩ := hrel
    have k1 := mj.c1
    have k3 := mj.c3
    have kf := mj.fr 1
    by_cases hj : j < h + k
    · have e3 : ((j : Int) < (h : Int) + k) = True := by simp; omega
      obtain ⟨D, hown, hr⟩ := mj.own
      have hkey : keyOf Try.prog 3 (.int .i64 (j : Int)) = some (.int .i64 (j : Int)) := keyOf_int_mk Try.underlying3 (WalkArith.wf_i64 (by omega))
      go_wp2_with (at_mapUpdate; refine wpList_mapUpdate_own _ rfl _ _ _ 34 rfl 3 3 law3 Try.underlying34 _ M (n + (j - h)) D rfl hown (by unfold maxLen; omega) _ _ _ rfl rfl hkey _ [] (plainElem_int Try.underlying3 (WalkArith.wf_i64 (by omega))) ?_; intro w1 hown1 hgrow1)
      go_roundw
      case rel => exact ⟨j + 1, by omega, by omega, by go_num, ((mj.put hown hr hown1 hgrow1).mono (by omega)).same (nought_put g h j j1), tj.grown hgrow1⟩
      case measure => simp [intOf]; omega
    · have e3 : ((j : Int) < (h : Int) + k) = False := by simp; omega
      obtain rfl : j = h + k := by omega
      go_wp2
      go_ret2
      refine ⟨rfl, tj.setCell 1 _, ?_⟩
      exact (mj.setH (x := h + k) (by omega) (by omega)).mono (by omega)

end Go.Proofs.Ytmpfcplkgkhboaa
