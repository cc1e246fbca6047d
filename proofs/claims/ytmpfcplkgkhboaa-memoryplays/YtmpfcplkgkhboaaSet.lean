/-
  Package memory (layer 3): the contracts of SetFloor and Alloc.
-/
import Derived.Test.YtmpfcplkgkhboaaFun
namespace Go.Proofs.Ytmpfcplkgkhboaa
open Go.ChangeShapes Go.WideShapes Go.ChangeAt Go.RowKit

theorem setFloor_no {w : World} {B R : Nat} {c : List Int} {h f : Int} (m : Mem w B R c h f) (a : Int) (ha : a < h ∨ c.length < a) :
    Calls Try.prog 14 #[ptr B, iv a] w fun e w' => e = .returned (iv 8) ∧ w' = w := by
  have k0 := m.c0
  have k1 := m.c1
  generalize c.length = n at *
  by_cases h1 : a < h
  · go_enter Try.func14, Try.ntmps14
    go_wp2
    go_ret
    exact ⟨rfl, rfl⟩
  · have h2 : (n : Int) < a := by omega
    go_enter Try.func14, Try.ntmps14
    go_wp2
    go_ret
    exact ⟨rfl, rfl⟩

theorem setFloor_up {w : World} {B R : Nat} {c : List Int} {h f : Int} (m : Mem w B R c h f) (a : Nat) (h1 : h ≤ a) (h2 : a ≤ c.length) (h3 : f ≤ a) :
    Calls Try.prog 14 #[ptr B, iv a] w fun e w' => e = .returned (iv 0) ∧ w' = w.setCell ⟨B, 2, none⟩ (iv a) := by
  have k0 := m.c0
  have k1 := m.c1
  have k2 := m.c2
  have kf := m.fr 2
  generalize c.length = n at *
  have e1 : ((a : Int) < h) = False := by simp; omega
  have e2 : ((n : Int) < a) = False := by simp; omega
  have e3 : ((a : Int) < f) = False := by simp; omega
  clear h1 h2 h3
  go_enter Try.func14, Try.ntmps14
  go_wp2
  go_ret
  exact ⟨rfl, rfl⟩

theorem setFloor_down {w : World} {B R : Nat} {c : List Int} {h : Int} {f : Nat} (m : Mem w B R c h f) (a : Nat) (h1 : h ≤ a) (h3 : a < f) :
    Calls Try.prog 14 #[ptr B, iv a] w fun e w' => e = .returned (iv 0) ∧ w' = (w.drew.setRow R (vals (wipe c a (f - a))).toArray).setCell ⟨B, 2, none⟩ (iv a) := by
  have h4 : f ≤ c.length := by have := m.fn; omega
  have k0 := m.c0
  have k1 := m.c1
  have k2 := m.c2
  have m' := m.drew
  have hc := m.cap
  have kf : (w.drew.setRow R (vals (wipe c a (f - a))).toArray).frozen? ⟨B, 2, none⟩ = false := (m'.setRow (wipe_len c a (f - a) (by omega))).fr 2
  have kc : (w.drew.setRow R (vals (wipe c a (f - a))).toArray).cell? ⟨B, 2, none⟩ = some (iv f) := (m'.setRow (wipe_len c a (f - a) (by omega))).c2
  generalize hw2 : w.drew.setRow R (vals (wipe c a (f - a))).toArray = w2 at kf kc
  generalize hn : c.length = n at *
  have e1 : ((a : Int) < h) = False := by simp; omega
  have e2 : ((n : Int) < a) = False := by simp; omega
  have e3 : ((a : Int) < f) = True := by simp; omega
  have e4 : a < n := by omega
  have e5 : a ≤ f := by omega
  clear h1 
  go_enter Try.func14, Try.ntmps14
  go_wp2
  go_region_law (refine step_clear rfl (.tmp 35) rfl m' _ _ _ a rfl (fun _ => if_neg (by omega)) (by omega) ?_; rw [hw2])
  all_goals go_wp2
  all_goals go_ret
  all_goals exact ⟨rfl, rfl⟩

theorem alloc_arg {w : World} {B R : Nat} {c : List Int} {h f : Int} (_ : Mem w B R c h f) (k : Int) (hk : k < 0) :
    Calls Try.prog 15 #[ptr B, iv k] w fun e w' => e = .returned (.tuple #[iv 0, iv 1]) ∧ w' = w := by
  go_enter Try.func15, Try.ntmps15
  go_wp2
  go_ret2
  exact ⟨rfl, rfl⟩

theorem alloc_no {w : World} {B R : Nat} {c : List Int} {h f : Int} (m : Mem w B R c h f) (k : Int) (h0 : 0 ≤ k) (hk : f - h < k) :
    Calls Try.prog 15 #[ptr B, iv k] w fun e w' => e = .returned (.tuple #[iv 0, iv 9]) ∧ w' = w.drew := by
  have k1 := m.drew.c1
  have k2 := m.drew.c2
  have b1 := m.one
  have b2 := m.hf
  have b3 := m.fn
  have b4 := m.cap
  have e1 : (k < 0) = False := by simp; omega
  go_enter Try.func15, Try.ntmps15
  go_wp2
  go_region
  all_goals go_wp2
  all_goals go_ret2
  all_goals exact ⟨rfl, rfl⟩

theorem alloc_is {w : World} {B R : Nat} {c : List Int} {h : Nat} {f : Int} (m : Mem w B R c h f) (k : Nat) (hk : k ≤ f - h) :
    Calls Try.prog 15 #[ptr B, iv k] w fun e w' => e = .returned (.tuple #[iv h, iv 0]) ∧ w' = (w.drew.setCell ⟨B, 1, none⟩ (iv (h + k))).drew.setRow R (vals (wipe c h k)).toArray := by
  have k1 := m.drew.c1
  have k2 := m.drew.c2
  have kf := m.drew.fr 1
  have b1 := m.one
  have b2 := m.hf
  have b3 := m.fn
  have b4 := m.cap
  have m2 := (m.drew.setH (x := h + k) (by omega) (by omega)).drew
  have j0 := m2.c0
  have j1 := m2.c1
  generalize hw2 : (w.drew.setCell ⟨B, 1, none⟩ (iv (h + k))) = w2 at *
  have e1 : ((k : Int) < 0) = False := by simp
  have e2 : (f - h < (k : Int)) = False := by simp; omega
  have e3 : h + k ≤ c.length := by omega
  have e4 : (0 : Int) ≤ h + k := by omega
  have e5 : (h : Int) + k ≤ c.length := by omega
  have e6 : ((h : Int) + k).toNat = h + k := by omega
  generalize hn : c.length = n at *
  go_enter Try.func15, Try.ntmps15
  go_wp2
  go_region
  go_wp2
  go_region_law (refine step_clear rfl (.tmp 41) rfl m2 _ _ _ h rfl (fun _ => if_neg (by omega)) (by omega) ?_)
  all_goals go_wp2
  all_goals go_ret2
  all_goals exact ⟨rfl, rfl⟩

end Go.Proofs.Ytmpfcplkgkhboaa
