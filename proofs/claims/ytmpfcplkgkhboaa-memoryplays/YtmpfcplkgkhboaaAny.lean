/-
  Package memory (layer 3): its contracts, of a memory's whole state, for any numbers; and the law's own small case.
-/
import Derived.Test.YtmpfcplkgkhboaaCopy
namespace Go.Proofs.Ytmpfcplkgkhboaa
open Go.ChangeShapes Go.WideShapes Go.ChangeAt Go.RowKit

/-- A memory's state: its cells, the heap's end, the floor. -/
structure St where
  c : List Int
  h : Nat
  f : Nat

abbrev MemS (w : World) (B R : Nat) (s : St) : Prop := Mem w B R s.c s.h s.f

namespace St
def is (s : St) (a : Int) : Bool := isCell s.c.length s.h s.f a
def floorBad (s : St) (a : Int) : Bool := decide (a < s.h ∨ (s.c.length : Int) < a)
def setFloor (s : St) (a : Int) : St := if s.floorBad a then s else ⟨if a < s.f then wipe s.c a.toNat (s.f - a.toNat) else s.c, s.h, a.toNat⟩
def floorErr (s : St) (a : Int) : Int := if s.floorBad a then 8 else 0
def allocBad (s : St) (k : Int) : Bool := decide (k < 0 ∨ (s.f : Int) - s.h < k)
def alloc (s : St) (k : Int) : St := if s.allocBad k then s else ⟨wipe s.c s.h k.toNat, s.h + k.toNat, s.f⟩
def allocErr (s : St) (k : Int) : Int := if k < 0 then 1 else if (s.f : Int) - s.h < k then 9 else 0
def allocAt (s : St) (k : Int) : Int := if s.allocBad k then 0 else s.h
def store (s : St) (a v : Int) : St := if s.is a then ⟨s.c.set a.toNat v, s.h, s.f⟩ else s
def err (s : St) (a : Int) : Int := if s.is a then 0 else 7
def load (s : St) (a : Int) : Int := if s.is a then s.c.getD a.toNat 0 else 0
end St

theorem MemS.nonneg {w : World} {B R : Nat} {s : St} (_ : MemS w B R s) {a : Int} (ha : s.is a = true) : ∃ k : Nat, a = k := by
  unfold St.is isCell at ha
  simp at ha
  exact ⟨a.toNat, by omega⟩

theorem load_any {w : World} {B R : Nat} {s : St} (m : MemS w B R s) (a : Int) :
    Calls Try.prog 18 #[ptr B, iv a] w fun e w' => e = .returned (.tuple #[iv (s.load a), iv (s.err a)]) ∧ w' = w := by
  cases ha : s.is a with
  | false => simp only [St.load, St.err, ha]; exact load_no m a ha
  | true =>
    obtain ⟨k, rfl⟩ := m.nonneg ha
    simp only [St.load, St.err, ha, Int.toNat_natCast]
    exact load_is m k ha

theorem store_any {w : World} {B R : Nat} {s : St} (m : MemS w B R s) (a v : Int) :
    Calls Try.prog 16 #[ptr B, iv a, iv v] w fun e w' => e = .returned (iv (s.err a)) ∧ Touch B R w w' ∧ MemS w' B R (s.store a v) := by
  cases ha : s.is a with
  | false =>
    simp only [St.store, St.err, ha]
    exact (store_no m a v ha).mono fun e w' ⟨he, hw⟩ => by subst hw; exact ⟨he, Touch.refl B R _, m⟩
  | true =>
    obtain ⟨k, rfl⟩ := m.nonneg ha
    simp only [St.store, St.err, ha, Int.toNat_natCast]
    exact (store_is m k v ha).mono fun e w' ⟨he, hw⟩ => by subst hw; exact ⟨he, (Touch.refl B R w).setCell (p := ⟨R, k, none⟩) (.inr rfl) _, m.store v⟩

theorem setFloor_any {w : World} {B R : Nat} {s : St} (m : MemS w B R s) (a : Int) :
    Calls Try.prog 14 #[ptr B, iv a] w fun e w' => e = .returned (iv (s.floorErr a)) ∧ Touch B R w w' ∧ MemS w' B R (s.setFloor a) := by
  cases ha : s.floorBad a with
  | true =>
    have hb := ha
    unfold St.floorBad at hb
    simp only [St.setFloor, St.floorErr, ha]
    exact (setFloor_no m a (of_decide_eq_true hb)).mono fun e w' ⟨he, hw⟩ => by subst hw; exact ⟨he, Touch.refl B R _, m⟩
  | false =>
    have hb := ha
    unfold St.floorBad at hb
    have hb := of_decide_eq_false hb
    have h1 := m.one
    obtain ⟨k, rfl⟩ : ∃ k : Nat, a = k := ⟨a.toNat, by omega⟩
    simp only [St.setFloor, St.floorErr, ha, Int.toNat_natCast]
    by_cases hlt : (k : Int) < s.f
    · have hfit : k + (s.f - k) ≤ s.c.length := by have := m.fn; omega
      refine (setFloor_down m k (by omega) (by omega)).mono fun e w' ⟨he, hw⟩ => ?_
      subst hw
      refine ⟨he, (((Touch.refl B R w).drew).setRow (.inr rfl) _).setCell (p := ⟨B, 2, none⟩) (.inl rfl) _, ?_⟩
      have := ((m.drew.setRow (wipe_len s.c k (s.f - k) hfit)).setF (x := k) (by omega) (by rw [wipe_len _ _ _ hfit]; omega))
      simpa [hlt] using this
    · refine (setFloor_up m k (by omega) (by omega) (by omega)).mono fun e w' ⟨he, hw⟩ => ?_
      subst hw
      refine ⟨he, (Touch.refl B R w).setCell (p := ⟨B, 2, none⟩) (.inl rfl) _, ?_⟩
      have := (m.setF (x := k) (by omega) (by omega))
      simpa [hlt] using this

theorem alloc_any {w : World} {B R : Nat} {s : St} (m : MemS w B R s) (k : Int) :
    Calls Try.prog 15 #[ptr B, iv k] w fun e w' => e = .returned (.tuple #[iv (s.allocAt k), iv (s.allocErr k)]) ∧ Touch B R w w' ∧ MemS w' B R (s.alloc k) := by
  by_cases h0 : k < 0
  · have hb : s.allocBad k = true := by simp [St.allocBad, h0]
    simp only [St.alloc, St.allocErr, St.allocAt, hb, if_pos h0]
    exact (alloc_arg m k h0).mono fun e w' ⟨he, hw⟩ => by subst hw; exact ⟨he, Touch.refl B R _, m⟩
  · by_cases h1 : (s.f : Int) - s.h < k
    · have hb : s.allocBad k = true := by simp [St.allocBad, h1]
      simp only [St.alloc, St.allocErr, St.allocAt, hb, if_neg h0, if_pos h1]
      exact (alloc_no m k (by omega) h1).mono fun e w' ⟨he, hw⟩ => by subst hw; exact ⟨he, (Touch.refl B R w).drew, m.drew⟩
    · have hb : s.allocBad k = false := by simp [St.allocBad]; omega
      obtain ⟨n, rfl⟩ : ∃ n : Nat, k = n := ⟨k.toNat, by omega⟩
      simp only [St.alloc, St.allocErr, St.allocAt, hb, if_neg h0, if_neg h1, Int.toNat_natCast]
      have hfit : s.h + n ≤ s.c.length := by have := m.fn; omega
      refine (alloc_is m n (by omega)).mono fun e w' ⟨he, hw⟩ => ?_
      subst hw
      refine ⟨he, ((((Touch.refl B R w).drew).setCell (p := ⟨B, 1, none⟩) (.inl rfl) _).drew).setRow (.inr rfl) _, ?_⟩
      have h2 := m.one
      have := ((m.drew.setH (x := s.h + n) (by omega) (by omega)).drew.setRow (wipe_len s.c s.h n hfit))
      exact this

def fresh (n : Nat) : St := ⟨List.replicate n 0, 1, n⟩

set_option maxRecDepth 100000 in
set_option maxHeartbeats 1000000 in
theorem small_is (w : World) : Calls Try.prog 7 #[] w fun e w' => e = .returned (.bool true) ∧ Below w.heap.size w w' := by
  go_enter Try.func7, Try.ntmps7
  go_wp2_with fail
  refine (new_is 10 (by decide) (by decide) w).mono ?_; rintro e w1 ⟨rfl, hb1, hs1, m1⟩
  go_wp2_with fail
  refine (alloc_any (s := fresh 10) m1 3).mono ?_; rintro e w2 ⟨rfl, t2, m2⟩
  simp only [show (fresh 10).allocAt 3 = 1 from by decide, show (fresh 10).allocErr 3 = 0 from by decide, show (fresh 10).alloc 3 = ⟨List.replicate 10 0, 4, 10⟩ from rfl] at m2 ⊢
  go_wp2_with fail
  refine (load_any m2 3).mono ?_; rintro e w3 ⟨rfl, rfl⟩
  simp only [show (⟨List.replicate 10 0, 4, 10⟩ : St).load 3 = 0 from by decide, show (⟨List.replicate 10 0, 4, 10⟩ : St).err 3 = 0 from by decide]
  go_wp2_with fail
  refine (load_any m2 4).mono ?_; rintro e w3 ⟨rfl, rfl⟩
  simp only [show (⟨List.replicate 10 0, 4, 10⟩ : St).load 4 = 0 from by decide, show (⟨List.replicate 10 0, 4, 10⟩ : St).err 4 = 7 from by decide]
  go_wp2_with fail
  refine (setFloor_any m2 3).mono ?_; rintro e w4 ⟨rfl, t4, m4⟩
  simp only [show (⟨List.replicate 10 0, 4, 10⟩ : St).floorErr 3 = 8 from by decide, show (⟨List.replicate 10 0, 4, 10⟩ : St).setFloor 3 = ⟨List.replicate 10 0, 4, 10⟩ from rfl] at m4 ⊢
  go_wp2_with fail
  refine (store_any m4 2 7).mono ?_; rintro e w5 ⟨rfl, t5, m5⟩
  simp only [show (⟨List.replicate 10 0, 4, 10⟩ : St).err 2 = 0 from by decide, show (⟨List.replicate 10 0, 4, 10⟩ : St).store 2 7 = ⟨[0, 0, 7, 0, 0, 0, 0, 0, 0, 0], 4, 10⟩ from rfl] at m5 ⊢
  go_wp2_with fail
  refine (load_any m5 2).mono ?_; rintro e w6 ⟨rfl, rfl⟩
  simp only [show (⟨[0, 0, 7, 0, 0, 0, 0, 0, 0, 0], 4, 10⟩ : St).load 2 = 7 from by decide, show (⟨[0, 0, 7, 0, 0, 0, 0, 0, 0, 0], 4, 10⟩ : St).err 2 = 0 from by decide]
  go_wp2_with fail
  refine (heap_is m5).mono ?_; rintro e w6 ⟨rfl, rfl⟩
  go_wp2_with fail
  refine (floor_is m5).mono ?_; rintro e w6 ⟨rfl, rfl⟩
  go_wp2_with fail
  refine (cells_is m5).mono ?_; rintro e w6 ⟨rfl, rfl⟩
  go_wp2_with fail
  go_ret
  refine ⟨rfl, hb1.trans ((t2.trans (t4.trans t5)).below (by omega) (Nat.le_refl _))⟩

end Go.Proofs.Ytmpfcplkgkhboaa
