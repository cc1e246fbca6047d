/-
  Package memory (layer 3): its contracts, of a memory's whole state, for any numbers.
-/
import Derived.Test.YtbfmadcppnfgpaaGreatDoorQMemA
namespace Go.Proofs.YtbfmadcppnfgpaaGreatDoor.Q
open Go.ChangeShapes Go.WideShapes Go.ChangeAt Go.RowKit

theorem floor_is {w : World} {B R : Nat} {c : List Int} {h f : Int} (m : Mem w B R c h f) : Calls Tryz.prog 23 #[ptr B] w fun e w' => e = .returned (iv f) ∧ w' = w := by
  have k1 := m.c2
  go_enter Tryz.func23, Tryz.ntmps23
  go_wp2
  go_ret
  exact ⟨rfl, rfl⟩

/-- Is the cell there? -/
def isCell (n h f a : Int) : Bool := decide (1 ≤ a ∧ a < h ∨ f ≤ a ∧ a < n)

theorem there_is {w : World} {B R : Nat} {c : List Int} {h f : Int} (m : Mem w B R c h f) (a : Int) : Calls Tryz.prog 106 #[ptr B, iv a] w fun e w' => e = .returned (.bool (isCell c.length h f a)) ∧ w' = w := by
  have k0 := m.c0
  have k1 := m.c1
  have k2 := m.c2
  unfold isCell
  generalize hn : c.length = n at *
  by_cases h1 : 1 ≤ a
  · by_cases h2 : a < h
    · have : decide (1 ≤ a ∧ a < h ∨ f ≤ a ∧ a < (n : Int)) = true := by simp; omega
      rw [this]
      go_enter Tryz.func106, Tryz.ntmps106
      go_wp2
      go_ret
      exact ⟨rfl, rfl⟩
    · by_cases h3 : f ≤ a
      · by_cases h4 : a < (n : Int)
        · have : decide (1 ≤ a ∧ a < h ∨ f ≤ a ∧ a < (n : Int)) = true := by simp; omega
          rw [this]
          go_enter Tryz.func106, Tryz.ntmps106
          go_wp2
          go_ret
          exact ⟨rfl, rfl⟩
        · have : decide (1 ≤ a ∧ a < h ∨ f ≤ a ∧ a < (n : Int)) = false := by simp; omega
          rw [this]
          go_enter Tryz.func106, Tryz.ntmps106
          go_wp2
          go_ret
          exact ⟨rfl, rfl⟩
      · have : decide (1 ≤ a ∧ a < h ∨ f ≤ a ∧ a < (n : Int)) = false := by simp; omega
        rw [this]
        go_enter Tryz.func106, Tryz.ntmps106
        go_wp2
        go_ret
        exact ⟨rfl, rfl⟩
  · have hfa : ¬ f ≤ a := by have := m.one; have := m.hf; omega
    have : decide (1 ≤ a ∧ a < h ∨ f ≤ a ∧ a < (n : Int)) = false := by simp; omega
    rw [this]
    go_enter Tryz.func106, Tryz.ntmps106
    go_wp2
    go_ret
    exact ⟨rfl, rfl⟩

theorem load_no {w : World} {B R : Nat} {c : List Int} {h f : Int} (m : Mem w B R c h f) (a : Int) (ha : isCell c.length h f a = false) :
    Calls Tryz.prog 87 #[ptr B, iv a] w fun e w' => e = .returned (.tuple #[iv 0, iv 7]) ∧ w' = w := by
  go_enter Tryz.func87, Tryz.ntmps87
  go_wp2_with fail
  refine (there_is m a).mono ?_; rintro e w' ⟨rfl, rfl⟩
  rw [ha]
  go_wp2
  go_ret2
  exact ⟨rfl, rfl⟩

theorem load_is {w : World} {B R : Nat} {c : List Int} {h f : Int} (m : Mem w B R c h f) (a : Nat) (ha : isCell c.length h f a = true) :
    Calls Tryz.prog 87 #[ptr B, iv a] w fun e w' => e = .returned (.tuple #[iv (c.getD a 0), iv 0]) ∧ w' = w := by
  have hlt : a < c.length := by unfold isCell at ha; have := m.hf; have := m.fn; simp at ha; omega
  have k0 := m.c0
  have k := m.at_ a hlt
  generalize c.getD a 0 = v at k
  go_enter Tryz.func87, Tryz.ntmps87
  go_wp2_with fail
  refine (there_is m a).mono ?_; rintro e w' ⟨rfl, rfl⟩
  rw [ha]
  generalize c.length = n at *
  go_wp2
  go_ret2
  exact ⟨rfl, rfl⟩

theorem store_no {w : World} {B R : Nat} {c : List Int} {h f : Int} (m : Mem w B R c h f) (a v : Int) (ha : isCell c.length h f a = false) :
    Calls Tryz.prog 89 #[ptr B, iv a, iv v] w fun e w' => e = .returned (iv 7) ∧ w' = w := by
  go_enter Tryz.func89, Tryz.ntmps89
  go_wp2_with fail
  refine (there_is m a).mono ?_; rintro e w' ⟨rfl, rfl⟩
  rw [ha]
  go_wp2
  go_ret
  exact ⟨rfl, rfl⟩

theorem store_is {w : World} {B R : Nat} {c : List Int} {h f : Int} (m : Mem w B R c h f) (a : Nat) (v : Int) (ha : isCell c.length h f a = true) :
    Calls Tryz.prog 89 #[ptr B, iv a, iv v] w fun e w' => e = .returned (iv 0) ∧ w' = w.setCell ⟨R, a, none⟩ (iv v) := by
  have hlt : a < c.length := by unfold isCell at ha; have := m.hf; have := m.fn; simp at ha; omega
  have k0 := m.c0
  have k := m.at_ a hlt
  have kf := m.frR a
  generalize c.getD a 0 = u at k
  go_enter Tryz.func89, Tryz.ntmps89
  go_wp2_with fail
  refine (there_is m a).mono ?_; rintro e w' ⟨rfl, rfl⟩
  rw [ha]
  generalize c.length = n at *
  go_wp2
  go_ret
  exact ⟨rfl, rfl⟩

theorem make_ints (n : Nat) (hn : n ≤ 100000000) (w : World) : (Instr.makeSlice 34 (.int .i64 (n : Int)) (.int .i64 (n : Int))).run Tryz.prog w = .ok (.slice (some ⟨w.heap.size, 0, none⟩) n n) (w.alloc (.cells (vals (List.replicate n 0)).toArray 3)) := by
  obtain ⟨i, h1, h2, h3, h4⟩ : ∃ i, Tryz.prog.info? 3 = some i ∧ i.zero = some (iv 0) ∧ i.bytes = 8 ∧ i.size = 1 := by
    have h : (Tryz.prog.info? 3).map (fun i => (i.zero, i.bytes, i.size)) = some (some (iv 0), 8, 1) := by kernel_rfl
    obtain ⟨i, h1, h2⟩ := Option.map_eq_some_iff.1 h
    simp only [Prod.mk.injEq] at h2
    exact ⟨i, h1, h2.1, h2.2.1, h2.2.2⟩
  have := run_make (P := Tryz.prog) (w := w) 34 3 i (iv 0) Tryz.underlying34 h1 h2 .i64 .i64 (n : Int) (n : Int) (by omega) (by omega) (by rw [h3]; omega) (by omega)
  rw [h4, show ((n : Int)).toNat = n by omega] at this
  have hz : madeCells (iv 0).cells (n * 1) = (vals (List.replicate n 0)).toArray := by
    apply Array.toList_inj.1
    have := toList_madeCells_one (iv 0) n
    simpa [vals, Value.cells] using this
  rw [hz] at this
  exact this

theorem new_no (n : Int) (hn : n < 1 ∨ 1048576 < n) (w : World) : Calls Tryz.prog 20 #[iv n] w fun e w' => e = .returned (.tuple #[.pointer none, iv 1]) ∧ w' = w := by
  by_cases h1 : n < 1
  · go_enter Tryz.func20, Tryz.ntmps20
    go_wp2
    go_ret2
    exact ⟨rfl, rfl⟩
  · have h2 : 1048576 < n := by omega
    go_enter Tryz.func20, Tryz.ntmps20
    go_wp2
    go_ret2
    exact ⟨rfl, rfl⟩

theorem heap_new (w : World) (o : Obj) {k : Nat} (hk : k = w.heap.size) : (w.alloc o).heap[k]? = some o := by
  subst hk
  show (w.heap.push o)[w.heap.size]? = _
  simp

theorem new_is (n : Nat) (h1 : 1 ≤ n) (h2 : n ≤ 1048576) (w : World) : Calls Tryz.prog 20 #[iv n] w fun e w' => e = .returned (.tuple #[ptr (w.heap.size + 1), iv 0]) ∧
    Below w.heap.size w w' ∧ w'.heap.size = w.heap.size + 2 ∧ Mem w' (w.heap.size + 1) w.heap.size (List.replicate n 0) 1 n := by
  have hmk := make_ints n (by omega)
  have e1 : ((n : Int) < 1) = False := by simp; omega
  have e2 : ((1048576 : Int) < n) = False := by simp; omega
  go_enter Tryz.func20, Tryz.ntmps20
  go_wp2
  go_ret2
  refine ⟨rfl, ?_, by simp, ?_⟩
  · exact ((Below.refl _ w).alloc (Nat.le_refl _) _).alloc (by simp) _
  · refine ⟨?_, ?_, by omega, by omega, by omega, by simp, by simpa using h2⟩
    · rw [heap_new _ _ (by simp)]; simp
    · rw [Below.heap_alloc _ _ _ (by simp)]; exact heap_new _ _ rfl

theorem setFloor_no {w : World} {B R : Nat} {c : List Int} {h f : Int} (m : Mem w B R c h f) (a : Int) (ha : a < h ∨ c.length < a) :
    Calls Tryz.prog 101 #[ptr B, iv a] w fun e w' => e = .returned (iv 8) ∧ w' = w := by
  have k0 := m.c0
  have k1 := m.c1
  generalize c.length = n at *
  by_cases h1 : a < h
  · go_enter Tryz.func101, Tryz.ntmps101
    go_wp2
    go_ret
    exact ⟨rfl, rfl⟩
  · have h2 : (n : Int) < a := by omega
    go_enter Tryz.func101, Tryz.ntmps101
    go_wp2
    go_ret
    exact ⟨rfl, rfl⟩

theorem setFloor_up {w : World} {B R : Nat} {c : List Int} {h f : Int} (m : Mem w B R c h f) (a : Nat) (h1 : h ≤ a) (h2 : a ≤ c.length) (h3 : f ≤ a) :
    Calls Tryz.prog 101 #[ptr B, iv a] w fun e w' => e = .returned (iv 0) ∧ w' = w.setCell ⟨B, 2, none⟩ (iv a) := by
  have k0 := m.c0
  have k1 := m.c1
  have k2 := m.c2
  have kf := m.fr 2
  generalize c.length = n at *
  have e1 : ((a : Int) < h) = False := by simp; omega
  have e2 : ((n : Int) < a) = False := by simp; omega
  have e3 : ((a : Int) < f) = False := by simp; omega
  clear h1 h2 h3
  go_enter Tryz.func101, Tryz.ntmps101
  go_wp2
  go_ret
  exact ⟨rfl, rfl⟩

theorem setFloor_down {w : World} {B R : Nat} {c : List Int} {h : Int} {f : Nat} (m : Mem w B R c h f) (a : Nat) (h1 : h ≤ a) (h3 : a < f) :
    Calls Tryz.prog 101 #[ptr B, iv a] w fun e w' => e = .returned (iv 0) ∧ w' = (w.drew.setRow R (vals (wipe c a (f - a))).toArray).setCell ⟨B, 2, none⟩ (iv a) := by
  have h4 : f ≤ c.length := by have := m.fn; omega
  have k0 := m.c0
  have k1 := m.c1
  have k2 := m.c2
  have m' := m.drew
  have hc := m.cap
  have kf : (w.drew.setRow R (vals (wipe c a (f - a))).toArray).frozen? ⟨B, 2, none⟩ = false := (m'.setRow (wipe_len c a (f - a) (by omega))).fr 2
  have kc : (w.drew.setRow R (vals (wipe c a (f - a))).toArray).cell? ⟨B, 2, none⟩ = some (iv f) := (m'.setRow (wipe_len c a (f - a) (by omega))).c2
  generalize hw2 : w.drew.setRow R (vals (wipe c a (f - a))).toArray = w2 at kf kc
  generalize hn : c.length = n at *
  have e1 : ((a : Int) < h) = False := by simp; omega
  have e2 : ((n : Int) < a) = False := by simp; omega
  have e3 : ((a : Int) < f) = True := by simp; omega
  have e4 : a < n := by omega
  have e5 : a ≤ f := by omega
  clear h1 
  go_enter Tryz.func101, Tryz.ntmps101
  go_wp2
  go_region_law (refine step_clear rfl (.tmp 35) rfl m' _ _ _ a rfl (fun _ => if_neg (by omega)) (by omega) ?_; rw [hw2])
  all_goals go_wp2
  all_goals go_ret
  all_goals exact ⟨rfl, rfl⟩

theorem alloc_arg {w : World} {B R : Nat} {c : List Int} {h f : Int} (_ : Mem w B R c h f) (k : Int) (hk : k < 0) :
    Calls Tryz.prog 90 #[ptr B, iv k] w fun e w' => e = .returned (.tuple #[iv 0, iv 1]) ∧ w' = w := by
  go_enter Tryz.func90, Tryz.ntmps90
  go_wp2
  go_ret2
  exact ⟨rfl, rfl⟩

theorem alloc_no {w : World} {B R : Nat} {c : List Int} {h f : Int} (m : Mem w B R c h f) (k : Int) (h0 : 0 ≤ k) (hk : f - h < k) :
    Calls Tryz.prog 90 #[ptr B, iv k] w fun e w' => e = .returned (.tuple #[iv 0, iv 9]) ∧ w' = w.drew := by
  have k1 := m.drew.c1
  have k2 := m.drew.c2
  have b1 := m.one
  have b2 := m.hf
  have b3 := m.fn
  have b4 := m.cap
  have e1 : (k < 0) = False := by simp; omega
  go_enter Tryz.func90, Tryz.ntmps90
  go_wp2
  go_region
  all_goals go_wp2
  all_goals go_ret2
  all_goals exact ⟨rfl, rfl⟩

theorem alloc_is {w : World} {B R : Nat} {c : List Int} {h : Nat} {f : Int} (m : Mem w B R c h f) (k : Nat) (hk : k ≤ f - h) :
    Calls Tryz.prog 90 #[ptr B, iv k] w fun e w' => e = .returned (.tuple #[iv h, iv 0]) ∧ w' = (w.drew.setCell ⟨B, 1, none⟩ (iv (h + k))).drew.setRow R (vals (wipe c h k)).toArray := by
  have k1 := m.drew.c1
  have k2 := m.drew.c2
  have kf := m.drew.fr 1
  have b1 := m.one
  have b2 := m.hf
  have b3 := m.fn
  have b4 := m.cap
  have m2 := (m.drew.setH (x := h + k) (by omega) (by omega)).drew
  have j0 := m2.c0
  have j1 := m2.c1
  generalize hw2 : (w.drew.setCell ⟨B, 1, none⟩ (iv (h + k))) = w2 at *
  have e1 : ((k : Int) < 0) = False := by simp
  have e2 : (f - h < (k : Int)) = False := by simp; omega
  have e3 : h + k ≤ c.length := by omega
  have e4 : (0 : Int) ≤ h + k := by omega
  have e5 : (h : Int) + k ≤ c.length := by omega
  have e6 : ((h : Int) + k).toNat = h + k := by omega
  generalize hn : c.length = n at *
  go_enter Tryz.func90, Tryz.ntmps90
  go_wp2
  go_region
  go_wp2
  go_region_law (refine step_clear rfl (.tmp 41) rfl m2 _ _ _ h rfl (fun _ => if_neg (by omega)) (by omega) ?_)
  all_goals go_wp2
  all_goals go_ret2
  all_goals exact ⟨rfl, rfl⟩

/-- A memory's state: its cells, the heap's end, the floor. -/
structure St where
  c : List Int
  h : Nat
  f : Nat

abbrev MemS (w : World) (B R : Nat) (s : St) : Prop := Mem w B R s.c s.h s.f

namespace St
def is (s : St) (a : Int) : Bool := isCell s.c.length s.h s.f a
def floorBad (s : St) (a : Int) : Bool := decide (a < s.h ∨ (s.c.length : Int) < a)
def setFloor (s : St) (a : Int) : St := if s.floorBad a then s else ⟨if a < s.f then wipe s.c a.toNat (s.f - a.toNat) else s.c, s.h, a.toNat⟩
def floorErr (s : St) (a : Int) : Int := if s.floorBad a then 8 else 0
def allocBad (s : St) (k : Int) : Bool := decide (k < 0 ∨ (s.f : Int) - s.h < k)
def alloc (s : St) (k : Int) : St := if s.allocBad k then s else ⟨wipe s.c s.h k.toNat, s.h + k.toNat, s.f⟩
def allocErr (s : St) (k : Int) : Int := if k < 0 then 1 else if (s.f : Int) - s.h < k then 9 else 0
def allocAt (s : St) (k : Int) : Int := if s.allocBad k then 0 else s.h
def store (s : St) (a v : Int) : St := if s.is a then ⟨s.c.set a.toNat v, s.h, s.f⟩ else s
def err (s : St) (a : Int) : Int := if s.is a then 0 else 7
def load (s : St) (a : Int) : Int := if s.is a then s.c.getD a.toNat 0 else 0
end St

theorem MemS.nonneg {w : World} {B R : Nat} {s : St} (_ : MemS w B R s) {a : Int} (ha : s.is a = true) : ∃ k : Nat, a = k := by
  unfold St.is isCell at ha
  simp at ha
  exact ⟨a.toNat, by omega⟩

theorem load_any {w : World} {B R : Nat} {s : St} (m : MemS w B R s) (a : Int) :
    Calls Tryz.prog 87 #[ptr B, iv a] w fun e w' => e = .returned (.tuple #[iv (s.load a), iv (s.err a)]) ∧ w' = w := by
  cases ha : s.is a with
  | false => simp only [St.load, St.err, ha]; exact load_no m a ha
  | true =>
    obtain ⟨k, rfl⟩ := m.nonneg ha
    simp only [St.load, St.err, ha, Int.toNat_natCast]
    exact load_is m k ha

theorem store_any {w : World} {B R : Nat} {s : St} (m : MemS w B R s) (a v : Int) :
    Calls Tryz.prog 89 #[ptr B, iv a, iv v] w fun e w' => e = .returned (iv (s.err a)) ∧ Touch B R w w' ∧ MemS w' B R (s.store a v) := by
  cases ha : s.is a with
  | false =>
    simp only [St.store, St.err, ha]
    exact (store_no m a v ha).mono fun e w' ⟨he, hw⟩ => by subst hw; exact ⟨he, Touch.refl B R _, m⟩
  | true =>
    obtain ⟨k, rfl⟩ := m.nonneg ha
    simp only [St.store, St.err, ha, Int.toNat_natCast]
    exact (store_is m k v ha).mono fun e w' ⟨he, hw⟩ => by subst hw; exact ⟨he, (Touch.refl B R w).setCell (p := ⟨R, k, none⟩) (.inr rfl) _, m.store v⟩

theorem setFloor_any {w : World} {B R : Nat} {s : St} (m : MemS w B R s) (a : Int) :
    Calls Tryz.prog 101 #[ptr B, iv a] w fun e w' => e = .returned (iv (s.floorErr a)) ∧ Touch B R w w' ∧ MemS w' B R (s.setFloor a) := by
  cases ha : s.floorBad a with
  | true =>
    have hb := ha
    unfold St.floorBad at hb
    simp only [St.setFloor, St.floorErr, ha]
    exact (setFloor_no m a (of_decide_eq_true hb)).mono fun e w' ⟨he, hw⟩ => by subst hw; exact ⟨he, Touch.refl B R _, m⟩
  | false =>
    have hb := ha
    unfold St.floorBad at hb
    have hb := of_decide_eq_false hb
    have h1 := m.one
    obtain ⟨k, rfl⟩ : ∃ k : Nat, a = k := ⟨a.toNat, by omega⟩
    simp only [St.setFloor, St.floorErr, ha, Int.toNat_natCast]
    by_cases hlt : (k : Int) < s.f
    · have hfit : k + (s.f - k) ≤ s.c.length := by have := m.fn; omega
      refine (setFloor_down m k (by omega) (by omega)).mono fun e w' ⟨he, hw⟩ => ?_
      subst hw
      refine ⟨he, (((Touch.refl B R w).drew).setRow (.inr rfl) _).setCell (p := ⟨B, 2, none⟩) (.inl rfl) _, ?_⟩
      have := ((m.drew.setRow (wipe_len s.c k (s.f - k) hfit)).setF (x := k) (by omega) (by rw [wipe_len _ _ _ hfit]; omega))
      simpa [hlt] using this
    · refine (setFloor_up m k (by omega) (by omega) (by omega)).mono fun e w' ⟨he, hw⟩ => ?_
      subst hw
      refine ⟨he, (Touch.refl B R w).setCell (p := ⟨B, 2, none⟩) (.inl rfl) _, ?_⟩
      have := (m.setF (x := k) (by omega) (by omega))
      simpa [hlt] using this

theorem alloc_any {w : World} {B R : Nat} {s : St} (m : MemS w B R s) (k : Int) :
    Calls Tryz.prog 90 #[ptr B, iv k] w fun e w' => e = .returned (.tuple #[iv (s.allocAt k), iv (s.allocErr k)]) ∧ Touch B R w w' ∧ MemS w' B R (s.alloc k) := by
  by_cases h0 : k < 0
  · have hb : s.allocBad k = true := by simp [St.allocBad, h0]
    simp only [St.alloc, St.allocErr, St.allocAt, hb, if_pos h0]
    exact (alloc_arg m k h0).mono fun e w' ⟨he, hw⟩ => by subst hw; exact ⟨he, Touch.refl B R _, m⟩
  · by_cases h1 : (s.f : Int) - s.h < k
    · have hb : s.allocBad k = true := by simp [St.allocBad, h1]
      simp only [St.alloc, St.allocErr, St.allocAt, hb, if_neg h0, if_pos h1]
      exact (alloc_no m k (by omega) h1).mono fun e w' ⟨he, hw⟩ => by subst hw; exact ⟨he, (Touch.refl B R w).drew, m.drew⟩
    · have hb : s.allocBad k = false := by simp [St.allocBad]; omega
      obtain ⟨n, rfl⟩ : ∃ n : Nat, k = n := ⟨k.toNat, by omega⟩
      simp only [St.alloc, St.allocErr, St.allocAt, hb, if_neg h0, if_neg h1, Int.toNat_natCast]
      have hfit : s.h + n ≤ s.c.length := by have := m.fn; omega
      refine (alloc_is m n (by omega)).mono fun e w' ⟨he, hw⟩ => ?_
      subst hw
      refine ⟨he, ((((Touch.refl B R w).drew).setCell (p := ⟨B, 1, none⟩) (.inl rfl) _).drew).setRow (.inr rfl) _, ?_⟩
      have h2 := m.one
      have := ((m.drew.setH (x := s.h + n) (by omega) (by omega)).drew.setRow (wipe_len s.c s.h n hfit))
      exact this

def fresh (n : Nat) : St := ⟨List.replicate n 0, 1, n⟩

end Go.Proofs.YtbfmadcppnfgpaaGreatDoor.Q
