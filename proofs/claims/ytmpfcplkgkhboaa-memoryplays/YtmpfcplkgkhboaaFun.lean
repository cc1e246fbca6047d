/-
  Package memory (layer 3): the contracts of its functions but SetFloor, Alloc and Copy.
-/
import Derived.Test.YtmpfcplkgkhboaaBase
namespace Go.Proofs.Ytmpfcplkgkhboaa
open Go.ChangeShapes Go.WideShapes Go.ChangeAt Go.RowKit

theorem heap_is {w : World} {B R : Nat} {c : List Int} {h f : Int} (m : Mem w B R c h f) : Calls Try.prog 11 #[ptr B] w fun e w' => e = .returned (iv h) ∧ w' = w := by
  have k1 := m.c1
  go_enter Try.func11, Try.ntmps11
  go_wp2
  go_ret
  exact ⟨rfl, rfl⟩

theorem floor_is {w : World} {B R : Nat} {c : List Int} {h f : Int} (m : Mem w B R c h f) : Calls Try.prog 12 #[ptr B] w fun e w' => e = .returned (iv f) ∧ w' = w := by
  have k1 := m.c2
  go_enter Try.func12, Try.ntmps12
  go_wp2
  go_ret
  exact ⟨rfl, rfl⟩

theorem cells_is {w : World} {B R : Nat} {c : List Int} {h f : Int} (m : Mem w B R c h f) : Calls Try.prog 13 #[ptr B] w fun e w' => e = .returned (iv c.length) ∧ w' = w := by
  have k1 := m.c0
  go_enter Try.func13, Try.ntmps13
  go_wp2
  go_ret
  exact ⟨rfl, rfl⟩

/-- Is the cell there? -/
def isCell (n h f a : Int) : Bool := decide (1 ≤ a ∧ a < h ∨ f ≤ a ∧ a < n)

theorem there_is {w : World} {B R : Nat} {c : List Int} {h f : Int} (m : Mem w B R c h f) (a : Int) : Calls Try.prog 23 #[ptr B, iv a] w fun e w' => e = .returned (.bool (isCell c.length h f a)) ∧ w' = w := by
  have k0 := m.c0
  have k1 := m.c1
  have k2 := m.c2
  unfold isCell
  generalize hn : c.length = n at *
  by_cases h1 : 1 ≤ a
  · by_cases h2 : a < h
    · have : decide (1 ≤ a ∧ a < h ∨ f ≤ a ∧ a < (n : Int)) = true := by simp; omega
      rw [this]
      go_enter Try.func23, Try.ntmps23
      go_wp2
      go_ret
      exact ⟨rfl, rfl⟩
    · by_cases h3 : f ≤ a
      · by_cases h4 : a < (n : Int)
        · have : decide (1 ≤ a ∧ a < h ∨ f ≤ a ∧ a < (n : Int)) = true := by simp; omega
          rw [this]
          go_enter Try.func23, Try.ntmps23
          go_wp2
          go_ret
          exact ⟨rfl, rfl⟩
        · have : decide (1 ≤ a ∧ a < h ∨ f ≤ a ∧ a < (n : Int)) = false := by simp; omega
          rw [this]
          go_enter Try.func23, Try.ntmps23
          go_wp2
          go_ret
          exact ⟨rfl, rfl⟩
      · have : decide (1 ≤ a ∧ a < h ∨ f ≤ a ∧ a < (n : Int)) = false := by simp; omega
        rw [this]
        go_enter Try.func23, Try.ntmps23
        go_wp2
        go_ret
        exact ⟨rfl, rfl⟩
  · have hfa : ¬ f ≤ a := by have := m.one; have := m.hf; omega
    have : decide (1 ≤ a ∧ a < h ∨ f ≤ a ∧ a < (n : Int)) = false := by simp; omega
    rw [this]
    go_enter Try.func23, Try.ntmps23
    go_wp2
    go_ret
    exact ⟨rfl, rfl⟩

theorem load_no {w : World} {B R : Nat} {c : List Int} {h f : Int} (m : Mem w B R c h f) (a : Int) (ha : isCell c.length h f a = false) :
    Calls Try.prog 18 #[ptr B, iv a] w fun e w' => e = .returned (.tuple #[iv 0, iv 7]) ∧ w' = w := by
  go_enter Try.func18, Try.ntmps18
  go_wp2_with fail
  refine (there_is m a).mono ?_; rintro e w' ⟨rfl, rfl⟩
  rw [ha]
  go_wp2
  go_ret2
  exact ⟨rfl, rfl⟩

theorem load_is {w : World} {B R : Nat} {c : List Int} {h f : Int} (m : Mem w B R c h f) (a : Nat) (ha : isCell c.length h f a = true) :
    Calls Try.prog 18 #[ptr B, iv a] w fun e w' => e = .returned (.tuple #[iv (c.getD a 0), iv 0]) ∧ w' = w := by
  have hlt : a < c.length := by unfold isCell at ha; have := m.hf; have := m.fn; simp at ha; omega
  have k0 := m.c0
  have k := m.at_ a hlt
  generalize c.getD a 0 = v at k
  go_enter Try.func18, Try.ntmps18
  go_wp2_with fail
  refine (there_is m a).mono ?_; rintro e w' ⟨rfl, rfl⟩
  rw [ha]
  generalize c.length = n at *
  go_wp2
  go_ret2
  exact ⟨rfl, rfl⟩

theorem store_no {w : World} {B R : Nat} {c : List Int} {h f : Int} (m : Mem w B R c h f) (a v : Int) (ha : isCell c.length h f a = false) :
    Calls Try.prog 16 #[ptr B, iv a, iv v] w fun e w' => e = .returned (iv 7) ∧ w' = w := by
  go_enter Try.func16, Try.ntmps16
  go_wp2_with fail
  refine (there_is m a).mono ?_; rintro e w' ⟨rfl, rfl⟩
  rw [ha]
  go_wp2
  go_ret
  exact ⟨rfl, rfl⟩

theorem store_is {w : World} {B R : Nat} {c : List Int} {h f : Int} (m : Mem w B R c h f) (a : Nat) (v : Int) (ha : isCell c.length h f a = true) :
    Calls Try.prog 16 #[ptr B, iv a, iv v] w fun e w' => e = .returned (iv 0) ∧ w' = w.setCell ⟨R, a, none⟩ (iv v) := by
  have hlt : a < c.length := by unfold isCell at ha; have := m.hf; have := m.fn; simp at ha; omega
  have k0 := m.c0
  have k := m.at_ a hlt
  have kf := m.frR a
  generalize c.getD a 0 = u at k
  go_enter Try.func16, Try.ntmps16
  go_wp2_with fail
  refine (there_is m a).mono ?_; rintro e w' ⟨rfl, rfl⟩
  rw [ha]
  generalize c.length = n at *
  go_wp2
  go_ret
  exact ⟨rfl, rfl⟩

theorem make_ints (n : Nat) (hn : n ≤ 100000000) (w : World) : (Instr.makeSlice 44 (.int .i64 (n : Int)) (.int .i64 (n : Int))).run Try.prog w = .ok (.slice (some ⟨w.heap.size, 0, none⟩) n n) (w.alloc (.cells (vals (List.replicate n 0)).toArray 3)) := by
  obtain ⟨i, h1, h2, h3, h4⟩ : ∃ i, Try.prog.info? 3 = some i ∧ i.zero = some (iv 0) ∧ i.bytes = 8 ∧ i.size = 1 := ⟨_, rfl, rfl, rfl, rfl⟩
  have := run_make (P := Try.prog) (w := w) 44 3 i (iv 0) Try.underlying44 h1 h2 .i64 .i64 (n : Int) (n : Int) (by omega) (by omega) (by rw [h3]; omega) (by omega)
  rw [h4, show ((n : Int)).toNat = n by omega] at this
  have hz : madeCells (iv 0).cells (n * 1) = (vals (List.replicate n 0)).toArray := by
    apply Array.toList_inj.1
    have := toList_madeCells_one (iv 0) n
    simpa [vals, Value.cells] using this
  rw [hz] at this
  exact this

theorem new_no (n : Int) (hn : n < 1 ∨ 1048576 < n) (w : World) : Calls Try.prog 8 #[iv n] w fun e w' => e = .returned (.tuple #[.pointer none, iv 1]) ∧ w' = w := by
  by_cases h1 : n < 1
  · go_enter Try.func8, Try.ntmps8
    go_wp2
    go_ret2
    exact ⟨rfl, rfl⟩
  · have h2 : 1048576 < n := by omega
    go_enter Try.func8, Try.ntmps8
    go_wp2
    go_ret2
    exact ⟨rfl, rfl⟩

theorem heap_new (w : World) (o : Obj) {k : Nat} (hk : k = w.heap.size) : (w.alloc o).heap[k]? = some o := by
  subst hk
  show (w.heap.push o)[w.heap.size]? = _
  simp

theorem new_is (n : Nat) (h1 : 1 ≤ n) (h2 : n ≤ 1048576) (w : World) : Calls Try.prog 8 #[iv n] w fun e w' => e = .returned (.tuple #[ptr (w.heap.size + 1), iv 0]) ∧
    Below w.heap.size w w' ∧ w'.heap.size = w.heap.size + 2 ∧ Mem w' (w.heap.size + 1) w.heap.size (List.replicate n 0) 1 n := by
  have hmk := make_ints n (by omega)
  have e1 : ((n : Int) < 1) = False := by simp; omega
  have e2 : ((1048576 : Int) < n) = False := by simp; omega
  go_enter Try.func8, Try.ntmps8
  go_wp2
  go_ret2
  refine ⟨rfl, ?_, by simp, ?_⟩
  · exact ((Below.refl _ w).alloc (Nat.le_refl _) _).alloc (by simp) _
  · refine ⟨?_, ?_, by omega, by omega, by omega, by simp, by simpa using h2⟩
    · rw [heap_new _ _ (by simp)]; simp
    · rw [Below.heap_alloc _ _ _ (by simp)]; exact heap_new _ _ rfl
end Go.Proofs.Ytmpfcplkgkhboaa
