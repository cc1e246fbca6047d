/-
  Contracts of Decode of package inst (layer 2), by walks over the translation.
-/
import Derived.Test.YtnlkeghgmmoioaaDoorWrite
import Derived.Deep.RegionHeld3
namespace Go.Proofs.YtnlkeghgmmoioaaDoor
open Go.ChangeShapes Go.WideShapes Go.ChangeAt Go.RowKit


theorem ret_int {k : IntKind} {a b : Int} (h : a = b) : Ending.returned (.int k a) = .returned (.int k b) := by rw [h]
theorem and_15_fin : ∀ n : Fin 256, bits .and .u8 ((n.val : Nat) : Int) 15 = ((n.val % 16 : Nat) : Int) := by decide +kernel
theorem and_15 (z : Int) (h : 0 ≤ z ∧ z < 256) : bits .and .u8 z 15 = z % 16 := by
  obtain ⟨n, rfl⟩ := Int.eq_ofNat_of_zero_le h.1
  have := and_15_fin ⟨n, by omega⟩
  simpa using this
set_option maxRecDepth 100000 in
theorem wrap_32 (n : Int) (w : World) :
    Calls Tryd.prog 41 #[.int .i64 n, .int .i64 32, .bool true] w fun e w' => e = .returned (.int .i64 (wrapM 4294967296 n true)) ∧ w' = w := by
  have hm := and_4294967295 n
  have hlo : 0 ≤ n % 4294967296 := by omega
  have hhi : n % 4294967296 < 4294967296 := by omega
  by_cases h : 2147483648 ≤ n % 4294967296
  · go_enter Tryd.func41, Tryd.ntmps41
    go_wp2
    go_ret
    exact ⟨ret_int (by unfold wrapM; rw [if_pos ⟨rfl, by omega⟩]), rfl⟩
  · have h' : n % 4294967296 < 2147483648 := by omega
    go_enter Tryd.func41, Tryd.ntmps41
    go_wp2
    go_ret
    exact ⟨ret_int (by unfold wrapM; rw [if_neg (by omega)]), rfl⟩

/-- The number that four bytes are. -/
def lowN (p q r s : Int) : Int := p + 256 * q + 65536 * r + 16777216 * s

theorem bel_two {w w1 : World} {A B : Obj} (h : Below ((w.alloc A).alloc B).drew.heap.size ((w.alloc A).alloc B).drew w1) : Below w.heap.size w w1 ∧ w.heap.size < w1.heap.size ∧ w.heap.size + 1 < w1.heap.size := by
  have hs : w.heap.size + 2 ≤ w1.heap.size := by have := h.size; simp [World.drew] at this; omega
  exact ⟨(((Below.refl _ _).alloc (Nat.le_refl _) _).alloc (by simp) _).drew.trans (h.mono (by simp [World.drew]; omega)), by omega, by omega⟩

theorem zero5 (w : World) (X : Obj) (j : Nat) (hj : j < 5) : ((w.alloc (.cells #[.int .i64 0, .int .i64 0, .int .i64 0, .int .i64 0, .int .i64 0] 23)).alloc X).drew.cell? ⟨w.heap.size, j, none⟩ = some (.int .i64 0) := by
  show ((w.alloc _).alloc X).cell? _ = _
  rw [World.cell?_alloc_lt (h := by simp), World.cell?_alloc_new]
  have : j = 0 ∨ j = 1 ∨ j = 2 ∨ j = 3 ∨ j = 4 := by omega
  rcases this with rfl | rfl | rfl | rfl | rfl <;> rfl
theorem set5 (w1 : World) (k : Nat) (v0 v1 v2 v3 v4 : Value) (h : ∀ j, j < 5 → ∃ u, w1.cell? ⟨k, j, none⟩ = some u) :
    (w1.setCell ⟨k, 0, none⟩ v0).cell? ⟨k, 0, none⟩ = some v0 ∧ ((w1.setCell ⟨k, 0, none⟩ v0).setCell ⟨k, 1, none⟩ v1).cell? ⟨k, 1, none⟩ = some v1 ∧ (((w1.setCell ⟨k, 0, none⟩ v0).setCell ⟨k, 1, none⟩ v1).setCell ⟨k, 2, none⟩ v2).cell? ⟨k, 2, none⟩ = some v2 ∧ ((((w1.setCell ⟨k, 0, none⟩ v0).setCell ⟨k, 1, none⟩ v1).setCell ⟨k, 2, none⟩ v2).setCell ⟨k, 3, none⟩ v3).cell? ⟨k, 3, none⟩ = some v3 ∧ (((((w1.setCell ⟨k, 0, none⟩ v0).setCell ⟨k, 1, none⟩ v1).setCell ⟨k, 2, none⟩ v2).setCell ⟨k, 3, none⟩ v3).setCell ⟨k, 4, none⟩ v4).cell? ⟨k, 4, none⟩ = some v4 := by
  refine ⟨?_, ?_, ?_, ?_, ?_⟩
  · obtain ⟨u, hu⟩ := h 0 (by omega)
    exact World.cell?_setCell_same _ _ _ (by exact hu)
  · obtain ⟨u, hu⟩ := h 1 (by omega)
    exact World.cell?_setCell_same _ _ _ (by rw [World.cell?_setCell_other _ _ _ _ (by simp)]; exact hu)
  · obtain ⟨u, hu⟩ := h 2 (by omega)
    exact World.cell?_setCell_same _ _ _ (by rw [World.cell?_setCell_other _ _ _ _ (by simp)]; rw [World.cell?_setCell_other _ _ _ _ (by simp)]; exact hu)
  · obtain ⟨u, hu⟩ := h 3 (by omega)
    exact World.cell?_setCell_same _ _ _ (by rw [World.cell?_setCell_other _ _ _ _ (by simp)]; rw [World.cell?_setCell_other _ _ _ _ (by simp)]; rw [World.cell?_setCell_other _ _ _ _ (by simp)]; exact hu)
  · obtain ⟨u, hu⟩ := h 4 (by omega)
    exact World.cell?_setCell_same _ _ _ (by rw [World.cell?_setCell_other _ _ _ _ (by simp)]; rw [World.cell?_setCell_other _ _ _ _ (by simp)]; rw [World.cell?_setCell_other _ _ _ _ (by simp)]; rw [World.cell?_setCell_other _ _ _ _ (by simp)]; exact hu)

theorem decode_short (a : Option Addr) (n cap : Nat) (h : n ≠ 8) (w : World) :
    Calls Tryd.prog 23 #[.slice a n cap] w fun e w' => e = .returned (.tuple #[.agg #[.int .i64 0, .int .i64 0, .int .i64 0, .int .i64 0, .int .i64 0], .int .i64 2]) ∧ Below w.heap.size w w' := by
  have h1 : ((n : Int) != 8) = true := by simp; omega
  go_enter Tryd.func23, Tryd.ntmps23
  go_wp2
  exact bodyPost_ret (v := .tuple #[.agg #[.int .i64 0, .int .i64 0, .int .i64 0, .int .i64 0, .int .i64 0], .int .i64 2]) (by simp [results, Tryd.results23, go_sem]) rfl ⟨rfl, (Below.refl _ _).alloc (Nat.le_refl _) _⟩

theorem decode_four (blk off cap : Nat) (z3 : Int) (h : (z3 != 0) = true) (w : World) (hlt : blk < w.heap.size) (c3 : w.cell? ⟨blk, off + 3, none⟩ = some (.int .u8 z3)) :
    Calls Tryd.prog 23 #[.slice (some ⟨blk, off, none⟩) 8 cap] w fun e w' => e = .returned (.tuple #[.agg #[.int .i64 0, .int .i64 0, .int .i64 0, .int .i64 0, .int .i64 0], .int .i64 2]) ∧ Below w.heap.size w w' := by
  go_enter Tryd.func23, Tryd.ntmps23
  go_wp2
  exact bodyPost_ret (v := .tuple #[.agg #[.int .i64 0, .int .i64 0, .int .i64 0, .int .i64 0, .int .i64 0], .int .i64 2]) (by simp [results, Tryd.results23, go_sem]) rfl ⟨rfl, (Below.refl _ _).alloc (Nat.le_refl _) _⟩

def decV (z0 z1 z2 L : Int) : Value := if rightB z0 (z1 / 16) (z1 % 16) z2 (wrapM 4294967296 L true) = true then .tuple #[.agg #[.int .i64 z0, .int .i64 (z1 / 16), .int .i64 (z1 % 16), .int .i64 z2, .int .i64 (wrapM 4294967296 L true)], .int .i64 0] else .tuple #[.agg #[.int .i64 0, .int .i64 0, .int .i64 0, .int .i64 0, .int .i64 0], .int .i64 2]
theorem decV_yes {z0 z1 z2 L : Int} (h : rightB z0 (z1 / 16) (z1 % 16) z2 (wrapM 4294967296 L true) = true) : decV z0 z1 z2 L = .tuple #[.agg #[.int .i64 z0, .int .i64 (z1 / 16), .int .i64 (z1 % 16), .int .i64 z2, .int .i64 (wrapM 4294967296 L true)], .int .i64 0] := if_pos h
theorem decV_no {z0 z1 z2 L : Int} (h : rightB z0 (z1 / 16) (z1 % 16) z2 (wrapM 4294967296 L true) = false) : decV z0 z1 z2 L = .tuple #[.agg #[.int .i64 0, .int .i64 0, .int .i64 0, .int .i64 0, .int .i64 0], .int .i64 2] := if_neg (by rw [h]; decide)
set_option maxHeartbeats 2000000 in
theorem decode_eight (blk off cap : Nat) (z0 z1 z2 z4 z5 z6 z7 : Int)
    (L : Int) (HL : Hid (z7 * 16777216 + (z6 * 65536 + (z5 * 256 + z4)) = L)) (b0 : 0 ≤ z0 ∧ z0 < 256) (b1 : 0 ≤ z1 ∧ z1 < 256) (b2 : 0 ≤ z2 ∧ z2 < 256) (b4 : 0 ≤ z4 ∧ z4 < 256) (b5 : 0 ≤ z5 ∧ z5 < 256) (b6 : 0 ≤ z6 ∧ z6 < 256) (b7 : 0 ≤ z7 ∧ z7 < 256)
    (w : World) (hlt : blk < w.heap.size)
    (c0 : w.cell? ⟨blk, off, none⟩ = some (.int .u8 z0)) (c1 : w.cell? ⟨blk, off + 1, none⟩ = some (.int .u8 z1)) (c2 : w.cell? ⟨blk, off + 2, none⟩ = some (.int .u8 z2)) (c3 : w.cell? ⟨blk, off + 3, none⟩ = some (.int .u8 0))
    (c4 : w.cell? ⟨blk, off + 4, none⟩ = some (.int .u8 z4)) (c5 : w.cell? ⟨blk, off + 5, none⟩ = some (.int .u8 z5)) (c6 : w.cell? ⟨blk, off + 6, none⟩ = some (.int .u8 z6)) (c7 : w.cell? ⟨blk, off + 7, none⟩ = some (.int .u8 z7)) :
    Calls Tryd.prog 23 #[.slice (some ⟨blk, off, none⟩) 8 cap] w fun e w' => e = .returned (decV z0 z1 z2 L) ∧ Below w.heap.size w w' := by
  obtain ⟨l0, g0⟩ := b0
  obtain ⟨l1, g1⟩ := b1
  obtain ⟨l2, g2⟩ := b2
  obtain ⟨l4, g4⟩ := b4
  obtain ⟨l5, g5⟩ := b5
  obtain ⟨l6, g6⟩ := b6
  obtain ⟨l7, g7⟩ := b7
  have e4 : bits .or .i64 0 z4 = z4 := by have := or_shift 0 z4 0 ⟨by omega, by omega⟩ l4 (by omega); simpa using this
  have e5 : bits .or .i64 z4 (z5 * 256) = z5 * 256 + z4 := by have := or_shift z4 z5 8 ⟨by omega, by omega⟩ l5 (by omega); simpa using this
  have e6 : bits .or .i64 (z5 * 256 + z4) (z6 * 65536) = z6 * 65536 + (z5 * 256 + z4) := by have := or_shift (z5 * 256 + z4) z6 16 ⟨by omega, by omega⟩ l6 (by omega); simpa using this
  have e7 : bits .or .i64 (z6 * 65536 + (z5 * 256 + z4)) (z7 * 16777216) = z7 * 16777216 + (z6 * 65536 + (z5 * 256 + z4)) := by have := or_shift (z6 * 65536 + (z5 * 256 + z4)) z7 24 ⟨by omega, by omega⟩ l7 (by omega); simpa using this
  have r0 : IntKind.i64.wrap z0 = z0 := by rw [IntKind.wrap_i64]; omega
  have r1 : IntKind.i64.wrap (z1 / 16) = z1 / 16 := by rw [IntKind.wrap_i64]; omega
  have r2 : IntKind.i64.wrap (z1 % 16) = z1 % 16 := by rw [IntKind.wrap_i64]; omega
  have r3 : IntKind.i64.wrap z2 = z2 := by rw [IntKind.wrap_i64]; omega
  have e1 := and_15 z1 ⟨l1, g1⟩
  go_enter Tryd.func23, Tryd.ntmps23
  go_wp2
  go_loop [17, 4] (fun k s => (k = .int .i64 0 ∧ s = .int .i64 0) ∨ (k = .int .i64 1 ∧ s = .int .i64 z4) ∨ (k = .int .i64 2 ∧ s = .int .i64 (z5 * 256 + z4)) ∨ (k = .int .i64 3 ∧ s = .int .i64 (z6 * 65536 + (z5 * 256 + z4))) ∨ (k = .int .i64 4 ∧ s = .int .i64 (z7 * 16777216 + (z6 * 65536 + (z5 * 256 + z4))))) (fun k _ => (4 - intOf k).toNat)
  case atStart => exact .inl ⟨rfl, rfl⟩
  case round =>
    rcases hrel with ⟨rfl, rfl⟩ | ⟨rfl, rfl⟩ | ⟨rfl, rfl⟩ | ⟨rfl, rfl⟩ | ⟨rfl, rfl⟩
    · go_wp2
      go_round
      case rel => exact .inr (.inl ⟨rfl, rfl⟩)
      case measure => simp [intOf]
    · go_wp2
      go_round
      case rel => exact .inr (.inr (.inl ⟨rfl, rfl⟩))
      case measure => simp [intOf]
    · go_wp2
      go_round
      case rel => exact .inr (.inr (.inr (.inl ⟨rfl, rfl⟩)))
      case measure => simp [intOf]
    · go_wp2
      go_round
      case rel => exact .inr (.inr (.inr (.inr ⟨rfl, rfl⟩)))
      case measure => simp [intOf]
    · rw [HL.out]
      clear e4 e5 e6 e7 c3 c4 c5 c6 c7
      have n0 := World.new_ne w _ c0
      have n1 := World.new_ne w _ c1
      have n2 := World.new_ne w _ c2
      cases hr : rightB z0 (z1 / 16) (z1 % 16) z2 (wrapM 4294967296 L true)
      · have HV : Hid (decV z0 z1 z2 L = .tuple #[.agg #[.int .i64 0, .int .i64 0, .int .i64 0, .int .i64 0, .int .i64 0], .int .i64 2]) := decV_no hr
        go_wp2_with fail
        go_region_held3 (fun w' => w'.cell? ⟨blk, off, none⟩ = some (.int .u8 z0) ∧ w'.cell? ⟨blk, off + 1, none⟩ = some (.int .u8 z1) ∧ w'.cell? ⟨blk, off + 2, none⟩ = some (.int .u8 z2)) (go_keep) ((go_at_call 41; refine (wrap_32 _ _).mono ?_; rintro e w' ⟨rfl, rfl⟩))
        all_goals
          go_wp2_with fail
          refine (right_any _ _ _ _ _ _).mono ?_; rintro e w1 ⟨rfl, hb⟩
          obtain ⟨hc, hf⟩ := bcell hb
          obtain ⟨hB, hz, hz1⟩ := bel_two hb
          clear hb
          go_wp2_with fail
          obtain ⟨q0, q1, q2, q3, q4⟩ := set5 w1 w.heap.size (.int .i64 0) (.int .i64 0) (.int .i64 0) (.int .i64 0) (.int .i64 0) (fun j hj => ⟨_, (hc w.heap.size j (by simp [World.drew]; omega)).trans (zero5 w _ j hj)⟩)
          exact bodyPost_ret (v := decV z0 z1 z2 L) (by rw [HV.out]; simp [results, Tryd.results23, go_sem, q0, q1, q2, q3, q4]) rfl ⟨rfl, ((((hB.setCell (p := ⟨w.heap.size, 0, none⟩) (Nat.le_refl _) _).setCell (p := ⟨w.heap.size, 1, none⟩) (Nat.le_refl _) _).setCell (p := ⟨w.heap.size, 2, none⟩) (Nat.le_refl _) _).setCell (p := ⟨w.heap.size, 3, none⟩) (Nat.le_refl _) _).setCell (p := ⟨w.heap.size, 4, none⟩) (Nat.le_refl _) _⟩
      · have HV : Hid (decV z0 z1 z2 L = .tuple #[.agg #[.int .i64 z0, .int .i64 (z1 / 16), .int .i64 (z1 % 16), .int .i64 z2, .int .i64 (wrapM 4294967296 L true)], .int .i64 0]) := decV_yes hr
        go_wp2_with fail
        go_region_held3 (fun w' => w'.cell? ⟨blk, off, none⟩ = some (.int .u8 z0) ∧ w'.cell? ⟨blk, off + 1, none⟩ = some (.int .u8 z1) ∧ w'.cell? ⟨blk, off + 2, none⟩ = some (.int .u8 z2)) (go_keep) ((go_at_call 41; refine (wrap_32 _ _).mono ?_; rintro e w' ⟨rfl, rfl⟩))
        all_goals
          go_wp2_with fail
          refine (right_any _ _ _ _ _ _).mono ?_; rintro e w1 ⟨rfl, hb⟩
          obtain ⟨hc, hf⟩ := bcell hb
          obtain ⟨hB, hz, hz1⟩ := bel_two hb
          clear hb
          go_wp2_with fail
          obtain ⟨q0, q1, q2, q3, q4⟩ := set5 w1 w.heap.size (.int .i64 z0) (.int .i64 (z1 / 16)) (.int .i64 (z1 % 16)) (.int .i64 z2) (.int .i64 (wrapM 4294967296 L true)) (fun j hj => ⟨_, (hc w.heap.size j (by simp [World.drew]; omega)).trans (zero5 w _ j hj)⟩)
          exact bodyPost_ret (v := decV z0 z1 z2 L) (by rw [HV.out]; simp [results, Tryd.results23, go_sem, q0, q1, q2, q3, q4]) rfl ⟨rfl, ((((hB.setCell (p := ⟨w.heap.size, 0, none⟩) (Nat.le_refl _) _).setCell (p := ⟨w.heap.size, 1, none⟩) (Nat.le_refl _) _).setCell (p := ⟨w.heap.size, 2, none⟩) (Nat.le_refl _) _).setCell (p := ⟨w.heap.size, 3, none⟩) (Nat.le_refl _) _).setCell (p := ⟨w.heap.size, 4, none⟩) (Nat.le_refl _) _⟩

/-- What Decode answers of these bytes. -/
def decR (l : List UInt8) : Value :=
  match l with
  | [x0, x1, x2, x3, x4, x5, x6, x7] => if x3.toNat = 0 then decV x0.toNat x1.toNat x2.toNat ((x7.toNat : Int) * 16777216 + ((x6.toNat : Int) * 65536 + ((x5.toNat : Int) * 256 + (x4.toNat : Int)))) else .tuple #[.agg #[.int .i64 0, .int .i64 0, .int .i64 0, .int .i64 0, .int .i64 0], .int .i64 2]
  | _ => .tuple #[.agg #[.int .i64 0, .int .i64 0, .int .i64 0, .int .i64 0, .int .i64 0], .int .i64 2]
theorem byte_bd (x : UInt8) : 0 ≤ (x.toNat : Int) ∧ (x.toNat : Int) < 256 := by have := x.toNat_lt; omega
theorem decode_any (blk off cap : Nat) (l : List UInt8) (w : World) (hlt : blk < w.heap.size) (hB : HasBytes w blk off l) :
    Calls Tryd.prog 23 #[.slice (some ⟨blk, off, none⟩) l.length cap] w fun e w' => e = .returned (decR l) ∧ Below w.heap.size w w' := by
  by_cases h8 : l.length = 8
  · match l, h8, hB with
    | [x0, x1, x2, x3, x4, x5, x6, x7], _, hB =>
      by_cases h3 : x3.toNat = 0
      · rw [show decR [x0, x1, x2, x3, x4, x5, x6, x7] = decV x0.toNat x1.toNat x2.toNat ((x7.toNat : Int) * 16777216 + ((x6.toNat : Int) * 65536 + ((x5.toNat : Int) * 256 + (x4.toNat : Int)))) from if_pos h3]
        have c3 := hB 3 (by simp)
        have e3 : (([x0, x1, x2, x3, x4, x5, x6, x7] : List UInt8)[3]'(by simp)).toNat = 0 := h3
        rw [e3] at c3
        exact decode_eight blk off cap _ _ _ _ _ _ _ _ rfl (byte_bd x0) (byte_bd x1) (byte_bd x2) (byte_bd x4) (byte_bd x5) (byte_bd x6) (byte_bd x7) w hlt (hB 0 (by simp)) (hB 1 (by simp)) (hB 2 (by simp)) c3 (hB 4 (by simp)) (hB 5 (by simp)) (hB 6 (by simp)) (hB 7 (by simp))
      · rw [show decR [x0, x1, x2, x3, x4, x5, x6, x7] = .tuple #[.agg #[.int .i64 0, .int .i64 0, .int .i64 0, .int .i64 0, .int .i64 0], .int .i64 2] from if_neg h3]
        exact decode_four blk off cap (x3.toNat : Int) (by simp; omega) w hlt (hB 3 (by simp))
  · have hd : decR l = .tuple #[.agg #[.int .i64 0, .int .i64 0, .int .i64 0, .int .i64 0, .int .i64 0], .int .i64 2] := by
      unfold decR; split
      · exact absurd rfl h8
      · rfl
    rw [hd]
    exact decode_short (some ⟨blk, off, none⟩) l.length cap h8 w
theorem decode_nil (w : World) :
    Calls Tryd.prog 23 #[.slice none 0 0] w fun e w' => e = .returned (decR []) ∧ Below w.heap.size w w' := decode_short none 0 0 (by decide) w
theorem decode_own {W : World} {n : Nat} {v : Value} {l : List UInt8} (h : IsBytes W n v l) :
    Calls Tryd.prog 23 #[v] W fun e w' => e = .returned (decR l) ∧ Below W.heap.size W w' := by
  rcases h with ⟨rfl, rfl⟩ | ⟨blk, cap, rfl, _, h3, h4⟩
  · exact decode_nil W
  · exact decode_any blk 0 cap l W h3 h4

end Go.Proofs.YtnlkeghgmmoioaaDoor
