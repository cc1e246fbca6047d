/-
  Decode of the document's own answers (layer 2): its contract.
-/
import Derived.Test.YtnlkeghgmmoioaaDoorRefC
import Derived.Test.YtnlkeghgmmoioaaDoorDecode
import Derived.BigRegion
import Derived.RangeFuncCalls
namespace Go.Proofs.YtnlkeghgmmoioaaDoor
open Go.ChangeShapes Go.WideShapes Go.ChangeAt Go.RowKit

set_option maxRecDepth 100000 in
set_option maxHeartbeats 4000000 in
theorem refdecode_e (blk off cap : Nat) (z0 z1 z2 z4 z5 z6 z7 : Int)
    (b0 : 0 ≤ z0 ∧ z0 < 256) (b1 : 0 ≤ z1 ∧ z1 < 256) (b2 : 0 ≤ z2 ∧ z2 < 256) (b4 : 0 ≤ z4 ∧ z4 < 256) (b5 : 0 ≤ z5 ∧ z5 < 256) (b6 : 0 ≤ z6 ∧ z6 < 256) (b7 : 0 ≤ z7 ∧ z7 < 256)
    (w : World) (hlt : blk < w.heap.size)
    (c0 : w.cell? ⟨blk, off, none⟩ = some (.int .u8 z0)) (c1 : w.cell? ⟨blk, off + 1, none⟩ = some (.int .u8 z1)) (c2 : w.cell? ⟨blk, off + 2, none⟩ = some (.int .u8 z2)) (c3 : w.cell? ⟨blk, off + 3, none⟩ = some (.int .u8 0))
    (c4 : w.cell? ⟨blk, off + 4, none⟩ = some (.int .u8 z4)) (c5 : w.cell? ⟨blk, off + 5, none⟩ = some (.int .u8 z5)) (c6 : w.cell? ⟨blk, off + 6, none⟩ = some (.int .u8 z6)) (c7 : w.cell? ⟨blk, off + 7, none⟩ = some (.int .u8 z7)) (hi : ¬ 2147483647 < z4 + 256 * z5 + 65536 * z6 + 16777216 * z7) (hr : rightB z0 (z1 / 16) (z1 % 16) z2 (z4 + 256 * z5 + 65536 * z6 + 16777216 * z7) = true) (V : Value) (HV : Hid (V = .tuple #[.agg #[.int .i64 z0, .int .i64 (z1 / 16), .int .i64 (z1 % 16), .int .i64 z2, .int .i64 (z4 + 256 * z5 + 65536 * z6 + 16777216 * z7)], .int .i64 0])) :
    Calls Tryd.prog 24 #[.slice (some ⟨blk, off, none⟩) 8 cap] w fun e w' => e = .returned V ∧ Below w.heap.size w w' := by
  obtain ⟨l0, g0⟩ := b0
  obtain ⟨l1, g1⟩ := b1
  obtain ⟨l2, g2⟩ := b2
  obtain ⟨l4, g4⟩ := b4
  obtain ⟨l5, g5⟩ := b5
  obtain ⟨l6, g6⟩ := b6
  obtain ⟨l7, g7⟩ := b7
  have r0 : IntKind.i64.wrap z0 = z0 := by rw [IntKind.wrap_i64]; omega
  have r1 : (z1).tdiv 16 = z1 / 16 := Int.tdiv_eq_ediv_of_nonneg l1
  have r2 : (z1).tmod 16 = z1 % 16 := Int.tmod_eq_emod_of_nonneg l1
  have n0 := World.new_ne w _ c0
  generalize hW : w.alloc (.cells #[.int .i64 0, .int .i64 0, .int .i64 0, .int .i64 0, .int .i64 0] 23) = W
  have al : ∀ o v, w.cell? ⟨blk, o, none⟩ = some v → W.cell? ⟨blk, o, none⟩ = some v := fun o v h => by rw [← hW, World.cell?_alloc_lt (h := hlt)]; exact h
  have d0 := al _ _ c0
  have d1 := al _ _ c1
  have d2 := al _ _ c2
  have d3 := al _ _ c3
  have d4 := al _ _ c4
  have d5 := al _ _ c5
  have d6 := al _ _ c6
  have d7 := al _ _ c7
  have hltW : blk < W.heap.size := by rw [← hW]; simp; omega
  clear al n0 c0 c1 c2 c3 c4 c5 c6 c7
  go_enter Tryd.func24, Tryd.ntmps24
  go_wp2_with fail
  go_region
  generalize hW3 : (W.alloc (Obj.cells #[.int .i64 z0, .int .i64 (z1 / 16), .int .i64 (z1 % 16), .int .i64 z2, .int .i64 0] 23)).drew = W3
  have bl : ∀ o v, W.cell? ⟨blk, o, none⟩ = some v → W3.cell? ⟨blk, o, none⟩ = some v := fun o v h => by rw [← hW3, cell_drew_own, World.cell?_alloc_lt (h := hltW)]; exact h
  have e3 := bl _ _ d3
  have e4 := bl _ _ d4
  have e5 := bl _ _ d5
  have e6 := bl _ _ d6
  have e7 := bl _ _ d7
  have x0 : W3.cell? ⟨W.heap.size, 0, none⟩ = some (.int .i64 z0) := by rw [← hW3, cell_drew_own]; exact World.cell?_alloc_new _ _ _ _
  have x1 : W3.cell? ⟨W.heap.size, 1, none⟩ = some (.int .i64 (z1 / 16)) := by rw [← hW3, cell_drew_own]; exact World.cell?_alloc_new _ _ _ _
  have x2 : W3.cell? ⟨W.heap.size, 2, none⟩ = some (.int .i64 (z1 % 16)) := by rw [← hW3, cell_drew_own]; exact World.cell?_alloc_new _ _ _ _
  have x3 : W3.cell? ⟨W.heap.size, 3, none⟩ = some (.int .i64 z2) := by rw [← hW3, cell_drew_own]; exact World.cell?_alloc_new _ _ _ _
  have x4 : W3.cell? ⟨W.heap.size, 4, none⟩ = some (.int .i64 0) := by rw [← hW3, cell_drew_own]; exact World.cell?_alloc_new _ _ _ _
  have y4 : W3.frozen? ⟨W.heap.size, 4, none⟩ = false := by rw [← hW3, frozen_drew_own]; exact World.frozen?_alloc_new _ _ _ _
  have z2' : ∀ j, j < 5 → W3.cell? ⟨w.heap.size, j, none⟩ = some (.int .i64 0) := fun j hj => by
    rw [← hW3, ← hW]; exact zero5 w _ j hj
  have f2' : ∀ j, W3.frozen? ⟨w.heap.size, j, none⟩ = false := fun j => by
    rw [← hW3, ← hW, frozen_drew_own, ((Below.refl _ (w.alloc _)).alloc (Nat.le_refl _) _).frozen (p := ⟨w.heap.size, j, none⟩) (by simp)]; exact World.frozen?_alloc_new _ _ _ _
  clear bl d0 d1 d2 d3 d4 d5 d6 d7
  go_wp2_with fail
  go_region
  generalize hL : z4 + 256 * z5 + 65536 * z6 + 16777216 * z7 = L at *
  have hL0 : 0 ≤ L := by omega
  have hL1 : L < 4294967296 := by omega
  generalize hW5 : (W3.setCell ⟨W.heap.size, 4, none⟩ (.int .i64 L)).drew = W5
  have hwW : w.heap.size < W.heap.size := by rw [← hW]; simp
  have hW3s : W3.heap.size = W.heap.size + 1 := by rw [← hW3]; simp [World.drew]
  have hB3 : Below w.heap.size w W3 := by rw [← hW3, ← hW]; exact (((Below.refl _ w).alloc (Nat.le_refl _) _).alloc (by simp) _).drew
  have hB5 : Below w.heap.size w W5 := by rw [← hW5]; exact (hB3.setCell (p := ⟨W.heap.size, 4, none⟩) (Nat.le_of_lt hwW) _).drew
  have hW5s : W5.heap.size = W.heap.size + 1 := by rw [← hW5]; simp [World.drew, hW3s]
  have ot : ∀ b o, b ≠ W.heap.size → W5.cell? ⟨b, o, none⟩ = W3.cell? ⟨b, o, none⟩ := fun b o hb => by
    rw [← hW5, cell_drew_own]; exact World.cell?_setCell_other _ _ _ _ (fun e => hb (congrArg Addr.block e).symm)
  have oi : ∀ o, o ≠ 4 → W5.cell? ⟨W.heap.size, o, none⟩ = W3.cell? ⟨W.heap.size, o, none⟩ := fun o ho => by
    rw [← hW5, cell_drew_own]; exact World.cell?_setCell_other _ _ _ _ (fun e => ho (congrArg Addr.off e).symm)
  have of : ∀ b o, W5.frozen? ⟨b, o, none⟩ = W3.frozen? ⟨b, o, none⟩ := fun b o => by
    rw [← hW5, frozen_drew_own, World.frozen?_setCell]
  have k0 := (oi 0 (by decide)).trans x0
  have k1 := (oi 1 (by decide)).trans x1
  have k2 := (oi 2 (by decide)).trans x2
  have k3 := (oi 3 (by decide)).trans x3
  have k4 : W5.cell? ⟨W.heap.size, 4, none⟩ = some (.int .i64 L) := by rw [← hW5, cell_drew_own]; exact World.cell?_setCell_same _ _ _ x4
  have kf4 := (of W.heap.size 4).trans y4
  have kb3 := (ot blk (off + 3) (by omega)).trans e3
  have kz : ∀ j, j < 5 → W5.cell? ⟨w.heap.size, j, none⟩ = some (.int .i64 0) := fun j hj => (ot _ _ (by omega)).trans (z2' j hj)
  have kzf : ∀ j, W5.frozen? ⟨w.heap.size, j, none⟩ = false := fun j => (of _ _).trans (f2' j)
  clear ot oi of x0 x1 x2 x3 x4 y4 z2' f2' e3 e4 e5 e6 e7 hW5 hW3 hL hW hB3
  have KZ : Hid (∀ j, j < 5 → W5.cell? ⟨w.heap.size, j, none⟩ = some (.int .i64 0)) := kz
  have KF : Hid (∀ j, W5.frozen? ⟨w.heap.size, j, none⟩ = false) := kzf
  clear kz kzf
  have hi2 : L ≤ 2147483647 := by omega
  go_wp2_with fail
  refine (refright_any _ _ _ _ _ _).mono ?_; rintro e w1 ⟨rfl, hb⟩
  have hB1 : Below w.heap.size w w1 := hB5.trans (hb.mono (by omega))
  have c1c : ∀ b o v, b ≠ W.heap.size → b < W.heap.size → W5.cell? ⟨b, o, none⟩ = some v → w1.cell? ⟨b, o, none⟩ = some v := fun b o v _ hlt h => (hb.cell (p := ⟨b, o, none⟩) (by show b < _; omega)).trans h
  have c1x : ∀ o v, o ≠ 4 → W5.cell? ⟨W.heap.size, o, none⟩ = some v → w1.cell? ⟨W.heap.size, o, none⟩ = some v := fun o v _ h => (hb.cell (p := ⟨W.heap.size, o, none⟩) (by show W.heap.size < _; omega)).trans h
  have p4 : w1.cell? ⟨W.heap.size, 4, none⟩ = some (.int .i64 L) := (hb.cell (p := ⟨W.heap.size, 4, none⟩) (by show W.heap.size < _; omega)).trans k4
  have hwf : ∀ j, w1.frozen? ⟨w.heap.size, j, none⟩ = false := fun j => (hb.frozen (p := ⟨w.heap.size, j, none⟩) (by show w.heap.size < _; omega)).trans (KF.out j)
  have hs1 : W.heap.size < w1.heap.size := by have := hb.size; omega
  have p0 := c1x 0 _ (by decide) k0
  have p1 := c1x 1 _ (by decide) k1
  have p2 := c1x 2 _ (by decide) k2
  have p3 := c1x 3 _ (by decide) k3
  have pb := c1c blk (off + 3) _ (by omega) (by omega) kb3
  have q0 := c1c w.heap.size 0 _ (by omega) hwW (KZ.out 0 (by decide))
  have qf0 := hwf 0
  have q1 := c1c w.heap.size 1 _ (by omega) hwW (KZ.out 1 (by decide))
  have qf1 := hwf 1
  have q2 := c1c w.heap.size 2 _ (by omega) hwW (KZ.out 2 (by decide))
  have qf2 := hwf 2
  have q3 := c1c w.heap.size 3 _ (by omega) hwW (KZ.out 3 (by decide))
  have qf3 := hwf 3
  have q4 := c1c w.heap.size 4 _ (by omega) hwW (KZ.out 4 (by decide))
  have qf4 := hwf 4
  clear c1c c1x hwf hb k0 k1 k2 k3 k4 kf4 kb3 KZ KF
  have fin := fun (v0 v1 v2 v3 v4 : Value) => set5 w1 w.heap.size v0 v1 v2 v3 v4 (fun j hj => by
    have : j = 0 ∨ j = 1 ∨ j = 2 ∨ j = 3 ∨ j = 4 := by omega
    rcases this with rfl | rfl | rfl | rfl | rfl
    · exact ⟨_, q0⟩
    · exact ⟨_, q1⟩
    · exact ⟨_, q2⟩
    · exact ⟨_, q3⟩
    · exact ⟨_, q4⟩)
  rw [hr]
  go_wp2_with fail
  obtain ⟨t0, t1, t2, t3, t4⟩ := fin (.int .i64 z0) (.int .i64 (z1 / 16)) (.int .i64 (z1 % 16)) (.int .i64 z2) (.int .i64 L)
  exact bodyPost_ret (v := V) (by rw [HV.out]; simp [results, Tryd.results24, go_sem, t0, t1, t2, t3, t4]) rfl ⟨rfl, ((((hB1.setCell (p := ⟨w.heap.size, 0, none⟩) (Nat.le_refl _) _).setCell (p := ⟨w.heap.size, 1, none⟩) (Nat.le_refl _) _).setCell (p := ⟨w.heap.size, 2, none⟩) (Nat.le_refl _) _).setCell (p := ⟨w.heap.size, 3, none⟩) (Nat.le_refl _) _).setCell (p := ⟨w.heap.size, 4, none⟩) (Nat.le_refl _) _⟩

end Go.Proofs.YtnlkeghgmmoioaaDoor
