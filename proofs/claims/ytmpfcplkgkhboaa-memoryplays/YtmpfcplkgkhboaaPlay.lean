/-
  A step on both memories (layer 3): the law's own helper.
-/
import Derived.Test.YtmpfcplkgkhboaaRefT
namespace Go.Proofs.Ytmpfcplkgkhboaa
open Go.ChangeShapes Go.WideShapes Go.ChangeAt Go.RowKit Go.Maps

/-- Both memories lie in the world, and tell the same. -/
structure Both (w : World) (B R Q M n : Nat) (s : St) : Prop where
  mem : MemS w B R s
  ref : ∃ g, RefT w Q M n g s ∧ Agree s g
  n1 : B ≠ Q
  n2 : B ≠ M
  n3 : R ≠ Q
  n4 : R ≠ M

def PlayAns (X B R Q M n len : Nat) (w : World) (e : Ending) (w' : World) : Prop :=
  e = .returned (.bool true) ∧ Below X w w' ∧ ∃ s', Both w' B R Q M (n + (len + 1)) s' ∧ s'.c.length = len

set_option maxRecDepth 100000 in
set_option maxHeartbeats 2000000 in
theorem play_is {w : World} {B R Q M n : Nat} {s : St} (hb : Both w B R Q M n s) (hn : n < 1000000000) (X : Nat) (x1 : X ≤ B) (x2 : X ≤ R) (x3 : X ≤ Q) (x4 : X ≤ M) (x5 : X ≤ w.heap.size) (a b c : Int) (hc : (Lit.int .i64 c).wf = true) :
    Calls Try.prog 10 #[ptr B, ptr Q, .agg #[iv a, iv b, iv c]] w (PlayAns X B R Q M n s.c.length w) := by
  obtain ⟨m, ⟨g, r, hA⟩, n1, n2, n3, n4⟩ := hb
  have l1 := m.ltB
  have l2 := m.ltR
  have l3 := r.ltQ
  have l4 := r.ltM
  have hb0 : Below w.heap.size w (w.alloc (.cells #[iv a, iv b, iv c] 32)) := (Below.refl _ w).alloc (Nat.le_refl _) _
  have m0 := m.below hb0 l1 l2
  have r0 := r.below hb0 l3 l4
  have hbox : (w.alloc (.cells #[iv a, iv b, iv c] 32)).heap[w.heap.size]? = some (.cells #[iv a, iv b, iv c] 32 (0, 0)) := heap_new _ _ rfl
  generalize hw0 : w.alloc (.cells #[iv a, iv b, iv c] 32) = w0 at *
  have b0 : w0.cell? ⟨w.heap.size, 0, none⟩ = some (iv a) := by simp [World.cell?, hbox]
  have b1 : w0.cell? ⟨w.heap.size, 1, none⟩ = some (iv b) := by simp [World.cell?, hbox]
  have b2 : w0.cell? ⟨w.heap.size, 2, none⟩ = some (iv c) := by simp [World.cell?, hbox]
  have HX : Hid (w0.heap[w.heap.size]? = some (.cells #[iv a, iv b, iv c] 32 (0, 0)) ∧ Below w.heap.size w w0) := ⟨hbox, hb0⟩
  clear hbox
  go_enter Try.func10, Try.ntmps10
  go_wp2_with fail
  · refine (setFloor_any m0 b).mono ?_; rintro e w1 ⟨rfl, t1, m1⟩
    have hbox1 : w1.heap[w.heap.size]? = some (.cells #[iv a, iv b, iv c] 32 (0, 0)) := (t1.block _ (by omega) (by omega)).trans HX.out.1
    have d1 : w1.cell? ⟨w.heap.size, 1, none⟩ = some (iv b) := by simp [World.cell?, hbox1]
    have d2 : w1.cell? ⟨w.heap.size, 2, none⟩ = some (iv c) := by simp [World.cell?, hbox1]
    have r1 := r0.touch t1 (fun e => n1 e.symm) (fun e => n3 e.symm) (fun e => n2 e.symm) (fun e => n4 e.symm)
    have hs1 := t1.size
    have hs0 := HX.out.2.size
    clear hbox1 b0 b1 b2
    go_wp2_with fail
    refine (refSetFloor_any r1 m hA hn b).mono ?_; rintro e w2 ⟨rfl, t2, g2, r2, A2⟩
    have m2 := t2.mem m1 n1 n2 n3 n4
    have hB : Below X w w2 := ((HX.out.2).mono x5).trans ((t1.below x1 x2).trans (t2.below (by omega) x3 x4))
    generalize s.floorErr b = er
    go_wp2_with fail
    go_ret
    exact ⟨rfl, hB, s.setFloor b, ⟨m2, ⟨g2, r2, A2⟩, n1, n2, n3, n4⟩, len_setFloor m b⟩
  · refine (alloc_any m0 b).mono ?_; rintro e w1 ⟨rfl, t1, m1⟩
    have hbox1 : w1.heap[w.heap.size]? = some (.cells #[iv a, iv b, iv c] 32 (0, 0)) := (t1.block _ (by omega) (by omega)).trans HX.out.1
    have d1 : w1.cell? ⟨w.heap.size, 1, none⟩ = some (iv b) := by simp [World.cell?, hbox1]
    have d2 : w1.cell? ⟨w.heap.size, 2, none⟩ = some (iv c) := by simp [World.cell?, hbox1]
    have r1 := r0.touch t1 (fun e => n1 e.symm) (fun e => n3 e.symm) (fun e => n2 e.symm) (fun e => n4 e.symm)
    have hs1 := t1.size
    have hs0 := HX.out.2.size
    clear hbox1 b0 b1 b2
    go_wp2_with fail
    refine (refAlloc_any r1 m hA hn b).mono ?_; rintro e w2 ⟨rfl, t2, g2, r2, A2⟩
    have m2 := t2.mem m1 n1 n2 n3 n4
    have hB : Below X w w2 := ((HX.out.2).mono x5).trans ((t1.below x1 x2).trans (t2.below (by omega) x3 x4))
    generalize s.allocErr b = er
    generalize s.allocAt b = ea
    go_wp2_with fail
    go_ret
    exact ⟨rfl, hB, s.alloc b, ⟨m2, ⟨g2, r2, A2⟩, n1, n2, n3, n4⟩, len_alloc m b⟩
  · refine (store_any m0 b c).mono ?_; rintro e w1 ⟨rfl, t1, m1⟩
    have hbox1 : w1.heap[w.heap.size]? = some (.cells #[iv a, iv b, iv c] 32 (0, 0)) := (t1.block _ (by omega) (by omega)).trans HX.out.1
    have d1 : w1.cell? ⟨w.heap.size, 1, none⟩ = some (iv b) := by simp [World.cell?, hbox1]
    have d2 : w1.cell? ⟨w.heap.size, 2, none⟩ = some (iv c) := by simp [World.cell?, hbox1]
    have r1 := r0.touch t1 (fun e => n1 e.symm) (fun e => n3 e.symm) (fun e => n2 e.symm) (fun e => n4 e.symm)
    have hs1 := t1.size
    have hs0 := HX.out.2.size
    clear hbox1 b0 b1 b2
    go_wp2_with fail
    refine (refStore_any r1 m hA hn b c hc).mono ?_; rintro e w2 ⟨rfl, t2, g2, r2, A2⟩
    have m2 := t2.mem m1 n1 n2 n3 n4
    have hB : Below X w w2 := ((HX.out.2).mono x5).trans ((t1.below x1 x2).trans (t2.below (by omega) x3 x4))
    generalize s.err b = er
    go_wp2_with fail
    go_ret
    exact ⟨rfl, hB, s.store b c, ⟨m2, ⟨g2, r2, A2⟩, n1, n2, n3, n4⟩, len_store s b c⟩
  · refine (store_any m0 b c).mono ?_; rintro e w1 ⟨rfl, t1, m1⟩
    have hbox1 : w1.heap[w.heap.size]? = some (.cells #[iv a, iv b, iv c] 32 (0, 0)) := (t1.block _ (by omega) (by omega)).trans HX.out.1
    have d1 : w1.cell? ⟨w.heap.size, 1, none⟩ = some (iv b) := by simp [World.cell?, hbox1]
    have d2 : w1.cell? ⟨w.heap.size, 2, none⟩ = some (iv c) := by simp [World.cell?, hbox1]
    have r1 := r0.touch t1 (fun e => n1 e.symm) (fun e => n3 e.symm) (fun e => n2 e.symm) (fun e => n4 e.symm)
    have hs1 := t1.size
    have hs0 := HX.out.2.size
    clear hbox1 b0 b1 b2
    go_wp2_with fail
    refine (refStore_any r1 m hA hn b c hc).mono ?_; rintro e w2 ⟨rfl, t2, g2, r2, A2⟩
    have m2 := t2.mem m1 n1 n2 n3 n4
    have hB : Below X w w2 := ((HX.out.2).mono x5).trans ((t1.below x1 x2).trans (t2.below (by omega) x3 x4))
    generalize s.err b = er
    go_wp2_with fail
    go_ret
    exact ⟨rfl, hB, s.store b c, ⟨m2, ⟨g2, r2, A2⟩, n1, n2, n3, n4⟩, len_store s b c⟩
  · refine (store_any m0 b c).mono ?_; rintro e w1 ⟨rfl, t1, m1⟩
    have hbox1 : w1.heap[w.heap.size]? = some (.cells #[iv a, iv b, iv c] 32 (0, 0)) := (t1.block _ (by omega) (by omega)).trans HX.out.1
    have d1 : w1.cell? ⟨w.heap.size, 1, none⟩ = some (iv b) := by simp [World.cell?, hbox1]
    have d2 : w1.cell? ⟨w.heap.size, 2, none⟩ = some (iv c) := by simp [World.cell?, hbox1]
    have r1 := r0.touch t1 (fun e => n1 e.symm) (fun e => n3 e.symm) (fun e => n2 e.symm) (fun e => n4 e.symm)
    have hs1 := t1.size
    have hs0 := HX.out.2.size
    clear hbox1 b0 b1 b2
    go_wp2_with fail
    refine (refStore_any r1 m hA hn b c hc).mono ?_; rintro e w2 ⟨rfl, t2, g2, r2, A2⟩
    have m2 := t2.mem m1 n1 n2 n3 n4
    have hB : Below X w w2 := ((HX.out.2).mono x5).trans ((t1.below x1 x2).trans (t2.below (by omega) x3 x4))
    generalize s.err b = er
    go_wp2_with fail
    go_ret
    exact ⟨rfl, hB, s.store b c, ⟨m2, ⟨g2, r2, A2⟩, n1, n2, n3, n4⟩, len_store s b c⟩
  · refine (load_any m0 b).mono ?_; rintro e w1 ⟨rfl, rfl⟩
    go_wp2_with fail
    refine (refLoad_any r0 hA b).mono ?_; rintro e w2 ⟨rfl, rfl⟩
    generalize s.err b = er
    generalize s.load b = ea
    go_wp2_with fail
    go_ret
    exact ⟨rfl, (HX.out.2).mono x5, s, ⟨m0, ⟨g, r0.mono (by omega), hA⟩, n1, n2, n3, n4⟩, rfl⟩
end Go.Proofs.Ytmpfcplkgkhboaa
