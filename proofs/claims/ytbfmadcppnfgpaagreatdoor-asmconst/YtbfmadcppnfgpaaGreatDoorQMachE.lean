/-
  Package machine (layer 4): the contracts of bin and alloc.
-/
import Derived.Test.YtbfmadcppnfgpaaGreatDoorQMachB
import Derived.Deep.RegionWith
namespace Go.Proofs.YtbfmadcppnfgpaaGreatDoor.Q
open Go.ChangeShapes Go.WideShapes Go.ChangeAt Go.RowKit


/-- A register is written with what word's Do tells, or it ends with its error. -/
def MS.bin (s : MS) (a : Nat) (v e : Int) : MS × Int × Int := if e = 0 then s.put a v else (s, 0, e)

set_option maxHeartbeats 1000000 in
theorem bin_any {w : World} {F D : Nat → Prop} {B Q R : Nat} {cv nv ov : Value} {l : List Ins} {s : MS} {p q : Int} (m : Mach w F D B Q R cv nv ov l s p q) (o : Int) (a b c : Nat) (i : Int) (ha : a < 16) (hb : b < 16) (hc : c < 16) (h1 : 0 ≤ s.place) (h2 : s.place < 1048576) :
    Calls Tryz.prog 61 #[ptr B, av o a b c i] w fun e w' => e = two (s.bin a (doV i (s.r b) (s.r c)) (doE i (s.r c))) ∧ Moves F w w' ∧ Mach w' F D B Q R cv nv ov l (s.bin a (doV i (s.r b) (s.r c)) (doE i (s.r c))).1 p q := by
  have hbl := bx_below w o a b c i
  have m0 := m.below hbl
  have M0 := Moves.ofBelow (F := F) hbl
  have kb := m0.cr b hb
  have kc := m0.cr c hc
  rw [r_eq] at kb kc
  generalize s.r b = u at *
  generalize s.r c = v at *
  have e0 : ((b : Int) < 16) = True := by simp; omega
  have e1 : ((c : Int) < 16) = True := by simp; omega
  have hd := do_any i u v
  generalize doV i u v = x at *
  generalize doE i v = y at *
  by_cases hy : y = 0
  · subst hy
    have hs : s.bin a x 0 = s.put a x := if_pos rfl
    rw [hs]
    go_enter Tryz.func61, Tryz.ntmps61
    go_wp2
    go_quiet ((go_at_call 86; exact Calls.quiet_of_same (hd _)))
    have mN := m0.keep (w' := (bx w o a b c i).drewN nq) (fun _ _ => rfl) (Nat.le_refl _)
    have MN : Moves F w ((bx w o a b c i).drewN nq) := ⟨M0.os, M0.tape, M0.output, M0.size, M0.block⟩
    go_wp2_with fail
    refine (set_any mN a ha x h1 h2).mono ?_; rintro e w3 ⟨rfl, t3, m3⟩
    go_wp2_with fail
    go_ret2
    exact ⟨rfl, MN.on t3, m3⟩
  · have hs : s.bin a x y = (s, 0, y) := if_neg hy
    have e2 : (y == 0) = false := by simp [hy]
    rw [hs]
    clear hy
    go_enter Tryz.func61, Tryz.ntmps61
    go_wp2
    go_quiet ((go_at_call 86; exact Calls.quiet_of_same (hd _)))
    have mN := m0.keep (w' := (bx w o a b c i).drewN nq) (fun _ _ => rfl) (Nat.le_refl _)
    have MN : Moves F w ((bx w o a b c i).drewN nq) := ⟨M0.os, M0.tape, M0.output, M0.size, M0.block⟩
    go_wp2
    go_ret2
    exact ⟨rfl, MN, mN⟩

/-- A register is written with where the memory's new cells are, or it ends with its error; the heap has grown also where the register's error ends it. -/
def MS.grow (s : MS) (a : Nat) (k : Int) : MS × Int × Int := if s.mem.allocErr k = 0 then MS.put { s with mem := s.mem.alloc k } a (s.mem.allocAt k) else (s, 0, s.mem.allocErr k)
theorem alloc_same (t : St) (k : Int) (h : ¬ t.allocErr k = 0) : t.alloc k = t := by
  unfold St.allocErr at h
  have : t.allocBad k = true := by
    unfold St.allocBad
    by_cases h1 : k < 0
    · simp [h1]
    · by_cases h2 : (t.f : Int) - t.h < k
      · simp [h2]
      · simp [h1, h2] at h
  simp [St.alloc, this]

set_option maxHeartbeats 1000000 in
theorem alloc_act {w : World} {F D : Nat → Prop} {B Q R : Nat} {cv nv ov : Value} {l : List Ins} {s : MS} {p q : Int} (m : Mach w F D B Q R cv nv ov l s p q) (o : Int) (a b c : Nat) (i : Int) (ha : a < 16) (hb : b < 16) (h1 : 0 ≤ s.place) (h2 : s.place < 1048576) :
    Calls Tryz.prog 70 #[ptr B, av o a b c i] w fun e w' => e = two (s.grow a (s.r b)) ∧ Moves F w w' ∧ Mach w' F D B Q R cv nv ov l (s.grow a (s.r b)).1 p q := by
  have hbl := bx_below w o a b c i
  have m1 := (m.below hbl).drew
  have M1 := (Moves.ofBelow (F := F) hbl).drew
  have k1 := m1.c1
  have kb := m1.cr b hb
  rw [r_eq] at kb
  generalize s.r b = u at *
  have e0 : ((b : Int) < 16) = True := by simp; omega
  have hal := alloc_any m1.mem u
  by_cases hy : s.mem.allocErr u = 0
  · have hs : s.grow a u = MS.put { s with mem := s.mem.alloc u } a (s.mem.allocAt u) := if_pos hy
    rw [hs]
    rw [hy] at hal
    clear hy
    have Z := fun (w2 : World) (t2 : Touch Q R (bx w o a b c i).drew w2) (m2 : MemS w2 Q R (s.mem.alloc u)) => And.intro (m1.touch t2 m2) (M1.on (Moves.ofTouch t2 m.fQ m.fR))
    generalize s.mem.allocAt u = at_ at *
    generalize s.mem.alloc u = mm at *
    have bxc : ∀ w2, Touch Q R (bx w o a b c i).drew w2 → w2.cell? ⟨w.heap.size, 1, none⟩ = some (iv a) := fun w2 t2 => by
      have e : w2.heap[w.heap.size]? = (bx w o a b c i).heap[w.heap.size]? := t2.block _ (fun e => by have := m.lt _ m.fQ; omega) (fun e => by have := m.lt _ m.fR; omega)
      rw [World.cell?, e, heap_new _ _ rfl]; rfl
    go_enter Tryz.func70, Tryz.ntmps70
    go_wp2
    go_region_with (refine hal.mono ?_; rintro e w2 ⟨rfl, t2, m2⟩)
    all_goals
      obtain ⟨mm2, MM2⟩ := Z _ t2 m2
      have bc := bxc _ t2
      go_wp2_with fail
      refine (set_any mm2 a ha at_ h1 h2).mono ?_; rintro e w3 ⟨rfl, t3, m3⟩
      go_wp2_with fail
      go_ret2
      exact ⟨rfl, MM2.on t3, m3⟩
  · have hs : s.grow a u = (s, 0, s.mem.allocErr u) := if_neg hy
    rw [hs]
    have hsa := alloc_same s.mem u hy
    rw [hsa] at hal
    generalize s.mem.allocErr u = y at *
    have e2 : (y == 0) = false := by simp [hy]
    have Z := fun (w2 : World) (t2 : Touch Q R (bx w o a b c i).drew w2) (m2 : MemS w2 Q R s.mem) => And.intro (m1.touch t2 m2) (M1.on (Moves.ofTouch t2 m.fQ m.fR))
    clear hy hs
    generalize s.mem.allocAt u = at_ at *
    go_enter Tryz.func70, Tryz.ntmps70
    go_wp2
    go_region_with (refine hal.mono ?_; rintro e w2 ⟨rfl, t2, m2⟩)
    all_goals
      obtain ⟨mm2, MM2⟩ := Z _ t2 m2
      go_wp2
      go_ret2
      exact ⟨rfl, MM2, mm2⟩

end Go.Proofs.YtbfmadcppnfgpaaGreatDoor.Q
