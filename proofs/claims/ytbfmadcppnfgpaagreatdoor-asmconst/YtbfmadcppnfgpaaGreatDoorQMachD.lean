/-
  Package machine (layer 4): the contracts of mov and sum.
-/
import Derived.Test.YtbfmadcppnfgpaaGreatDoorQMachB
import Derived.Deep.RegionWith
namespace Go.Proofs.YtbfmadcppnfgpaaGreatDoor.Q
open Go.ChangeShapes Go.WideShapes Go.ChangeAt Go.RowKit


theorem below_drewN {B : Nat} {a w : World} (h : Below B a w) (n : Nat) : Below B a (w.drewN n) := ⟨h.os, h.tape, h.output, h.size, h.block⟩

set_option maxHeartbeats 1000000 in
theorem mov_any {w : World} {F D : Nat → Prop} {B Q R : Nat} {cv nv ov : Value} {l : List Ins} {s : MS} {p q : Int} (m : Mach w F D B Q R cv nv ov l s p q) (o : Int) (a b c : Nat) (i : Int) (ha : a < 16) (hb : b < 16) (h1 : 0 ≤ s.place) (h2 : s.place < 1048576) :
    Calls Tryz.prog 60 #[ptr B, av o a b c i] w fun e w' => e = two (s.put a (s.r b)) ∧ Moves F w w' ∧ Mach w' F D B Q R cv nv ov l (s.put a (s.r b)).1 p q := by
  have hbl := bx_below w o a b c i
  have m1 := (m.below hbl).drew
  have M1 := (Moves.ofBelow (F := F) hbl).drew
  have kb := m1.cr b hb
  rw [r_eq] at kb
  generalize s.r b = u at *
  have e0 : ((b : Int) < 16) = True := by simp; omega
  have hs := fun v => set_any m1 a ha v h1 h2
  go_enter Tryz.func60, Tryz.ntmps60
  go_wp2
  go_region_with (refine (hs _).mono ?_; rintro e w3 ⟨rfl, t3, m3⟩)
  all_goals go_wp2
  all_goals go_ret2
  all_goals exact ⟨rfl, M1.on t3, m3⟩

/-- b and imm, as word adds. -/
def MS.sum (s : MS) (b : Nat) (i : Int) : Int := wrap64 (s.r b + i)

set_option maxHeartbeats 1000000 in
theorem sum_any {w : World} {F D : Nat → Prop} {B Q R : Nat} {cv nv ov : Value} {l : List Ins} {s : MS} {p q : Int} (m : Mach w F D B Q R cv nv ov l s p q) (o : Int) (a b c : Nat) (i : Int) (hb : b < 16) :
    Calls Tryz.prog 88 #[ptr B, av o a b c i] w fun e w' => e = .returned (iv (s.sum b i)) ∧ Below w.heap.size w w' := by
  have hbl := bx_below w o a b c i
  have kb := (m.below hbl).cr b hb
  rw [r_eq] at kb
  have hs : s.sum b i = wrap64 (s.r b + i) := rfl
  rw [hs]
  generalize s.r b = u at *
  have e0 : ((b : Int) < 16) = True := by simp; omega
  clear hs
  go_enter Tryz.func88, Tryz.ntmps88
  go_wp2
  go_quiet ((go_at_call 86; exact Calls.quiet_of_same (do_add _ _ _)))
  go_wp2
  go_ret
  exact ⟨rfl, below_drewN hbl _⟩

theorem bx_later {w w2 : World} {o : Int} {a b c : Nat} {i : Int} (hb : Below (bx w o a b c i).drew.heap.size (bx w o a b c i).drew w2) : w2.heap[w.heap.size]? = some (.cells #[iv o, iv a, iv b, iv c, iv i] 31) := by
  rw [hb.block _ (by simp)]; exact heap_new _ _ rfl
theorem bx_cells {w w2 : World} {o : Int} {a b c : Nat} {i : Int} (h : w2.heap[w.heap.size]? = some (.cells #[iv o, iv a, iv b, iv c, iv i] 31)) : w2.cell? ⟨w.heap.size, 1, none⟩ = some (iv a) := by simp [World.cell?, h]

end Go.Proofs.YtbfmadcppnfgpaaGreatDoor.Q
