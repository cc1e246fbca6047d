/-
  Package machine (layer 4): the contract of addi.
-/
import Derived.Test.YthokpdalojfmiaaMachD
import Derived.Deep.RegionWith
namespace Go.Proofs.Ythokpdalojfmiaa
open Go.ChangeShapes Go.WideShapes Go.ChangeAt Go.RowKit


set_option maxHeartbeats 1000000 in
theorem addi_any {w : World} {F D : Nat → Prop} {B Q R : Nat} {cv nv ov : Value} {l : List Ins} {s : MS} {p q : Int} (m : Mach w F D B Q R cv nv ov l s p q) (o : Int) (a b c : Nat) (i : Int) (ha : a < 16) (hb : b < 16) (h1 : 0 ≤ s.place) (h2 : s.place < 1048576) :
    Calls Try.prog 48 #[ptr B, av o a b c i] w fun e w' => e = two (s.put a (s.sum b i)) ∧ Moves F w w' ∧ Mach w' F D B Q R cv nv ov l (s.put a (s.sum b i)).1 p q := by
  have hbl := bx_below w o a b c i
  have m1 := (m.below hbl).drew
  have M1 := (Moves.ofBelow (F := F) hbl).drew
  have hsum := sum_any m1 o a b c i hb
  generalize s.sum b i = u at *
  have hs := fun w2 (h : Below (bx w o a b c i).drew.heap.size (bx w o a b c i).drew w2) => set_any (m1.below h) a ha u h1 h2
  have hc := fun w2 (h : Below (bx w o a b c i).drew.heap.size (bx w o a b c i).drew w2) => bx_cells (bx_later h)
  go_enter Try.func48, Try.ntmps48
  go_wp2
  go_region_with (first | (go_at_call 52; refine hsum.mono ?_; rintro e w2 ⟨rfl, b2⟩; have c2 := hc _ b2) | (go_at_call 49; refine (hs _ b2).mono ?_; rintro e w3 ⟨rfl, t3, m3⟩))
  all_goals go_wp2
  all_goals go_ret2
  all_goals exact ⟨rfl, (M1.on (Moves.ofBelow b2)).on t3, m3⟩

end Go.Proofs.Ythokpdalojfmiaa
