/-
  Package machine (layer 4): the contract of addi.
-/
import Derived.Test.YtbfmadcppnfgpaaGreatDoorQMachD
import Derived.Deep.RegionHeld3
namespace Go.Proofs.YtbfmadcppnfgpaaGreatDoor.Q
open Go.ChangeShapes Go.WideShapes Go.ChangeAt Go.RowKit


theorem bx_moves {w w2 w3 : World} {F : Nat → Prop} {o : Int} {a b c : Nat} {i : Int} (hF : ¬ F w.heap.size) (hb : Below (bx w o a b c i).drew.heap.size (bx w o a b c i).drew w2) (h : Moves F w2 w3) : w3.heap[w.heap.size]? = some (.cells #[iv o, iv a, iv b, iv c, iv i] 31) := by
  rw [h.block _ (Nat.lt_of_lt_of_le (by simp) hb.size) hF]; exact bx_later hb
theorem bx_five {w w2 : World} {o : Int} {a b c : Nat} {i : Int} (h : w2.heap[w.heap.size]? = some (.cells #[iv o, iv a, iv b, iv c, iv i] 31)) :
    w2.cell? ⟨w.heap.size, 0, none⟩ = some (iv o) ∧ w2.cell? ⟨w.heap.size, 1, none⟩ = some (iv a) ∧ w2.cell? ⟨w.heap.size, 2, none⟩ = some (iv b) ∧ w2.cell? ⟨w.heap.size, 3, none⟩ = some (iv c) ∧ w2.cell? ⟨w.heap.size, 4, none⟩ = some (iv i) := by simp [World.cell?, h]

set_option maxHeartbeats 1000000 in
theorem addi_any {w : World} {F D : Nat → Prop} {B Q R : Nat} {cv nv ov : Value} {l : List Ins} {s : MS} {p q : Int} (m : Mach w F D B Q R cv nv ov l s p q) (o : Int) (a b c : Nat) (i : Int) (ha : a < 16) (hb : b < 16) (h1 : 0 ≤ s.place) (h2 : s.place < 1048576) :
    Calls Tryz.prog 71 #[ptr B, av o a b c i] w fun e w' => e = two (s.put a (s.sum b i)) ∧ Moves F w w' ∧ Mach w' F D B Q R cv nv ov l (s.put a (s.sum b i)).1 p q := by
  have hbl := bx_below w o a b c i
  have m1 := (m.below hbl).drew
  have M1 := (Moves.ofBelow (F := F) hbl).drew
  have hsum := sum_any m1 o a b c i hb
  generalize s.sum b i = u at *
  have hs := fun w2 (h : Below (bx w o a b c i).drew.heap.size (bx w o a b c i).drew w2) => set_any (m1.below h) a ha u h1 h2
  have nF : ¬ F w.heap.size := fun h => Nat.lt_irrefl _ (m.lt _ h)
  have S0 := bx_five (bx_later (Below.refl _ (bx w o a b c i).drew))
  have HS1 : Hid (∀ w2, Below (bx w o a b c i).drew.heap.size (bx w o a b c i).drew w2 → w2.cell? ⟨w.heap.size, 0, none⟩ = some (iv o) ∧ w2.cell? ⟨w.heap.size, 1, none⟩ = some (iv a) ∧ w2.cell? ⟨w.heap.size, 2, none⟩ = some (iv b) ∧ w2.cell? ⟨w.heap.size, 3, none⟩ = some (iv c) ∧ w2.cell? ⟨w.heap.size, 4, none⟩ = some (iv i)) := fun w2 h => bx_five (bx_later h)
  have HS2 : Hid (∀ w2 w3, Below (bx w o a b c i).drew.heap.size (bx w o a b c i).drew w2 → Moves F w2 w3 → w3.cell? ⟨w.heap.size, 0, none⟩ = some (iv o) ∧ w3.cell? ⟨w.heap.size, 1, none⟩ = some (iv a) ∧ w3.cell? ⟨w.heap.size, 2, none⟩ = some (iv b) ∧ w3.cell? ⟨w.heap.size, 3, none⟩ = some (iv c) ∧ w3.cell? ⟨w.heap.size, 4, none⟩ = some (iv i)) := fun w2 w3 h k => bx_five (bx_moves nF h k)
  clear nF
  go_enter Tryz.func71, Tryz.ntmps71
  go_wp2
  go_region_held3 (fun w' => w'.cell? ⟨w.heap.size, 0, none⟩ = some (iv o) ∧ w'.cell? ⟨w.heap.size, 1, none⟩ = some (iv a) ∧ w'.cell? ⟨w.heap.size, 2, none⟩ = some (iv b) ∧ w'.cell? ⟨w.heap.size, 3, none⟩ = some (iv c) ∧ w'.cell? ⟨w.heap.size, 4, none⟩ = some (iv i)) (first | exact x3 | exact x2 | exact S0) (first | (go_at_call 88; refine hsum.mono ?_; rintro e w2 ⟨rfl, b2⟩; have x2 := HS1.out _ b2) | (go_at_call 84; refine (hs _ b2).mono ?_; rintro e w3 ⟨rfl, t3, m3⟩; have x3 := HS2.out _ _ b2 t3))
  all_goals go_wp2
  all_goals go_ret2
  all_goals exact ⟨rfl, (M1.on (Moves.ofBelow b2)).on t3, m3⟩

end Go.Proofs.YtbfmadcppnfgpaaGreatDoor.Q
