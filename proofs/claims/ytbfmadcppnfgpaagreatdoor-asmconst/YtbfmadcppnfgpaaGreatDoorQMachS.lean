/-
  Package machine (layer 4): the contract of st.
-/
import Derived.Test.YtbfmadcppnfgpaaGreatDoorQMachG
import Derived.Deep.RegionHeld3
namespace Go.Proofs.YtbfmadcppnfgpaaGreatDoor.Q
open Go.ChangeShapes Go.WideShapes Go.ChangeAt Go.RowKit


theorem store_same (t : St) (x v : Int) (h : ¬ t.err x = 0) : t.store x v = t := by
  have : t.is x = false := by
    unfold St.err at h
    cases hh : t.is x
    · rfl
    · simp [hh] at h
  simp [St.store, this]

/-- The cells that st's loads read. -/
def StS (B Q wn a b c : Nat) (o i v : Int) (w' : World) : Prop :=
  w'.cell? ⟨B, 1, none⟩ = some (ptr Q) ∧ w'.cell? ⟨B, 2 + a, none⟩ = some (iv v) ∧ w'.cell? ⟨wn, 0, none⟩ = some (iv o) ∧ w'.cell? ⟨wn, 1, none⟩ = some (iv a) ∧ w'.cell? ⟨wn, 2, none⟩ = some (iv b) ∧ w'.cell? ⟨wn, 3, none⟩ = some (iv c) ∧ w'.cell? ⟨wn, 4, none⟩ = some (iv i)

set_option maxHeartbeats 1000000 in
theorem st_any {w : World} {F D : Nat → Prop} {B Q R : Nat} {cv nv ov : Value} {l : List Ins} {s : MS} {p q : Int} (m : Mach w F D B Q R cv nv ov l s p q) (o : Int) (a b c : Nat) (i : Int) (ha : a < 16) (hb : b < 16) (h1 : 0 ≤ s.place) (h2 : s.place < 1048576) :
    Calls Tryz.prog 63 #[ptr B, av o a b c i] w fun e w' => e = two (s.st (s.sum b i) (s.r a)) ∧ Moves F w w' ∧ ∃ nv' p' q', Mach w' F D B Q R cv nv' ov l (s.st (s.sum b i) (s.r a)).1 p' q' := by
  have hbl := bx_below w o a b c i
  have m1 := (m.below hbl).drew
  have M1 := (Moves.ofBelow (F := F) hbl).drew
  have k1 := m1.c1
  have hsum := sum_any m1 o a b c i hb
  have h2r := fun w2 (h : Below (bx w o a b c i).drew.heap.size (bx w o a b c i).drew w2) => (m1.below h).cr a ha
  have h3r : ∀ w2 w3 t2, Below (bx w o a b c i).drew.heap.size (bx w o a b c i).drew w2 → Touch Q R w2 w3 → MemS w3 Q R t2 → Mach w3 F D B Q R cv nv ov l { s with mem := t2 } p q := fun w2 w3 t2 h k z => (m1.below h).touch k z
  have nQ : w.heap.size ≠ Q := fun e => Nat.lt_irrefl _ (e ▸ m.lt _ m.fQ)
  have nR : w.heap.size ≠ R := fun e => Nat.lt_irrefl _ (e ▸ m.lt _ m.fR)
  simp only [r_eq] at h2r
  have hbox : ∀ w3 : World, w3.heap[w.heap.size]? = some (.cells #[iv o, iv a, iv b, iv c, iv i] 31) → w3.cell? ⟨w.heap.size, 0, none⟩ = some (iv o) ∧ w3.cell? ⟨w.heap.size, 1, none⟩ = some (iv a) ∧ w3.cell? ⟨w.heap.size, 2, none⟩ = some (iv b) ∧ w3.cell? ⟨w.heap.size, 3, none⟩ = some (iv c) ∧ w3.cell? ⟨w.heap.size, 4, none⟩ = some (iv i) := fun w3 h => by simp [World.cell?, h]
  have hS1 : Hid (∀ w2, Below (bx w o a b c i).drew.heap.size (bx w o a b c i).drew w2 → StS B Q w.heap.size a b c o i (s.r a) w2) := fun w2 h => ⟨(m1.below h).c1, h2r w2 h, hbox _ (bx_later h)⟩
  have hS2 : Hid (∀ w2 w3 t2, Below (bx w o a b c i).drew.heap.size (bx w o a b c i).drew w2 → Touch Q R w2 w3 → MemS w3 Q R t2 → StS B Q w.heap.size a b c o i (s.r a) w3) := fun w2 w3 t2 h k z =>
    ⟨(h3r w2 w3 t2 h k z).c1, (h3r w2 w3 t2 h k z).cr a ha, hbox _ ((k.block _ nQ nR).trans (bx_later h))⟩
  have hS0 := hS1.out _ (Below.refl _ _)
  clear h2r h3r hbox
  generalize s.sum b i = u at *
  generalize s.r a = v at *
  have e0 : ((a : Int) < 16) = True := by simp; omega
  have hst := fun w2 (h : Below (bx w o a b c i).drew.heap.size (bx w o a b c i).drew w2) => store_any (m1.below h).mem u v
  by_cases hy : s.mem.err u = 0
  · have hs : s.st u v = ({ s with mem := s.mem.store u v }, s.place + 1, 0) := if_pos hy
    rw [hs]
    simp only [hy] at hst
    clear hy hs
    generalize s.mem.store u v = mm at *
    go_enter Tryz.func63, Tryz.ntmps63
    go_wp2
    go_region_held3 (fun w' => w'.cell? ⟨B, 1, none⟩ = some (ptr Q) ∧ w'.cell? ⟨B, 2 + a, none⟩ = some (iv v) ∧ w'.cell? ⟨w.heap.size, 0, none⟩ = some (iv o) ∧ w'.cell? ⟨w.heap.size, 1, none⟩ = some (iv a) ∧ w'.cell? ⟨w.heap.size, 2, none⟩ = some (iv b) ∧ w'.cell? ⟨w.heap.size, 3, none⟩ = some (iv c) ∧ w'.cell? ⟨w.heap.size, 4, none⟩ = some (iv i)) (first | exact x3 | exact x2 | exact hS0) (first | (go_at_call 88; refine hsum.mono ?_; rintro e w2 ⟨rfl, b2⟩; have x2 := hS1.out _ b2) | (go_at_call 89; refine (hst _ b2).mono ?_; rintro e w3 ⟨rfl, t3, m3⟩; have x3 := hS2.out _ _ _ b2 t3 m3))
    all_goals
      have m4 := (m1.below b2).touch t3 m3
      have M4 := (M1.on (Moves.ofBelow b2)).on (Moves.ofTouch t3 m.fQ m.fR)
      have k := m4.cs
      have kf := m4.fr 22
      have kp := (m4.setSt (wrap64 (q + 1))).cp
      simp only at kp
      go_wp2
      go_ret2
      exact ⟨rfl, M4.setCell _ _ m.fB _, _, _, _, m4.setSt _⟩
  · have hs : s.st u v = (s, 0, s.mem.err u) := if_neg hy
    rw [hs]
    have hsm := store_same s.mem u v hy
    simp only [hsm] at hst
    have e2 : (s.mem.err u == 0) = false := by simp [hy]
    generalize s.mem.err u = y at *
    clear hy hs
    go_enter Tryz.func63, Tryz.ntmps63
    go_wp2
    go_region_held3 (fun w' => w'.cell? ⟨B, 1, none⟩ = some (ptr Q) ∧ w'.cell? ⟨B, 2 + a, none⟩ = some (iv v) ∧ w'.cell? ⟨w.heap.size, 0, none⟩ = some (iv o) ∧ w'.cell? ⟨w.heap.size, 1, none⟩ = some (iv a) ∧ w'.cell? ⟨w.heap.size, 2, none⟩ = some (iv b) ∧ w'.cell? ⟨w.heap.size, 3, none⟩ = some (iv c) ∧ w'.cell? ⟨w.heap.size, 4, none⟩ = some (iv i)) (first | exact x3 | exact x2 | exact hS0) (first | (go_at_call 88; refine hsum.mono ?_; rintro e w2 ⟨rfl, b2⟩; have x2 := hS1.out _ b2) | (go_at_call 89; refine (hst _ b2).mono ?_; rintro e w3 ⟨rfl, t3, m3⟩; have x3 := hS2.out _ _ _ b2 t3 m3))
    all_goals
      have m4 := (m1.below b2).touch t3 m3
      have M4 := (M1.on (Moves.ofBelow b2)).on (Moves.ofTouch t3 m.fQ m.fR)
      go_wp2
      go_ret2
      exact ⟨rfl, M4, _, _, _, m4⟩

end Go.Proofs.YtbfmadcppnfgpaaGreatDoor.Q
