/-
  Package machine (layer 4): the contracts of ld and st.
-/
import Derived.Test.YtbfmadcppnfgpaaGreatDoorQMachD
import Derived.Deep.RegionHeld3
namespace Go.Proofs.YtbfmadcppnfgpaaGreatDoor.Q
open Go.ChangeShapes Go.WideShapes Go.ChangeAt Go.RowKit


/-- A register is written with what a cell holds, or it ends with the memory's error. -/
def MS.ld (s : MS) (a : Nat) (x : Int) : MS × Int × Int := if s.mem.err x = 0 then s.put a (s.mem.load x) else (s, 0, s.mem.err x)
def MS.st (s : MS) (x v : Int) : MS × Int × Int := if s.mem.err x = 0 then ({ s with mem := s.mem.store x v }, s.place + 1, 0) else (s, 0, s.mem.err x)
theorem put_err (s : MS) (k : Nat) (v : Int) : (s.put k v).2.2 = 0 ∨ (s.put k v).2.2 = 8 := by
  unfold MS.put; (repeat' split) <;> simp

set_option maxHeartbeats 1000000 in
theorem ld_any {w : World} {F D : Nat → Prop} {B Q R : Nat} {cv nv ov : Value} {l : List Ins} {s : MS} {p q : Int} (m : Mach w F D B Q R cv nv ov l s p q) (o : Int) (a b c : Nat) (i : Int) (ha : a < 16) (hb : b < 16) (h1 : 0 ≤ s.place) (h2 : s.place < 1048576) :
    Calls Tryz.prog 62 #[ptr B, av o a b c i] w fun e w' => e = two (s.ld a (s.sum b i)) ∧ Moves F w w' ∧ ∃ nv' p' q', Mach w' F D B Q R cv nv' ov l (s.ld a (s.sum b i)).1 p' q' := by
  have hbl := bx_below w o a b c i
  have m1 := (m.below hbl).drew
  have M1 := (Moves.ofBelow (F := F) hbl).drew
  have k1 := m1.c1
  have hsum := sum_any m1 o a b c i hb
  generalize s.sum b i = u at *
  have hbox : ∀ w3 : World, w3.heap[w.heap.size]? = some (.cells #[iv o, iv a, iv b, iv c, iv i] 31) → w3.cell? ⟨w.heap.size, 0, none⟩ = some (iv o) ∧ w3.cell? ⟨w.heap.size, 1, none⟩ = some (iv a) ∧ w3.cell? ⟨w.heap.size, 2, none⟩ = some (iv b) ∧ w3.cell? ⟨w.heap.size, 3, none⟩ = some (iv c) ∧ w3.cell? ⟨w.heap.size, 4, none⟩ = some (iv i) := fun w3 h => by simp [World.cell?, h]
  have HS1 : Hid (∀ w2, Below (bx w o a b c i).drew.heap.size (bx w o a b c i).drew w2 → w2.cell? ⟨B, 1, none⟩ = some (ptr Q) ∧ w2.cell? ⟨w.heap.size, 0, none⟩ = some (iv o) ∧ w2.cell? ⟨w.heap.size, 1, none⟩ = some (iv a) ∧ w2.cell? ⟨w.heap.size, 2, none⟩ = some (iv b) ∧ w2.cell? ⟨w.heap.size, 3, none⟩ = some (iv c) ∧ w2.cell? ⟨w.heap.size, 4, none⟩ = some (iv i)) := fun w2 h => ⟨(m1.below h).c1, hbox _ (bx_later h)⟩
  have S0 := HS1.out _ (Below.refl _ _)
  clear hbox
  have hc := fun w2 (h : Below (bx w o a b c i).drew.heap.size (bx w o a b c i).drew w2) => bx_cells (bx_later h)
  have hld := fun w2 (h : Below (bx w o a b c i).drew.heap.size (bx w o a b c i).drew w2) => load_any (m1.below h).mem u
  by_cases hy : s.mem.err u = 0
  · have hs : s.ld a u = s.put a (s.mem.load u) := if_pos hy
    rw [hs]
    simp only [hy] at hld
    clear hy hs
    generalize s.mem.load u = v at *
    have hset := fun w2 (h : Below (bx w o a b c i).drew.heap.size (bx w o a b c i).drew w2) => set_any (m1.below h) a ha v h1 h2
    have he := put_err s a v
    generalize s.put a v = pr at *
    obtain ⟨s1, nx, er⟩ := pr
    simp only at hset he ⊢
    rcases he with rfl | rfl
    · go_enter Tryz.func62, Tryz.ntmps62
      go_wp2
      go_region_held3 (fun w' => w'.cell? ⟨B, 1, none⟩ = some (ptr Q) ∧ w'.cell? ⟨w.heap.size, 0, none⟩ = some (iv o) ∧ w'.cell? ⟨w.heap.size, 1, none⟩ = some (iv a) ∧ w'.cell? ⟨w.heap.size, 2, none⟩ = some (iv b) ∧ w'.cell? ⟨w.heap.size, 3, none⟩ = some (iv c) ∧ w'.cell? ⟨w.heap.size, 4, none⟩ = some (iv i)) (first | exact x2 | exact S0) (first | (go_at_call 88; refine hsum.mono ?_; rintro e w2 ⟨rfl, b2⟩; have x2 := HS1.out _ b2) | (go_at_call 87; refine (hld _ b2).mono ?_; rintro e w3 ⟨rfl, rfl⟩))
      all_goals
        have M2 := M1.on (Moves.ofBelow b2)
        have cc := hc _ b2
        go_wp2_with fail
        refine (hset _ b2).mono ?_; rintro e w3 ⟨rfl, t3, m3⟩
        have k := m3.cl
        have kf := m3.fr 21
        have MM := M2.on t3
        go_wp2_with fail
        go_ret2
        exact ⟨rfl, MM.setCell _ _ m.fB _, _, _, _, m3.setLd _⟩
    · go_enter Tryz.func62, Tryz.ntmps62
      go_wp2
      go_region_held3 (fun w' => w'.cell? ⟨B, 1, none⟩ = some (ptr Q) ∧ w'.cell? ⟨w.heap.size, 0, none⟩ = some (iv o) ∧ w'.cell? ⟨w.heap.size, 1, none⟩ = some (iv a) ∧ w'.cell? ⟨w.heap.size, 2, none⟩ = some (iv b) ∧ w'.cell? ⟨w.heap.size, 3, none⟩ = some (iv c) ∧ w'.cell? ⟨w.heap.size, 4, none⟩ = some (iv i)) (first | exact x2 | exact S0) (first | (go_at_call 88; refine hsum.mono ?_; rintro e w2 ⟨rfl, b2⟩; have x2 := HS1.out _ b2) | (go_at_call 87; refine (hld _ b2).mono ?_; rintro e w3 ⟨rfl, rfl⟩))
      all_goals
        have M2 := M1.on (Moves.ofBelow b2)
        have cc := hc _ b2
        go_wp2_with fail
        refine (hset _ b2).mono ?_; rintro e w3 ⟨rfl, t3, m3⟩
        have MM := M2.on t3
        go_wp2_with fail
        go_ret2
        exact ⟨rfl, MM, _, _, _, m3⟩
  · have hs : s.ld a u = (s, 0, s.mem.err u) := if_neg hy
    rw [hs]
    have e2 : (s.mem.err u == 0) = false := by simp [hy]
    generalize s.mem.err u = y at *
    clear hy hs
    generalize s.mem.load u = v at *
    go_enter Tryz.func62, Tryz.ntmps62
    go_wp2
    go_region_held3 (fun w' => w'.cell? ⟨B, 1, none⟩ = some (ptr Q) ∧ w'.cell? ⟨w.heap.size, 0, none⟩ = some (iv o) ∧ w'.cell? ⟨w.heap.size, 1, none⟩ = some (iv a) ∧ w'.cell? ⟨w.heap.size, 2, none⟩ = some (iv b) ∧ w'.cell? ⟨w.heap.size, 3, none⟩ = some (iv c) ∧ w'.cell? ⟨w.heap.size, 4, none⟩ = some (iv i)) (first | exact x2 | exact S0) (first | (go_at_call 88; refine hsum.mono ?_; rintro e w2 ⟨rfl, b2⟩; have x2 := HS1.out _ b2) | (go_at_call 87; refine (hld _ b2).mono ?_; rintro e w3 ⟨rfl, rfl⟩))
    all_goals
      have m2 := m1.below b2
      have M2 := M1.on (Moves.ofBelow b2)
      go_wp2
      go_ret2
      exact ⟨rfl, M2, _, _, _, m2⟩

end Go.Proofs.YtbfmadcppnfgpaaGreatDoor.Q
