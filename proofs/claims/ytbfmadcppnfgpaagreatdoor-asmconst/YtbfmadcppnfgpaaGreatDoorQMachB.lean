/-
  Package machine (layer 4): what an instruction does, told plainly; the contracts of set and finish.
-/
import Derived.Test.YtbfmadcppnfgpaaGreatDoorQMachA
namespace Go.Proofs.YtbfmadcppnfgpaaGreatDoor.Q
open Go.ChangeShapes Go.WideShapes Go.ChangeAt Go.RowKit

/-- What register k holds. -/
def MS.r (s : MS) (k : Nat) : Int := s.regs.getD k 0

/-- A register is written: the state, the next place, the error. -/
def MS.put (s : MS) (k : Nat) (v : Int) : MS × Int × Int :=
  if k = 14 then (if s.mem.floorBad v then (s, 0, 8) else ({ s with mem := s.mem.setFloor v, regs := s.regs.set 14 v }, s.place + 1, 0))
  else ({ s with regs := s.regs.set k v }, s.place + 1, 0)

/-- It ends. -/
def MS.fin (s : MS) (e c : Int) : MS := { s with err := e, code := c, over := true }

abbrev two (p : MS × Int × Int) : Ending := .returned (.tuple #[iv p.2.1, iv p.2.2])

theorem set_plain {w : World} {F D : Nat → Prop} {B Q R : Nat} {cv nv ov : Value} {l : List Ins} {s : MS} {a b : Int} (m : Mach w F D B Q R cv nv ov l s a b) (k : Nat) (hk : k < 16) (hn : k ≠ 14) (v : Int) (h1 : 0 ≤ s.place) (h2 : s.place < 1048576) :
    Calls Tryz.prog 84 #[ptr B, iv k, iv v] w fun e w' => e = .returned (.tuple #[iv (s.place + 1), iv 0]) ∧ w' = w.setCell ⟨B, 2 + k, none⟩ (iv v) := by
  have kc := m.cr k hk
  have kf := m.fr (2 + k)
  have kp := (m.setReg k hk v).cp
  have e1 : ((k : Int) == 14) = false := by simp; omega
  generalize s.regs.getD k 0 = u at kc
  simp only at kp
  go_enter Tryz.func84, Tryz.ntmps84
  go_wp2
  go_ret2
  exact ⟨rfl, rfl⟩

theorem set_floor {w : World} {F D : Nat → Prop} {B Q R : Nat} {cv nv ov : Value} {l : List Ins} {s : MS} {a b : Int} (m : Mach w F D B Q R cv nv ov l s a b) (v : Int) (h1 : 0 ≤ s.place) (h2 : s.place < 1048576) :
    Calls Tryz.prog 84 #[ptr B, iv 14, iv v] w fun e w' => e = two (s.put 14 v) ∧ Moves F w w' ∧ Mach w' F D B Q R cv nv ov l (s.put 14 v).1 a b := by
  have k1 := m.c1
  cases hbad : s.mem.floorBad v with
  | true =>
    have hp : s.put 14 v = (s, 0, 8) := by simp [MS.put, hbad]
    have hf : s.mem.floorErr v = 8 := by simp [St.floorErr, hbad]
    have hs : s.mem.setFloor v = s.mem := by simp [St.setFloor, hbad]
    rw [hp]
    go_enter Tryz.func84, Tryz.ntmps84
    go_wp2_with fail
    refine (setFloor_any m.mem v).mono ?_; rintro e w2 ⟨rfl, t2, m2⟩
    rw [hf]
    rw [hs] at m2
    have mm := m.touch t2 m2
    have mv := Moves.ofTouch t2 m.fQ m.fR
    go_wp2_with fail
    go_ret2
    exact ⟨rfl, mv, mm⟩
  | false =>
    have hp : s.put 14 v = ({ s with mem := s.mem.setFloor v, regs := s.regs.set 14 v }, s.place + 1, 0) := by simp [MS.put, hbad]
    have hf : s.mem.floorErr v = 0 := by simp [St.floorErr, hbad]
    rw [hp]
    go_enter Tryz.func84, Tryz.ntmps84
    go_wp2_with fail
    refine (setFloor_any m.mem v).mono ?_; rintro e w2 ⟨rfl, t2, m2⟩
    rw [hf]
    have mm := m.touch t2 m2
    have mv := Moves.ofTouch t2 m.fQ m.fR
    have kc := mm.cr 14 (by decide)
    have kf := mm.fr (2 + 14)
    have kp := (mm.setReg 14 (by decide) v).cp
    simp only at kp kc
    generalize s.regs.getD 14 0 = u at kc
    simp only [Nat.reduceAdd] at kc kf kp
    go_wp2_with fail
    go_ret2
    exact ⟨rfl, mv.setCell _ _ m.fB _, mm.setReg 14 (by decide) v⟩

theorem set_any {w : World} {F D : Nat → Prop} {B Q R : Nat} {cv nv ov : Value} {l : List Ins} {s : MS} {a b : Int} (m : Mach w F D B Q R cv nv ov l s a b) (k : Nat) (hk : k < 16) (v : Int) (h1 : 0 ≤ s.place) (h2 : s.place < 1048576) :
    Calls Tryz.prog 84 #[ptr B, iv k, iv v] w fun e w' => e = two (s.put k v) ∧ Moves F w w' ∧ Mach w' F D B Q R cv nv ov l (s.put k v).1 a b := by
  by_cases hn : k = 14
  · subst hn; exact set_floor m v h1 h2
  · have hp : s.put k v = ({ s with regs := s.regs.set k v }, s.place + 1, 0) := by simp [MS.put, hn]
    rw [hp]
    refine (set_plain m k hk hn v h1 h2).mono ?_; rintro e w' ⟨rfl, rfl⟩
    exact ⟨rfl, (Moves.refl F w).setCell _ _ m.fB _, m.setReg k hk v⟩

theorem finish_any {w : World} {F D : Nat → Prop} {B Q R : Nat} {cv nv ov : Value} {l : List Ins} {s : MS} {a b : Int} (m : Mach w F D B Q R cv nv ov l s a b) (x y : Int) :
    Calls Tryz.prog 37 #[ptr B, .agg #[iv x, iv y]] w fun e w' => e = .returned (.tuple #[]) ∧ Moves F w w' ∧ Mach w' F D B Q R cv nv ov l (s.fin x y) a b := by
  have hb : Below w.heap.size w (w.alloc (.cells #[iv x, iv y] 60)) := (Below.refl _ w).alloc (Nat.le_refl _) _
  have m1 := m.below hb
  have M1 := Moves.ofBelow (F := F) hb
  have c3 := m1.ce
  have c4 := m1.cc
  have c5 := m1.cv_
  have f3 := m1.fr 23
  have f4 := m1.fr 24
  have f5 := m1.fr 25
  go_enter Tryz.func37, Tryz.ntmps37
  go_wp2
  refine bodyPost_end (v := .tuple #[]) (by simp [results, Tryz.results37, go_sem]) rfl ?_
  exact ⟨rfl, ((M1.setCell _ _ m.fB _).setCell _ _ m.fB _).setCell _ _ m.fB _, ((m1.setErr x).setCode y).setOver⟩
abbrev av (o : Int) (a b c : Nat) (i : Int) : Value := .agg #[iv o, iv a, iv b, iv c, iv i]
abbrev bx (w : World) (o : Int) (a b c : Nat) (i : Int) : World := w.alloc (.cells #[iv o, iv a, iv b, iv c, iv i] 31)
theorem bx_below (w : World) (o : Int) (a b c : Nat) (i : Int) : Below w.heap.size w (bx w o a b c i) := (Below.refl _ w).alloc (Nat.le_refl _) _
theorem r_eq (s : MS) (k : Nat) : s.regs.getD k 0 = s.r k := rfl

end Go.Proofs.YtbfmadcppnfgpaaGreatDoor.Q
