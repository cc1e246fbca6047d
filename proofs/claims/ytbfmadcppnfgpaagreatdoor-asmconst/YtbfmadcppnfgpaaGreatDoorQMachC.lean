/-
  Package machine (layer 4): the contracts of halt, li, jmp, jz, call and ret.
-/
import Derived.Test.YtbfmadcppnfgpaaGreatDoorQMachB
import Derived.Deep.RegionWith
namespace Go.Proofs.YtbfmadcppnfgpaaGreatDoor.Q
open Go.ChangeShapes Go.WideShapes Go.ChangeAt Go.RowKit


theorem jmp_any {w : World} {F D : Nat → Prop} {B Q R : Nat} {cv nv ov : Value} {l : List Ins} {s : MS} {p q : Int} (m : Mach w F D B Q R cv nv ov l s p q) (o : Int) (a b c : Nat) (i : Int) :
    Calls Tryz.prog 64 #[ptr B, av o a b c i] w fun e w' => e = two (s, i, (0 : Int)) ∧ Moves F w w' ∧ Mach w' F D B Q R cv nv ov l (s, i, (0 : Int)).1 p q := by
  have hbl := bx_below w o a b c i
  have m1 := m.below hbl
  go_enter Tryz.func64, Tryz.ntmps64
  go_wp2
  go_ret2
  exact ⟨rfl, Moves.ofBelow hbl, m1⟩

theorem ret_any {w : World} {F D : Nat → Prop} {B Q R : Nat} {cv nv ov : Value} {l : List Ins} {s : MS} {p q : Int} (m : Mach w F D B Q R cv nv ov l s p q) (o : Int) (a b c : Nat) (i : Int) :
    Calls Tryz.prog 67 #[ptr B, av o a b c i] w fun e w' => e = two (s, s.r 15, (0 : Int)) ∧ Moves F w w' ∧ Mach w' F D B Q R cv nv ov l (s, s.r 15, (0 : Int)).1 p q := by
  have hbl := bx_below w o a b c i
  have m1 := m.below hbl
  have k := m1.cr 15 (by decide)
  rw [r_eq] at k
  generalize s.r 15 = u at *
  simp only [Nat.reduceAdd] at k
  go_enter Tryz.func67, Tryz.ntmps67
  go_wp2
  go_ret2
  exact ⟨rfl, Moves.ofBelow hbl, m1⟩

theorem halt_any {w : World} {F D : Nat → Prop} {B Q R : Nat} {cv nv ov : Value} {l : List Ins} {s : MS} {p q : Int} (m : Mach w F D B Q R cv nv ov l s p q) (o : Int) (a b c : Nat) (i : Int) :
    Calls Tryz.prog 57 #[ptr B, av o a b c i] w fun e w' => e = two (s.fin 0 i, s.place, (0 : Int)) ∧ Moves F w w' ∧ Mach w' F D B Q R cv nv ov l (s.fin 0 i, s.place, (0 : Int)).1 p q := by
  have hbl := bx_below w o a b c i
  have m1 := m.below hbl
  go_enter Tryz.func57, Tryz.ntmps57
  go_wp2_with fail
  refine (finish_any m1 0 i).mono ?_; rintro e w2 ⟨rfl, t2, m2⟩
  have k := m2.cp
  have hp : (s.fin 0 i).place = s.place := rfl
  rw [hp] at k
  go_wp2_with fail
  go_ret2
  exact ⟨rfl, (Moves.ofBelow hbl).on t2, m2⟩

theorem li_any {w : World} {F D : Nat → Prop} {B Q R : Nat} {cv nv ov : Value} {l : List Ins} {s : MS} {p q : Int} (m : Mach w F D B Q R cv nv ov l s p q) (o : Int) (a b c : Nat) (i : Int) (ha : a < 16) (h1 : 0 ≤ s.place) (h2 : s.place < 1048576) :
    Calls Tryz.prog 58 #[ptr B, av o a b c i] w fun e w' => e = two (s.put a i) ∧ Moves F w w' ∧ Mach w' F D B Q R cv nv ov l (s.put a i).1 p q := by
  have hbl := bx_below w o a b c i
  have m1 := m.below hbl
  go_enter Tryz.func58, Tryz.ntmps58
  go_wp2_with fail
  refine (set_any m1 a ha i h1 h2).mono ?_; rintro e w2 ⟨rfl, t2, m2⟩
  go_wp2_with fail
  go_ret2
  exact ⟨rfl, (Moves.ofBelow hbl).on t2, m2⟩

theorem jz_any {w : World} {F D : Nat → Prop} {B Q R : Nat} {cv nv ov : Value} {l : List Ins} {s : MS} {p q : Int} (m : Mach w F D B Q R cv nv ov l s p q) (o : Int) (a b c : Nat) (i : Int) (ha : a < 16) (h1 : 0 ≤ s.place) (h2 : s.place < 1048576) :
    Calls Tryz.prog 65 #[ptr B, av o a b c i] w fun e w' => e = two (s, if s.r a = 0 then i else s.place + 1, (0 : Int)) ∧ Moves F w w' ∧ Mach w' F D B Q R cv nv ov l (s, if s.r a = 0 then i else s.place + 1, (0 : Int)).1 p q := by
  have hbl := bx_below w o a b c i
  have m1 := (m.below hbl).drew
  have M1 := (Moves.ofBelow (F := F) hbl).drew
  have k := m1.cr a ha
  have kp := m1.cp
  rw [r_eq] at k
  generalize s.r a = u at *
  have e0 : ((a : Int) < 16) = True := by simp; omega
  by_cases hz : u = 0
  · subst hz
    go_enter Tryz.func65, Tryz.ntmps65
    go_wp2
    go_region
    all_goals go_wp2
    all_goals go_ret2
    all_goals exact ⟨rfl, M1, m1⟩
  · have e1 : (u == 0) = false := by simp [hz]
    rw [if_neg hz]
    clear hz
    go_enter Tryz.func65, Tryz.ntmps65
    go_wp2
    go_region
    all_goals go_wp2
    all_goals go_ret2
    all_goals exact ⟨rfl, M1, m1⟩

theorem call_any {w : World} {F D : Nat → Prop} {B Q R : Nat} {cv nv ov : Value} {l : List Ins} {s : MS} {p q : Int} (m : Mach w F D B Q R cv nv ov l s p q) (o : Int) (a b c : Nat) (i : Int) (h1 : 0 ≤ s.place) (h2 : s.place < 1048576) :
    Calls Tryz.prog 66 #[ptr B, av o a b c i] w fun e w' => e = two ({ s with regs := s.regs.set 15 (s.place + 1) }, i, (0 : Int)) ∧ Moves F w w' ∧ Mach w' F D B Q R cv nv ov l ({ s with regs := s.regs.set 15 (s.place + 1) }, i, (0 : Int)).1 p q := by
  have hbl := bx_below w o a b c i
  have m1 := (m.below hbl).drew
  have M1 := (Moves.ofBelow (F := F) hbl).drew
  have k := m1.cr 15 (by decide)
  have kf := m1.fr (2 + 15)
  have kp := m1.cp
  have m2 := m1.setReg 15 (by decide) (s.place + 1)
  have M2 := M1.setCell B (2 + 15) m.fB (iv (s.place + 1))
  rw [r_eq] at k
  generalize s.r 15 = u at k
  have f2 : Hid (Moves F w (((bx w o a b c i).drew).setCell ⟨B, 2 + 15, none⟩ (iv (s.place + 1))) ∧ Mach (((bx w o a b c i).drew).setCell ⟨B, 2 + 15, none⟩ (iv (s.place + 1))) F D B Q R cv nv ov l { s with regs := s.regs.set 15 (s.place + 1) } p q) := ⟨M2, m2⟩
  clear m2 M2 m M1
  simp only [Nat.reduceAdd] at k kf
  go_enter Tryz.func66, Tryz.ntmps66
  go_wp2
  go_region
  all_goals go_wp2
  all_goals go_ret2
  all_goals exact ⟨rfl, f2.out⟩

end Go.Proofs.YtbfmadcppnfgpaaGreatDoor.Q
