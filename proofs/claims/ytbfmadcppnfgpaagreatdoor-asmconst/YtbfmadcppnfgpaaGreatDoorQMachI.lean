/-
  Package machine (layer 4): the contract of in.
-/
import Derived.Test.YtbfmadcppnfgpaaGreatDoorQMachB
import Derived.Deep.RegionWith
namespace Go.Proofs.YtbfmadcppnfgpaaGreatDoor.Q
open Go.ChangeShapes Go.WideShapes Go.ChangeAt Go.RowKit


/-- A register is written with the first of the input, which is taken. -/
def MS.take (s : MS) (a : Nat) : MS × Int × Int := match s.inp with
  | [] => (s, 0, 10)
  | x :: r => if (s.put a x).2.2 = 0 then ({ (s.put a x).1 with inp := r }, (s.put a x).2.1, 0) else s.put a x
theorem put_kept (s : MS) (k : Nat) (v : Int) : (s.put k v).1.inp = s.inp ∧ (s.put k v).1.out = s.out ∧ (s.put k v).1.place = s.place := by
  unfold MS.put; (repeat' split) <;> simp
theorem put_errs (s : MS) (k : Nat) (v : Int) : (s.put k v).2.2 = 0 ∨ (s.put k v).2.2 = 8 := by
  unfold MS.put; (repeat' split) <;> simp

theorem in_none {w : World} {F D : Nat → Prop} {B Q R : Nat} {cv nv ov : Value} {l : List Ins} {s : MS} {p q : Int} (m : Mach w F D B Q R cv nv ov l s p q) (o : Int) (a b c : Nat) (i : Int) (hi : s.inp = []) :
    Calls Tryz.prog 68 #[ptr B, av o a b c i] w fun e w' => e = two (s, (0 : Int), (10 : Int)) ∧ Moves F w w' ∧ Mach w' F D B Q R cv nv ov l (s, (0 : Int), (10 : Int)).1 p q := by
  have hbl := bx_below w o a b c i
  have m1 := m.below hbl
  have M1 := Moves.ofBelow (F := F) hbl
  obtain ⟨sp, cap, rfl, _, _, _⟩ := m.inp
  have kn := m1.cn
  rw [hi] at kn
  simp only [List.length_nil] at kn
  go_enter Tryz.func68, Tryz.ntmps68
  go_wp2
  go_ret2
  exact ⟨rfl, M1, m1⟩

set_option maxHeartbeats 4000000 in
theorem in_some {w : World} {F D : Nat → Prop} {B Q R : Nat} {cv nv ov : Value} {l : List Ins} {s : MS} {p q : Int} (m : Mach w F D B Q R cv nv ov l s p q) (o : Int) (a b c : Nat) (i : Int) (x : Int) (r : List Int) (hi : s.inp = x :: r) (ha : a < 16) (h1 : 0 ≤ s.place) (h2 : s.place < 1048576) :
    Calls Tryz.prog 68 #[ptr B, av o a b c i] w fun e w' => e = two (if (s.put a x).2.2 = 0 then ({ (s.put a x).1 with inp := r }, (s.put a x).2.1, (0 : Int)) else s.put a x) ∧ Moves F w w' ∧ ∃ nv' p' q', Mach w' F D B Q R cv nv' ov l (if (s.put a x).2.2 = 0 then ({ (s.put a x).1 with inp := r }, (s.put a x).2.1, (0 : Int)) else s.put a x).1 p' q' := by
  have hbl := bx_below w o a b c i
  have m1 := (m.below hbl).drew
  have M1 := (Moves.ofBelow (F := F) hbl).drew
  have kn0 := (m.below hbl).cn
  have kn := m1.cn
  have hN := m1.inp
  obtain ⟨sp, cap, rfl, hcap, hmax, hat⟩ := hN
  rw [hi] at hcap hat kn kn0
  obtain ⟨blk, off, rfl, hD, hints⟩ := hat (by simp)
  have kx : (bx w o a b c i).drew.cell? ⟨blk, off, none⟩ = some (iv x) := hints 0 (by simp)
  have hset := set_any m1 a ha x h1 h2
  have he := put_errs s a x
  have hk := (put_kept s a x).1
  generalize s.put a x = pr at *
  obtain ⟨s1, nx, er⟩ := pr
  simp only at hset he hk ⊢
  rw [hi] at hset hk
  simp only [List.length_cons] at hcap kn hset kn0
  have hlt : 0 < r.length + 1 := by omega
  generalize hn : r.length + 1 = n at *
  have e0 : ((n : Int) == 0) = false := by simp; omega
  have hrest : ∀ w3 (m3 : Mach w3 F D B Q R cv (.slice (some ⟨blk, off, none⟩) n cap) ov l s1 p q), ∀ sp' cap', cap' = cap - 1 → (0 < r.length → sp' = some ⟨blk, off + 1, none⟩) → IntsAt D w3 (.slice sp' (n - 1) cap') r := fun w3 m3 sp' cap' hcp hsp => by
    subst hcp
    refine ⟨sp', cap - 1, by rw [← hn]; rfl, by omega, by omega, fun h0 => ⟨blk, off + 1, hsp h0, hD, fun j hj => ?_⟩⟩
    obtain ⟨sp3, cap3, e3, _, _, hat3⟩ := m3.inp
    injection e3 with e4 e5 e6
    obtain ⟨blk3, off3, e7, _, hi3⟩ := hat3 (by omega)
    rw [e7] at e4
    injection e4 with e4
    injection e4 with e8 e9 e10
    subst e8; subst e9
    have := hi3 (j + 1) (by rw [hk]; simpa using hj)
    simp only [hk, List.getElem_cons_succ] at this
    rw [show off + 1 + j = off + (j + 1) by omega]; exact this
  clear hints hi hk
  rcases he with rfl | rfl
  · go_enter Tryz.func68, Tryz.ntmps68
    go_wp2
    go_region_with (refine hset.mono ?_; rintro e w3 ⟨rfl, t3, m3⟩)
    all_goals
      have MM := M1.on t3
      have k := m3.cn
      have kf := m3.fr 19
      have hr3 := hrest _ m3
      clear hrest
      go_wp2
      all_goals go_ret2
      all_goals exact ⟨rfl, MM.setCell _ _ m.fB _, _, _, _, m3.setInp _ _ (hr3 _ _ (by omega) (fun h => by first | rfl | omega))⟩
  · go_enter Tryz.func68, Tryz.ntmps68
    go_wp2
    go_region_with (refine hset.mono ?_; rintro e w3 ⟨rfl, t3, m3⟩)
    all_goals
      have MM := M1.on t3
      go_wp2
      go_ret2
      exact ⟨rfl, MM, _, _, _, m3⟩

end Go.Proofs.YtbfmadcppnfgpaaGreatDoor.Q
